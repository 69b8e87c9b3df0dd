/- What layer 6's laws ask at their end: awake. -/
import Derived.Test.YtjjmkacfkjkhgaaDoorStepH
import Derived.Test.YtjjmkacfkjkhgaaDoorAwake5
namespace Go.Proofs.YtjjmkacfkjkhgaaDoor
open Go.RowKit

def setA : InsT := ⟨5, 0, 0, ⟨-1, 1⟩, 0, ⟨-1, 0⟩, 0⟩
def stoA : InsT := ⟨1, 0, 120, ⟨0, 0⟩, 0, ⟨0, 0⟩, 0⟩
def stoB : InsT := ⟨1, 0, 0, ⟨0, 0⟩, 0, ⟨0, 0⟩, 0⟩
def testA : TestT := ⟨⟨#[97]⟩, [], [[setA, stoA]], ⟨0, []⟩⟩
theorem testA_locs : lettersN (locsN testA) = [120] := by decide +kernel
theorem testA_check : checkT testA = 0 := by decide +kernel
theorem testA_placed : testA.thr.map (placedP [120]) = [[setA, stoB]] := by
  have h : plc [120] 120 = 0 := by decide +kernel
  have h1 : hasLocB 5 = false := by decide
  have h2 : hasLocB 1 = true := by decide
  simp only [testA, List.map_cons, List.map_nil, placedP, placeIns, setA, stoA, stoB, h, h1, h2, if_true, Bool.false_eq_true, if_false]
theorem startA : startP (threadP [[setA, stoB]] 0) = ⟨1, 1, 0, 0, 0⟩ := by kernel_rfl
theorem nextA : nextP (threadP [[setA, stoB]] 0) ⟨1, 1, 0, 0, 0⟩ = some stoB := by kernel_rfl
set_option maxHeartbeats 4000000 in
set_option maxRecDepth 8000 in
theorem awake6_is (w : World) (lw : Lw w) (hd : Db w) :
    Calls Tryd.prog 14 #[] w fun e w' => e = .returned (.bool true) ∧ On w w' := by
  obtain ⟨W0, hW0⟩ : ∃ W0, W0 = ((w.alloc (.cells #[.int .i64 5, .int .i64 0, .int .i64 0, .int .i64 (-1), .int .i64 1, .int .i64 0, .int .i64 (-1), .int .i64 0, .int .i64 0, .int .i64 1, .int .i64 0, .int .i64 120, .int .i64 0, .int .i64 0, .int .i64 0, .int .i64 0, .int .i64 0, .int .i64 0] 37)).alloc (.cells #[.slice (some ⟨w.heap.size, 0, none⟩) 2 2] 33)).alloc (.cells #[.string ⟨#[97]⟩, .slice none 0 0, .slice (some ⟨w.heap.size + 1, 0, none⟩) 1 1, .int .i64 0, .slice none 0 0] 29) := ⟨_, rfl⟩
  have K0 : Hid (On w W0) := by show On w W0; rw [hW0]; exact (((On.refl w).alloc _).alloc _).alloc _
  have B1 : Bk W0 w.heap.size ([setA, stoA].flatMap insC).toArray := by rw [hW0]; exact ((Bk.new w _ _).alloc _).alloc _
  have B2 : Bk W0 (w.heap.size + 1) #[.slice (some ⟨w.heap.size, 0, none⟩) 2 2] := by
    rw [hW0]
    have := (Bk.new (w.alloc (.cells #[.int .i64 5, .int .i64 0, .int .i64 0, .int .i64 (-1), .int .i64 1, .int .i64 0, .int .i64 (-1), .int .i64 0, .int .i64 0, .int .i64 1, .int .i64 0, .int .i64 120, .int .i64 0, .int .i64 0, .int .i64 0, .int .i64 0, .int .i64 0, .int .i64 0] 37)) #[.slice (some ⟨w.heap.size, 0, none⟩) 2 2] 33).alloc (.cells #[.string ⟨#[97]⟩, .slice none 0 0, .slice (some ⟨w.heap.size + 1, 0, none⟩) 1 1, .int .i64 0, .slice none 0 0] 29)
    rwa [World.size_alloc] at this
  have R2 : Rd2 insC 9 W0 (.slice (some ⟨w.heap.size + 1, 0, none⟩) 1 1) [[setA, stoA]] := Rd2.one (n := 2) rfl B2 (Rd.bk (C := insC) (k := 9) (fun _ => rfl) (L := [setA, stoA]) B1 2 (by decide) (by decide))
  have RT : TestRd W0 (.agg #[.string ⟨#[97]⟩, .slice none 0 0, .slice (some ⟨w.heap.size + 1, 0, none⟩) 1 1, .int .i64 0, .slice none 0 0]) testA := ⟨_, 0, _, 1, _, 0, rfl, by decide, Rd.nil _ _ _, R2, Rd2.nil _ _ _⟩
  have hC := compile0_is testA [120] testA_locs _ W0 (lw.on K0.out) (hd.on K0.out) RT testA_check rfl (by decide) (by
    intro L hL
    simp only [testA, List.mem_cons, List.not_mem_nil, or_false] at hL
    subst hL
    exact ⟨by decide, fun _ _ _ => by decide⟩) (by decide)
  rw [testA_placed] at hC
  clear lw hd B1 B2 R2 RT
  go_enter Tryd.func14, Tryd.ntmps14
  go_wp2_with fail
  rw [← hW0]
  refine hC.mono ?_
  rintro e w1 ⟨pv, rfl, hP, k1⟩
  have K1 : Hid (On w w1) := K0.out.trans k1
  have hS := fun W (k : On w1 W) => start_is [[setA, stoB]] 0 pv W (hP.on k)
  have hN := fun W (k : On w1 W) => pnext_is [[setA, stoB]] 0 ⟨1, 1, 0, 0, 0⟩ pv W (hP.on k)
  have hZ := fun W (k : On w1 W) => psize_is [[setA, stoB]] pv W (hP.on k) (by decide)
  rw [startA] at hS
  rw [nextA] at hN
  obtain ⟨a1, m1, c1, a2, m2, c2, a, c, rfl, _⟩ := hP
  unfold nextV insV locV stoB at hN
  unfold locV at hS
  simp only [Option.getD_some, Option.isSome_some] at hN
  have k0 : ∀ A, On w1 (w1.alloc A) := fun A => (On.refl w1).alloc A
  have bp : ∀ cs T, Bk (w1.alloc (.cells cs T)) w1.heap.size cs := fun cs T => Bk.new w1 cs T
  clear hC hW0 K0 k1
  go_wp2_with fail
  refine (hS _ (k0 _)).mono ?_
  rintro e w2 ⟨rfl, k2⟩
  have P2 := (bp _ _).on k2
  have K2 : Hid (On w1 w2) := (k0 _).trans k2
  have x0 := P2.at (i := 0) rfl
  have x1 := P2.at (i := 1) rfl
  have x2 := P2.at (i := 2) rfl
  have xl := P2.lt
  have k3 : ∀ A, On w1 (w2.alloc A) := fun A => K2.out.alloc A
  have bl : ∀ cs T, Bk (w2.alloc (.cells cs T)) w2.heap.size cs := fun cs T => Bk.new w2 cs T
  have bp2 : ∀ A, Bk (w2.alloc A) w1.heap.size _ := fun A => P2.alloc A
  clear hS k2 bp k0
  go_wp2_with fail
  refine (hN _ (k3 _)).mono ?_
  rintro e w3 ⟨rfl, k4⟩
  have P3 := (bp2 _).on k4
  have L3 := (bl _ _).on k4
  have K3 : Hid (On w1 w3) := (k3 _).trans k4
  clear hN k4 bl bp2 k3 x0 x1 x2 xl P2 K2
  have x0 := P3.at (i := 0) rfl
  have x1 := P3.at (i := 1) rfl
  have x2 := P3.at (i := 2) rfl
  have xl := P3.lt
  have y0 := L3.at (i := 0) rfl
  have y1 := L3.at (i := 1) rfl
  have yl := L3.lt
  have k5 : ∀ A, On w1 (w3.alloc A) := fun A => K3.out.alloc A
  go_wp2_with (go_at_call 27; refine (hZ _ (k5 _)).mono ?_; rintro e w4 ⟨rfl, k6⟩)
  go_ret
  exact ⟨rfl, K1.out.trans ((k5 _).trans k6)⟩
end Go.Proofs.YtjjmkacfkjkhgaaDoor
