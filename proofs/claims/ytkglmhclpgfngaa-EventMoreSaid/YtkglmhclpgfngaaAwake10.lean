/- What layer 10's laws ask at their end: awake. -/
import Derived.Test.YtkglmhclpgfngaaEvU
import Derived.Test.YtkglmhclpgfngaaEvI
import Derived.Test.YtkglmhclpgfngaaEvS
import Derived.Test.YtkglmhclpgfngaaRdBk
import Derived.Lib.SlBytesConst
namespace Go.Proofs.Ytkglmhclpgfngaa
open Go.RowKit

def lodA : InsT := ⟨2, 1, 0, ⟨0, 0⟩, 0, ⟨0, 0⟩, 0⟩
theorem unfA : unfP (threadP [[lodA]] 0) 0 [5] = ([⟨0, 0, 1, 0, 5, 0⟩], ⟨1, 0, 5, 0, 0⟩, false) := by kernel_rfl
theorem iniA : initsP 1 [4] = [⟨-1, 0, 2, 0, 0, 4⟩] := by kernel_rfl
theorem Bk.newAt {w : World} {n : Nat} (hn : w.heap.size = n) (cs : Array Value) (T : TypeId) : Bk (w.alloc (.cells cs T)) n cs := by
  subst hn
  exact Bk.new w cs T
set_option maxHeartbeats 4000000 in
set_option maxRecDepth 8000 in
theorem awake10_is (w : World) : Calls Try.prog 11 #[] w fun e w' => e = .returned (.bool true) ∧ On w w' := by
  have kc := fun (w : World) (C : Array Value) (n c : Nat) => Lib.run_convert_bytes_const (P := Try.prog) w 29 5 C n c Try.underlying29 Try.underlying5
  obtain ⟨W0, hW0⟩ : ∃ W0, W0 = (((((w.alloc (.cells #[.int .u8 120] 5 (1, 2))).alloc (.cells #[.int .i64 4] 2)).alloc (.cells #[.int .i64 2, .int .i64 1, .int .i64 0, .int .i64 0, .int .i64 0, .int .i64 0, .int .i64 0, .int .i64 0, .int .i64 0] 43)).alloc (.cells #[.slice (some ⟨w.heap.size + 1 + 1, 0, none⟩) 1 1] 46)).alloc (.cells #[.slice (some ⟨w.heap.size, 0, none⟩) 1 1, .slice (some ⟨w.heap.size + 1, 0, none⟩) 1 1, .slice (some ⟨w.heap.size + 1 + 1 + 1, 0, none⟩) 1 1] 32)).alloc (.cells #[.int .i64 5] 2) := ⟨_, rfl⟩
  have c0 : W0.cell? ⟨w.heap.size, 0, none⟩ = some (.int .u8 120) := by
    rw [hW0]
    have h : On (w.alloc (.cells #[.int .u8 120] 5 (1, 2))) ((((((w.alloc (.cells #[.int .u8 120] 5 (1, 2))).alloc (.cells #[.int .i64 4] 2)).alloc (.cells #[.int .i64 2, .int .i64 1, .int .i64 0, .int .i64 0, .int .i64 0, .int .i64 0, .int .i64 0, .int .i64 0, .int .i64 0] 43)).alloc (.cells #[.slice (some ⟨w.heap.size + 1 + 1, 0, none⟩) 1 1] 46)).alloc (.cells #[.slice (some ⟨w.heap.size, 0, none⟩) 1 1, .slice (some ⟨w.heap.size + 1, 0, none⟩) 1 1, .slice (some ⟨w.heap.size + 1 + 1 + 1, 0, none⟩) 1 1] 32)).alloc (.cells #[.int .i64 5] 2)) := (((((On.refl _).alloc _).alloc _).alloc _).alloc _).alloc _
    exact (h.cell (p := ⟨w.heap.size, 0, none⟩) (by show w.heap.size < _; rw [World.size_alloc]; omega)).trans (World.cell?_alloc_mark w _ _ _ 0)
  have hl0 : w.heap.size < W0.heap.size := by rw [hW0]; simp only [World.size_alloc]; omega
  have B1 : Bk W0 (w.heap.size + 1) #[.int .i64 4] := by rw [hW0]; exact ((((Bk.newAt (by simp only [World.size_alloc]) _ _).alloc _).alloc _).alloc _).alloc _
  have B2 : Bk W0 (w.heap.size + 1 + 1) #[.int .i64 2, .int .i64 1, .int .i64 0, .int .i64 0, .int .i64 0, .int .i64 0, .int .i64 0, .int .i64 0, .int .i64 0] := by rw [hW0]; exact (((Bk.newAt (by simp only [World.size_alloc]) _ _).alloc _).alloc _).alloc _
  have B3 : Bk W0 (w.heap.size + 1 + 1 + 1) #[.slice (some ⟨w.heap.size + 1 + 1, 0, none⟩) 1 1] := by rw [hW0]; exact ((Bk.newAt (by simp only [World.size_alloc]) _ _).alloc _).alloc _
  have B4 : Bk W0 (w.heap.size + 1 + 1 + 1 + 1) #[.slice (some ⟨w.heap.size, 0, none⟩) 1 1, .slice (some ⟨w.heap.size + 1, 0, none⟩) 1 1, .slice (some ⟨w.heap.size + 1 + 1 + 1, 0, none⟩) 1 1] := by rw [hW0]; exact (Bk.newAt (by simp only [World.size_alloc]) _ _).alloc _
  have B5 : Bk W0 (w.heap.size + 1 + 1 + 1 + 1 + 1) #[.int .i64 5] := by rw [hW0]; exact Bk.newAt (by simp only [World.size_alloc]) _ _
  have K0 : On w W0 := by rw [hW0]; exact ((((((On.refl w).alloc _).alloc _).alloc _).alloc _).alloc _).alloc _
  have R2 : Rd2 insC 9 W0 (.slice (some ⟨w.heap.size + 1 + 1 + 1, 0, none⟩) 1 1) [[lodA]] := Rd2.one (n := 1) rfl B3 (Rd.bk (C := insC) (k := 9) (fun _ => rfl) (L := [lodA]) B2 1 (by decide) (by decide))
  have RI : Rd intC 1 W0 (.slice (some ⟨w.heap.size + 1, 0, none⟩) 1 1) [4] := Rd.bk (C := intC) (k := 1) (fun _ => rfl) (L := [4]) B1 1 (by decide) (by decide)
  have RR : Rd intC 1 W0 (.slice (some ⟨w.heap.size + 1 + 1 + 1 + 1 + 1, 0, none⟩) 1 1) [5] := Rd.bk (C := intC) (k := 1) (fun _ => rfl) (L := [5]) B5 1 (by decide) (by decide)
  have RB : Rd byteC 1 W0 (.slice (some ⟨w.heap.size, 0, none⟩) 1 1) [120] := ⟨_, 1, rfl, by decide, by decide, fun _ => ⟨w.heap.size, 0, rfl, hl0, fun i x j u hi hj => by
    match i, hi with
    | 0, hi =>
      simp only [List.getElem?_cons_zero, Option.some.injEq] at hi
      subst hi
      match j, hj with
      | 0, hj =>
        simp only [byteC, List.getElem?_cons_zero, Option.some.injEq] at hj
        subst hj
        exact c0
      | j + 1, hj => simp [byteC] at hj
    | i + 1, hi => simp at hi⟩⟩
  have FL : ProgFl W0 (.agg #[.slice (some ⟨w.heap.size, 0, none⟩) 1 1, .slice (some ⟨w.heap.size + 1, 0, none⟩) 1 1, .slice (some ⟨w.heap.size + 1 + 1 + 1, 0, none⟩) 1 1]) [120] [4] [[lodA]] := ⟨_, 1, _, 1, _, 1, rfl, RB, RI, R2⟩
  have hU := unfold_is [[lodA]] 0 [5] _ 1 _ W0 FL.rd RR (by decide)
  have hI := fun W (k : On W0 W) => inits_is [120] [4] [[lodA]] _ W (FL.on k) (by decide) rfl
  rw [unfA] at hU
  rw [show ([120] : List UInt8).length = 1 from rfl, iniA] at hI
  unfold locV at hU
  simp only [List.length_cons, List.length_nil, Nat.zero_add] at hU
  clear c0 hl0 B1 B2 B3 B5 R2 RI RR RB FL
  go_enter Try.func11, Try.ntmps11
  go_wp2_with fail
  rw [← hW0]
  refine hU.mono ?_
  rintro _ w1 ⟨a, c, rfl, ho, k1⟩
  have B6 := B4.on k1
  have K1 := K0.trans k1
  have RE : Rd evC 6 w1 (.slice a 1 c) [⟨0, 0, 1, 0, 5, 0⟩] := Rd.own (C := evC) (fun _ => rfl) (L := [⟨0, 0, 1, 0, 5, 0⟩]) ho
  have p0 := B6.at (i := 0) rfl
  have p1 := B6.at (i := 1) rfl
  have p2 := B6.at (i := 2) rfl
  have pl := B6.lt
  have HRE : Hid (Rd evC 6 w1 (.slice a 1 c) [⟨0, 0, 1, 0, 5, 0⟩]) := RE
  have hEe := fun W => eqEv_same W 0 0 1 0 5 0
  have hEi := fun W => eqEv_same W (-1) 0 2 0 0 4
  have bl : ∀ cs T, Bk (w1.alloc (.cells cs T)) w1.heap.size cs := fun cs T => Bk.new w1 cs T
  clear hU hW0 ho RE
  go_wp2_with fail
  refine (hI _ (k1.alloc _)).mono ?_
  rintro _ w2 ⟨b, d, rfl, ho2, k2⟩
  have L2 := (bl _ _).on k2
  have kk : On w1 w2 := ((On.refl w1).alloc _).trans k2
  have RI2 : Rd evC 6 w2 (.slice b 1 d) [⟨-1, 0, 2, 0, 0, 4⟩] := Rd.own (C := evC) (fun _ => rfl) (L := [⟨-1, 0, 2, 0, 0, 4⟩]) ho2
  obtain ⟨g1, o1, rfl, hg1, q0, q1, q2, q3, q4, q5⟩ := rd_ev (E := [⟨0, 0, 1, 0, 5, 0⟩]) (n := 0) (HRE.out.on kk) rfl
  obtain ⟨g2, o2, rfl, hg2, r0, r1, r2, r3, r4, r5⟩ := rd_ev (E := [⟨-1, 0, 2, 0, 0, 4⟩]) (n := 0) RI2 rfl
  simp only [Nat.zero_mul, Nat.add_zero] at q0 q1 q2 q3 q4 q5 r0 r1 r2 r3 r4 r5
  have y2 := L2.at (i := 2) rfl
  have yl := L2.lt
  have KF := K1.trans kk
  clear hI HRE RI2 ho2 bl k2 kk K1 k1 K0
  go_wp2
  go_ret
  exact ⟨rfl, KF⟩
end Go.Proofs.Ytkglmhclpgfngaa
