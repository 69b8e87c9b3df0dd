/- What layer 5's laws ask at their end: awake. -/
import Derived.Test.YtacflahkofmcpaaGreatDoorWlRiseW
namespace Go.Proofs.YtacflahkofmcpaaGreatDoor.Wl
open Go.RowKit

theorem TestRd.bare (w : World) (nm : ByteArray) (h : nm.size ≤ 9223372036854775807) : TestRd w (.agg #[.string nm, .slice none 0 0, .slice none 0 0, .int .i64 0, .slice none 0 0]) ⟨nm, [], [], ⟨0, []⟩⟩ :=
  ⟨none, 0, none, 0, none, 0, rfl, h, Rd.nil _ _ _, Rd2.nil _ _ _, Rd2.nil _ _ _⟩
theorem byte_cells {w : World} {base n : Nat} {e : TypeId} {a : Option Addr} {c : Nat} {l : List UInt8} (h : w.ownsRow base e 1 (.slice a n c) n (l.map byteV)) (h0 : 0 < n) :
    ∃ ad : Addr, a = some ad ∧ ∀ j (hj : j < l.length), w.cell? (ad.add j) = some (.int .u8 (l[j].toNat : Int)) := by
  obtain ⟨g, cap, hv, hc, _, hg, hcell⟩ := own_cells h h0
  simp only [Value.slice.injEq] at hv
  refine ⟨⟨g, 0, none⟩, hv.1, fun j hj => ?_⟩
  rw [Addr.add_lit, Nat.zero_add]
  refine hcell j _ ?_
  rw [List.getElem?_map, List.getElem?_eq_getElem hj]
  rfl
theorem check_a : checkT ⟨⟨#[97]⟩, [], [], ⟨0, []⟩⟩ = 8 := by decide +kernel
theorem check_e : checkT ⟨⟨#[]⟩, [], [], ⟨0, []⟩⟩ = 1 := by decide +kernel
theorem locs_yx : lettersN (locsN ⟨⟨#[97]⟩, [⟨121, 0⟩, ⟨120, 0⟩], [], ⟨0, []⟩⟩) = [120, 121] := by decide +kernel
theorem rd_yx (w : World) (T : TypeId) : Rd iniC 2 (w.alloc (.cells #[.int .i64 121, .int .i64 0, .int .i64 120, .int .i64 0] T)) (.slice (some ⟨w.heap.size, 0, none⟩) 2 2) [⟨121, 0⟩, ⟨120, 0⟩] := by
  refine ⟨_, 2, rfl, Nat.le_refl _, by decide, fun _ => ⟨w.heap.size, 0, rfl, by simp, fun i x j u hi hj => ?_⟩⟩
  have h := heap_alloc_new w (.cells #[.int .i64 121, .int .i64 0, .int .i64 120, .int .i64 0] T)
  have key : (w.alloc (.cells #[.int .i64 121, .int .i64 0, .int .i64 120, .int .i64 0] T)).cell? ⟨w.heap.size, 0 + i * 2 + j, none⟩ = #[Value.int .i64 121, .int .i64 0, .int .i64 120, .int .i64 0][0 + i * 2 + j]? := by
    unfold World.cell?
    simp only [h]
    rfl
  rw [key]
  match i, hi with
  | 0, hi =>
    simp only [List.getElem?_cons_zero, Option.some.injEq] at hi
    subst hi
    match j, hj with
    | 0, hj => exact hj
    | 1, hj => exact hj
    | j + 2, hj => simp [iniC] at hj
  | 1, hi =>
    simp only [List.getElem?_cons_succ, List.getElem?_cons_zero, Option.some.injEq] at hi
    subst hi
    match j, hj with
    | 0, hj => exact hj
    | 1, hj => exact hj
    | j + 2, hj => simp [iniC] at hj
  | i + 2, hi => simp at hi

set_option maxHeartbeats 2000000 in
set_option maxRecDepth 8000 in
theorem awake5_is (w : World) (lw : Lw w) (hd : Db w) :
    Calls Tryz.prog 21 #[] w fun e w' => e = .returned (.bool true) ∧ On w w' := by
  have hA := fun W (k : On w W) => check_is _ _ W (lw.on k) (TestRd.bare W ⟨#[97]⟩ (by decide))
  have hE := fun W (k : On w W) => check_is _ _ W (lw.on k) (TestRd.bare W ⟨#[]⟩ (by decide))
  obtain ⟨W0, hW0⟩ : ∃ W0, W0 = w.alloc (.cells #[.string ⟨#[97]⟩, .slice none 0 0, .slice none 0 0, .int .i64 0, .slice none 0 0] 28) := ⟨_, rfl⟩
  have hS0 : W0.heap.size = w.heap.size + 1 := by rw [hW0]; simp
  have K0 : Hid (On w W0) := by rw [hW0]; exact (On.refl w).alloc _
  have B0 : Bk W0 w.heap.size #[.string ⟨#[97]⟩, .slice none 0 0, .slice none 0 0, .int .i64 0, .slice none 0 0] := by rw [hW0]; exact Bk.new w _ _
  have hR := rd_yx W0 55
  rw [hS0] at hR
  have hL := locs_is ⟨⟨#[97]⟩, [⟨121, 0⟩, ⟨120, 0⟩], [], ⟨0, []⟩⟩ (.agg #[.string ⟨#[97]⟩, .slice (some ⟨w.heap.size + 1, 0, none⟩) 2 2, .slice none 0 0, .int .i64 0, .slice none 0 0]) _ (hd.on (K0.out.alloc (.cells #[.int .i64 121, .int .i64 0, .int .i64 120, .int .i64 0] 55))) ⟨_, 2, none, 0, none, 0, rfl, by decide, hR, Rd2.nil _ _ _, Rd2.nil _ _ _⟩
  rw [locs_yx] at hL
  rw [check_a] at hA
  rw [check_e] at hE
  clear lw hd hR
  rw [hW0] at hL
  go_enter Tryz.func21, Tryz.ntmps21
  go_wp2_with fail
  refine hL.mono ?_
  rintro e w1 ⟨a, c, rfl, ho, k1⟩
  rw [← hW0] at k1
  have K1 : Hid (On w w1) := (K0.out.alloc _).trans k1
  have B1 := (B0.alloc _).on k1
  have x0 := B1.at (i := 0) rfl
  have x1 := B1.at (i := 1) rfl
  have x2 := B1.at (i := 2) rfl
  have x3 := B1.at (i := 3) rfl
  have x4 := B1.at (i := 4) rfl
  have s1 := B1.lt
  have HO : Hid _ := own_mono ho (Nat.zero_le _)
  clear hL ho k1 B0 B1 hW0 hS0 K0
  simp only [List.length_cons, List.length_nil] at HO ⊢
  go_wp2_with fail
  refine (hA _ K1.out).mono ?_
  rintro e w2 ⟨rfl, k2⟩
  have K2 : Hid (On w w2) := K1.out.trans k2
  obtain ⟨ad, rfl, hcell⟩ := byte_cells (l := [120, 121]) (own_on HO.out k2) (by decide)
  have hback := run_convert_bytes_back (P := Tryz.prog) w2 41 9 5 ad c [120, 121] Tryz.underlying41 Tryz.underlying5 Tryz.underlying9 hcell
  simp only [List.length_cons, List.length_nil] at hback
  clear hA x0 x1 x2 x3 x4 s1 HO hcell k2 K1
  go_wp2_with fail
  refine (hE _ K2.out).mono ?_
  rintro e w3 ⟨rfl, k3⟩
  go_wp2
  go_ret
  exact ⟨rfl, K2.out.trans k3⟩
end Go.Proofs.YtacflahkofmcpaaGreatDoor.Wl
