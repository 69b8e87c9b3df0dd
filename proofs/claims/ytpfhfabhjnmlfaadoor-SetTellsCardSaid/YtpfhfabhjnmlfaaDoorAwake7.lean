/- What the document fixes of layer 7. -/
import Derived.Test.YtpfhfabhjnmlfaaDoorSetV
namespace Go.Proofs.YtpfhfabhjnmlfaaDoor
open Go.RowKit

theorem rd01 (w : World) (T : TypeId) : Rd intC 1 (w.alloc (.cells #[.int .i64 0, .int .i64 1] T)) (.slice (some ⟨w.heap.size, 0, none⟩) 2 2) [0, 1] := by
  refine ⟨_, 2, rfl, by decide, by decide, fun _ => ⟨w.heap.size, 0, rfl, by simp, fun i x j u hi hj => ?_⟩⟩
  have B := Bk.new w #[.int .i64 0, .int .i64 1] T
  refine B.at ?_
  match i, hi with
  | 0, hi =>
    simp only [List.getElem?_cons_zero, Option.some.injEq] at hi
    subst hi
    match j, hj with
    | 0, hj => exact hj
    | j + 1, hj => simp [intC] at hj
  | 1, hi =>
    simp only [List.getElem?_cons_succ, List.getElem?_cons_zero, Option.some.injEq] at hi
    subst hi
    match j, hj with
    | 0, hj => exact hj
    | j + 1, hj => simp [intC] at hj
  | i + 2, hi => simp at hi
set_option maxHeartbeats 2000000 in
set_option maxRecDepth 8000 in
theorem awake7_is (w : World) (hd : Dt w) :
    Calls Tryd.prog 13 #[] w fun e w' => e = .returned (.bool true) ∧ On w w' := by
  have hO := of_is [0, 1] _ _ (rd01 w 3)
  rw [show ofI 0 [0, 1] = 3 by decide +kernel] at hO
  have K0 : Hid (On w (w.alloc (.cells #[.int .i64 0, .int .i64 1] 3))) := (On.refl w).alloc _
  have hN := fun W (k : On w W) => next_is 3 (by decide) W (hd.on k)
  rw [show nextN 3 = 5 by decide +kernel] at hN
  have hL := fun W (k : On w W) => list_is 5 (by decide) W (hd.on k)
  rw [show bits64 5 = [0, 2] by decide +kernel] at hL
  have hC := fun W => len_is 3 (by decide) W
  rw [show cnt64 3 = 2 by decide +kernel] at hC
  have hU := fun W => upto_is 3 W
  rw [show uptoI 3 = 7 by decide +kernel] at hU
  have hF := fun W (k : On w W) => first_is 0 (by decide) W (hd.on k)
  rw [show firstN 0 = -1 by decide +kernel] at hF
  simp only [List.length_cons, List.length_nil] at hL
  go_enter Tryd.func13, Tryd.ntmps13
  go_wp2_with fail
  refine hO.mono ?_
  rintro _ _ ⟨rfl, rfl⟩
  go_wp2_with fail
  refine (hN _ K0.out).mono ?_
  rintro _ _ ⟨rfl, rfl⟩
  go_wp2_with fail
  refine (hL _ K0.out).mono ?_
  rintro e w1 ⟨a, c, rfl, ho, k1⟩
  have K1 : Hid (On w w1) := K0.out.trans k1
  obtain ⟨g, cap, hv, _, _, hg, hcell⟩ := own_cells ho (by decide)
  simp only [Value.slice.injEq] at hv
  obtain ⟨rfl, _, rfl⟩ := hv
  have c1 : w1.cell? ⟨g, 1, none⟩ = some (.int .i64 2) := hcell 1 _ rfl
  clear hcell hO hN hL K0 k1 ho
  go_wp2_with fail
  refine (hC _).mono ?_
  rintro _ _ ⟨rfl, rfl⟩
  go_wp2_with fail
  refine (hU _).mono ?_
  rintro _ _ ⟨rfl, rfl⟩
  go_wp2_with fail
  refine (hF _ K1.out).mono ?_
  rintro _ _ ⟨rfl, rfl⟩
  go_wp2
  go_ret
  exact ⟨rfl, K1.out⟩
end Go.Proofs.YtpfhfabhjnmlfaaDoor
