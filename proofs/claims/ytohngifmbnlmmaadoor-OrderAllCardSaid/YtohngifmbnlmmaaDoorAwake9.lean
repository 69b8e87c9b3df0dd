/- What the document fixes of orders. -/
import Derived.Test.YtohngifmbnlmmaaDoorOrdF
namespace Go.Proofs.YtohngifmbnlmmaaDoor
open Go.RowKit

theorem rd_three (w : World) (a b c : Int) (T : TypeId) : Rd intC 1 (w.alloc (.cells #[.int .i64 a, .int .i64 b, .int .i64 c] T)) (.slice (some ⟨w.heap.size, 0, none⟩) 3 3) [a, b, c] := by
  have h := Bk.new w #[.int .i64 a, .int .i64 b, .int .i64 c] T
  refine ⟨_, 3, rfl, by simp, by simp, fun _ => ⟨w.heap.size, 0, rfl, h.lt, fun i x j u hi hj => ?_⟩⟩
  match j, hj with
  | 0, hj =>
    simp only [intC, List.getElem?_cons_zero, Option.some.injEq] at hj
    subst hj
    refine h.at ?_
    match i, hi with
    | 0, hi => simp at hi; subst hi; rfl
    | 1, hi => simp at hi; subst hi; rfl
    | 2, hi => simp at hi; subst hi; rfl
    | i + 3, hi => simp at hi
  | j + 1, hj => simp [intC] at hj
set_option maxHeartbeats 4000000 in
set_option maxRecDepth 8000 in
theorem awake9_is (w : World) (hd : Dt w) : Calls Tryd.prog 14 #[] w fun e w' => e = .returned (.bool true) ∧ On w w' := by
  obtain ⟨hz, _⟩ := zero_of_info rel_info
  have hN := fun W => new_is 3 W
  have hw0 : Wf (newR 3) := new_wf 3
  have hA := fun W => add_is (newR 3) hw0.wr 0 1 W
  have hw1 := add_wf hw0 0 1
  have hAl := fun W (k : On w W) => alls_is (addR (newR 3) 0 1) hw1 10 W (hd.on k)
  have hCo := fun W (k : On w W) => count_is (addR (newR 3) 0 1) hw1 10 W (hd.on k)
  have hK1 := fun v W (k : On w W) h => okeeps_is (addR (newR 3) 0 1) hw1 [2, 0, 1] v W h (hd.on k)
  have hK2 := fun v W (k : On w W) h => okeeps_is (addR (newR 3) 0 1) hw1 [1, 0, 2] v W h (hd.on k)
  have e1 : (ordsR (addR (newR 3) 0 1)).take (boundI 10) = [[0, 1, 2], [0, 2, 1], [2, 0, 1]] := by decide +kernel
  have e2 : min (boundI 10) (ordsR (addR (newR 3) 0 1)).length = 3 := by decide +kernel
  have e3 : keepI (needL (addR (newR 3) 0 1)).length (DL2D (needL (addR (newR 3) 0 1))) [2, 0, 1] = true := by decide +kernel
  have e4 : keepI (needL (addR (newR 3) 0 1)).length (DL2D (needL (addR (newR 3) 0 1))) [1, 0, 2] = false := by decide +kernel
  rw [e1] at hAl
  rw [e2] at hCo
  rw [e3] at hK1
  rw [e4] at hK2
  clear e1 e2 e3 e4 hd hw0 hw1
  generalize addR (newR 3) 0 1 = R at *
  generalize newR 3 = P at *
  go_enter Tryd.func14, Tryd.ntmps14
  go_wp2_with fail
  refine (hN _).mono ?_
  rintro _ w1 ⟨rfl, k1⟩
  go_wp2_with fail
  refine (hA _).mono ?_
  rintro _ w2 ⟨rfl, k2⟩
  have K2 := k1.trans k2
  have B3 := Bk.new w2 (relA zeroR) 27
  obtain ⟨W, hW⟩ : ∃ W, W = (w2.alloc (.cells (relA zeroR) 27)).setRow w2.heap.size (relA R) := ⟨_, rfl⟩
  have C3 : Bk W w2.heap.size (relA R) := by rw [hW]; exact B3.row _
  have KC : On w W := by rw [hW]; exact (K2.alloc _).row K2.size _
  have HW : Hid (W = (w2.alloc (.cells (relA zeroR) 27)).setRow w2.heap.size (relA R)) := hW
  clear hW K2
  go_wp2_with (first | (refine wpList_st rfl rfl rfl rfl B3 ?_; rw [← HW.out]; clear B3 HW) | refine wpList_ld rfl rfl rfl C3 ?_)
  refine (hAl _ KC).mono ?_
  rintro _ w4 ⟨la, lc, rfl, hown, k4⟩
  have hr2 : Rd2 intC 1 w4 (.slice la ([[0, 1, 2], [0, 2, 1], [2, 0, 1]].map ints).length lc) ([[0, 1, 2], [0, 2, 1], [2, 0, 1]].map ints) := hown.rd (fun _ => rfl)
  obtain ⟨g, off, hla, hg, ax, cx, hcx, _, hrx⟩ := hr2.row (i := 2) (L := [2, 0, 1]) rfl
  obtain ⟨gx, ox, hax, hgx, ux⟩ := hrx.at (i := 0) (x := 2) rfl
  subst hla
  subst hax
  have hc0 := ux 0 _ rfl
  simp only [Nat.zero_mul, Nat.add_zero] at hc0
  have hl3 : ([2, 0, 1] : List Int).length = 3 := rfl
  rw [hl3] at hcx
  have C4 := C3.on k4
  have K4 := KC.trans k4
  have hl9 : ([[0, 1, 2], [0, 2, 1], [2, 0, 1]] : List (List Nat)).length = 3 := rfl
  rw [hl9]
  clear hown hr2 hrx ux
  go_wp2_with (refine wpList_ldG (by rfl) rfl rfl C4 ?_)
  refine (hCo _ K4).mono ?_
  rintro _ w5 ⟨rfl, k5⟩
  have C5 := C4.on k5
  have K5 := K4.trans k5
  have R5 := rd_three w5 2 0 1 3
  clear hcx hc0
  go_wp2_with (refine wpList_ldG (by rfl) rfl rfl C5 ?_)
  refine (hK1 _ _ (K5.alloc _) R5).mono ?_
  rintro _ w6 ⟨rfl, k6⟩
  have k56 := ((On.refl w5).alloc (.cells #[.int .i64 2, .int .i64 0, .int .i64 1] 3)).trans k6
  have C6 := C5.on k56
  have K6 := K5.trans k56
  have R6 := rd_three w6 1 0 2 3
  clear R5
  go_wp2_with (refine wpList_ldG (by rfl) rfl rfl C6 ?_)
  refine (hK2 _ _ (K6.alloc _) R6).mono ?_
  rintro _ w7 ⟨rfl, k7⟩
  have K7 := (K6.alloc (.cells #[.int .i64 1, .int .i64 0, .int .i64 2] 3)).trans k7
  clear R6
  go_wp2
  go_ret
  exact ⟨rfl, K7⟩
end Go.Proofs.YtohngifmbnlmmaaDoor
