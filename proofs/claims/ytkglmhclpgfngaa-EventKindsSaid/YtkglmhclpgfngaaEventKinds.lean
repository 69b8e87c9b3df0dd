/- The law EventKinds, walked. -/
import Derived.Test.YtkglmhclpgfngaaAwake10
namespace Go.Proofs.Ytkglmhclpgfngaa
open Go.RowKit

set_option maxHeartbeats 4000000 in
set_option maxRecDepth 8000 in
theorem eventKinds_one (k : Int) (w : World) (b1 b2 b3 b4 b5 : Bool) (h1 : (k == 1) = b1) (h2 : (k == 2) = b2) (h3 : (k == 3) = b3) (h4 : (k == 4) = b4) (h5 : (k == 5) = b5)
    (hb : (b1, b2, b3, b4, b5) = (true, false, false, false, false) ∨ (b1, b2, b3, b4, b5) = (false, true, false, false, false) ∨ (b1, b2, b3, b4, b5) = (false, false, true, false, false) ∨ (b1, b2, b3, b4, b5) = (false, false, false, true, false) ∨ (b1, b2, b3, b4, b5) = (false, false, false, false, true) ∨ (b1, b2, b3, b4, b5) = (false, false, false, false, false)) :
    Calls Try.prog 3 #[.int .i64 k] w fun e w' => e = .returned (.bool true) ∧ On w w' := by
  have hA := fun W => awake10_is W
  have hR := fun W => ereads_is ⟨0, 0, k, 0, 0, 0⟩ W
  have hW := fun W => ewrites_is ⟨0, 0, k, 0, 0, 0⟩ W
  have hF := fun W => efences_is ⟨0, 0, k, 0, 0, 0⟩ W
  simp only [rdsB, wrsB, fncB, h1, h2, h3, h4, h5] at hR hW hF
  rcases hb with hb | hb | hb | hb | hb | hb
  all_goals
    simp only [Prod.mk.injEq] at hb
    obtain ⟨rfl, rfl, rfl, rfl, rfl⟩ := hb
    simp only [Bool.or_true, Bool.or_false] at hR hW hF
    have hon : ∀ W W', Bk W w.heap.size #[.int .i64 0, .int .i64 0, .int .i64 k, .int .i64 0, .int .i64 0, .int .i64 0] → On W W' → Bk W' w.heap.size #[.int .i64 0, .int .i64 0, .int .i64 k, .int .i64 0, .int .i64 0, .int .i64 0] := fun W W' h k => h.on k
    obtain ⟨W1, hW1⟩ : ∃ W1, W1 = w.alloc (.cells #[.int .i64 0, .int .i64 0, .int .i64 k, .int .i64 0, .int .i64 0, .int .i64 0] 23) := ⟨_, rfl⟩
    have B0 : Bk W1 w.heap.size #[.int .i64 0, .int .i64 0, .int .i64 k, .int .i64 0, .int .i64 0, .int .i64 0] := by rw [hW1]; exact Bk.new w _ _
    have B1 : Bk W1.drew w.heap.size #[.int .i64 0, .int .i64 0, .int .i64 k, .int .i64 0, .int .i64 0, .int .i64 0] := B0
    clear B0
    have K1 : On w W1.drew := by rw [hW1]; exact On.drew ((On.refl w).alloc _)
    unfold evV at hR hW hF
    go_enter Try.func3, Try.ntmps3
    go_upto_region 2 with fail
    rw [← hW1]
    clear hW1
    refine region_fin (fun W => Bk W w.heap.size #[.int .i64 0, .int .i64 0, .int .i64 k, .int .i64 0, .int .i64 0, .int .i64 0]) 99 9 (by kernel_rfl) rfl ?_
    refine fin_take 0 (v := ?_) rfl (by kernel_rfl) (by kernel_rfl) (by kernel_rfl) (by kernel_rfl) (fun _ _ _ h => h) rfl ?_ B1 ?_
    rotate_left
    · intro W hW
      have f0 := hW.at (i := 0) rfl
      have f1 := hW.at (i := 1) rfl
      have f2 := hW.at (i := 2) rfl
      have f3 := hW.at (i := 3) rfl
      have f4 := hW.at (i := 4) rfl
      have f5 := hW.at (i := 5) rfl
      have fl := hW.lt
      go_simp
      (try with_reducible rfl)
    simp only [Act.put, List.setIfInBounds_toArray, List.set_cons_zero, List.set_cons_succ]
    refine fin_take 2 (v := ?_) rfl (by kernel_rfl) (by kernel_rfl) (by kernel_rfl) (by kernel_rfl) (fun _ _ _ h => h) rfl ?_ B1 ?_
    rotate_left
    · intro W hW
      have f0 := hW.at (i := 0) rfl
      have f1 := hW.at (i := 1) rfl
      have f2 := hW.at (i := 2) rfl
      have f3 := hW.at (i := 3) rfl
      have f4 := hW.at (i := 4) rfl
      have f5 := hW.at (i := 5) rfl
      have fl := hW.lt
      go_simp
      (try with_reducible rfl)
    simp only [Act.put, List.setIfInBounds_toArray, List.set_cons_zero, List.set_cons_succ]
    refine fin_take 4 (v := ?_) rfl (by kernel_rfl) (by kernel_rfl) (by kernel_rfl) (by kernel_rfl) (fun _ _ _ h => h) rfl ?_ B1 ?_
    rotate_left
    · intro W hW
      have f0 := hW.at (i := 0) rfl
      have f1 := hW.at (i := 1) rfl
      have f2 := hW.at (i := 2) rfl
      have f3 := hW.at (i := 3) rfl
      have f4 := hW.at (i := 4) rfl
      have f5 := hW.at (i := 5) rfl
      have fl := hW.lt
      go_simp
      (try with_reducible rfl)
    simp only [Act.put, List.setIfInBounds_toArray, List.set_cons_zero, List.set_cons_succ]
    refine fin_one 1 rfl rfl (by kernel_rfl) (fun K hK => ?_)
    go_simp
    refine (hR _).mono ?_
    rintro _ w1 ⟨rfl, kw1⟩
    have Sw1 := hon _ _ B1 kw1
    have Kw1 := K1.trans kw1
    refine hK.out _ _ (fun _ => Sw1) ?_
    clear hK
    refine fin_one 3 rfl rfl (by kernel_rfl) (fun K hK => ?_)
    go_simp
    refine (hW _).mono ?_
    rintro _ w2 ⟨rfl, kw2⟩
    have Sw2 := hon _ _ Sw1 kw2
    have Kw2 := Kw1.trans kw2
    refine hK.out _ _ (fun _ => Sw2) ?_
    clear hK
    refine fin_one 5 rfl rfl (by kernel_rfl) (fun K hK => ?_)
    go_simp
    refine (hF _).mono ?_
    rintro _ w3 ⟨rfl, kw3⟩
    have Sw3 := hon _ _ Sw2 kw3
    have Kw3 := Kw2.trans kw3
    refine hK.out _ _ (fun _ => Sw3) ?_
    clear hK
    refine fin_take 6 (v := ?_) rfl (by kernel_rfl) (by kernel_rfl) (by kernel_rfl) (by kernel_rfl) (fun _ _ _ h => h) rfl ?_ Sw3 ?_
    rotate_left
    · intro W hW
      go_simp
      (try with_reducible rfl)
    simp only [Act.put, List.setIfInBounds_toArray, List.set_cons_zero, List.set_cons_succ]
    refine fin_take 7 (v := ?_) rfl (by kernel_rfl) (by kernel_rfl) (by kernel_rfl) (by kernel_rfl) (fun _ _ _ h => h) rfl ?_ Sw3 ?_
    rotate_left
    · intro W hW
      go_simp
      (try with_reducible rfl)
    simp only [Act.put, List.setIfInBounds_toArray, List.set_cons_zero, List.set_cons_succ]
    refine fin_take 8 (v := ?_) rfl (by kernel_rfl) (by kernel_rfl) (by kernel_rfl) (by kernel_rfl) (fun _ _ _ h => h) rfl ?_ Sw3 ?_
    rotate_left
    · intro W hW
      go_simp
      (try with_reducible rfl)
    simp only [Act.put, List.setIfInBounds_toArray, List.set_cons_zero, List.set_cons_succ]
    refine fin_done (by kernel_rfl) (NoPanic.normal ?_)
    go_wp2_with (go_at_call 11; refine (hA _).mono ?_; rintro _ wz ⟨rfl, kz⟩)
    go_ret
    exact ⟨rfl, Kw3.trans kz⟩
theorem eventKinds_walk (k : Int) (w : World) : Calls Try.prog 3 #[.int .i64 k] w fun e w' => e = .returned (.bool true) ∧ On w w' := by
  refine eventKinds_one k w _ _ _ _ _ rfl rfl rfl rfl rfl ?_
  by_cases h1 : k = 1
  · subst h1; decide
  · by_cases h2 : k = 2
    · subst h2; decide
    · by_cases h3 : k = 3
      · subst h3; decide
      · by_cases h4 : k = 4
        · subst h4; decide
        · by_cases h5 : k = 5
          · subst h5; decide
          · simp [h1, h2, h3, h4, h5]
end Go.Proofs.Ytkglmhclpgfngaa
