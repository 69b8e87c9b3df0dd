/- Proved: for every int and every two int64 the law NumDoes of layer 1 returns true and leaves its arguments as they were; the condition is that the listed package-level variables hold what the program's text lays, to which the card ties them. -/
import Derived.Test.YtbhpldjeljlblaaDoorLift
namespace Go.Proofs.YtbhpldjeljlblaaDoor
open Go.ChangeShapes Go.WideShapes Go.ChangeAt Go.WideMaps Go.WideElems Go.RowKit

theorem u64w (n : Int) : IntKind.u64.wrap n = n % 18446744073709551616 := IntKind.wrap_u64 n
theorem wrap_congr {x y : Int} (h : x % 18446744073709551616 = y % 18446744073709551616) : wrap64 x = wrap64 y := by unfold wrap64; omega
theorem wu_add (a b : Int) : wrap64 (IntKind.u64.wrap (IntKind.u64.wrap a + IntKind.u64.wrap b)) = wrap64 (a + b) := by
  rw [u64w, u64w, u64w]; apply wrap_congr; omega
theorem wu_sub (a b : Int) : wrap64 (IntKind.u64.wrap (IntKind.u64.wrap a - IntKind.u64.wrap b)) = wrap64 (a - b) := by
  rw [u64w, u64w, u64w]; apply wrap_congr; omega
theorem wu_mul (a b : Int) : wrap64 (IntKind.u64.wrap (IntKind.u64.wrap a * IntKind.u64.wrap b)) = wrap64 (a * b) := by
  rw [u64w, u64w, u64w]; apply wrap_congr; rw [Int.emod_emod_of_dvd _ (Int.dvd_refl _), ← Int.mul_emod]
theorem wu_shl (a p : Int) : wrap64 (IntKind.u64.wrap (IntKind.u64.wrap a * p)) = wrap64 (a * p) := by
  rw [u64w, u64w]; apply wrap_congr; rw [Int.emod_emod_of_dvd _ (Int.dvd_refl _), Int.mul_emod, Int.emod_emod_of_dvd _ (Int.dvd_refl _), ← Int.mul_emod]
theorem tmod64 (b : Int) : (IntKind.u64.wrap b).tmod 64 = (sh b : Int) := by
  rw [u64w, Int.tmod_eq_emod_of_nonneg (by omega)]; unfold sh; omega
theorem ret_i64b {x y : Int} {b : Bool} (h : x = y) : Ending.returned (.tuple #[.int .i64 x, .bool b]) = .returned (.tuple #[.int .i64 y, .bool b]) := by rw [h]

section
set_option maxHeartbeats 400000
theorem rdo1 (a b : Int) (w : World) : Calls Tryd.prog 13 #[.int .i64 1, .int .i64 a, .int .i64 b] w fun e w' => e = .returned (.tuple #[.int .i64 (doV 1 a b), .bool true]) ∧ w' = w := by
  have hk := tmod64 b
  have hs := sh_lt b
  go_enter Tryd.func13, Tryd.ntmps13
  go_wp2
  go_ret2
  exact ⟨ret_i64b (wu_add a b), rfl⟩
theorem rdo2 (a b : Int) (w : World) : Calls Tryd.prog 13 #[.int .i64 2, .int .i64 a, .int .i64 b] w fun e w' => e = .returned (.tuple #[.int .i64 (doV 2 a b), .bool true]) ∧ w' = w := by
  have hk := tmod64 b
  have hs := sh_lt b
  go_enter Tryd.func13, Tryd.ntmps13
  go_wp2
  go_ret2
  exact ⟨ret_i64b (wu_sub a b), rfl⟩
theorem rdo3 (a b : Int) (w : World) : Calls Tryd.prog 13 #[.int .i64 3, .int .i64 a, .int .i64 b] w fun e w' => e = .returned (.tuple #[.int .i64 (doV 3 a b), .bool true]) ∧ w' = w := by
  have hk := tmod64 b
  have hs := sh_lt b
  go_enter Tryd.func13, Tryd.ntmps13
  go_wp2
  go_ret2
  exact ⟨ret_i64b (wu_mul a b), rfl⟩
theorem rdo4 (a b : Int) (w : World) : Calls Tryd.prog 13 #[.int .i64 4, .int .i64 a, .int .i64 b] w fun e w' => e = .returned (.tuple #[.int .i64 (doV 4 a b), .bool true]) ∧ w' = w := by
  have hk := tmod64 b
  have hs := sh_lt b
  go_enter Tryd.func13, Tryd.ntmps13
  go_wp2
  go_ret2
  exact ⟨ret_i64b (rfl), rfl⟩
theorem rdo5 (a b : Int) (w : World) : Calls Tryd.prog 13 #[.int .i64 5, .int .i64 a, .int .i64 b] w fun e w' => e = .returned (.tuple #[.int .i64 (doV 5 a b), .bool true]) ∧ w' = w := by
  have hk := tmod64 b
  have hs := sh_lt b
  go_enter Tryd.func13, Tryd.ntmps13
  go_wp2
  go_ret2
  exact ⟨ret_i64b (rfl), rfl⟩
theorem rdo6 (a b : Int) (w : World) : Calls Tryd.prog 13 #[.int .i64 6, .int .i64 a, .int .i64 b] w fun e w' => e = .returned (.tuple #[.int .i64 (doV 6 a b), .bool true]) ∧ w' = w := by
  have hk := tmod64 b
  have hs := sh_lt b
  go_enter Tryd.func13, Tryd.ntmps13
  go_wp2
  go_ret2
  exact ⟨ret_i64b (rfl), rfl⟩
theorem rdo7 (a b : Int) (w : World) : Calls Tryd.prog 13 #[.int .i64 7, .int .i64 a, .int .i64 b] w fun e w' => e = .returned (.tuple #[.int .i64 (doV 7 a b), .bool true]) ∧ w' = w := by
  have hk := tmod64 b
  have hs := sh_lt b
  go_enter Tryd.func13, Tryd.ntmps13
  go_wp2
  go_ret2
  exact ⟨ret_i64b (wu_shl a _), rfl⟩
theorem rdo8 (a b : Int) (w : World) : Calls Tryd.prog 13 #[.int .i64 8, .int .i64 a, .int .i64 b] w fun e w' => e = .returned (.tuple #[.int .i64 (doV 8 a b), .bool true]) ∧ w' = w := by
  have hk := tmod64 b
  have hs := sh_lt b
  go_enter Tryd.func13, Tryd.ntmps13
  go_wp2
  go_ret2
  exact ⟨ret_i64b (rfl), rfl⟩
theorem rdo9 (a b : Int) (w : World) : Calls Tryd.prog 13 #[.int .i64 9, .int .i64 a, .int .i64 b] w fun e w' => e = .returned (.tuple #[.int .i64 (doV 9 a b), .bool true]) ∧ w' = w := by
  have hk := tmod64 b
  rw [doV9]
  cases ht : (a == b)
  all_goals
    go_enter Tryd.func13, Tryd.ntmps13
    go_wp2
    go_ret2
    exact ⟨rfl, rfl⟩
theorem rdo10 (a b : Int) (w : World) : Calls Tryd.prog 13 #[.int .i64 10, .int .i64 a, .int .i64 b] w fun e w' => e = .returned (.tuple #[.int .i64 (doV 10 a b), .bool true]) ∧ w' = w := by
  have hk := tmod64 b
  rw [doV10]
  cases ht : (a != b)
  all_goals
    go_enter Tryd.func13, Tryd.ntmps13
    go_wp2
    go_ret2
    exact ⟨rfl, rfl⟩
theorem rdo11 (a b : Int) (w : World) : Calls Tryd.prog 13 #[.int .i64 11, .int .i64 a, .int .i64 b] w fun e w' => e = .returned (.tuple #[.int .i64 (doV 11 a b), .bool true]) ∧ w' = w := by
  have hk := tmod64 b
  rw [doV11]
  cases ht : decide (a < b)
  all_goals
    go_enter Tryd.func13, Tryd.ntmps13
    go_wp2
    go_ret2
    exact ⟨rfl, rfl⟩
end
theorem rdo_is (op a b : Int) (w : World) (h : 1 ≤ op ∧ op ≤ 11) :
    Calls Tryd.prog 13 #[.int .i64 op, .int .i64 a, .int .i64 b] w fun e w' => e = .returned (.tuple #[.int .i64 (doV op a b), .bool true]) ∧ w' = w := by
  have hc : op = 1 ∨ op = 2 ∨ op = 3 ∨ op = 4 ∨ op = 5 ∨ op = 6 ∨ op = 7 ∨ op = 8 ∨ op = 9 ∨ op = 10 ∨ op = 11 := by omega
  rcases hc with rfl | rfl | rfl | rfl | rfl | rfl | rfl | rfl | rfl | rfl | rfl
  · exact rdo1 a b w
  · exact rdo2 a b w
  · exact rdo3 a b w
  · exact rdo4 a b w
  · exact rdo5 a b w
  · exact rdo6 a b w
  · exact rdo7 a b w
  · exact rdo8 a b w
  · exact rdo9 a b w
  · exact rdo10 a b w
  · exact rdo11 a b w

set_option maxHeartbeats 400000 in
theorem rdo_none (op a b : Int) (w : World) (h : ¬ (1 ≤ op ∧ op ≤ 11)) :
    Calls Tryd.prog 13 #[.int .i64 op, .int .i64 a, .int .i64 b] w fun e w' => e = .returned (.tuple #[.int .i64 0, .bool false]) ∧ w' = w := by
  have n1 : (op == 1) = false := by simp; omega
  have n2 : (op == 2) = false := by simp; omega
  have n3 : (op == 3) = false := by simp; omega
  have n4 : (op == 4) = false := by simp; omega
  have n5 : (op == 5) = false := by simp; omega
  have n6 : (op == 6) = false := by simp; omega
  have n7 : (op == 7) = false := by simp; omega
  have n8 : (op == 8) = false := by simp; omega
  have n9 : (op == 9) = false := by simp; omega
  have n10 : (op == 10) = false := by simp; omega
  have n11 : (op == 11) = false := by simp; omega
  clear h
  go_enter Tryd.func13, Tryd.ntmps13
  go_wp2
  go_ret2
  exact ⟨rfl, rfl⟩

set_option maxHeartbeats 1000000 in
theorem numDoes_walk (op a b : Int) (w : World) (hw : Lw w) :
    Calls Tryd.prog 6 #[.int .i64 op, .int .i64 a, .int .i64 b] w fun e w' => e = .returned (.bool true) ∧ On w w' := by
  have hA := awake_any w hw
  clear hw
  by_cases h : 1 ≤ op ∧ op ≤ 11
  · have h1 := do_is op a b w h
    have h2 := rdo_is op a b w h
    generalize doV op a b = v at h1 h2
    clear h
    go_enter Tryd.func6, Tryd.ntmps6
    go_wp2_with (first | (go_at_call 9; refine h1.mono ?_; rintro e w' ⟨rfl, rfl⟩) | (go_at_call 13; refine h2.mono ?_; rintro e w' ⟨rfl, rfl⟩) | (go_at_call 10; refine hA.mono ?_; rintro e w' ⟨rfl, k⟩))
    go_ret
    exact ⟨rfl, k⟩
  · have h1 := do_none op a b w h
    have h2 := rdo_none op a b w h
    clear h
    go_enter Tryd.func6, Tryd.ntmps6
    go_wp2_with (first | (go_at_call 9; refine h1.mono ?_; rintro e w' ⟨rfl, rfl⟩) | (go_at_call 13; refine h2.mono ?_; rintro e w' ⟨rfl, rfl⟩) | (go_at_call 10; refine hA.mono ?_; rintro e w' ⟨rfl, k⟩))
    go_ret
    exact ⟨rfl, k⟩

set_option maxRecDepth 100000 in
theorem numDoes_lifted (os : Os) (started : os.Started) (H : Type) (enc : TypeId × Value → H) :
    ReturnsInHanded {} Tryd.checked os 6 .any (fun w args => (Rows.numDoesSpec.pre enc Tryd.prog Tryd.f6 [] false w args ∧ laidMetH Tryd.prog laidL w) ∧ sizedMet enc Tryd.prog Tryd.f6 (OpenSpec.ofChange Rows.numDoesSpec) false w args)
      (Rows.numDoesSpec.post enc Tryd.prog Tryd.f6 false true false false) := by
  refine returnsInHanded_of_change_and (C := Tryd.checked) (X := fun w _ => laidMetH Tryd.prog laidL w) (fun _ _ _ hh h => h.of_heap hh) own started (by kernel_rfl) Tryd.func6
    (ChangeSpec.witness_shaped (enc := enc) (C := Tryd.checked) (os := os) (X := fun w _ => laidMetH Tryd.prog laidL w) false (World.doorLaid Tryd.prog 400 os) #[.int .i64 0, .int .i64 0, .int .i64 0] 8 rfl (World.shaped_of_RefB (by kernel_rfl) (by kernel_rfl)) (by kernel_rfl) (by kernel_rfl) (by kernel_rfl) (door_met os _)) ?_
  intro W base args ds gs before hval0 hW _ _ hL _
  have hval : ∀ (j : Nat) t v, Tryd.f6.params[j]? = some t → args[j]? = some v → Value.okWide Tryd.prog W .any base t v := hval0
  have hW' := hW
  obtain ⟨p, q, hA0, hV, rfl, hfz, hnd⟩ := hW
  have hA : DataW.TrodAll enc Tryd.prog W 0 (fun _ => true) true Tryd.f6.params.toList args.toList ds p := hA0
  rw [Tryd.params6] at hA hval
  obtain ⟨v0, v1, v2, d0, d1, d2, p0, p1, p2, rfl, rfl, rfl, h0, h1, h2⟩ := trodAll_three hA
  obtain ⟨rfl, rfl⟩ := trodVars_none hV
  obtain ⟨o, rfl, rfl, rfl, wo⟩ := open_int Tryd.underlying3 (hval 0 3 v0 rfl rfl) h0
  obtain ⟨o0, o1⟩ := bd wo
  obtain ⟨a, rfl, rfl, rfl, wa⟩ := open_int Tryd.underlying2 (hval 1 2 v1 rfl rfl) h1
  obtain ⟨a0, a1⟩ := bd wa
  obtain ⟨b, rfl, rfl, rfl, wb⟩ := open_int Tryd.underlying2 (hval 2 2 v2 rfl rfl) h2
  obtain ⟨b0, b1⟩ := bd wb
  clear hA0 hval0
  simp only [List.append_nil] at hW'
  refine (numDoes_walk o a b W (of_laid hL)).mono fun e W' ⟨he, hw⟩ => ?_
  subst he
  refine ⟨_, rfl, _, _, _, [], [], [], hW', ?_, ?_, rfl, Below.frame hw _, fun h => by cases h⟩
  · exact trodAll_mk1 (shut_bool Tryd.underlying4 _)
  · exact trodAll_mk3 (shut_int Tryd.underlying3 wo) (shut_int Tryd.underlying2 wa) (shut_int Tryd.underlying2 wb)

theorem numDoes_said : Rows.NumDoesSaid :=
  OpenClaim.holds_of_wide 6 Tryd.f6 rfl rfl rfl rfl rfl rfl rfl ⟨rfl, rfl, rfl, rfl, rfl⟩ rfl rfl rfl rfl rfl (by kernel_rfl) Tryd.func6 (by kernel_rfl)
    (of_decide_eq_true (by kernel_rfl)) (by unfold Func.isWrapper; first | (rw [if_pos (by decide +kernel)]; kernel_rfl) | (rw [if_neg (by decide +kernel)]; exact ⟨rfl, rfl⟩))
    (fun os started H enc _ => numDoes_lifted os started H enc)

theorem numDoes_card : Rows.NumDoesCardSaid :=
  Claim7.holds_tied_plain_at .later [] [.data, .data, .data, .sentinel, .sentinel, .data] true (true, "847b8a52e8b586cb235d3b9e769f39e99c422cdabe71d8d3c8745244cdda13f7") true
    numDoes_said (fun _ h => by cases h) (by kernel_rfl) (fun _ h => by cases h) numDoes_row_tie rfl ⟨rfl, rfl⟩ (by kernel_rfl) rfl
    (fun f fn hf hfn => by
      obtain rfl : f = 6 := Option.some.inj ((show Tryd.prog.funcNamed "jacquard/jacquardlaw1.NumDoes" = some 6 by kernel_rfl).symm.trans hf) |>.symm
      obtain rfl : fn = Tryd.f6 := (Option.some.inj (Tryd.func6.symm.trans hfn)).symm
      exact ⟨by kernel_rfl, fun j t ht => by
        rw [Tryd.params6] at ht
        have hm : t ∈ [3, 2, 2] := by simpa using Array.mem_of_getElem? ht
        have hall : ([3, 2, 2].all fun u => !Tryd.prog.wantsStandIn u) = true := by kernel_rfl
        exact (show Tryd.prog.wantsStandIn t = false by simpa using List.all_eq_true.1 hall t hm)⟩)
    (by kernel_rfl)
#print axioms numDoes_card

end Go.Proofs.YtbhpldjeljlblaaDoor
