/- Proved: for every two int64 the law NumShifts of layer 1 returns true and leaves its arguments as they were; the condition is that the listed package-level variables hold what the program's text lays, to which the card ties them. -/
import Derived.Test.YtbhpldjeljlblaaDoorLift
namespace Go.Proofs.YtbhpldjeljlblaaDoor
open Go.ChangeShapes Go.WideShapes Go.ChangeAt Go.WideMaps Go.WideElems Go.RowKit

theorem narrow32 (a : Int) : -2147483648 ≤ narrowV a 32 ∧ narrowV a 32 ≤ 2147483647 := by
  have e : spare 32 = 32 := by decide
  unfold narrowV
  rw [e]
  unfold wrap64
  omega

theorem shifts_facts (A K : Int) (a0 : -2147483648 ≤ A) (a1 : A ≤ 2147483647) (k0 : 0 ≤ K) (k1 : K ≤ 31) :
    doV 8 (doV 7 A K) K = A ∧ doV 8 A 63 = (if A < 0 then -1 else 0) ∧ (doV 7 A K == doV 3 A (doV 7 1 K)) = true := by
  have hs : sh K = K.toNat := by unfold sh; omega
  have hm : K.toNat ≤ 31 := by omega
  have h63 : sh 63 = 63 := by decide
  rw [doV8, doV7, doV8, doV3, doV7, hs, h63, shl_small A _ a0 a1 hm, shr_back, shl_small 1 _ (by decide) (by decide) hm, Int.one_mul, shl_small A _ a0 a1 hm]
  refine ⟨rfl, ?_, by simp⟩
  split <;> omega

set_option maxHeartbeats 1000000 in
theorem numShifts_walk (a k : Int) (w : World) (hw : Lw w) :
    Calls Tryd.prog 5 #[.int .i64 a, .int .i64 k] w fun e w' => e = .returned (.bool true) ∧ On w w' := by
  obtain ⟨b0, b1⟩ := narrow32 a
  have hN := narrow_any a 32
  have e31 : bits .and .i64 k 31 = k % 32 := i64_and31 k
  generalize narrowV a 32 = A at *
  obtain ⟨f1, f2, f3⟩ := shifts_facts A (k % 32) b0 b1 (by omega) (by omega)
  have hA := awake_any w hw
  clear hw
  by_cases hn : A < 0
  all_goals
    simp only [hn, if_true, if_false] at f2
    go_enter Tryd.func5, Tryd.ntmps5
    go_wp2_with (first | (go_at_call 12; refine (hN _).mono ?_; rintro e w' ⟨rfl, rfl⟩) | (go_at_call 9; refine (do_is _ _ _ _ ?_).mono ?_; decide; rintro e w' ⟨rfl, rfl⟩) | (go_at_call 10; refine hA.mono ?_; rintro e w' ⟨rfl, k⟩))
    go_ret
    exact ⟨rfl, k⟩

set_option maxRecDepth 100000 in
theorem numShifts_lifted (os : Os) (started : os.Started) (H : Type) (enc : TypeId × Value → H) :
    ReturnsInHanded {} Tryd.checked os 5 .any (fun w args => (Rows.numShiftsSpec.pre enc Tryd.prog Tryd.f5 [] false w args ∧ laidMetH Tryd.prog laidL w) ∧ sizedMet enc Tryd.prog Tryd.f5 (OpenSpec.ofChange Rows.numShiftsSpec) false w args)
      (Rows.numShiftsSpec.post enc Tryd.prog Tryd.f5 false true false false) := by
  refine returnsInHanded_of_change_and (C := Tryd.checked) (X := fun w _ => laidMetH Tryd.prog laidL w) (fun _ _ _ hh h => h.of_heap hh) own started (by kernel_rfl) Tryd.func5
    (ChangeSpec.witness_shaped (enc := enc) (C := Tryd.checked) (os := os) (X := fun w _ => laidMetH Tryd.prog laidL w) false (World.doorLaid Tryd.prog 400 os) #[.int .i64 0, .int .i64 0] 8 rfl (World.shaped_of_RefB (by kernel_rfl) (by kernel_rfl)) (by kernel_rfl) (by kernel_rfl) (by kernel_rfl) (door_met os _)) ?_
  intro W base args ds gs before hval0 hW _ _ hL _
  have hval : ∀ (j : Nat) t v, Tryd.f5.params[j]? = some t → args[j]? = some v → Value.okWide Tryd.prog W .any base t v := hval0
  have hW' := hW
  obtain ⟨p, q, hA0, hV, rfl, hfz, hnd⟩ := hW
  have hA : DataW.TrodAll enc Tryd.prog W 0 (fun _ => true) true Tryd.f5.params.toList args.toList ds p := hA0
  rw [Tryd.params5] at hA hval
  obtain ⟨v0, v1, d0, d1, p0, p1, rfl, rfl, rfl, h0, h1⟩ := trodAll_two hA
  obtain ⟨rfl, rfl⟩ := trodVars_none hV
  obtain ⟨a, rfl, rfl, rfl, wa⟩ := open_int Tryd.underlying2 (hval 0 2 v0 rfl rfl) h0
  obtain ⟨a0, a1⟩ := bd wa
  obtain ⟨b, rfl, rfl, rfl, wb⟩ := open_int Tryd.underlying2 (hval 1 2 v1 rfl rfl) h1
  obtain ⟨b0, b1⟩ := bd wb
  clear hA0 hval0
  simp only [List.append_nil] at hW'
  refine (numShifts_walk a b W (of_laid hL)).mono fun e W' ⟨he, hw⟩ => ?_
  subst he
  refine ⟨_, rfl, _, _, _, [], [], [], hW', ?_, ?_, rfl, Below.frame hw _, fun h => by cases h⟩
  · exact trodAll_mk1 (shut_bool Tryd.underlying4 _)
  · exact trodAll_mk2 (shut_int Tryd.underlying2 wa) (shut_int Tryd.underlying2 wb)

theorem numShifts_said : Rows.NumShiftsSaid :=
  OpenClaim.holds_of_wide 5 Tryd.f5 rfl rfl rfl rfl rfl rfl rfl ⟨rfl, rfl, rfl, rfl, rfl⟩ rfl rfl rfl rfl rfl (by kernel_rfl) Tryd.func5 (by kernel_rfl)
    (of_decide_eq_true (by kernel_rfl)) (by unfold Func.isWrapper; first | (rw [if_pos (by decide +kernel)]; kernel_rfl) | (rw [if_neg (by decide +kernel)]; exact ⟨rfl, rfl⟩))
    (fun os started H enc _ => numShifts_lifted os started H enc)

theorem numShifts_card : Rows.NumShiftsCardSaid :=
  Claim7.holds_tied_plain_at .later [] [.data, .data, .data, .sentinel, .sentinel, .data] true (true, "847b8a52e8b586cb235d3b9e769f39e99c422cdabe71d8d3c8745244cdda13f7") true
    numShifts_said (fun _ h => by cases h) (by kernel_rfl) (fun _ h => by cases h) numShifts_row_tie rfl ⟨rfl, rfl⟩ (by kernel_rfl) rfl
    (fun f fn hf hfn => by
      obtain rfl : f = 5 := Option.some.inj ((show Tryd.prog.funcNamed "jacquard/jacquardlaw1.NumShifts" = some 5 by kernel_rfl).symm.trans hf) |>.symm
      obtain rfl : fn = Tryd.f5 := (Option.some.inj (Tryd.func5.symm.trans hfn)).symm
      exact ⟨by kernel_rfl, fun j t ht => by
        rw [Tryd.params5] at ht
        have hm : t ∈ [2, 2] := by simpa using Array.mem_of_getElem? ht
        have hall : ([2, 2].all fun u => !Tryd.prog.wantsStandIn u) = true := by kernel_rfl
        exact (show Tryd.prog.wantsStandIn t = false by simpa using List.all_eq_true.1 hall t hm)⟩)
    (by kernel_rfl)
#print axioms numShifts_card

end Go.Proofs.YtbhpldjeljlblaaDoor
