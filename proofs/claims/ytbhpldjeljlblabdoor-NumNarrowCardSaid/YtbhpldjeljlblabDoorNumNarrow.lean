/- Proved: for every int64 and every int the law NumNarrow of layer 1 returns true and leaves its arguments as they were; the condition is that the listed package-level variables hold what the program's text lays, to which the card ties them. -/
import Derived.Test.YtbhpldjeljlblabDoorLift
namespace Go.Proofs.YtbhpldjeljlblabDoor
open Go.ChangeShapes Go.WideShapes Go.ChangeAt Go.WideMaps Go.WideElems Go.RowKit

theorem spare_le (b : Int) : spare b ≤ 63 := by unfold spare; omega
theorem narrow_twice (a b : Int) : narrowV (narrowV a b) b = narrowV a b := by
  unfold narrowV
  rw [wrap_dvd a _ (spare_le b), wrap_wrap]
theorem narrow_all (a : Int) (a0 : -9223372036854775808 ≤ a) (a1 : a ≤ 9223372036854775807) : narrowV a 64 = a ∧ narrowV a 70 = a ∧ narrowV a (-3) = -(a % 2) := by
  have e1 : spare 64 = 0 := by decide
  have e2 : spare 70 = 0 := by decide
  have e3 : spare (-3) = 63 := by decide
  unfold narrowV
  rw [e1, e2, e3]
  unfold wrap64
  omega

set_option maxHeartbeats 1000000 in
theorem numNarrow_walk (a b : Int) (a0 : -9223372036854775808 ≤ a) (a1 : a ≤ 9223372036854775807) (w : World) (hw : Lw w) :
    Calls Tryd.prog 3 #[.int .i64 a, .int .i64 b] w fun e w' => e = .returned (.bool true) ∧ On w w' := by
  obtain ⟨g1, g2, g3⟩ := narrow_all a a0 a1
  have g4 := narrow_twice a b
  have e1 : bits .and .i64 a 1 = a % 2 := i64_and1 a
  have hN := narrow_any
  have hA := awake_any w hw
  have f : (narrowV a b == wrap64 (a * 2 ^ (64 - min (max b 1) 64).toNat) / 2 ^ (64 - min (max b 1) 64).toNat) = true := by unfold narrowV spare; simp
  clear hw a0 a1
  by_cases hb : b < 1
  · go_enter Tryd.func3, Tryd.ntmps3
    go_wp2_with (first | (go_at_call 6; refine (hN _ _ _).mono ?_; rintro e w' ⟨rfl, rfl⟩) | (go_at_call 7; refine hA.mono ?_; rintro e w' ⟨rfl, k⟩))
    go_ret
    exact ⟨rfl, k⟩
  · by_cases hc : 64 < b
    · go_enter Tryd.func3, Tryd.ntmps3
      go_wp2_with (first | (go_at_call 6; refine (hN _ _ _).mono ?_; rintro e w' ⟨rfl, rfl⟩) | (go_at_call 7; refine hA.mono ?_; rintro e w' ⟨rfl, k⟩))
      go_ret
      exact ⟨rfl, k⟩
    · go_enter Tryd.func3, Tryd.ntmps3
      go_wp2_with (first | (go_at_call 6; refine (hN _ _ _).mono ?_; rintro e w' ⟨rfl, rfl⟩) | (go_at_call 7; refine hA.mono ?_; rintro e w' ⟨rfl, k⟩))
      go_ret
      exact ⟨rfl, k⟩

set_option maxRecDepth 100000 in
theorem numNarrow_lifted (os : Os) (started : os.Started) (H : Type) (enc : TypeId × Value → H) :
    ReturnsInHanded {} Tryd.checked os 3 .any (fun w args => (Rows.numNarrowSpec.pre enc Tryd.prog Tryd.f3 [] false w args ∧ laidMetH Tryd.prog laidL w) ∧ sizedMet enc Tryd.prog Tryd.f3 (OpenSpec.ofChange Rows.numNarrowSpec) false w args)
      (Rows.numNarrowSpec.post enc Tryd.prog Tryd.f3 false true false false) := by
  refine returnsInHanded_of_change_and (C := Tryd.checked) (X := fun w _ => laidMetH Tryd.prog laidL w) (fun _ _ _ hh h => h.of_heap hh) own started (by kernel_rfl) Tryd.func3
    (ChangeSpec.witness_shaped (enc := enc) (C := Tryd.checked) (os := os) (X := fun w _ => laidMetH Tryd.prog laidL w) false (World.doorLaid Tryd.prog 400 os) #[.int .i64 0, .int .i64 0] 8 rfl (World.shaped_of_RefB (by kernel_rfl) (by kernel_rfl)) (by kernel_rfl) (by kernel_rfl) (by kernel_rfl) (door_met os _)) ?_
  intro W base args ds gs before hval0 hW _ _ hL _
  have hval : ∀ (j : Nat) t v, Tryd.f3.params[j]? = some t → args[j]? = some v → Value.okWide Tryd.prog W .any base t v := hval0
  have hW' := hW
  obtain ⟨p, q, hA0, hV, rfl, hfz, hnd⟩ := hW
  have hA : DataW.TrodAll enc Tryd.prog W 0 (fun _ => true) true Tryd.f3.params.toList args.toList ds p := hA0
  rw [Tryd.params3] at hA hval
  obtain ⟨v0, v1, d0, d1, p0, p1, rfl, rfl, rfl, h0, h1⟩ := trodAll_two hA
  obtain ⟨rfl, rfl⟩ := trodVars_none hV
  obtain ⟨a, rfl, rfl, rfl, wa⟩ := open_int Tryd.underlying2 (hval 0 2 v0 rfl rfl) h0
  obtain ⟨a0, a1⟩ := bd wa
  obtain ⟨b, rfl, rfl, rfl, wb⟩ := open_int Tryd.underlying3 (hval 1 3 v1 rfl rfl) h1
  obtain ⟨b0, b1⟩ := bd wb
  clear hA0 hval0
  simp only [List.append_nil] at hW'
  refine (numNarrow_walk a b a0 a1 W (of_laid hL)).mono fun e W' ⟨he, hw⟩ => ?_
  subst he
  refine ⟨_, rfl, _, _, _, [], [], [], hW', ?_, ?_, rfl, Below.frame hw _, fun h => by cases h⟩
  · exact trodAll_mk1 (shut_bool Tryd.underlying4 _)
  · exact trodAll_mk2 (shut_int Tryd.underlying2 wa) (shut_int Tryd.underlying3 wb)

theorem numNarrow_said : Rows.NumNarrowSaid :=
  OpenClaim.holds_of_wide 3 Tryd.f3 rfl rfl rfl rfl rfl rfl rfl ⟨rfl, rfl, rfl, rfl, rfl⟩ rfl rfl rfl rfl rfl (by kernel_rfl) Tryd.func3 (by kernel_rfl)
    (of_decide_eq_true (by kernel_rfl)) (by unfold Func.isWrapper; first | (rw [if_pos (by decide +kernel)]; kernel_rfl) | (rw [if_neg (by decide +kernel)]; exact ⟨rfl, rfl⟩))
    (fun os started H enc _ => numNarrow_lifted os started H enc)

theorem numNarrow_card : Rows.NumNarrowCardSaid :=
  Claim7.holds_tied_plain_at .later [] [.data, .data, .data, .sentinel, .sentinel, .data] true (true, "f4083bbe8384d0f50206a0ce7b1f6f973aeaf029823d5be0fcc276c7493fe9c7") true
    numNarrow_said (fun _ h => by cases h) (by kernel_rfl) (fun _ h => by cases h) numNarrow_row_tie rfl ⟨rfl, rfl⟩ (by kernel_rfl) rfl
    (fun f fn hf hfn => by
      obtain rfl : f = 3 := Option.some.inj ((show Tryd.prog.funcNamed "jacquard/jacquardlaw1.NumNarrow" = some 3 by kernel_rfl).symm.trans hf) |>.symm
      obtain rfl : fn = Tryd.f3 := (Option.some.inj (Tryd.func3.symm.trans hfn)).symm
      exact ⟨by kernel_rfl, fun j t ht => by
        rw [Tryd.params3] at ht
        have hm : t ∈ [2, 3] := by simpa using Array.mem_of_getElem? ht
        have hall : ([2, 3].all fun u => !Tryd.prog.wantsStandIn u) = true := by kernel_rfl
        exact (show Tryd.prog.wantsStandIn t = false by simpa using List.all_eq_true.1 hall t hm)⟩)
    (by kernel_rfl)
#print axioms numNarrow_card

end Go.Proofs.YtbhpldjeljlblabDoor
