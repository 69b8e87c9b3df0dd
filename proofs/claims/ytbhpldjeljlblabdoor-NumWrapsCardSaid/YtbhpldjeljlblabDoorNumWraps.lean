/- Proved: for every three int64 the law NumWraps of layer 1 returns true and leaves its arguments as they were; the condition is that the listed package-level variables hold what the program's text lays, to which the card ties them. -/
import Derived.Test.YtbhpldjeljlblabDoorLift
namespace Go.Proofs.YtbhpldjeljlblabDoor
open Go.ChangeShapes Go.WideShapes Go.ChangeAt Go.WideMaps Go.WideElems Go.RowKit

theorem wraps_facts (a b r : Int) (a0 : -9223372036854775808 ≤ a) (a1 : a ≤ 9223372036854775807) :
    (doV 2 (doV 1 a b) b == a) = true ∧ (doV 3 a (-1) == doV 2 0 a) = true ∧ (doV 7 a r == doV 7 a (r + 64)) = true ∧ (doV 8 a r == doV 8 a (r - 64)) = true := by
  have s1 : sh (r + 64) = sh r := by unfold sh; omega
  have s2 : sh (r - 64) = sh r := by unfold sh; omega
  rw [doV2, doV1, doV3, doV2, doV7, doV7, doV8, doV8, s1, s2]
  refine ⟨?_, ?_, by simp, by simp⟩
  · unfold wrap64; simp only [beq_iff_eq]; omega
  · unfold wrap64; simp only [beq_iff_eq]; omega

set_option maxHeartbeats 1000000 in
theorem numWraps_walk (a b k : Int) (a0 : -9223372036854775808 ≤ a) (a1 : a ≤ 9223372036854775807) (w : World) (hw : Lw w) :
    Calls Tryd.prog 4 #[.int .i64 a, .int .i64 b, .int .i64 k] w fun e w' => e = .returned (.bool true) ∧ On w w' := by
  have e63 : bits .and .i64 k 63 = k % 64 := i64_and63 k
  obtain ⟨f1, f2, f3, f4⟩ := wraps_facts a b (k % 64) a0 a1
  have hA := awake_any w hw
  clear hw a0 a1
  by_cases hn : a = b
  · have g1 : doV 9 a b = 1 := by rw [doV9, hn]; simp [b2i]
    have g2 : doV 10 a b = 0 := by rw [doV10, hn]; simp [b2i]
    clear hn
    go_enter Tryd.func4, Tryd.ntmps4
    go_wp2_with (first | (go_at_call 8; refine (do_is _ _ _ _ ?_).mono ?_; decide; rintro e w' ⟨rfl, rfl⟩) | (go_at_call 7; refine hA.mono ?_; rintro e w' ⟨rfl, k⟩))
    go_ret
    exact ⟨rfl, k⟩
  · have g1 : doV 9 a b = 0 := by rw [doV9]; simp [b2i, hn]
    have g2 : doV 10 a b = 1 := by rw [doV10]; simp [b2i, hn]
    clear hn
    go_enter Tryd.func4, Tryd.ntmps4
    go_wp2_with (first | (go_at_call 8; refine (do_is _ _ _ _ ?_).mono ?_; decide; rintro e w' ⟨rfl, rfl⟩) | (go_at_call 7; refine hA.mono ?_; rintro e w' ⟨rfl, k⟩))
    go_ret
    exact ⟨rfl, k⟩

set_option maxRecDepth 100000 in
theorem numWraps_lifted (os : Os) (started : os.Started) (H : Type) (enc : TypeId × Value → H) :
    ReturnsInHanded {} Tryd.checked os 4 .any (fun w args => (Rows.numWrapsSpec.pre enc Tryd.prog Tryd.f4 [] false w args ∧ laidMetH Tryd.prog laidL w) ∧ sizedMet enc Tryd.prog Tryd.f4 (OpenSpec.ofChange Rows.numWrapsSpec) false w args)
      (Rows.numWrapsSpec.post enc Tryd.prog Tryd.f4 false true false false) := by
  refine returnsInHanded_of_change_and (C := Tryd.checked) (X := fun w _ => laidMetH Tryd.prog laidL w) (fun _ _ _ hh h => h.of_heap hh) own started (by kernel_rfl) Tryd.func4
    (ChangeSpec.witness_shaped (enc := enc) (C := Tryd.checked) (os := os) (X := fun w _ => laidMetH Tryd.prog laidL w) false (World.doorLaid Tryd.prog 400 os) #[.int .i64 0, .int .i64 0, .int .i64 0] 8 rfl (World.shaped_of_RefB (by kernel_rfl) (by kernel_rfl)) (by kernel_rfl) (by kernel_rfl) (by kernel_rfl) (door_met os _)) ?_
  intro W base args ds gs before hval0 hW _ _ hL _
  have hval : ∀ (j : Nat) t v, Tryd.f4.params[j]? = some t → args[j]? = some v → Value.okWide Tryd.prog W .any base t v := hval0
  have hW' := hW
  obtain ⟨p, q, hA0, hV, rfl, hfz, hnd⟩ := hW
  have hA : DataW.TrodAll enc Tryd.prog W 0 (fun _ => true) true Tryd.f4.params.toList args.toList ds p := hA0
  rw [Tryd.params4] at hA hval
  obtain ⟨v0, v1, v2, d0, d1, d2, p0, p1, p2, rfl, rfl, rfl, h0, h1, h2⟩ := trodAll_three hA
  obtain ⟨rfl, rfl⟩ := trodVars_none hV
  obtain ⟨a, rfl, rfl, rfl, wa⟩ := open_int Tryd.underlying2 (hval 0 2 v0 rfl rfl) h0
  obtain ⟨a0, a1⟩ := bd wa
  obtain ⟨b, rfl, rfl, rfl, wb⟩ := open_int Tryd.underlying2 (hval 1 2 v1 rfl rfl) h1
  obtain ⟨b0, b1⟩ := bd wb
  obtain ⟨c, rfl, rfl, rfl, wc⟩ := open_int Tryd.underlying2 (hval 2 2 v2 rfl rfl) h2
  obtain ⟨c0, c1⟩ := bd wc
  clear hA0 hval0
  simp only [List.append_nil] at hW'
  refine (numWraps_walk a b c a0 a1 W (of_laid hL)).mono fun e W' ⟨he, hw⟩ => ?_
  subst he
  refine ⟨_, rfl, _, _, _, [], [], [], hW', ?_, ?_, rfl, Below.frame hw _, fun h => by cases h⟩
  · exact trodAll_mk1 (shut_bool Tryd.underlying4 _)
  · exact trodAll_mk3 (shut_int Tryd.underlying2 wa) (shut_int Tryd.underlying2 wb) (shut_int Tryd.underlying2 wc)

theorem numWraps_said : Rows.NumWrapsSaid :=
  OpenClaim.holds_of_wide 4 Tryd.f4 rfl rfl rfl rfl rfl rfl rfl ⟨rfl, rfl, rfl, rfl, rfl⟩ rfl rfl rfl rfl rfl (by kernel_rfl) Tryd.func4 (by kernel_rfl)
    (of_decide_eq_true (by kernel_rfl)) (by unfold Func.isWrapper; first | (rw [if_pos (by decide +kernel)]; kernel_rfl) | (rw [if_neg (by decide +kernel)]; exact ⟨rfl, rfl⟩))
    (fun os started H enc _ => numWraps_lifted os started H enc)

theorem numWraps_card : Rows.NumWrapsCardSaid :=
  Claim7.holds_tied_plain_at .later [] [.data, .data, .data, .sentinel, .sentinel, .data] true (true, "f4083bbe8384d0f50206a0ce7b1f6f973aeaf029823d5be0fcc276c7493fe9c7") true
    numWraps_said (fun _ h => by cases h) (by kernel_rfl) (fun _ h => by cases h) numWraps_row_tie rfl ⟨rfl, rfl⟩ (by kernel_rfl) rfl
    (fun f fn hf hfn => by
      obtain rfl : f = 4 := Option.some.inj ((show Tryd.prog.funcNamed "jacquard/jacquardlaw1.NumWraps" = some 4 by kernel_rfl).symm.trans hf) |>.symm
      obtain rfl : fn = Tryd.f4 := (Option.some.inj (Tryd.func4.symm.trans hfn)).symm
      exact ⟨by kernel_rfl, fun j t ht => by
        rw [Tryd.params4] at ht
        have hm : t ∈ [2, 2, 2] := by simpa using Array.mem_of_getElem? ht
        have hall : ([2, 2, 2].all fun u => !Tryd.prog.wantsStandIn u) = true := by kernel_rfl
        exact (show Tryd.prog.wantsStandIn t = false by simpa using List.all_eq_true.1 hall t hm)⟩)
    (by kernel_rfl)
#print axioms numWraps_card

end Go.Proofs.YtbhpldjeljlblabDoor
