/- Proved: for every two int64 the law NumLess of layer 1 returns true and leaves its arguments as they were; the condition is that the listed package-level variables hold what the program's text lays, to which the card ties them. -/
import Derived.Test.YtbhpldjeljlblaaDoorLift
import Derived.Test.YtbhpldjeljlblaaDoorDigits
namespace Go.Proofs.YtbhpldjeljlblaaDoor
open Go.ChangeShapes Go.WideShapes Go.ChangeAt Go.WideMaps Go.WideElems Go.RowKit

section
set_option maxHeartbeats 1000000
theorem less_neg (a b : Int) (t : ByteArray) (h4 : 0 < t.size) (h5 : (t.size : Int) ≤ 20) (h7 : ((t.size : Int) == 0) = false) (w : World)
    (hT : Calls Tryd.prog 11 #[.int .i64 a] w fun e w' => e = .returned (.string t) ∧ On w w') (hA : ∀ w1, On w w1 → Calls Tryd.prog 10 #[] w1 fun e w' => e = .returned (.bool true) ∧ On w1 w')
    (hd : doV 11 a b = 1 ∧ doV 11 b a = 0 ∧ doV 9 a b = 0 ∨ doV 11 a b = 0 ∧ doV 11 b a = 1 ∧ doV 9 a b = 0 ∨ doV 11 a b = 0 ∧ doV 11 b a = 0 ∧ doV 9 a b = 1)
    (c0 : a < 0) (c1 : (((t[0]'h4).toNat : Int) != 45) = false) (c2 : ((t.size : Int) == 1) = false) :
    Calls Tryd.prog 4 #[.int .i64 a, .int .i64 b] w fun e w' => e = .returned (.bool true) ∧ On w w' := by
  have e1 : decide (0 ≤ a) = false := by simpa using c0
  have e2 : (a != 0) = true := by simp; omega
  rcases hd with ⟨d1, d2, d3⟩ | ⟨d1, d2, d3⟩ | ⟨d1, d2, d3⟩
  all_goals
    go_enter Tryd.func4, Tryd.ntmps4
    go_wp2_with (first | (go_at_call 9; refine (do_is _ _ _ _ ?_).mono ?_; decide; rintro e w' ⟨rfl, rfl⟩) | (go_at_call 11; refine hT.mono ?_; rintro e w' ⟨rfl, k⟩) | (go_at_call 10; refine (hA _ k).mono ?_; rintro e w' ⟨rfl, k'⟩))
    go_ret
    exact ⟨rfl, k.trans k'⟩
theorem less_pos (a b : Int) (t : ByteArray) (h4 : 0 < t.size) (h5 : (t.size : Int) ≤ 20) (h7 : ((t.size : Int) == 0) = false) (w : World)
    (hT : Calls Tryd.prog 11 #[.int .i64 a] w fun e w' => e = .returned (.string t) ∧ On w w') (hA : ∀ w1, On w w1 → Calls Tryd.prog 10 #[] w1 fun e w' => e = .returned (.bool true) ∧ On w1 w')
    (hd : doV 11 a b = 1 ∧ doV 11 b a = 0 ∧ doV 9 a b = 0 ∨ doV 11 a b = 0 ∧ doV 11 b a = 1 ∧ doV 9 a b = 0 ∨ doV 11 a b = 0 ∧ doV 11 b a = 0 ∧ doV 9 a b = 1)
    (c0 : 0 < a) (c1 : (((t[0]'h4).toNat : Int) != 45) = true) (v : Bool) (c2 : ((t.size : Int) == 1) = v) (c3 : decide (a < 10) = v) :
    Calls Tryd.prog 4 #[.int .i64 a, .int .i64 b] w fun e w' => e = .returned (.bool true) ∧ On w w' := by
  have e1 : decide (0 ≤ a) = true := by simp; omega
  have e2 : (a != 0) = true := by simp; omega
  rcases hd with ⟨d1, d2, d3⟩ | ⟨d1, d2, d3⟩ | ⟨d1, d2, d3⟩
  all_goals
    cases v
    all_goals
      go_enter Tryd.func4, Tryd.ntmps4
      go_wp2_with (first | (go_at_call 9; refine (do_is _ _ _ _ ?_).mono ?_; decide; rintro e w' ⟨rfl, rfl⟩) | (go_at_call 11; refine hT.mono ?_; rintro e w' ⟨rfl, k⟩) | (go_at_call 10; refine (hA _ k).mono ?_; rintro e w' ⟨rfl, k'⟩))
      go_ret
      exact ⟨rfl, k.trans k'⟩
end
set_option maxHeartbeats 1000000 in
theorem less_nought (b : Int) (w : World)
    (hT : Calls Tryd.prog 11 #[.int .i64 0] w fun e w' => e = .returned (.string ⟨#[48]⟩) ∧ On w w') (hA : ∀ w1, On w w1 → Calls Tryd.prog 10 #[] w1 fun e w' => e = .returned (.bool true) ∧ On w1 w')
    (hd : doV 11 0 b = 1 ∧ doV 11 b 0 = 0 ∧ doV 9 0 b = 0 ∨ doV 11 0 b = 0 ∧ doV 11 b 0 = 1 ∧ doV 9 0 b = 0 ∨ doV 11 0 b = 0 ∧ doV 11 b 0 = 0 ∧ doV 9 0 b = 1) :
    Calls Tryd.prog 4 #[.int .i64 0, .int .i64 b] w fun e w' => e = .returned (.bool true) ∧ On w w' := by
  rcases hd with ⟨d1, d2, d3⟩ | ⟨d1, d2, d3⟩ | ⟨d1, d2, d3⟩
  all_goals
    go_enter Tryd.func4, Tryd.ntmps4
    go_wp2_with (first | (go_at_call 9; refine (do_is _ _ _ _ ?_).mono ?_; decide; rintro e w' ⟨rfl, rfl⟩) | (go_at_call 11; refine hT.mono ?_; rintro e w' ⟨rfl, k⟩) | (go_at_call 10; refine (hA _ k).mono ?_; rintro e w' ⟨rfl, k'⟩))
    go_ret
    exact ⟨rfl, k.trans k'⟩

theorem numLess_walk (a b : Int) (h0 : -9223372036854775808 ≤ a) (h1 : a ≤ 9223372036854775807) (w : World) (hw : Lw w) :
    Calls Tryd.prog 4 #[.int .i64 a, .int .i64 b] w fun e w' => e = .returned (.bool true) ∧ On w w' := by
  have hA : ∀ w1, On w w1 → Calls Tryd.prog 10 #[] w1 fun e w' => e = .returned (.bool true) ∧ On w1 w' := fun w1 k => awake_any w1 (hw.on k)
  have hd : doV 11 a b = 1 ∧ doV 11 b a = 0 ∧ doV 9 a b = 0 ∨ doV 11 a b = 0 ∧ doV 11 b a = 1 ∧ doV 9 a b = 0 ∨ doV 11 a b = 0 ∧ doV 11 b a = 0 ∧ doV 9 a b = 1 := by
    rw [doV11, doV11, doV9]
    unfold b2i
    rcases Int.lt_trichotomy a b with h | h | h
    · left; simp; omega
    · right; right; simp; omega
    · right; left; simp; omega
  obtain ⟨s1, s2, s3, s4, s5, s6, s7⟩ := itoa_shape a h0 h1
  have hT := text_any a h0 h1 w hw
  by_cases h : a = 0
  · subst h
    rw [s7 rfl] at hT
    exact less_nought b w hT hA hd
  have hsz : (ByteArray.mk (Lib.itoa a).toArray).size = (Lib.itoa a).length := by show (Lib.itoa a).toArray.size = _; simp
  have h4 : 0 < (ByteArray.mk (Lib.itoa a).toArray).size := by rw [hsz]; omega
  have hget : (Lib.itoa a).head? = some ((ByteArray.mk (Lib.itoa a).toArray)[0]'h4) := by
    rw [List.head?_eq_getElem?]
    exact List.getElem?_eq_getElem (by omega)
  by_cases hn : a < 0
  · refine less_neg a b _ h4 (by rw [hsz]; omega) (by rw [hsz, beq_eq_false_iff_ne]; omega) w hT hA hd hn ?_ (by rw [hsz]; have := (s3 hn).2; simp; omega)
    have e := (s3 hn).1
    rw [hget] at e
    rw [Option.some.inj e]
    rfl
  · obtain ⟨d, e, b1, b2⟩ := s4 (by omega)
    rw [hget] at e
    refine less_pos a b _ h4 (by rw [hsz]; omega) (by rw [hsz, beq_eq_false_iff_ne]; omega) w hT hA hd (by omega) ?_ (decide (a < 10)) ?_ rfl
    · rw [Option.some.inj e]; simp; omega
    · rw [hsz]
      by_cases h10 : a < 10
      · rw [s5 (by omega) h10]; simp [h10]
      · have := s6 (by omega)
        simp [h10]; omega

set_option maxRecDepth 100000 in
theorem numLess_lifted (os : Os) (started : os.Started) (H : Type) (enc : TypeId × Value → H) :
    ReturnsInHanded {} Tryd.checked os 4 .any (fun w args => (Rows.numLessSpec.pre enc Tryd.prog Tryd.f4 [] false w args ∧ laidMetH Tryd.prog laidL w) ∧ sizedMet enc Tryd.prog Tryd.f4 (OpenSpec.ofChange Rows.numLessSpec) false w args)
      (Rows.numLessSpec.post enc Tryd.prog Tryd.f4 false true false false) := by
  refine returnsInHanded_of_change_and (C := Tryd.checked) (X := fun w _ => laidMetH Tryd.prog laidL w) (fun _ _ _ hh h => h.of_heap hh) own started (by kernel_rfl) Tryd.func4
    (ChangeSpec.witness_shaped (enc := enc) (C := Tryd.checked) (os := os) (X := fun w _ => laidMetH Tryd.prog laidL w) false (World.doorLaid Tryd.prog 400 os) #[.int .i64 0, .int .i64 0] 8 rfl (World.shaped_of_RefB (by kernel_rfl) (by kernel_rfl)) (by kernel_rfl) (by kernel_rfl) (by kernel_rfl) (door_met os _)) ?_
  intro W base args ds gs before hval0 hW _ _ hL _
  have hval : ∀ (j : Nat) t v, Tryd.f4.params[j]? = some t → args[j]? = some v → Value.okWide Tryd.prog W .any base t v := hval0
  have hW' := hW
  obtain ⟨p, q, hA0, hV, rfl, hfz, hnd⟩ := hW
  have hA : DataW.TrodAll enc Tryd.prog W 0 (fun _ => true) true Tryd.f4.params.toList args.toList ds p := hA0
  rw [Tryd.params4] at hA hval
  obtain ⟨v0, v1, d0, d1, p0, p1, rfl, rfl, rfl, h0, h1⟩ := trodAll_two hA
  obtain ⟨rfl, rfl⟩ := trodVars_none hV
  obtain ⟨a, rfl, rfl, rfl, wa⟩ := open_int Tryd.underlying2 (hval 0 2 v0 rfl rfl) h0
  obtain ⟨a0, a1⟩ := bd wa
  obtain ⟨b, rfl, rfl, rfl, wb⟩ := open_int Tryd.underlying2 (hval 1 2 v1 rfl rfl) h1
  obtain ⟨b0, b1⟩ := bd wb
  clear hA0 hval0
  simp only [List.append_nil] at hW'
  refine (numLess_walk a b a0 a1 W (of_laid hL)).mono fun e W' ⟨he, hw⟩ => ?_
  subst he
  refine ⟨_, rfl, _, _, _, [], [], [], hW', ?_, ?_, rfl, Below.frame hw _, fun h => by cases h⟩
  · exact trodAll_mk1 (shut_bool Tryd.underlying4 _)
  · exact trodAll_mk2 (shut_int Tryd.underlying2 wa) (shut_int Tryd.underlying2 wb)

theorem numLess_said : Rows.NumLessSaid :=
  OpenClaim.holds_of_wide 4 Tryd.f4 rfl rfl rfl rfl rfl rfl rfl ⟨rfl, rfl, rfl, rfl, rfl⟩ rfl rfl rfl rfl rfl (by kernel_rfl) Tryd.func4 (by kernel_rfl)
    (of_decide_eq_true (by kernel_rfl)) (by unfold Func.isWrapper; first | (rw [if_pos (by decide +kernel)]; kernel_rfl) | (rw [if_neg (by decide +kernel)]; exact ⟨rfl, rfl⟩))
    (fun os started H enc _ => numLess_lifted os started H enc)

theorem numLess_card : Rows.NumLessCardSaid :=
  Claim7.holds_tied_plain_at .later [] [.data, .data, .data, .sentinel, .sentinel, .data] true (true, "847b8a52e8b586cb235d3b9e769f39e99c422cdabe71d8d3c8745244cdda13f7") true
    numLess_said (fun _ h => by cases h) (by kernel_rfl) (fun _ h => by cases h) numLess_row_tie rfl ⟨rfl, rfl⟩ (by kernel_rfl) rfl
    (fun f fn hf hfn => by
      obtain rfl : f = 4 := Option.some.inj ((show Tryd.prog.funcNamed "jacquard/jacquardlaw1.NumLess" = some 4 by kernel_rfl).symm.trans hf) |>.symm
      obtain rfl : fn = Tryd.f4 := (Option.some.inj (Tryd.func4.symm.trans hfn)).symm
      exact ⟨by kernel_rfl, fun j t ht => by
        rw [Tryd.params4] at ht
        have hm : t ∈ [2, 2] := by simpa using Array.mem_of_getElem? ht
        have hall : ([2, 2].all fun u => !Tryd.prog.wantsStandIn u) = true := by kernel_rfl
        exact (show Tryd.prog.wantsStandIn t = false by simpa using List.all_eq_true.1 hall t hm)⟩)
    (by kernel_rfl)
#print axioms numLess_card

end Go.Proofs.YtbhpldjeljlblaaDoor
