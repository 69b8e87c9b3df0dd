/- Proved: for every string and every int64 the law NumTexts of layer 1 returns true and leaves its arguments as they were; the condition is that the listed package-level variables hold what the program's text lays, to which the card ties them. -/
import Derived.Test.YtbhpldjeljlblaaDoorLift
import Derived.Test.YtbhpldjeljlblaaDoorRefText
namespace Go.Proofs.YtbhpldjeljlblaaDoor
open Go.ChangeShapes Go.WideShapes Go.ChangeAt Go.WideMaps Go.WideElems Go.RowKit
open Go.ChangeMaps (open_string shut_string)

section
set_option maxHeartbeats 1000000
theorem texts_yes (s t : ByteArray) (n : Int) (w : World)
    (hP : ∀ x w1, (x = s ∨ x = t) → On w w1 → Calls Tryd.prog 14 #[.string x] w1 fun e w' => e = .returned (.tuple #[.int .i64 (pN x), .bool (pB x)]) ∧ On w1 w')
    (hN : ∀ w1, Calls Tryd.prog 15 #[.string s] w1 fun e w' => e = .returned (.tuple #[.int .i64 (pN s), .bool (pB s)]) ∧ w' = w1)
    (hR : ∀ w1, Calls Tryd.prog 16 #[.int .i64 n] w1 fun e w' => e = .returned (.string t) ∧ w' = w1)
    (hA : ∀ w1, On w w1 → Calls Tryd.prog 10 #[] w1 fun e w' => e = .returned (.bool true) ∧ On w1 w')
    (p1 : pN t = n) (p2 : pB t = true)
    (tx : Int → ByteArray) (hT : ∀ x w1, (x = n ∨ x = pN s) → On w w1 → Calls Tryd.prog 11 #[.int .i64 x] w1 fun e w' => e = .returned (.string (tx x)) ∧ On w1 w') (t1 : tx n = t) (t2 : tx (pN s) = s) (hs : pB s = true) :
    Calls Tryd.prog 7 #[.string s, .int .i64 n] w fun e w' => e = .returned (.bool true) ∧ On w w' := by
  have k := On.refl w
  go_enter Tryd.func7, Tryd.ntmps7
  go_wp2_with (first | (go_at_call 14; refine (hP _ _ ?_ k).mono ?_; (first | exact Or.inl rfl | exact Or.inr rfl); rintro e w1 ⟨rfl, k1⟩; replace k := k.trans k1; clear k1) | (go_at_call 11; refine (hT _ _ ?_ k).mono ?_; (first | exact Or.inl rfl | exact Or.inr rfl); rintro e w1 ⟨rfl, k1⟩; replace k := k.trans k1; clear k1) | (go_at_call 15; refine (hN _).mono ?_; rintro e w1 ⟨rfl, rfl⟩) | (go_at_call 16; refine (hR _).mono ?_; rintro e w1 ⟨rfl, rfl⟩) | (go_at_call 10; refine (hA _ k).mono ?_; rintro e w1 ⟨rfl, k1⟩; replace k := k.trans k1; clear k1))
  go_ret
  exact ⟨rfl, k⟩
theorem texts_no (s t : ByteArray) (n : Int) (w : World)
    (hP : ∀ x w1, (x = s ∨ x = t) → On w w1 → Calls Tryd.prog 14 #[.string x] w1 fun e w' => e = .returned (.tuple #[.int .i64 (pN x), .bool (pB x)]) ∧ On w1 w')
    (hN : ∀ w1, Calls Tryd.prog 15 #[.string s] w1 fun e w' => e = .returned (.tuple #[.int .i64 (pN s), .bool (pB s)]) ∧ w' = w1)
    (hR : ∀ w1, Calls Tryd.prog 16 #[.int .i64 n] w1 fun e w' => e = .returned (.string t) ∧ w' = w1)
    (hA : ∀ w1, On w w1 → Calls Tryd.prog 10 #[] w1 fun e w' => e = .returned (.bool true) ∧ On w1 w')
    (p1 : pN t = n) (p2 : pB t = true)
    (hT : ∀ w1, On w w1 → Calls Tryd.prog 11 #[.int .i64 n] w1 fun e w' => e = .returned (.string t) ∧ On w1 w') (hs : pB s = false) :
    Calls Tryd.prog 7 #[.string s, .int .i64 n] w fun e w' => e = .returned (.bool true) ∧ On w w' := by
  have k := On.refl w
  go_enter Tryd.func7, Tryd.ntmps7
  go_wp2_with (first | (go_at_call 14; refine (hP _ _ ?_ k).mono ?_; (first | exact Or.inl rfl | exact Or.inr rfl); rintro e w1 ⟨rfl, k1⟩; replace k := k.trans k1; clear k1) | (go_at_call 11; refine (hT _ k).mono ?_; rintro e w1 ⟨rfl, k1⟩; replace k := k.trans k1; clear k1) | (go_at_call 15; refine (hN _).mono ?_; rintro e w1 ⟨rfl, rfl⟩) | (go_at_call 16; refine (hR _).mono ?_; rintro e w1 ⟨rfl, rfl⟩) | (go_at_call 10; refine (hA _ k).mono ?_; rintro e w1 ⟨rfl, k1⟩; replace k := k.trans k1; clear k1))
  go_ret
  exact ⟨rfl, k⟩
end

theorem numTexts_walk (s : ByteArray) (n : Int) (hs : s.size ≤ reachBytes) (n0 : -9223372036854775808 ≤ n) (n1 : n ≤ 9223372036854775807) (w : World) (hw : Lw w) :
    Calls Tryd.prog 7 #[.string s, .int .i64 n] w fun e w' => e = .returned (.bool true) ∧ On w w' := by
  have hr := reachBytes_lt
  have hA : ∀ w1, On w w1 → Calls Tryd.prog 10 #[] w1 fun e w' => e = .returned (.bool true) ∧ On w1 w' := fun w1 k => awake_any w1 (hw.on k)
  have hz : (ByteArray.mk (Lib.itoa n).toArray).size ≤ 281474976710656 := by
    rw [size_list]
    have := (itoa_shape n n0 n1).2.1
    simp; omega
  have hP : ∀ x w1, (x = s ∨ x = ⟨(Lib.itoa n).toArray⟩) → On w w1 → Calls Tryd.prog 14 #[.string x] w1 fun e w' => e = .returned (.tuple #[.int .i64 (pN x), .bool (pB x)]) ∧ On w1 w' := by
    intro x w1 hx k
    refine parse_is x ?_ w1 (hw.on k)
    rcases hx with rfl | rfl
    · omega
    · exact hz
  obtain ⟨p1, p2⟩ := p_some (s := ⟨(Lib.itoa n).toArray⟩) (v := n) (parseV_itoa n n0 n1 (by simp))
  cases e : parseV s.data.toList with
  | none => exact texts_no s _ n w hP (number_is s (by omega)) (rtext_is n n0 n1) hA p1 p2 (fun w1 k => text_any n n0 n1 w1 (hw.on k)) (p_none e).2
  | some v =>
    obtain ⟨b0, b1⟩ := parseV_bound e
    obtain ⟨q1, q2⟩ := p_some e
    refine texts_yes s _ n w hP (number_is s (by omega)) (rtext_is n n0 n1) hA p1 p2 (fun x => ⟨(Lib.itoa x).toArray⟩) (fun x w1 hx k => text_any x ?_ ?_ w1 (hw.on k)) rfl (bytes_ext (by rw [q1]; simpa using parseV_of e)) q2
    · rcases hx with rfl | rfl <;> omega
    · rcases hx with rfl | rfl <;> omega

set_option maxRecDepth 100000 in
theorem numTexts_lifted (os : Os) (started : os.Started) (H : Type) (enc : TypeId × Value → H) :
    ReturnsInHanded {} Tryd.checked os 7 .any (fun w args => (Rows.numTextsSpec.pre enc Tryd.prog Tryd.f7 [] false w args ∧ laidMetH Tryd.prog laidL w) ∧ sizedMet enc Tryd.prog Tryd.f7 (OpenSpec.ofChange Rows.numTextsSpec) false w args)
      (Rows.numTextsSpec.post enc Tryd.prog Tryd.f7 false true false false) := by
  refine returnsInHanded_of_change_and (C := Tryd.checked) (X := fun w _ => laidMetH Tryd.prog laidL w) (fun _ _ _ hh h => h.of_heap hh) own started (by kernel_rfl) Tryd.func7
    (ChangeSpec.witness_shaped (enc := enc) (C := Tryd.checked) (os := os) (X := fun w _ => laidMetH Tryd.prog laidL w) false (World.doorLaid Tryd.prog 400 os) #[.string ⟨#[]⟩, .int .i64 0] 8 rfl (World.shaped_of_RefB (by kernel_rfl) (by kernel_rfl)) (by kernel_rfl) (by kernel_rfl) (by kernel_rfl) (door_met os _)) ?_
  intro W base args ds gs before hval0 hW _ hsz hL _
  have hval : ∀ (j : Nat) t v, Tryd.f7.params[j]? = some t → args[j]? = some v → Value.okWide Tryd.prog W .any base t v := hval0
  have hW' := hW
  obtain ⟨p, q, hA0, hV, rfl, hfz, hnd⟩ := hW
  have hA : DataW.TrodAll enc Tryd.prog W 0 (fun _ => true) true Tryd.f7.params.toList args.toList ds p := hA0
  rw [Tryd.params7] at hA hval
  obtain ⟨v0, v1, d0, d1, p0, p1, rfl, rfl, rfl, h0, h1⟩ := trodAll_two hA
  obtain ⟨rfl, rfl⟩ := trodVars_none hV
  obtain ⟨s, rfl, rfl, rfl, ws⟩ := open_string Tryd.underlying9 (hval 0 9 v0 rfl rfl) h0
  have rs := sized_string hsz (j := 0) (t := 9) rfl rfl
  obtain ⟨n, rfl, rfl, rfl, wn⟩ := open_int Tryd.underlying2 (hval 1 2 v1 rfl rfl) h1
  obtain ⟨n0, n1⟩ := bd wn
  clear hA0 hval0
  simp only [List.append_nil] at hW'
  refine (numTexts_walk s n rs n0 n1 W (of_laid hL)).mono fun e W' ⟨he, hw⟩ => ?_
  subst he
  refine ⟨_, rfl, _, _, _, [], [], [], hW', ?_, ?_, rfl, Below.frame hw _, fun h => by cases h⟩
  · exact trodAll_mk1 (shut_bool Tryd.underlying4 _)
  · exact trodAll_mk2 (shut_string Tryd.underlying9 ws) (shut_int Tryd.underlying2 wn)

theorem numTexts_said : Rows.NumTextsSaid :=
  OpenClaim.holds_of_wide 7 Tryd.f7 rfl rfl rfl rfl rfl rfl rfl ⟨rfl, rfl, rfl, rfl, rfl⟩ rfl rfl rfl rfl rfl (by kernel_rfl) Tryd.func7 (by kernel_rfl)
    (of_decide_eq_true (by kernel_rfl)) (by unfold Func.isWrapper; first | (rw [if_pos (by decide +kernel)]; kernel_rfl) | (rw [if_neg (by decide +kernel)]; exact ⟨rfl, rfl⟩))
    (fun os started H enc _ => numTexts_lifted os started H enc)

theorem numTexts_card : Rows.NumTextsCardSaid :=
  Claim7.holds_tied_plain_at .later [] [.data, .data, .data, .sentinel, .sentinel, .data] true (true, "847b8a52e8b586cb235d3b9e769f39e99c422cdabe71d8d3c8745244cdda13f7") true
    numTexts_said (fun _ h => by cases h) (by kernel_rfl) (fun _ h => by cases h) numTexts_row_tie rfl ⟨rfl, rfl⟩ (by kernel_rfl) rfl
    (fun f fn hf hfn => by
      obtain rfl : f = 7 := Option.some.inj ((show Tryd.prog.funcNamed "jacquard/jacquardlaw1.NumTexts" = some 7 by kernel_rfl).symm.trans hf) |>.symm
      obtain rfl : fn = Tryd.f7 := (Option.some.inj (Tryd.func7.symm.trans hfn)).symm
      exact ⟨by kernel_rfl, fun j t ht => by
        rw [Tryd.params7] at ht
        have hm : t ∈ [9, 2] := by simpa using Array.mem_of_getElem? ht
        have hall : ([9, 2].all fun u => !Tryd.prog.wantsStandIn u) = true := by kernel_rfl
        exact (show Tryd.prog.wantsStandIn t = false by simpa using List.all_eq_true.1 hall t hm)⟩)
    (by kernel_rfl)
#print axioms numTexts_card

end Go.Proofs.YtbhpldjeljlblaaDoor
