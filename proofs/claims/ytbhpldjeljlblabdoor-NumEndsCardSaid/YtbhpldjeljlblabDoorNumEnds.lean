/- Proved: for every int and every bool the law NumEnds of layer 1 returns true and leaves its arguments as they were; the condition is that the listed package-level variables hold what the program's text lays, to which the card ties them. -/
import Derived.Test.YtbhpldjeljlblabDoorLift
import Derived.Test.YtbhpldjeljlblabDoorRead
namespace Go.Proofs.YtbhpldjeljlblabDoor
open Go.ChangeShapes Go.WideShapes Go.ChangeAt Go.WideMaps Go.WideElems Go.RowKit

def nine : List UInt8 := [57, 50, 50, 51, 51, 55, 50, 48, 51, 54, 56, 53, 52, 55, 55, 53, 56, 48]
theorem nine_is : Lib.decDigits 922337203685477580 = nine := by simp [Lib.decDigits, nine]
theorem nine_more (r : Nat) (h : r ≤ 9) : Lib.decDigits (9223372036854775800 + r) = nine ++ [UInt8.ofNat (48 + r)] := by
  rw [Lib.decDigits, dif_neg (by omega), show (9223372036854775800 + r) / 10 = 922337203685477580 by omega, show (9223372036854775800 + r) % 10 = r by omega, nine_is]
theorem itoa_up (r : Nat) (h : r ≤ 9) : Lib.itoa (9223372036854775800 + r) = nine ++ [UInt8.ofNat (48 + r)] := by
  unfold Lib.itoa
  rw [if_neg (by omega), show ((9223372036854775800 : Int) + r).toNat = 9223372036854775800 + r by omega, nine_more r h]
theorem itoa_down (r : Nat) (h : r ≤ 9) : Lib.itoa (-(9223372036854775800 + r)) = 45 :: (nine ++ [UInt8.ofNat (48 + r)]) := by
  unfold Lib.itoa
  rw [if_pos (by omega), show (-((9223372036854775800 : Int) + r)).natAbs = 9223372036854775800 + r by omega, nine_more r h]
theorem over_up : ∀ r : Fin 10, 8 ≤ r.val → Lib.parseIntB 64 (nine ++ [UInt8.ofNat (48 + r.val)]) = .range := by decide
theorem over_down : ∀ r : Fin 10, 9 ≤ r.val → Lib.parseIntB 64 (45 :: (nine ++ [UInt8.ofNat (48 + r.val)])) = .range := by decide
theorem more_up : ∀ r : Fin 10, Lib.parseIntB 64 (nine ++ [UInt8.ofNat (48 + r.val)] ++ [48]) = .range := by decide
theorem more_down : ∀ r : Fin 10, Lib.parseIntB 64 (45 :: (nine ++ [UInt8.ofNat (48 + r.val)]) ++ [48]) = .range := by decide
theorem ahead_down : ∀ r : Fin 10, (match Lib.parseIntB 64 (48 :: 45 :: (nine ++ [UInt8.ofNat (48 + r.val)])) with | .ok _ => true | _ => false) = false := by decide
theorem ahead_up (l : List UInt8) (h : l ≠ []) : parseV (48 :: l) = none := by
  cases e : parseV (48 :: l) with
  | none => rfl
  | some v => exact absurd (itoa_lead v l (parseV_of e)) h
theorem minus_nought : parseV [45, 48] = none := by
  cases e : parseV [45, 48] with
  | none => rfl
  | some v => exact absurd (parseV_of e) (itoa_minus v [])

theorem digit_cut : ∀ r : Fin 10, (ByteArray.mk #[48, 49, 50, 51, 52, 53, 54, 55, 56, 57]).extract r.val (r.val + 1) = ⟨#[UInt8.ofNat (48 + r.val)]⟩ := by
  intro r
  rw [ByteArray.extract_mk]
  revert r
  decide

section
set_option maxHeartbeats 1000000
theorem ends_yes (d : Int) (r : Nat) (h9 : r ≤ 9) (hd : d % 256 % 10 = r) (t s0 s sa sb : ByteArray) (hx : (ByteArray.mk #[48, 49, 50, 51, 52, 53, 54, 55, 56, 57]).extract r (r + 1) = t)
    (hs0 : (ByteArray.mk #[57, 50, 50, 51, 51, 55, 50, 48, 51, 54, 56, 53, 52, 55, 55, 53, 56, 48]) ++ t = s0) (hsa : s ++ ByteArray.mk #[48] = sa) (hsb : ByteArray.mk #[48] ++ s = sb)
    (ha : pB sa = false) (hb : pB sb = false) (hc : pB ⟨#[45, 48]⟩ = false)
    (w : World) (hP : ∀ x w1, (x = s ∨ x = sa ∨ x = sb ∨ x = ⟨#[45, 48]⟩) → On w w1 → Calls Tryd.prog 9 #[.string x] w1 fun e w' => e = .returned (.tuple #[.int .i64 (pN x), .bool (pB x)]) ∧ On w1 w')
    (hT : ∀ w1, pB s = true → On w w1 → Calls Tryd.prog 10 #[.int .i64 (pN s)] w1 fun e w' => e = .returned (.string s) ∧ On w1 w')
    (hA : ∀ w1, On w w1 → Calls Tryd.prog 7 #[] w1 fun e w' => e = .returned (.bool true) ∧ On w1 w')
    (neg : Bool) (hs : (if neg then ByteArray.mk #[45] ++ s0 else s0) = s) (hr : r ≤ if neg then 8 else 7) (hok : pB s = true) (z1 : t.size ≤ 1) (z2 : s0.size ≤ 19) (z3 : s.size ≤ 20) :
    Calls Tryd.prog 5 #[.int .i64 d, .bool neg] w fun e w' => e = .returned (.bool true) ∧ On w w' := by
  have h255 : bits .and .i64 d 255 = d % 256 := i64_and255 d
  have hT' := fun w1 => hT w1 hok
  have k := On.refl w
  clear hT
  cases neg
  · simp only [Bool.false_eq_true, if_false] at hs hr
    subst hs
    go_enter Tryd.func5, Tryd.ntmps5
    go_wp2_with (first | (go_at_call 9; refine (hP _ _ ?_ k).mono ?_; (first | exact Or.inl rfl | exact Or.inr (Or.inl rfl) | exact Or.inr (Or.inr (Or.inl rfl)) | exact Or.inr (Or.inr (Or.inr rfl))); rintro e w1 ⟨rfl, k1⟩; replace k := k.trans k1; clear k1) | (go_at_call 10; refine (hT' _ k).mono ?_; rintro e w1 ⟨rfl, k1⟩; replace k := k.trans k1; clear k1) | (go_at_call 7; refine (hA _ k).mono ?_; rintro e w1 ⟨rfl, k1⟩; replace k := k.trans k1; clear k1))
    go_ret
    exact ⟨rfl, k⟩
  · simp only [if_true] at hs hr
    go_enter Tryd.func5, Tryd.ntmps5
    go_wp2_with (first | (go_at_call 9; refine (hP _ _ ?_ k).mono ?_; (first | exact Or.inl rfl | exact Or.inr (Or.inl rfl) | exact Or.inr (Or.inr (Or.inl rfl)) | exact Or.inr (Or.inr (Or.inr rfl))); rintro e w1 ⟨rfl, k1⟩; replace k := k.trans k1; clear k1) | (go_at_call 10; refine (hT' _ k).mono ?_; rintro e w1 ⟨rfl, k1⟩; replace k := k.trans k1; clear k1) | (go_at_call 7; refine (hA _ k).mono ?_; rintro e w1 ⟨rfl, k1⟩; replace k := k.trans k1; clear k1))
    go_ret
    exact ⟨rfl, k⟩
theorem ends_no (d : Int) (r : Nat) (h9 : r ≤ 9) (hd : d % 256 % 10 = r) (t s0 s sa sb : ByteArray) (hx : (ByteArray.mk #[48, 49, 50, 51, 52, 53, 54, 55, 56, 57]).extract r (r + 1) = t)
    (hs0 : (ByteArray.mk #[57, 50, 50, 51, 51, 55, 50, 48, 51, 54, 56, 53, 52, 55, 55, 53, 56, 48]) ++ t = s0) (hsa : s ++ ByteArray.mk #[48] = sa) (hsb : ByteArray.mk #[48] ++ s = sb)
    (ha : pB sa = false) (hb : pB sb = false) (hc : pB ⟨#[45, 48]⟩ = false)
    (w : World) (hP : ∀ x w1, (x = s ∨ x = sa ∨ x = sb ∨ x = ⟨#[45, 48]⟩) → On w w1 → Calls Tryd.prog 9 #[.string x] w1 fun e w' => e = .returned (.tuple #[.int .i64 (pN x), .bool (pB x)]) ∧ On w1 w')
    (hA : ∀ w1, On w w1 → Calls Tryd.prog 7 #[] w1 fun e w' => e = .returned (.bool true) ∧ On w1 w')
    (neg : Bool) (hs : (if neg then ByteArray.mk #[45] ++ s0 else s0) = s) (hr : (if neg then 8 else 7) < r) (hok : pB s = false) (hn : pN s = 0) (z1 : t.size ≤ 1) (z2 : s0.size ≤ 19) (z3 : s.size ≤ 20) :
    Calls Tryd.prog 5 #[.int .i64 d, .bool neg] w fun e w' => e = .returned (.bool true) ∧ On w w' := by
  have h255 : bits .and .i64 d 255 = d % 256 := i64_and255 d
  have k := On.refl w
  cases neg
  · simp only [Bool.false_eq_true, if_false] at hs hr
    subst hs
    have hq : decide ((r : Int) ≤ 7) = false := by simp; omega
    go_enter Tryd.func5, Tryd.ntmps5
    go_wp2_with (first | (go_at_call 9; refine (hP _ _ ?_ k).mono ?_; (first | exact Or.inl rfl | exact Or.inr (Or.inl rfl) | exact Or.inr (Or.inr (Or.inl rfl)) | exact Or.inr (Or.inr (Or.inr rfl))); rintro e w1 ⟨rfl, k1⟩; replace k := k.trans k1; clear k1) | (go_at_call 7; refine (hA _ k).mono ?_; rintro e w1 ⟨rfl, k1⟩; replace k := k.trans k1; clear k1))
    go_ret
    exact ⟨rfl, k⟩
  · simp only [if_true] at hs hr
    have hq : decide ((r : Int) ≤ 8) = false := by simp; omega
    go_enter Tryd.func5, Tryd.ntmps5
    go_wp2_with (first | (go_at_call 9; refine (hP _ _ ?_ k).mono ?_; (first | exact Or.inl rfl | exact Or.inr (Or.inl rfl) | exact Or.inr (Or.inr (Or.inl rfl)) | exact Or.inr (Or.inr (Or.inr rfl))); rintro e w1 ⟨rfl, k1⟩; replace k := k.trans k1; clear k1) | (go_at_call 7; refine (hA _ k).mono ?_; rintro e w1 ⟨rfl, k1⟩; replace k := k.trans k1; clear k1))
    go_ret
    exact ⟨rfl, k⟩
end

theorem list_append (a b : ByteArray) : (a ++ b).data.toList = a.data.toList ++ b.data.toList := by
  obtain ⟨⟨x⟩⟩ := a
  obtain ⟨⟨y⟩⟩ := b
  rfl
theorem size_list (a : ByteArray) : a.size = a.data.toList.length := by
  obtain ⟨⟨x⟩⟩ := a
  rfl

theorem numEnds_walk (d : Int) (neg : Bool) (w : World) (hw : Lw w) :
    Calls Tryd.prog 5 #[.int .i64 d, .bool neg] w fun e w' => e = .returned (.bool true) ∧ On w w' := by
  obtain ⟨r, hr⟩ : ∃ r : Nat, d % 256 % 10 = r := ⟨(d % 256 % 10).toNat, by omega⟩
  have h9 : r ≤ 9 := by omega
  have hx := digit_cut ⟨r, by omega⟩
  have hA : ∀ w1, On w w1 → Calls Tryd.prog 7 #[] w1 fun e w' => e = .returned (.bool true) ∧ On w1 w' := fun w1 k => awake_any w1 (hw.on k)
  obtain ⟨t, ht⟩ : ∃ t : ByteArray, t = ⟨#[UInt8.ofNat (48 + r)]⟩ := ⟨_, rfl⟩
  obtain ⟨s0, hs0⟩ : ∃ s0 : ByteArray, (ByteArray.mk #[57, 50, 50, 51, 51, 55, 50, 48, 51, 54, 56, 53, 52, 55, 55, 53, 56, 48]) ++ t = s0 := ⟨_, rfl⟩
  obtain ⟨s, hs⟩ : ∃ s : ByteArray, (if neg then ByteArray.mk #[45] ++ s0 else s0) = s := ⟨_, rfl⟩
  obtain ⟨sa, hsa⟩ : ∃ sa : ByteArray, s ++ ByteArray.mk #[48] = sa := ⟨_, rfl⟩
  obtain ⟨sb, hsb⟩ : ∃ sb : ByteArray, ByteArray.mk #[48] ++ s = sb := ⟨_, rfl⟩
  have lt : t.data.toList = [UInt8.ofNat (48 + r)] := by rw [ht]
  have l0 : s0.data.toList = nine ++ [UInt8.ofNat (48 + r)] := by rw [← hs0, list_append, lt]; rfl
  have ls : s.data.toList = (if neg then [45] else []) ++ (nine ++ [UInt8.ofNat (48 + r)]) := by
    rw [← hs]
    cases neg
    · exact l0
    · simp only [if_true]; rw [list_append, l0]
  have la : sa.data.toList = s.data.toList ++ [48] := by rw [← hsa, list_append]
  have lb : sb.data.toList = 48 :: s.data.toList := by rw [← hsb, list_append]; rfl
  have n18 : nine.length = 18 := by decide
  have z1 : t.size ≤ 1 := by rw [size_list, lt]; simp
  have z2 : s0.size ≤ 19 := by rw [size_list, l0, List.length_append, n18]; simp
  have z3 : s.size ≤ 20 := by rw [size_list, ls, List.length_append, List.length_append, n18]; cases neg <;> simp
  have z4 : sa.size ≤ 21 := by rw [size_list, la, List.length_append, ← size_list]; simp; omega
  have z5 : sb.size ≤ 21 := by rw [size_list, lb, List.length_cons, ← size_list]; omega
  have hP : ∀ x w1, (x = s ∨ x = sa ∨ x = sb ∨ x = ⟨#[45, 48]⟩) → On w w1 → Calls Tryd.prog 9 #[.string x] w1 fun e w' => e = .returned (.tuple #[.int .i64 (pN x), .bool (pB x)]) ∧ On w1 w' := by
    intro x w1 hx k
    refine parse_is x ?_ w1 (hw.on k)
    rcases hx with rfl | rfl | rfl | rfl
    · omega
    · omega
    · omega
    · decide
  have hc : pB ⟨#[45, 48]⟩ = false := by unfold pB; rw [show (ByteArray.mk #[45, 48]).data.toList = [45, 48] from rfl, minus_nought]; rfl
  have ha : pB sa = false := by
    unfold pB
    rw [la, ls, parseV_range]
    · rfl
    · cases neg
      · exact more_up ⟨r, by omega⟩
      · exact more_down ⟨r, by omega⟩
  have hb : pB sb = false := by
    unfold pB
    rw [lb, ls]
    cases neg
    · rw [ahead_up _ (by simp)]; rfl
    · rw [parseV_no]
      · rfl
      · exact ahead_down ⟨r, by omega⟩
  have hT : ∀ w1, pB s = true → On w w1 → Calls Tryd.prog 10 #[.int .i64 (pN s)] w1 fun e w' => e = .returned (.string s) ∧ On w1 w' := by
    intro w1 hok k
    unfold pB at hok
    cases e : parseV s.data.toList with
    | none => rw [e] at hok; cases hok
    | some v =>
      have ev : pN s = v := by unfold pN; rw [e]; rfl
      have hv := parseV_bound e
      rw [ev]
      exact text_at v s hv.1 hv.2 (parseV_of e) w1 (hw.on k)
  by_cases hm : r ≤ if neg then 8 else 7
  · refine ends_yes d r h9 hr t s0 s sa sb (by rw [ht]; exact hx) hs0 hsa hsb ha hb hc w hP hT hA neg hs hm ?_ z1 z2 z3
    unfold pB
    rw [ls]
    cases neg
    · simp only [Bool.false_eq_true, if_false] at hm
      exact congrArg Option.isSome (parseV_itoa (9223372036854775800 + r) (by omega) (by omega) (itoa_up r h9))
    · simp only [if_true] at hm
      exact congrArg Option.isSome (parseV_itoa (-(9223372036854775800 + r)) (by omega) (by omega) (itoa_down r h9))
  · have hv : parseV s.data.toList = none := by
      rw [ls, parseV_range]
      cases neg
      · simp only [Bool.false_eq_true, if_false] at hm
        exact over_up ⟨r, by omega⟩ (by show 8 ≤ r; omega)
      · simp only [if_true] at hm
        exact over_down ⟨r, by omega⟩ (by show 9 ≤ r; omega)
    exact ends_no d r h9 hr t s0 s sa sb (by rw [ht]; exact hx) hs0 hsa hsb ha hb hc w hP hA neg hs (by omega) (by unfold pB; rw [hv]; rfl) (by unfold pN; rw [hv]; rfl) z1 z2 z3

set_option maxRecDepth 100000 in
theorem numEnds_lifted (os : Os) (started : os.Started) (H : Type) (enc : TypeId × Value → H) :
    ReturnsInHanded {} Tryd.checked os 5 .any (fun w args => (Rows.numEndsSpec.pre enc Tryd.prog Tryd.f5 [] false w args ∧ laidMetH Tryd.prog laidL w) ∧ sizedMet enc Tryd.prog Tryd.f5 (OpenSpec.ofChange Rows.numEndsSpec) false w args)
      (Rows.numEndsSpec.post enc Tryd.prog Tryd.f5 false true false false) := by
  refine returnsInHanded_of_change_and (C := Tryd.checked) (X := fun w _ => laidMetH Tryd.prog laidL w) (fun _ _ _ hh h => h.of_heap hh) own started (by kernel_rfl) Tryd.func5
    (ChangeSpec.witness_shaped (enc := enc) (C := Tryd.checked) (os := os) (X := fun w _ => laidMetH Tryd.prog laidL w) false (World.doorLaid Tryd.prog 400 os) #[.int .i64 0, .bool false] 8 rfl (World.shaped_of_RefB (by kernel_rfl) (by kernel_rfl)) (by kernel_rfl) (by kernel_rfl) (by kernel_rfl) (door_met os _)) ?_
  intro W base args ds gs before hval0 hW _ _ hL _
  have hval : ∀ (j : Nat) t v, Tryd.f5.params[j]? = some t → args[j]? = some v → Value.okWide Tryd.prog W .any base t v := hval0
  have hW' := hW
  obtain ⟨p, q, hA0, hV, rfl, hfz, hnd⟩ := hW
  have hA : DataW.TrodAll enc Tryd.prog W 0 (fun _ => true) true Tryd.f5.params.toList args.toList ds p := hA0
  rw [Tryd.params5] at hA hval
  obtain ⟨v0, v1, d0, d1, p0, p1, rfl, rfl, rfl, h0, h1⟩ := trodAll_two hA
  obtain ⟨rfl, rfl⟩ := trodVars_none hV
  obtain ⟨d, rfl, rfl, rfl, wd⟩ := open_int Tryd.underlying3 (hval 0 3 v0 rfl rfl) h0
  obtain ⟨d0, d1⟩ := bd wd
  obtain ⟨n, rfl, rfl, rfl⟩ := open_bool Tryd.underlying4 (hval 1 4 v1 rfl rfl) h1
  clear hA0 hval0
  simp only [List.append_nil] at hW'
  refine (numEnds_walk d n W (of_laid hL)).mono fun e W' ⟨he, hw⟩ => ?_
  subst he
  refine ⟨_, rfl, _, _, _, [], [], [], hW', ?_, ?_, rfl, Below.frame hw _, fun h => by cases h⟩
  · exact trodAll_mk1 (shut_bool Tryd.underlying4 _)
  · exact trodAll_mk2 (shut_int Tryd.underlying3 wd) (shut_bool Tryd.underlying4 n)

theorem numEnds_said : Rows.NumEndsSaid :=
  OpenClaim.holds_of_wide 5 Tryd.f5 rfl rfl rfl rfl rfl rfl rfl ⟨rfl, rfl, rfl, rfl, rfl⟩ rfl rfl rfl rfl rfl (by kernel_rfl) Tryd.func5 (by kernel_rfl)
    (of_decide_eq_true (by kernel_rfl)) (by unfold Func.isWrapper; first | (rw [if_pos (by decide +kernel)]; kernel_rfl) | (rw [if_neg (by decide +kernel)]; exact ⟨rfl, rfl⟩))
    (fun os started H enc _ => numEnds_lifted os started H enc)

theorem numEnds_card : Rows.NumEndsCardSaid :=
  Claim7.holds_tied_plain_at .later [] [.data, .data, .data, .sentinel, .sentinel, .data] true (true, "f4083bbe8384d0f50206a0ce7b1f6f973aeaf029823d5be0fcc276c7493fe9c7") true
    numEnds_said (fun _ h => by cases h) (by kernel_rfl) (fun _ h => by cases h) numEnds_row_tie rfl ⟨rfl, rfl⟩ (by kernel_rfl) rfl
    (fun f fn hf hfn => by
      obtain rfl : f = 5 := Option.some.inj ((show Tryd.prog.funcNamed "jacquard/jacquardlaw1.NumEnds" = some 5 by kernel_rfl).symm.trans hf) |>.symm
      obtain rfl : fn = Tryd.f5 := (Option.some.inj (Tryd.func5.symm.trans hfn)).symm
      exact ⟨by kernel_rfl, fun j t ht => by
        rw [Tryd.params5] at ht
        have hm : t ∈ [3, 4] := by simpa using Array.mem_of_getElem? ht
        have hall : ([3, 4].all fun u => !Tryd.prog.wantsStandIn u) = true := by kernel_rfl
        exact (show Tryd.prog.wantsStandIn t = false by simpa using List.all_eq_true.1 hall t hm)⟩)
    (by kernel_rfl)
#print axioms numEnds_card

end Go.Proofs.YtbhpldjeljlblabDoor
