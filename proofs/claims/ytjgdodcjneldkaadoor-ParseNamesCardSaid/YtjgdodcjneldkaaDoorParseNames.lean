/- Proved: for every three ints the law ParseNames of layer 3 returns true and leaves its arguments as they were; the condition is that the listed package-level variables hold what the program's text lays, to which the card ties them. -/
import Derived.Test.YtjgdodcjneldkaaDoorNamesW
import Derived.Test.YtjgdodcjneldkaaDoorLift2
namespace Go.Proofs.YtjgdodcjneldkaaDoor
open Go.ChangeShapes Go.WideShapes Go.ChangeAt Go.WideMaps Go.WideElems Go.RowKit
open Go.ChangeMaps (open_string shut_string)

theorem names_second (a b c : Int) (i j : Nat) (hi : bits .and .i64 a 7 = (i : Int)) (hi1 : i < 8) (hj : bits .and .i64 (b / 2) 15 = (j : Int)) (hj1 : j < 16) (hb : (bits .and .i64 b 1 == 1) = true) (hc : (bits .and .i64 c 3 == 3) = false) (w : World) (hw : Lw w) :
    Calls Tryd.prog 3 #[.int .i64 a, .int .i64 b, .int .i64 c] w fun e w' => e = .returned (.bool true) ∧ On w w' := by
  obtain ⟨X1, e1⟩ : ∃ X, lettersX.extract i (i + 1) = X := ⟨_, rfl⟩
  obtain ⟨Y, e2⟩ : ∃ X, lettersX.extract j (j + 1) = X := ⟨_, rfl⟩
  obtain ⟨X, hJ⟩ : ∃ X, X1 ++ Y = X := ⟨_, rfl⟩
  have l1 : X1.data.toList = [L16.getD i 0] := by rw [← e1]; exact lt_list ⟨i, by omega⟩
  have l2 : Y.data.toList = [L16.getD j 0] := by rw [← e2]; exact lt_list ⟨j, by omega⟩
  have lX : X.data.toList = [L16.getD i 0, L16.getD j 0] := by rw [← hJ, list_append, l1, l2]; rfl
  have z1 : X1.size = 1 := by rw [size_list, l1]; rfl
  have z2 : Y.size = 1 := by rw [size_list, l2]; rfl
  have zX : X.size = 2 := by rw [size_list, lX]; rfl
  have hd : Wd X.data.toList := by rw [lX]; exact ⟨⟨_, _, rfl, lt_let ⟨i, hi1⟩, fun d hd => by simp at hd; subst hd; exact lt_word ⟨j, by omega⟩⟩⟩
  have q1 : ((X.size : Int) == 2) = true := by rw [zX]; rfl
  have q5 : ((X.size : Int) == 1) = false := by rw [zX]; rfl
  have b0 := bN_lt (s := X) (i := 0) (by omega)
  have b1 := bN_lt (s := X) (i := 1) (by omega)
  have hB := noloc_code hd (by omega) (by omega)
  by_cases h0 : bN X 0 = 114
  · by_cases h1 : 48 ≤ bN X 1
    · by_cases h2 : bN X 1 ≤ 51
      · exact names_second_reg a b c i j X1 Y X hi hi1 hj hj1 hb hc e1 z1 e2 z2 (by omega) (by omega) (by omega) hJ q1 q5 (by omega) (by omega) (by omega) (reg_code zX h0 ⟨h1, h2⟩) hB w hw
      · exact names_second_n2 a b c i j X1 Y X hi hi1 hj hj1 hb hc e1 z1 e2 z2 (by omega) (by omega) (by omega) hJ q1 q5 (by omega) (by omega) (by omega) (noreg_code hd (by omega) (by unfold regB; simp; omega)) hB w hw
    · exact names_second_n1 a b c i j X1 Y X hi hi1 hj hj1 hb hc e1 z1 e2 z2 (by omega) (by omega) (by omega) hJ q1 q5 (by omega) (by omega) (noreg_code hd (by omega) (by unfold regB; simp; omega)) hB w hw
  · exact names_second_n0 a b c i j X1 Y X hi hi1 hj hj1 hb hc e1 z1 e2 z2 (by omega) (by omega) (by omega) hJ q1 q5 (by rw [beq_eq_false_iff_ne]; omega) (noreg_code hd (by omega) (by unfold regB; simp [h0])) hB w hw

theorem names_third (a b c : Int) (i k : Nat) (hi : bits .and .i64 a 7 = (i : Int)) (hi1 : i < 8) (hj : bits .and .i64 (c / 4) 15 = (k : Int)) (hj1 : k < 16) (hb : (bits .and .i64 b 1 == 1) = false) (hc : (bits .and .i64 c 3 == 3) = true) (w : World) (hw : Lw w) :
    Calls Tryd.prog 3 #[.int .i64 a, .int .i64 b, .int .i64 c] w fun e w' => e = .returned (.bool true) ∧ On w w' := by
  obtain ⟨X1, e1⟩ : ∃ X, lettersX.extract i (i + 1) = X := ⟨_, rfl⟩
  obtain ⟨Y, e2⟩ : ∃ X, lettersX.extract k (k + 1) = X := ⟨_, rfl⟩
  obtain ⟨X, hJ⟩ : ∃ X, X1 ++ Y = X := ⟨_, rfl⟩
  have l1 : X1.data.toList = [L16.getD i 0] := by rw [← e1]; exact lt_list ⟨i, by omega⟩
  have l2 : Y.data.toList = [L16.getD k 0] := by rw [← e2]; exact lt_list ⟨k, by omega⟩
  have lX : X.data.toList = [L16.getD i 0, L16.getD k 0] := by rw [← hJ, list_append, l1, l2]; rfl
  have z1 : X1.size = 1 := by rw [size_list, l1]; rfl
  have z2 : Y.size = 1 := by rw [size_list, l2]; rfl
  have zX : X.size = 2 := by rw [size_list, lX]; rfl
  have hd : Wd X.data.toList := by rw [lX]; exact ⟨⟨_, _, rfl, lt_let ⟨i, hi1⟩, fun d hd => by simp at hd; subst hd; exact lt_word ⟨k, by omega⟩⟩⟩
  have q1 : ((X.size : Int) == 2) = true := by rw [zX]; rfl
  have q5 : ((X.size : Int) == 1) = false := by rw [zX]; rfl
  have b0 := bN_lt (s := X) (i := 0) (by omega)
  have b1 := bN_lt (s := X) (i := 1) (by omega)
  have hB := noloc_code hd (by omega) (by omega)
  by_cases h0 : bN X 0 = 114
  · by_cases h1 : 48 ≤ bN X 1
    · by_cases h2 : bN X 1 ≤ 51
      · exact names_third_reg a b c i k X1 Y X hi hi1 hj hj1 hb hc e1 z1 e2 z2 (by omega) (by omega) (by omega) hJ q1 q5 (by omega) (by omega) (by omega) (reg_code zX h0 ⟨h1, h2⟩) hB w hw
      · exact names_third_n2 a b c i k X1 Y X hi hi1 hj hj1 hb hc e1 z1 e2 z2 (by omega) (by omega) (by omega) hJ q1 q5 (by omega) (by omega) (by omega) (noreg_code hd (by omega) (by unfold regB; simp; omega)) hB w hw
    · exact names_third_n1 a b c i k X1 Y X hi hi1 hj hj1 hb hc e1 z1 e2 z2 (by omega) (by omega) (by omega) hJ q1 q5 (by omega) (by omega) (noreg_code hd (by omega) (by unfold regB; simp; omega)) hB w hw
  · exact names_third_n0 a b c i k X1 Y X hi hi1 hj hj1 hb hc e1 z1 e2 z2 (by omega) (by omega) (by omega) hJ q1 q5 (by rw [beq_eq_false_iff_ne]; omega) (noreg_code hd (by omega) (by unfold regB; simp [h0])) hB w hw

theorem parseNames_walk (a b c : Int) (w : World) (hw : Lw w) :
    Calls Tryd.prog 3 #[.int .i64 a, .int .i64 b, .int .i64 c] w fun e w' => e = .returned (.bool true) ∧ On w w' := by
  obtain ⟨i, hi, hi1⟩ : ∃ i : Nat, bits .and .i64 a 7 = (i : Int) ∧ i < 8 := ⟨(a % 8).toNat, by rw [i64_and7]; omega, by omega⟩
  obtain ⟨j, hj, hj1⟩ : ∃ i : Nat, bits .and .i64 (b / 2) 15 = (i : Int) ∧ i < 16 := ⟨(b / 2 % 16).toNat, by rw [i64_and15]; omega, by omega⟩
  obtain ⟨k, hk, hk1⟩ : ∃ i : Nat, bits .and .i64 (c / 4) 15 = (i : Int) ∧ i < 16 := ⟨(c / 4 % 16).toNat, by rw [i64_and15]; omega, by omega⟩
  cases hb : (bits .and .i64 b 1 == 1) with
  | true =>
    cases hc : (bits .and .i64 c 3 == 3) with
    | false => exact names_second a b c i j hi hi1 hj hj1 hb hc w hw
    | true =>
      obtain ⟨X1, e1⟩ : ∃ X, lettersX.extract i (i + 1) = X := ⟨_, rfl⟩
      obtain ⟨X2, e2⟩ : ∃ X, lettersX.extract j (j + 1) = X := ⟨_, rfl⟩
      obtain ⟨X3, e3⟩ : ∃ X, lettersX.extract k (k + 1) = X := ⟨_, rfl⟩
      obtain ⟨X12, hJ0⟩ : ∃ X, X1 ++ X2 = X := ⟨_, rfl⟩
      obtain ⟨X, hJ⟩ : ∃ X, X12 ++ X3 = X := ⟨_, rfl⟩
      have l1 : X1.data.toList = [L16.getD i 0] := by rw [← e1]; exact lt_list ⟨i, by omega⟩
      have l2 : X2.data.toList = [L16.getD j 0] := by rw [← e2]; exact lt_list ⟨j, by omega⟩
      have l3 : X3.data.toList = [L16.getD k 0] := by rw [← e3]; exact lt_list ⟨k, by omega⟩
      have l12 : X12.data.toList = [L16.getD i 0, L16.getD j 0] := by rw [← hJ0, list_append, l1, l2]; rfl
      have lX : X.data.toList = [L16.getD i 0, L16.getD j 0, L16.getD k 0] := by rw [← hJ, list_append, l12, l3]; rfl
      have z1 : X1.size = 1 := by rw [size_list, l1]; rfl
      have z2 : X2.size = 1 := by rw [size_list, l2]; rfl
      have z3 : X3.size = 1 := by rw [size_list, l3]; rfl
      have z12 : X12.size = 2 := by rw [size_list, l12]; rfl
      have zX : X.size = 3 := by rw [size_list, lX]; rfl
      have hd : Wd X.data.toList := by
        rw [lX]
        refine ⟨⟨_, _, rfl, lt_let ⟨i, hi1⟩, fun d hd => ?_⟩⟩
        simp at hd
        rcases hd with rfl | rfl
        · exact lt_word ⟨j, hj1⟩
        · exact lt_word ⟨k, hk1⟩
      exact names_three a b c i j k X1 X2 X3 X12 X hi hi1 hj hj1 hk hk1 hb hc e1 z1 e2 z2 e3 z3 (by omega) hJ0 z12 hJ (by rw [zX]; rfl) (by rw [zX]; rfl) (noreg_code hd (by omega) (by unfold regB; simp [zX])) (noloc_code hd (by omega) (by omega)) w hw
  | false =>
    cases hc : (bits .and .i64 c 3 == 3) with
    | true => exact names_third a b c i k hi hi1 hk hk1 hb hc w hw
    | false =>
      obtain ⟨X1, e1⟩ : ∃ X, lettersX.extract i (i + 1) = X := ⟨_, rfl⟩
      have l1 : X1.data.toList = [L16.getD i 0] := by rw [← e1]; exact lt_list ⟨i, by omega⟩
      have z1 : X1.size = 1 := by rw [size_list, l1]; rfl
      have hd : Wd X1.data.toList := by rw [l1]; exact ⟨⟨_, _, rfl, lt_let ⟨i, hi1⟩, fun d hd => by simp at hd⟩⟩
      have hB : (parseP (aB X1)).2 = (0, 0) := by rw [aB_is, l1]; exact good_loc ⟨i, hi1⟩
      exact names_one a b c i X1 X1 hi hi1 hb hc e1 z1 (by omega) rfl (by rw [z1]; rfl) (by rw [z1]; rfl) (noreg_code hd (by omega) (by unfold regB; simp [z1])) hB w hw

set_option maxRecDepth 100000 in
theorem parseNames_lifted (os : Os) (started : os.Started) (H : Type) (enc : TypeId × Value → H) :
    ReturnsInHanded {} Tryd.checked os 3 .any (fun w args => (Rows.parseNamesSpec.pre enc Tryd.prog Tryd.f3 [] false w args ∧ laidMetH Tryd.prog laidL w) ∧ sizedMet enc Tryd.prog Tryd.f3 (OpenSpec.ofChange Rows.parseNamesSpec) false w args)
      (Rows.parseNamesSpec.post enc Tryd.prog Tryd.f3 false true false false) := by
  refine returnsInHanded_of_change_and (C := Tryd.checked) (X := fun w _ => laidMetH Tryd.prog laidL w) (fun _ _ _ hh h => h.of_heap hh) own started (by kernel_rfl) Tryd.func3
    (ChangeSpec.witness_shaped (enc := enc) (C := Tryd.checked) (os := os) (X := fun w _ => laidMetH Tryd.prog laidL w) false (World.doorLaid Tryd.prog 400 os) #[.int .i64 0, .int .i64 0, .int .i64 0] 8 rfl (World.shaped_of_RefB (by kernel_rfl) (by kernel_rfl)) (by kernel_rfl) (by kernel_rfl) (by kernel_rfl) (door_met os _)) ?_
  intro W base args ds gs before hval0 hW _ _ hL _
  have hval : ∀ (j : Nat) t v, Tryd.f3.params[j]? = some t → args[j]? = some v → Value.okWide Tryd.prog W .any base t v := hval0
  have hW' := hW
  obtain ⟨p, q, hA0, hV, rfl, hfz, hnd⟩ := hW
  have hA : DataW.TrodAll enc Tryd.prog W 0 (fun _ => true) true Tryd.f3.params.toList args.toList ds p := hA0
  rw [Tryd.params3] at hA hval
  obtain ⟨v0, v1, v2, d0, d1, d2, p0, p1, p2, rfl, rfl, rfl, h0, h1, h2⟩ := trodAll_three hA
  obtain ⟨rfl, rfl⟩ := trodVars_none hV
  obtain ⟨a, rfl, rfl, rfl, wa⟩ := open_int Tryd.underlying3 (hval 0 3 v0 rfl rfl) h0
  obtain ⟨a0, a1⟩ := bd wa
  obtain ⟨b, rfl, rfl, rfl, wb⟩ := open_int Tryd.underlying3 (hval 1 3 v1 rfl rfl) h1
  obtain ⟨b0, b1⟩ := bd wb
  obtain ⟨c, rfl, rfl, rfl, wc⟩ := open_int Tryd.underlying3 (hval 2 3 v2 rfl rfl) h2
  obtain ⟨c0, c1⟩ := bd wc
  clear hA0 hval0
  simp only [List.append_nil] at hW'
  refine (parseNames_walk a b c W (of_laid hL)).mono fun e W' ⟨he, hw⟩ => ?_
  subst he
  refine ⟨_, rfl, _, _, _, [], [], [], hW', ?_, ?_, rfl, Below.frame hw _, fun h => by cases h⟩
  · exact trodAll_mk1 (shut_bool Tryd.underlying4 _)
  · exact trodAll_mk3 (shut_int Tryd.underlying3 wa) (shut_int Tryd.underlying3 wb) (shut_int Tryd.underlying3 wc)

theorem parseNames_said : Rows.ParseNamesSaid :=
  OpenClaim.holds_of_wide 3 Tryd.f3 rfl rfl rfl rfl rfl rfl rfl ⟨rfl, rfl, rfl, rfl, rfl⟩ rfl rfl rfl rfl rfl (by kernel_rfl) Tryd.func3 (by kernel_rfl)
    (of_decide_eq_true (by kernel_rfl)) (by unfold Func.isWrapper; first | (rw [if_pos (by decide +kernel)]; kernel_rfl) | (rw [if_neg (by decide +kernel)]; exact ⟨rfl, rfl⟩))
    (fun os started H enc _ => parseNames_lifted os started H enc)

theorem parseNames_card : Rows.ParseNamesCardSaid :=
  Claim7.holds_tied_plain_at .later [] [.data, .data, .data, .sentinel, .sentinel, .data] true (true, "d2575fab53ac6279a61a111d1a369824273a5ef11e4be0e900c6a871a358fd09") true
    parseNames_said (fun _ h => by cases h) (by kernel_rfl) (fun _ h => by cases h) parseNames_row_tie rfl ⟨rfl, rfl⟩ (by kernel_rfl) rfl
    (fun f fn hf hfn => by
      obtain rfl : f = 3 := Option.some.inj ((show Tryd.prog.funcNamed "jacquard/jacquardlaw3.ParseNames" = some 3 by kernel_rfl).symm.trans hf) |>.symm
      obtain rfl : fn = Tryd.f3 := (Option.some.inj (Tryd.func3.symm.trans hfn)).symm
      exact ⟨by kernel_rfl, fun j t ht => by
        rw [Tryd.params3] at ht
        have hm : t ∈ [3, 3, 3] := by simpa using Array.mem_of_getElem? ht
        have hall : ([3, 3, 3].all fun u => !Tryd.prog.wantsStandIn u) = true := by kernel_rfl
        exact (show Tryd.prog.wantsStandIn t = false by simpa using List.all_eq_true.1 hall t hm)⟩)
    (by kernel_rfl)
#print axioms parseNames_card

end Go.Proofs.YtjgdodcjneldkaaDoor
