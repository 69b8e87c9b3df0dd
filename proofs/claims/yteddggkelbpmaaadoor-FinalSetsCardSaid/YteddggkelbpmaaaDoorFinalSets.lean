/- FinalSets: sorted twice is sorted once; what is taken away and what is left are all. -/
import Derived.Test.YteddggkelbpmaaaDoorAwake13
import Derived.Test.YteddggkelbpmaaaDoorFinR
namespace Go.Proofs.YteddggkelbpmaaaDoor
open Go.RowKit

theorem cnt_part (S : List FinT) (p : FinT → Bool) : (S.filter p).length + (S.filter (fun x => !p x)).length = S.length := by
  induction S with
  | nil => rfl
  | cons x S ih =>
    by_cases h : p x = true
    · rw [List.filter_cons_of_pos h, List.filter_cons_of_neg (by simp [h])]
      simp only [List.length_cons]
      omega
    · rw [List.filter_cons_of_neg h, List.filter_cons_of_pos (by simpa using h)]
      simp only [List.length_cons]
      omega
theorem rd_at {W : World} {a : Option Addr} {c n : Nat} {L : List FinT} {x : FinT} (h : Rd finC 20 W (.slice a L.length c) L) (hx : L[n]? = some x) : ∃ g o, a = some ⟨g, o, none⟩ ∧ ∀ W', On W W' → W'.rangeAt g (o + n * 20) (finC x) := by
  obtain ⟨g, o, e, _, _⟩ := h.at hx
  refine ⟨g, o, e, fun W' k => ?_⟩
  obtain ⟨g', o', e', _, hc⟩ := (h.on k).at hx
  rw [e] at e'
  simp only [Option.some.injEq, Addr.mk.injEq] at e'
  obtain ⟨rfl, rfl, _⟩ := e'
  exact hc
set_option maxRecDepth 8000 in
set_option maxHeartbeats 4000000 in
theorem finalSets_walk (a : Option Addr) (A : List FinT) (c : Nat) (b : Option Addr) (B : List FinT) (d : Nat) (w : World) (hA : Rd finC 20 w (.slice a A.length c) A) (hB : Rd finC 20 w (.slice b B.length d) B) (hP : Pw w) :
    Calls Tryd.prog 4 #[.slice a A.length c, .slice b B.length d] w fun e w' => e = .returned (.bool true) ∧ On w w' := by
  obtain ⟨_, _, _, _, ma⟩ := hA.slice
  obtain ⟨_, _, _, _, mb⟩ := hB.slice
  have HA : Hid (Rd finC 20 w (.slice a A.length c) A) := hA
  have HB : Hid (Rd finC 20 w (.slice b B.length d) B) := hB
  have HW : Hid (∀ W, On w W → Calls Tryd.prog 10 #[] W fun e w' => e = .returned (.bool true) ∧ On W w') := fun W k => awake13_is W (hP.on k)
  clear hA hB hP
  by_cases h1 : 50 < A.length
  · have d1 : decide ((50 : Int) < (A.length : Int)) = true := decide_eq_true (by omega)
    clear h1
    go_enter Tryd.func4, Tryd.ntmps4
    go_wp2_with fail
    refine (HW.out _ (On.refl w)).mono ?_
    rintro _ w1 ⟨rfl, k1⟩
    go_wp2
    go_ret
    exact ⟨rfl, k1⟩
  · have d1 : decide ((50 : Int) < (A.length : Int)) = false := decide_eq_false (by omega)
    by_cases h2 : 50 < B.length
    · have d2 : decide ((50 : Int) < (B.length : Int)) = true := decide_eq_true (by omega)
      clear h1 h2
      go_enter Tryd.func4, Tryd.ntmps4
      go_wp2_with fail
      refine (HW.out _ (On.refl w)).mono ?_
      rintro _ w1 ⟨rfl, k1⟩
      go_wp2
      go_ret
      exact ⟨rfl, k1⟩
    · have d2 : decide ((50 : Int) < (B.length : Int)) = false := decide_eq_false (by omega)
      have LA : Hid (A.length ≤ 50) := by show _ ≤ _; omega
      have LB : Hid (B.length ≤ 50) := by show _ ≤ _; omega
      have HSo : Hid (Calls Tryd.prog 11 #[.slice a A.length c] w fun e w' => ∃ (v : Value) (M : List FinT), e = .returned v ∧ On w w' ∧ Rd finC 20 w' v M ∧ Ris M ∧ M.length ≤ A.length ∧ ∀ x, x ∈ M ↔ x ∈ A) := fsort_is A a c w HA.out (by omega)
      have HMi : Hid (∀ W, On w W → Calls Tryd.prog 12 #[.slice a A.length c, .slice b B.length d] W fun e w' => ∃ (v : Value) (M : List FinT), e = .returned v ∧ On W w' ∧ Rd finC 20 w' v M ∧ Ris M ∧ M.length ≤ A.length ∧ ∀ x, x ∈ M ↔ x ∈ A ∧ x ∉ B) := fun W k => minus_is A B a b c d W (HA.out.on k) (HB.out.on k) (by omega) (by omega)
      clear h1 h2
      go_enter Tryd.func4, Tryd.ntmps4
      go_wp2_with fail
      refine HSo.out.mono ?_
      rintro _ w1 ⟨vs, S, rfl, k1, RS, hS1, hS2, hS3⟩
      obtain ⟨sa, sc, rfl, _, mS⟩ := RS.slice
      have HRS : Hid (Rd finC 20 w1 (.slice sa S.length sc) S) := RS
      have HS1 : Hid (Ris S) := hS1
      have HS2 : Hid (S.length ≤ A.length) := hS2
      have HS3 : Hid (∀ x, x ∈ S ↔ x ∈ A) := hS3
      clear RS hS1 hS2 hS3 HSo
      go_wp2_with fail
      refine (HMi.out _ k1).mono ?_
      rintro _ w2 ⟨vm, M, rfl, k2, RM, hM1, hM2, hM3⟩
      obtain ⟨ma', mc, rfl, _, mM⟩ := RM.slice
      have HRM : Hid (Rd finC 20 w2 (.slice ma' M.length mc) M) := RM
      have HRS2 : Hid (Rd finC 20 w2 (.slice sa S.length sc) S) := HRS.out.on k2
      have HMF : Hid (M = S.filter (fun x => !decide (x ∈ B))) := ris_ext hM1 (HS1.out.filter _) (fun x => by rw [hM3, List.mem_filter, HS3.out]; simp)
      have K2 : Hid (On w w2) := k1.trans k2
      clear RM hM1 hM2 hM3 k1 k2 HRS
      go_wp2
      go_loopg [7] (S.length - 1) (fun gg s7 wq => ∃ n : Nat, 1 ≤ n ∧ gg = S.length - n ∧ s7 = .int .i64 n ∧ Hid (On w2 wq))
      case atStart => exact ⟨1, Nat.le_refl _, rfl, rfl, On.refl w2⟩
      case round =>
        obtain ⟨n, hn, hk, rfl, HO⟩ := hrel
        rcases Nat.lt_or_ge n S.length with hlt | hge
        · obtain ⟨m, hm⟩ : ∃ m, n = m + 1 := ⟨n - 1, by omega⟩
          obtain ⟨x, hx⟩ : ∃ x, S[m]? = some x := ⟨_, List.getElem?_eq_getElem (by omega)⟩
          obtain ⟨y, hy⟩ : ∃ y, S[n]? = some y := ⟨_, List.getElem?_eq_getElem hlt⟩
          obtain ⟨g1, o1, rfl, hRX⟩ := rd_at HRS2.out hx
          have RX : Hid (∀ W, On w2 W → W.rangeAt g1 (o1 + m * 20) (finC x)) := hRX
          have RY : Hid (∀ W, On w2 W → W.rangeAt g1 (o1 + n * 20) (finC y)) := by
            obtain ⟨g', o', e', h'⟩ := rd_at HRS2.out hy
            simp only [Option.some.injEq, Addr.mk.injEq] at e'
            obtain ⟨rfl, rfl, _⟩ := e'
            exact h'
          have hxy : finCmp x y < 0 := by
            have hp := List.pairwise_iff_getElem.1 HS1.out m n (by omega) hlt (by omega)
            rw [List.getElem?_eq_getElem (by omega)] at hx hy
            rw [Option.some.inj hx, Option.some.inj hy] at hp
            exact hp
          have hless := fun W => fless_is x y W
          rw [decide_eq_true hxy] at hless
          have bn0 : (0 : Int) ≤ (n : Int) := by omega
          have bn1 : (n : Int) < (S.length : Int) := by omega
          have w1' : IntKind.i64.wrap ((n : Int) - 1) = (m : Int) := by rw [IntKind.wrap_i64]; omega
          have bm0 : (0 : Int) ≤ (m : Int) := by omega
          have bm1 : (m : Int) < (S.length : Int) := by omega
          have S0 : On w2 wr.drew := HO.out.drew
          have hmS : m < S.length := by omega
          have HN1 : Hid (n = m + 1) := hm
          clear hx hy hxy hRX hm
          go_wp2
          refine region_fin (fun W => On w2 W) 99 11 (by kernel_rfl) rfl ?_
          refine fin_take 0 (v := ?_) rfl (by kernel_rfl) (by kernel_rfl) (by kernel_rfl) (by kernel_rfl) (fun _ _ _ h => h) rfl ?_ S0 ?_
          rotate_left
          · intro W hW
            go_simp
            (try with_reducible rfl)
          simp only [Act.put, List.setIfInBounds_toArray, List.set_cons_zero, List.set_cons_succ]
          refine fin_take 1 (v := ?_) rfl (by kernel_rfl) (by kernel_rfl) (by kernel_rfl) (by kernel_rfl) (fun _ _ _ h => h) rfl ?_ S0 ?_
          rotate_left
          · intro W hW
            go_simp
            (try with_reducible rfl)
          simp only [Act.put, List.setIfInBounds_toArray, List.set_cons_zero, List.set_cons_succ]
          refine fin_take 2 (v := ?_) rfl (by kernel_rfl) (by kernel_rfl) (by kernel_rfl) (by kernel_rfl) (fun _ _ _ h => h) rfl ?_ S0 ?_
          rotate_left
          · intro W hW
            go_simp
            (try with_reducible rfl)
          simp only [Act.put, List.setIfInBounds_toArray, List.set_cons_zero, List.set_cons_succ]
          refine fin_take 3 (v := ?_) rfl (by kernel_rfl) (by kernel_rfl) (by kernel_rfl) (by kernel_rfl) (fun _ _ _ h => h) rfl ?_ S0 ?_
          rotate_left
          · intro W hW
            go_simp
            (try with_reducible rfl)
          simp only [Act.put, List.setIfInBounds_toArray, List.set_cons_zero, List.set_cons_succ]
          refine fin_take 4 (v := .agg (finA x)) rfl (by kernel_rfl) (by kernel_rfl) (by kernel_rfl) (by kernel_rfl) (fun _ _ _ h => h) rfl (fun W hW => exec_fld rfl rfl (RX.out W hW)) S0 ?_
          simp only [Act.put, List.setIfInBounds_toArray, List.set_cons_zero, List.set_cons_succ]
          refine fin_take 5 (v := ?_) rfl (by kernel_rfl) (by kernel_rfl) (by kernel_rfl) (by kernel_rfl) (fun _ _ _ h => h) rfl ?_ S0 ?_
          rotate_left
          · intro W hW
            go_simp
            (try with_reducible rfl)
          simp only [Act.put, List.setIfInBounds_toArray, List.set_cons_zero, List.set_cons_succ]
          refine fin_take 6 (v := ?_) rfl (by kernel_rfl) (by kernel_rfl) (by kernel_rfl) (by kernel_rfl) (fun _ _ _ h => h) rfl ?_ S0 ?_
          rotate_left
          · intro W hW
            go_simp
            (try with_reducible rfl)
          simp only [Act.put, List.setIfInBounds_toArray, List.set_cons_zero, List.set_cons_succ]
          refine fin_take 7 (v := ?_) rfl (by kernel_rfl) (by kernel_rfl) (by kernel_rfl) (by kernel_rfl) (fun _ _ _ h => h) rfl ?_ S0 ?_
          rotate_left
          · intro W hW
            go_simp
            (try with_reducible rfl)
          simp only [Act.put, List.setIfInBounds_toArray, List.set_cons_zero, List.set_cons_succ]
          refine fin_take 8 (v := .agg (finA y)) rfl (by kernel_rfl) (by kernel_rfl) (by kernel_rfl) (by kernel_rfl) (fun _ _ _ h => h) rfl (fun W hW => exec_fld rfl rfl (RY.out W hW)) S0 ?_
          simp only [Act.put, List.setIfInBounds_toArray, List.set_cons_zero, List.set_cons_succ]
          refine fin_one 9 rfl rfl (by kernel_rfl) (fun K hK => ?_)
          go_simp
          refine (hless _).mono ?_
          rintro _ w3 ⟨rfl, k3⟩
          have S3 : On w2 w3 := S0.trans k3
          refine hK.out _ _ (fun _ => S3) ?_
          clear hK
          refine fin_take 10 (v := ?_) rfl (by kernel_rfl) (by kernel_rfl) (by kernel_rfl) (by kernel_rfl) (fun _ _ _ h => h) rfl ?_ S3 ?_
          rotate_left
          · intro W hW
            go_simp
            (try with_reducible rfl)
          simp only [Act.put, List.setIfInBounds_toArray, List.set_cons_zero, List.set_cons_succ]
          refine fin_done (by kernel_rfl) (NoPanic.normal ?_)
          go_wp2
          go_roundg (S.length - (n + 1))
          case measure => omega
          case rel => exact ⟨n + 1, by omega, rfl, by go_num, S3⟩
        · have hgb : decide (n < S.length) = false := decide_eq_false (by omega)
          go_wp2
          obtain ⟨wo, hwo⟩ : ∃ wo, wo = wr := ⟨_, rfl⟩
          subst hwo
          have HO1 : Hid (On w2 wo) := HO
          clear HO
          go_loopg [8, 9] S.length (fun gg s8 s9 wq => ∃ m : Nat, m ≤ S.length ∧ gg = S.length - m ∧ s9 = .int .i64 m ∧ s8 = .int .i64 (((S.take m).filter (fun x => decide (x ∈ B))).length : Nat) ∧ Hid (On w2 wq))
          case atStart => exact ⟨0, Nat.zero_le _, rfl, rfl, rfl, HO1⟩
          case round =>
            clear HO1
            obtain ⟨m, hm, hk2, rfl, rfl, HO⟩ := hrel
            rcases Nat.lt_or_ge m S.length with hltm | hgem
            · obtain ⟨x, hx⟩ : ∃ x, S[m]? = some x := ⟨_, List.getElem?_eq_getElem hltm⟩
              obtain ⟨g1, o1, rfl, hRX⟩ := rd_at HRS2.out hx
              have r1 := hRX _ HO.out
              have hHB := fun W k => has_is B x b d W (HB.out.on (K2.out.trans k))
              have hHM := fun W k => has_is M x ma' mc W (HRM.out.on k)
              have bm0 : (0 : Int) ≤ (m : Int) := by omega
              have bm1 : (m : Int) < (S.length : Int) := by omega
              have ht : S.take (m + 1) = S.take m ++ [x] := by rw [List.take_add_one, hx]; rfl
              have hle : ((S.take m).filter (fun x => decide (x ∈ B))).length ≤ 50 := by
                have e1 := List.length_filter_le (fun x => decide (x ∈ B)) (S.take m)
                have e2 := LA.out
                have e3 := HS2.out
                rw [List.length_take] at e1
                omega
              obtain ⟨q, hq⟩ : ∃ q, q = ((S.take m).filter (fun x => decide (x ∈ B))).length := ⟨_, rfl⟩
              rw [← hq] at hle ⊢
              have HQ : Hid (q = ((S.take m).filter (fun x => decide (x ∈ B))).length) := hq
              have wq1 : IntKind.i64.wrap ((q : Int) + 1) = (q : Int) + 1 := by rw [IntKind.wrap_i64]; omega
              have HT : Hid (S.take (m + 1) = S.take m ++ [x]) := ht
              by_cases hb : x ∈ B
              · have e1 : decide (x ∈ B) = true := decide_eq_true hb
                rw [e1] at hHB
                have HQ2 : Hid (((S.take (m + 1)).filter (fun x => decide (x ∈ B))).length = q + 1) := by
                  show _ = _
                  rw [HT.out, List.filter_append, List.length_append, ← HQ.out, List.filter_cons_of_pos (by simpa using hb)]
                  rfl
                clear hx hRX ht hle hq hb e1 hHM
                go_wp2_with (refine wpList_fld rfl rfl rfl r1 ?_)
                refine (hHB _ HO.out).mono ?_
                rintro _ w4 ⟨rfl, k4⟩
                go_wp2
                go_roundg (S.length - (m + 1))
                case measure => omega
                case rel => exact ⟨m + 1, by omega, rfl, by go_num, by rw [HQ2.out]; go_num, HO.out.trans k4⟩
              · have e1 : decide (x ∈ B) = false := decide_eq_false hb
                have e2 : decide (x ∈ M) = true := decide_eq_true (by rw [HMF.out, List.mem_filter]; exact ⟨List.mem_of_getElem? hx, by simpa using hb⟩)
                rw [e1] at hHB
                rw [e2] at hHM
                have HQ2 : Hid (((S.take (m + 1)).filter (fun x => decide (x ∈ B))).length = q) := by
                  show _ = _
                  rw [HT.out, List.filter_append, List.length_append, ← HQ.out, List.filter_cons_of_neg (by simpa using hb)]
                  rfl
                have HRX : Hid (∀ W', On w2 W' → W'.rangeAt g1 (o1 + m * 20) (finC x)) := hRX
                clear hx hRX ht hle hq hb e1 e2
                go_wp2_with (refine wpList_fld rfl rfl rfl r1 ?_)
                refine (hHB _ HO.out).mono ?_
                rintro _ w4 ⟨rfl, k4⟩
                have K4 : On w2 w4 := HO.out.trans k4
                have r4 := HRX.out _ K4
                clear r1
                go_wp2_with (refine wpList_fld rfl rfl rfl r4 ?_)
                refine (hHM _ K4).mono ?_
                rintro _ w5 ⟨rfl, k5⟩
                go_wp2
                go_roundg (S.length - (m + 1))
                case measure => omega
                case rel => exact ⟨m + 1, by omega, rfl, by go_num, by rw [HQ2.out], K4.trans k5⟩
            · obtain rfl : m = S.length := by omega
              obtain ⟨q, hq⟩ : ∃ q, q = ((S.take S.length).filter (fun x => decide (x ∈ B))).length := ⟨_, rfl⟩
              rw [← hq]
              have hsum : M.length + q = S.length := by
                rw [HMF.out, hq, List.take_length, Nat.add_comm]
                exact cnt_part S _
              have hle := HS2.out
              have hl5 := LA.out
              have wsum : IntKind.i64.wrap ((M.length : Int) + (q : Int)) = (S.length : Int) := by rw [IntKind.wrap_i64]; omega
              have HSo : Hid (∀ W, On w2 W → Calls Tryd.prog 11 #[.slice sa S.length sc] W fun e w' => ∃ (v : Value) (M : List FinT), e = .returned v ∧ On W w' ∧ Rd finC 20 w' v M ∧ Ris M ∧ M.length ≤ S.length ∧ ∀ x, x ∈ M ↔ x ∈ S) := fun W k => fsort_is S sa sc W (HRS2.out.on k) (by omega)
              have HM2 : Hid (∀ W, On w W → Calls Tryd.prog 12 #[.slice a A.length c, .slice a A.length c] W fun e w' => ∃ (v : Value) (M : List FinT), e = .returned v ∧ On W w' ∧ Rd finC 20 w' v M ∧ Ris M ∧ M.length ≤ A.length ∧ ∀ x, x ∈ M ↔ x ∈ A ∧ x ∉ A) := fun W k => minus_is A A a a c c W (HA.out.on k) (HA.out.on k) (by omega) (by omega)
              have HM3 : Hid (∀ W, On w W → Calls Tryd.prog 12 #[.slice a A.length c, .slice none 0 0] W fun e w' => ∃ (v : Value) (M : List FinT), e = .returned v ∧ On W w' ∧ Rd finC 20 w' v M ∧ Ris M ∧ M.length ≤ A.length ∧ ∀ x, x ∈ M ↔ x ∈ A ∧ x ∉ ([] : List FinT)) := fun W k => minus_is A [] a none c 0 W (HA.out.on k) (Rd.nil _ _ _) (by omega) (by simp)
              clear hq hsum hle hl5
              go_wp2_with fail
              refine (HSo.out _ HO.out).mono ?_
              rintro _ w4 ⟨v4, M4, rfl, k4, R4, h41, _, h43⟩
              obtain rfl : M4 = S := ris_ext h41 HS1.out h43
              obtain ⟨a4, c4, rfl, _, _⟩ := R4.slice
              have K4 : Hid (On w2 w4) := HO.out.trans k4
              have hsame := samef_is M4 M4 a4 sa c4 sc w4 R4 (HRS2.out.on K4.out)
              rw [decide_eq_true rfl] at hsame
              have HSM : Hid (Calls Tryd.prog 15 #[.slice a4 M4.length c4, .slice sa M4.length sc] w4 fun e w' => e = .returned (.bool true) ∧ On w4 w') := hsame
              clear hsame h41 h43 R4 k4
              go_wp2_with fail
              refine HSM.out.mono ?_
              rintro _ w5 ⟨rfl, k5⟩
              have K5 : Hid (On w2 w5) := K4.out.trans k5
              go_wp2_with fail
              refine (HM2.out _ (K2.out.trans K5.out)).mono ?_
              rintro _ w6 ⟨v6, M6, rfl, k6, R6, h61, _, h63⟩
              obtain rfl : M6 = [] := ris_ext h61 Ris.nil (fun x => by rw [h63]; simp)
              obtain ⟨a6, c6, rfl, _, _⟩ := R6.slice
              have K6 : Hid (On w2 w6) := K5.out.trans k6
              simp only [List.length_nil]
              clear h61 h63 R6 k6
              go_wp2_with fail
              refine (HM3.out _ (K2.out.trans K6.out)).mono ?_
              rintro _ w7 ⟨v7, M7, rfl, k7, R7, h71, _, h73⟩
              obtain rfl : M7 = M4 := ris_ext h71 HS1.out (fun x => by rw [h73, HS3.out]; simp)
              obtain ⟨a7, c7, rfl, _, _⟩ := R7.slice
              have K7 : Hid (On w2 w7) := K6.out.trans k7
              have hsame := samef_is M7 M7 a7 sa c7 sc w7 R7 (HRS2.out.on K7.out)
              rw [decide_eq_true rfl] at hsame
              have HSM2 : Hid (Calls Tryd.prog 15 #[.slice a7 M7.length c7, .slice sa M7.length sc] w7 fun e w' => e = .returned (.bool true) ∧ On w7 w') := hsame
              clear hsame h71 h73 R7 k7
              go_wp2_with fail
              refine HSM2.out.mono ?_
              rintro _ w8 ⟨rfl, k8⟩
              go_wp2_with fail
              refine (HW.out _ ((K2.out.trans K7.out).trans k8)).mono ?_
              rintro _ w9 ⟨rfl, k9⟩
              go_wp2
              go_ret
              exact ⟨rfl, ((K2.out.trans K7.out).trans k8).trans k9⟩
end Go.Proofs.YteddggkelbpmaaaDoor
