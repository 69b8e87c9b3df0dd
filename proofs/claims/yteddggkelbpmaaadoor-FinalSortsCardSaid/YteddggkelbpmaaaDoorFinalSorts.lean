/- FinalSorts: ends are sorted, each once; whether one is there, and which of some others have not, is told. -/
import Derived.Test.YteddggkelbpmaaaDoorAwake13
import Derived.Test.YteddggkelbpmaaaDoorFinQ
namespace Go.Proofs.YteddggkelbpmaaaDoor
open Go.RowKit

set_option maxRecDepth 8000 in
set_option maxHeartbeats 4000000 in
theorem finalSorts_walk (a : Option Addr) (A : List FinT) (c : Nat) (b : Option Addr) (B : List FinT) (d : Nat) (f : FinT) (w : World) (hA : Rd finC 20 w (.slice a A.length c) A) (hB : Rd finC 20 w (.slice b B.length d) B) (hP : Pw w) :
    Calls Tryd.prog 5 #[.slice a A.length c, .slice b B.length d, .agg (finA f)] w fun e w' => e = .returned (.bool true) ∧ On w w' := by
  obtain ⟨_, _, _, _, ma⟩ := hA.slice
  obtain ⟨_, _, _, _, mb⟩ := hB.slice
  have HA : Hid (Rd finC 20 w (.slice a A.length c) A) := hA
  have HB : Hid (Rd finC 20 w (.slice b B.length d) B) := hB
  have HW : Hid (∀ W, On w W → Calls Tryd.prog 10 #[] W fun e w' => e = .returned (.bool true) ∧ On W w') := fun W k => awake13_is W (hP.on k)
  have HO0 : Hid (On w (w.alloc (.cells (finA f) 26))) := (On.refl w).alloc _
  have HBF : Hid (Bk (w.alloc (.cells (finA f) 26)) w.heap.size (finA f)) := Bk.new w _ _
  clear hA hB hP
  by_cases h1 : 60 < A.length
  · have d1 : decide ((60 : Int) < (A.length : Int)) = true := decide_eq_true (by omega)
    clear h1
    go_enter Tryd.func5, Tryd.ntmps5
    go_wp2_with fail
    refine (HW.out _ HO0.out).mono ?_
    rintro _ w1 ⟨rfl, k1⟩
    go_wp2
    go_ret
    exact ⟨rfl, HO0.out.trans k1⟩
  · have d1 : decide ((60 : Int) < (A.length : Int)) = false := decide_eq_false (by omega)
    by_cases h2 : 60 < B.length
    · have d2 : decide ((60 : Int) < (B.length : Int)) = true := decide_eq_true (by omega)
      clear h1 h2
      go_enter Tryd.func5, Tryd.ntmps5
      go_wp2_with fail
      refine (HW.out _ HO0.out).mono ?_
      rintro _ w1 ⟨rfl, k1⟩
      go_wp2
      go_ret
      exact ⟨rfl, HO0.out.trans k1⟩
    · have d2 : decide ((60 : Int) < (B.length : Int)) = false := decide_eq_false (by omega)
      have LA : Hid (A.length ≤ 60) := by show _ ≤ _; omega
      have LB : Hid (B.length ≤ 60) := by show _ ≤ _; omega
      have HRo : Hid (∀ W, On w W → Calls Tryd.prog 16 #[.slice a A.length c] W fun e w' => ∃ (v : Value) (M : List FinT), e = .returned v ∧ On W w' ∧ Rd finC 20 w' v M ∧ Ris M ∧ M.length ≤ A.length ∧ ∀ x, x ∈ M ↔ x ∈ A) := fun W k => rsort_is A a c W (HA.out.on k) (by omega)
      have HSo : Hid (∀ W, On w W → Calls Tryd.prog 11 #[.slice a A.length c] W fun e w' => ∃ (v : Value) (M : List FinT), e = .returned v ∧ On W w' ∧ Rd finC 20 w' v M ∧ Ris M ∧ M.length ≤ A.length ∧ ∀ x, x ∈ M ↔ x ∈ A) := fun W k => fsort_is A a c W (HA.out.on k) (by omega)
      have HMi : Hid (∀ W, On w W → Calls Tryd.prog 12 #[.slice a A.length c, .slice b B.length d] W fun e w' => ∃ (v : Value) (M : List FinT), e = .returned v ∧ On W w' ∧ Rd finC 20 w' v M ∧ Ris M ∧ M.length ≤ A.length ∧ ∀ x, x ∈ M ↔ x ∈ A ∧ x ∉ B) := fun W k => minus_is A B a b c d W (HA.out.on k) (HB.out.on k) (by omega) (by omega)
      clear h1 h2
      go_enter Tryd.func5, Tryd.ntmps5
      go_wp2_with fail
      refine (HRo.out _ HO0.out).mono ?_
      rintro _ w1 ⟨vs, S, rfl, k1, RS, hS1, hS2, hS3⟩
      obtain ⟨sa, sc, rfl, _, mS⟩ := RS.slice
      have HRS : Hid (Rd finC 20 w1 (.slice sa S.length sc) S) := RS
      have HS1 : Hid (Ris S) := hS1
      have HS2 : Hid (S.length ≤ A.length) := hS2
      have HS3 : Hid (∀ x, x ∈ S ↔ x ∈ A) := hS3
      have HK1 : Hid (On w w1) := HO0.out.trans k1
      have HBF1 : Hid (Bk w1 w.heap.size (finA f)) := HBF.out.on k1
      clear RS hS1 hS2 hS3 HRo k1 HBF
      go_wp2_with fail
      refine (HSo.out _ HK1.out).mono ?_
      rintro _ w1' ⟨v2, S2, rfl, k2, R2, h21, _, h23⟩
      obtain rfl : S2 = S := ris_ext h21 HS1.out (fun x => (h23 x).trans (HS3.out x).symm)
      obtain ⟨a2, c2, rfl, _, _⟩ := R2.slice
      have hsame := samef_is S2 S2 a2 sa c2 sc w1' R2 (HRS.out.on k2)
      rw [decide_eq_true rfl] at hsame
      have HSM : Hid (Calls Tryd.prog 15 #[.slice a2 S2.length c2, .slice sa S2.length sc] w1' fun e w' => e = .returned (.bool true) ∧ On w1' w') := hsame
      clear hsame h21 h23 R2 HSo
      go_wp2_with fail
      refine HSM.out.mono ?_
      rintro _ w2 ⟨rfl, k3⟩
      have K2 : Hid (On w w2) := (HK1.out.trans k2).trans k3
      have HRS2 : Hid (Rd finC 20 w2 (.slice sa S2.length sc) S2) := (HRS.out.on k2).on k3
      have RF : Hid (∀ W, On w2 W → W.rangeAt w.heap.size 0 (finC f)) := fun W k => (((HBF1.out.on k2).on k3).on k).range
      obtain ⟨S, hS⟩ : ∃ S, S = S2 := ⟨_, rfl⟩
      subst hS
      clear HSM k2 k3 HRS HBF1 HK1
      go_wp2
      go_loopg [8, 9] S.length (fun gg s8 s9 wq => ∃ m : Nat, m ≤ S.length ∧ gg = S.length - m ∧ s9 = .int .i64 m ∧ Hid (On w2 wq) ∧ Hid (wq.ownsRow w2.heap.size 26 20 s8 ((S.take m).filter (fun z => !decide (z ∈ B))).length (((S.take m).filter (fun z => !decide (z ∈ B))).flatMap finC)))
      case atStart => exact ⟨0, Nat.zero_le _, rfl, rfl, On.refl w2, World.ownsRow_nil _ _ _ _⟩
      case round =>
        obtain ⟨m, hm, hk, rfl, HO, HN⟩ := hrel
        rcases Nat.lt_or_ge m S.length with hltm | hgem
        · obtain ⟨x, hx⟩ : ∃ x, S[m]? = some x := ⟨_, List.getElem?_eq_getElem hltm⟩
          obtain ⟨g1, o1, rfl, hRX⟩ := rd_at' HRS2.out hx
          have RX : Hid (∀ W, On w2 W → W.rangeAt g1 (o1 + m * 20) (finC x)) := hRX
          have HT : Hid (S.take (m + 1) = S.take m ++ [x]) := by show _ = _; rw [List.take_add_one, hx]; rfl
          have HXA : Hid (x ∈ A) := (HS3.out x).1 (List.mem_of_getElem? hx)
          have bm0 : (0 : Int) ≤ (m : Int) := by omega
          have bm1 : (m : Int) < (S.length : Int) := by omega
          clear hx hRX
          go_wp2
          obtain ⟨wo, hwo⟩ : ∃ wo, wo = wr := ⟨_, rfl⟩
          subst hwo
          go_loopg [10, 11] B.length (fun gg s10 s11 wq => ∃ k : Nat, k ≤ B.length ∧ gg = B.length - k ∧ s11 = .int .i64 k ∧ s10 = .bool (decide (x ∈ B.take k)) ∧ Hid (On wo wq))
          case atStart => exact ⟨0, Nat.zero_le _, rfl, rfl, by simp, On.refl wo⟩
          case round =>
            obtain ⟨k, hkB, hk2, rfl, rfl, HKO⟩ := hrel
            have HK : Hid (On w2 wr) := HO.out.trans HKO.out
            rcases Nat.lt_or_ge k B.length with hltk | hgek
            · obtain ⟨y, hy⟩ : ∃ y, B[k]? = some y := ⟨_, List.getElem?_eq_getElem hltk⟩
              obtain ⟨g2, o2, rfl, hRY⟩ := rd_at' (HB.out.on K2.out) hy
              have RY : Hid (∀ W, On w2 W → W.rangeAt g2 (o2 + k * 20) (finC y)) := hRY
              have bk0 : (0 : Int) ≤ (k : Int) := by omega
              have bk1 : (k : Int) < (B.length : Int) := by omega
              have HTB : Hid (B.take (k + 1) = B.take k ++ [y]) := by show _ = _; rw [List.take_add_one, hy]; rfl
              have S0 : On w2 wr.drew := HK.out.drew
              obtain ⟨q, hq⟩ : ∃ q, q = decide (x ∈ B.take k) := ⟨_, rfl⟩
              rw [← hq]
              cases q with
              | true =>
                have HE : Hid (decide (x ∈ B.take (k + 1)) = true) := decide_eq_true (by rw [HTB.out]; exact List.mem_append.2 (Or.inl (of_decide_eq_true hq.symm)))
                clear hy hRY hq
                go_wp2
                refine region_fin (fun W => On w2 W) 99 13 (by kernel_rfl) rfl ?_
                refine fin_take 0 (v := ?_) rfl (by kernel_rfl) (by kernel_rfl) (by kernel_rfl) (by kernel_rfl) (fun _ _ _ h => h) rfl ?_ S0 ?_
                rotate_left
                · intro W hW
                  go_simp
                  (try with_reducible rfl)
                simp only [Act.put, List.setIfInBounds_toArray, List.set_cons_zero, List.set_cons_succ]
                refine fin_take 1 (v := ?_) rfl (by kernel_rfl) (by kernel_rfl) (by kernel_rfl) (by kernel_rfl) (fun _ _ _ h => h) rfl ?_ S0 ?_
                rotate_left
                · intro W hW
                  go_simp
                  (try with_reducible rfl)
                simp only [Act.put, List.setIfInBounds_toArray, List.set_cons_zero, List.set_cons_succ]
                refine fin_takeN 2 rfl (by kernel_rfl) (by kernel_rfl) (by kernel_rfl) (by kernel_rfl) (fun _ _ _ h => h) (by rfl) S0 ?_
                simp only [Act.put, List.setIfInBounds_toArray, List.set_cons_zero, List.set_cons_succ]
                refine fin_takeN 3 rfl (by kernel_rfl) (by kernel_rfl) (by kernel_rfl) (by kernel_rfl) (fun _ _ _ h => h) (by rfl) S0 ?_
                simp only [Act.put, List.setIfInBounds_toArray, List.set_cons_zero, List.set_cons_succ]
                refine fin_takeN 4 rfl (by kernel_rfl) (by kernel_rfl) (by kernel_rfl) (by kernel_rfl) (fun _ _ _ h => h) (by rfl) S0 ?_
                simp only [Act.put, List.setIfInBounds_toArray, List.set_cons_zero, List.set_cons_succ]
                refine fin_takeN 5 rfl (by kernel_rfl) (by kernel_rfl) (by kernel_rfl) (by kernel_rfl) (fun _ _ _ h => h) (by rfl) S0 ?_
                simp only [Act.put, List.setIfInBounds_toArray, List.set_cons_zero, List.set_cons_succ]
                refine fin_takeN 6 rfl (by kernel_rfl) (by kernel_rfl) (by kernel_rfl) (by kernel_rfl) (fun _ _ _ h => h) (by rfl) S0 ?_
                simp only [Act.put, List.setIfInBounds_toArray, List.set_cons_zero, List.set_cons_succ]
                refine fin_takeN 7 rfl (by kernel_rfl) (by kernel_rfl) (by kernel_rfl) (by kernel_rfl) (fun _ _ _ h => h) (by rfl) S0 ?_
                simp only [Act.put, List.setIfInBounds_toArray, List.set_cons_zero, List.set_cons_succ]
                refine fin_takeN 8 rfl (by kernel_rfl) (by kernel_rfl) (by kernel_rfl) (by kernel_rfl) (fun _ _ _ h => h) (by rfl) S0 ?_
                simp only [Act.put, List.setIfInBounds_toArray, List.set_cons_zero, List.set_cons_succ]
                refine fin_takeN 9 rfl (by kernel_rfl) (by kernel_rfl) (by kernel_rfl) (by kernel_rfl) (fun _ _ _ h => h) (by rfl) S0 ?_
                simp only [Act.put, List.setIfInBounds_toArray, List.set_cons_zero, List.set_cons_succ]
                refine fin_takeN 10 rfl (by kernel_rfl) (by kernel_rfl) (by kernel_rfl) (by kernel_rfl) (fun _ _ _ h => h) (by rfl) S0 ?_
                simp only [Act.put, List.setIfInBounds_toArray, List.set_cons_zero, List.set_cons_succ]
                refine fin_take 11 (v := ?_) rfl (by kernel_rfl) (by kernel_rfl) (by kernel_rfl) (by kernel_rfl) (fun _ _ _ h => h) rfl ?_ S0 ?_
                rotate_left
                · intro W hW
                  go_simp
                  (try with_reducible rfl)
                simp only [Act.put, List.setIfInBounds_toArray, List.set_cons_zero, List.set_cons_succ]
                refine fin_take 12 (v := ?_) rfl (by kernel_rfl) (by kernel_rfl) (by kernel_rfl) (by kernel_rfl) (fun _ _ _ h => h) rfl ?_ S0 ?_
                rotate_left
                · intro W hW
                  go_simp
                  (try with_reducible rfl)
                simp only [Act.put, List.setIfInBounds_toArray, List.set_cons_zero, List.set_cons_succ]
                refine fin_done (by kernel_rfl) (NoPanic.normal ?_)
                go_wp2
                go_roundg (B.length - (k + 1))
                case measure => omega
                case rel => exact ⟨k + 1, by omega, rfl, by go_num, by rw [HE.out], HKO.out.drew⟩
              | false =>
                have HE : Hid (decide (x ∈ B.take (k + 1)) = decide (y = x)) := by
                  have hn := of_decide_eq_false hq.symm
                  show _ = _
                  rw [HTB.out]
                  by_cases e : y = x
                  · rw [decide_eq_true e]
                    exact decide_eq_true (by rw [e]; simp)
                  · rw [decide_eq_false e]
                    refine decide_eq_false fun h => ?_
                    rcases List.mem_append.1 h with h | h
                    · exact hn h
                    · exact e (List.mem_singleton.1 h).symm
                clear hy hRY hq
                go_wp2
                refine region_fin (fun W => On w2 W) 99 13 (by kernel_rfl) rfl ?_
                refine fin_take 0 (v := ?_) rfl (by kernel_rfl) (by kernel_rfl) (by kernel_rfl) (by kernel_rfl) (fun _ _ _ h => h) rfl ?_ S0 ?_
                rotate_left
                · intro W hW
                  go_simp
                  (try with_reducible rfl)
                simp only [Act.put, List.setIfInBounds_toArray, List.set_cons_zero, List.set_cons_succ]
                refine fin_take 1 (v := ?_) rfl (by kernel_rfl) (by kernel_rfl) (by kernel_rfl) (by kernel_rfl) (fun _ _ _ h => h) rfl ?_ S0 ?_
                rotate_left
                · intro W hW
                  go_simp
                  (try with_reducible rfl)
                simp only [Act.put, List.setIfInBounds_toArray, List.set_cons_zero, List.set_cons_succ]
                refine fin_takeG 2 (v := ?_) rfl (by kernel_rfl) (by kernel_rfl) (by kernel_rfl) (by kernel_rfl) (fun _ _ _ h => h) (by rfl) ?_ S0 ?_
                rotate_left
                · intro W hW
                  go_simp
                  (try with_reducible rfl)
                simp only [Act.put, List.setIfInBounds_toArray, List.set_cons_zero, List.set_cons_succ]
                refine fin_takeG 3 (v := ?_) rfl (by kernel_rfl) (by kernel_rfl) (by kernel_rfl) (by kernel_rfl) (fun _ _ _ h => h) (by rfl) ?_ S0 ?_
                rotate_left
                · intro W hW
                  go_simp
                  (try with_reducible rfl)
                simp only [Act.put, List.setIfInBounds_toArray, List.set_cons_zero, List.set_cons_succ]
                refine fin_takeG 4 (v := ?_) rfl (by kernel_rfl) (by kernel_rfl) (by kernel_rfl) (by kernel_rfl) (fun _ _ _ h => h) (by rfl) ?_ S0 ?_
                rotate_left
                · intro W hW
                  go_simp
                  (try with_reducible rfl)
                simp only [Act.put, List.setIfInBounds_toArray, List.set_cons_zero, List.set_cons_succ]
                refine fin_takeG 5 (v := .agg (finA y)) rfl (by kernel_rfl) (by kernel_rfl) (by kernel_rfl) (by kernel_rfl) (fun _ _ _ h => h) (by rfl) (fun W hW => exec_fld rfl rfl (RY.out W hW)) S0 ?_
                simp only [Act.put, List.setIfInBounds_toArray, List.set_cons_zero, List.set_cons_succ]
                refine fin_takeG 6 (v := ?_) rfl (by kernel_rfl) (by kernel_rfl) (by kernel_rfl) (by kernel_rfl) (fun _ _ _ h => h) (by rfl) ?_ S0 ?_
                rotate_left
                · intro W hW
                  go_simp
                  (try with_reducible rfl)
                simp only [Act.put, List.setIfInBounds_toArray, List.set_cons_zero, List.set_cons_succ]
                refine fin_takeG 7 (v := ?_) rfl (by kernel_rfl) (by kernel_rfl) (by kernel_rfl) (by kernel_rfl) (fun _ _ _ h => h) (by rfl) ?_ S0 ?_
                rotate_left
                · intro W hW
                  go_simp
                  (try with_reducible rfl)
                simp only [Act.put, List.setIfInBounds_toArray, List.set_cons_zero, List.set_cons_succ]
                refine fin_takeG 8 (v := ?_) rfl (by kernel_rfl) (by kernel_rfl) (by kernel_rfl) (by kernel_rfl) (fun _ _ _ h => h) (by rfl) ?_ S0 ?_
                rotate_left
                · intro W hW
                  go_simp
                  (try with_reducible rfl)
                simp only [Act.put, List.setIfInBounds_toArray, List.set_cons_zero, List.set_cons_succ]
                refine fin_takeG 9 (v := .agg (finA x)) rfl (by kernel_rfl) (by kernel_rfl) (by kernel_rfl) (by kernel_rfl) (fun _ _ _ h => h) (by rfl) (fun W hW => exec_fld rfl rfl (RX.out W hW)) S0 ?_
                simp only [Act.put, List.setIfInBounds_toArray, List.set_cons_zero, List.set_cons_succ]
                refine fin_takeG 10 (v := .bool (decide (y = x))) rfl (by kernel_rfl) (by kernel_rfl) (by kernel_rfl) (by kernel_rfl) (fun _ _ _ h => h) (by rfl) (fun W hW => exec_feq rfl rfl rfl W) S0 ?_
                simp only [Act.put, List.setIfInBounds_toArray, List.set_cons_zero, List.set_cons_succ]
                refine fin_take 11 (v := ?_) rfl (by kernel_rfl) (by kernel_rfl) (by kernel_rfl) (by kernel_rfl) (fun _ _ _ h => h) rfl ?_ S0 ?_
                rotate_left
                · intro W hW
                  go_simp
                  (try with_reducible rfl)
                simp only [Act.put, List.setIfInBounds_toArray, List.set_cons_zero, List.set_cons_succ]
                refine fin_take 12 (v := ?_) rfl (by kernel_rfl) (by kernel_rfl) (by kernel_rfl) (by kernel_rfl) (fun _ _ _ h => h) rfl ?_ S0 ?_
                rotate_left
                · intro W hW
                  go_simp
                  (try with_reducible rfl)
                simp only [Act.put, List.setIfInBounds_toArray, List.set_cons_zero, List.set_cons_succ]
                refine fin_done (by kernel_rfl) (NoPanic.normal ?_)
                go_wp2
                go_roundg (B.length - (k + 1))
                case measure => omega
                case rel => exact ⟨k + 1, by omega, rfl, by go_num, by rw [HE.out], HKO.out.drew⟩
            · obtain ⟨q, hq⟩ : ∃ q, q = decide (x ∈ B.take k) := ⟨_, rfl⟩
              have hqB : q = decide (x ∈ B) := by rw [hq, List.take_of_length_le hgek]
              rw [← hq]
              have dk : decide (k < B.length) = false := decide_eq_false (by omega)
              cases q with
              | true =>
                have hx1 : x ∈ B := of_decide_eq_true hqB.symm
                have HX : Hid (x ∈ B) := hx1
                clear hq hqB hx1
                have e1 : decide (x ∈ B) = true := decide_eq_true HX.out
                have hHB := fun W k => has_is B x b d W (HB.out.on (K2.out.trans k))
                have hHA := fun W k => has_is A x a c W (HA.out.on (K2.out.trans k))
                rw [e1] at hHB
                rw [decide_eq_true HXA.out] at hHA
                have HFL : Hid ((S.take (m + 1)).filter (fun z => !decide (z ∈ B)) = (S.take m).filter (fun z => !decide (z ∈ B))) := by
                  show _ = _
                  rw [HT.out, List.filter_append, List.filter_cons_of_neg (by simpa using HX.out)]
                  simp
                have r1 := RX.out _ HK.out
                clear e1
                go_wp2_with (refine wpList_fld rfl rfl rfl r1 ?_)
                refine (hHB _ HK.out).mono ?_
                rintro _ w4 ⟨rfl, k4⟩
                have K4' : On w2 w4 := HK.out.trans k4
                have r4 := RX.out _ K4'
                clear r1
                go_wp2_with (first | (refine wpList_fld rfl rfl rfl r4 ?_) | (refine wpList_fldG rfl rfl rfl r4 ?_))
                refine (hHA _ K4').mono ?_
                rintro _ w5 ⟨rfl, k5⟩
                go_wp2
                go_roundg (S.length - (m + 1))
                case measure => omega
                case rel => exact ⟨m + 1, by omega, rfl, by go_num, K4'.trans k5, by rw [HFL.out]; exact own_on (own_on HN.out (HKO.out)) (k4.trans k5)⟩
              | false =>
                have hx1 : ¬ x ∈ B := of_decide_eq_false hqB.symm
                have HX : Hid (¬ x ∈ B) := hx1
                clear hq hqB hx1
                have e1 : decide (x ∈ B) = false := decide_eq_false HX.out
                have hHB := fun W k => has_is B x b d W (HB.out.on (K2.out.trans k))
                have hHA := fun W k => has_is A x a c W (HA.out.on (K2.out.trans k))
                rw [e1] at hHB
                rw [decide_eq_true HXA.out] at hHA
                have HFL : Hid ((S.take (m + 1)).filter (fun z => !decide (z ∈ B)) = (S.take m).filter (fun z => !decide (z ∈ B)) ++ [x]) := by
                  show _ = _
                  rw [HT.out, List.filter_append, List.filter_cons_of_pos (by simpa using HX.out)]
                  rfl
                have r1 := RX.out _ HK.out
                have HNa := own_on HN.out HKO.out
                obtain ⟨X, hX⟩ : ∃ X, X = (S.take m).filter (fun z => !decide (z ∈ B)) := ⟨_, rfl⟩
                rw [← hX] at HNa HFL
                have HXL : Hid (X.length + [x].length ≤ 1000000) := by
                  have q1 := List.length_filter_le (fun z => !decide (z ∈ B)) (S.take m)
                  have q2 := LA.out
                  have q3 := HS2.out
                  rw [List.length_take] at q1
                  show _ ≤ _
                  rw [hX, List.length_singleton]
                  omega
                have HN4 : Hid ((wr.alloc (.cells (finA x) 26)).ownsRow w2.heap.size 26 20 u8 X.length (X.flatMap finC)) := HNa.alloc _
                have HNb : Hid (w2.heap.size ≤ (wr.alloc (.cells (finA x) 26)).heap.size) := (HK.out.alloc _).size
                have HLT : Hid (∀ g, u8.ownBlock = some g → w2.heap.size ≤ g) := fun g hg => (HNa.lt g hg).1
                clear e1 hX HNa HN HKO
                go_wp2_with (first | (refine wpList_fld rfl rfl rfl r1 ?_) | (refine wpList_fslice rfl rfl rfl ?_) | (refine wpList_fapp rfl rfl rfl rfl HN4.out (rd_one (Bk.new wr (finA x) 26)) HXL.out HNb.out ?_; intro v9 w9 N9 G9; have K9 : On w2 w9 := (HK.out.alloc _).grown G9 HLT.out; have r9 := RX.out _ K9) | (refine wpList_fld rfl rfl rfl r9 ?_))
                refine (hHB _ K9).mono ?_
                rintro _ w4 ⟨rfl, k4⟩
                have K4' : On w2 w4 := K9.trans k4
                have r4 := RX.out _ K4'
                clear r1 r9
                go_wp2_with (first | (refine wpList_fld rfl rfl rfl r4 ?_) | (refine wpList_fldG rfl rfl rfl r4 ?_))
                refine (hHA _ K4').mono ?_
                rintro _ w5 ⟨rfl, k5⟩
                go_wp2
                go_roundg (S.length - (m + 1))
                case measure => omega
                case rel => exact ⟨m + 1, by omega, rfl, by go_num, K4'.trans k5, by rw [HFL.out]; exact own_on N9 (k4.trans k5)⟩
        · obtain ⟨X, hX⟩ : ∃ X, X = (S.take m).filter (fun z => !decide (z ∈ B)) := ⟨_, rfl⟩
          rw [← hX] at HN
          have HXS : Hid (X = S.filter (fun z => !decide (z ∈ B))) := by show _ = _; rw [hX, List.take_of_length_le hgem]
          obtain ⟨a8, c8, rfl, _, _⟩ := own_shape HN.out
          have HR8 : Hid (Rd finC 20 wr (.slice a8 X.length c8) X) := Rd.own finC_len HN.out
          have dm : decide (m < S.length) = false := decide_eq_false (by omega)
          clear hX HN
          go_wp2
          obtain ⟨wo, hwo⟩ : ∃ wo, wo = wr := ⟨_, rfl⟩
          subst hwo
          go_loopg [12, 13] A.length (fun gg s12 s13 wq => ∃ k : Nat, k ≤ A.length ∧ gg = A.length - k ∧ s13 = .int .i64 k ∧ s12 = .bool (decide (f ∈ A.take k)) ∧ Hid (On wo wq))
          case atStart => exact ⟨0, Nat.zero_le _, rfl, rfl, by simp, On.refl wo⟩
          case round =>
            obtain ⟨k, hkA, hk2, rfl, rfl, HKO⟩ := hrel
            have HK : Hid (On w2 wr) := HO.out.trans HKO.out
            rcases Nat.lt_or_ge k A.length with hltk | hgek
            · obtain ⟨y, hy⟩ : ∃ y, A[k]? = some y := ⟨_, List.getElem?_eq_getElem hltk⟩
              obtain ⟨g2, o2, rfl, hRY⟩ := rd_at' (HA.out.on K2.out) hy
              have RY : Hid (∀ W, On w2 W → W.rangeAt g2 (o2 + k * 20) (finC y)) := hRY
              have bk0 : (0 : Int) ≤ (k : Int) := by omega
              have bk1 : (k : Int) < (A.length : Int) := by omega
              have HTB : Hid (A.take (k + 1) = A.take k ++ [y]) := by show _ = _; rw [List.take_add_one, hy]; rfl
              have S0 : On w2 wr.drew := HK.out.drew
              obtain ⟨q, hq⟩ : ∃ q, q = decide (f ∈ A.take k) := ⟨_, rfl⟩
              rw [← hq]
              cases q with
              | true =>
                have HE : Hid (decide (f ∈ A.take (k + 1)) = true) := decide_eq_true (by rw [HTB.out]; exact List.mem_append.2 (Or.inl (of_decide_eq_true hq.symm)))
                clear hy hRY hq
                go_wp2
                refine region_fin (fun W => On w2 W) 99 10 (by kernel_rfl) rfl ?_
                refine fin_take 0 (v := ?_) rfl (by kernel_rfl) (by kernel_rfl) (by kernel_rfl) (by kernel_rfl) (fun _ _ _ h => h) rfl ?_ S0 ?_
                rotate_left
                · intro W hW
                  go_simp
                  (try with_reducible rfl)
                simp only [Act.put, List.setIfInBounds_toArray, List.set_cons_zero, List.set_cons_succ]
                refine fin_take 1 (v := ?_) rfl (by kernel_rfl) (by kernel_rfl) (by kernel_rfl) (by kernel_rfl) (fun _ _ _ h => h) rfl ?_ S0 ?_
                rotate_left
                · intro W hW
                  go_simp
                  (try with_reducible rfl)
                simp only [Act.put, List.setIfInBounds_toArray, List.set_cons_zero, List.set_cons_succ]
                refine fin_takeN 2 rfl (by kernel_rfl) (by kernel_rfl) (by kernel_rfl) (by kernel_rfl) (fun _ _ _ h => h) (by rfl) S0 ?_
                simp only [Act.put, List.setIfInBounds_toArray, List.set_cons_zero, List.set_cons_succ]
                refine fin_takeN 3 rfl (by kernel_rfl) (by kernel_rfl) (by kernel_rfl) (by kernel_rfl) (fun _ _ _ h => h) (by rfl) S0 ?_
                simp only [Act.put, List.setIfInBounds_toArray, List.set_cons_zero, List.set_cons_succ]
                refine fin_takeN 4 rfl (by kernel_rfl) (by kernel_rfl) (by kernel_rfl) (by kernel_rfl) (fun _ _ _ h => h) (by rfl) S0 ?_
                simp only [Act.put, List.setIfInBounds_toArray, List.set_cons_zero, List.set_cons_succ]
                refine fin_takeN 5 rfl (by kernel_rfl) (by kernel_rfl) (by kernel_rfl) (by kernel_rfl) (fun _ _ _ h => h) (by rfl) S0 ?_
                simp only [Act.put, List.setIfInBounds_toArray, List.set_cons_zero, List.set_cons_succ]
                refine fin_takeN 6 rfl (by kernel_rfl) (by kernel_rfl) (by kernel_rfl) (by kernel_rfl) (fun _ _ _ h => h) (by rfl) S0 ?_
                simp only [Act.put, List.setIfInBounds_toArray, List.set_cons_zero, List.set_cons_succ]
                refine fin_takeN 7 rfl (by kernel_rfl) (by kernel_rfl) (by kernel_rfl) (by kernel_rfl) (fun _ _ _ h => h) (by rfl) S0 ?_
                simp only [Act.put, List.setIfInBounds_toArray, List.set_cons_zero, List.set_cons_succ]
                refine fin_take 8 (v := ?_) rfl (by kernel_rfl) (by kernel_rfl) (by kernel_rfl) (by kernel_rfl) (fun _ _ _ h => h) rfl ?_ S0 ?_
                rotate_left
                · intro W hW
                  go_simp
                  (try with_reducible rfl)
                simp only [Act.put, List.setIfInBounds_toArray, List.set_cons_zero, List.set_cons_succ]
                refine fin_take 9 (v := ?_) rfl (by kernel_rfl) (by kernel_rfl) (by kernel_rfl) (by kernel_rfl) (fun _ _ _ h => h) rfl ?_ S0 ?_
                rotate_left
                · intro W hW
                  go_simp
                  (try with_reducible rfl)
                simp only [Act.put, List.setIfInBounds_toArray, List.set_cons_zero, List.set_cons_succ]
                refine fin_done (by kernel_rfl) (NoPanic.normal ?_)
                go_wp2
                go_roundg (A.length - (k + 1))
                case measure => omega
                case rel => exact ⟨k + 1, by omega, rfl, by go_num, by rw [HE.out], HKO.out.drew⟩
              | false =>
                have HE : Hid (decide (f ∈ A.take (k + 1)) = decide (y = f)) := by
                  have hn := of_decide_eq_false hq.symm
                  show _ = _
                  rw [HTB.out]
                  by_cases e : y = f
                  · rw [decide_eq_true e]
                    exact decide_eq_true (by rw [e]; simp)
                  · rw [decide_eq_false e]
                    refine decide_eq_false fun h => ?_
                    rcases List.mem_append.1 h with h | h
                    · exact hn h
                    · exact e (List.mem_singleton.1 h).symm
                clear hy hRY hq
                go_wp2
                refine region_fin (fun W => On w2 W) 99 10 (by kernel_rfl) rfl ?_
                refine fin_take 0 (v := ?_) rfl (by kernel_rfl) (by kernel_rfl) (by kernel_rfl) (by kernel_rfl) (fun _ _ _ h => h) rfl ?_ S0 ?_
                rotate_left
                · intro W hW
                  go_simp
                  (try with_reducible rfl)
                simp only [Act.put, List.setIfInBounds_toArray, List.set_cons_zero, List.set_cons_succ]
                refine fin_take 1 (v := ?_) rfl (by kernel_rfl) (by kernel_rfl) (by kernel_rfl) (by kernel_rfl) (fun _ _ _ h => h) rfl ?_ S0 ?_
                rotate_left
                · intro W hW
                  go_simp
                  (try with_reducible rfl)
                simp only [Act.put, List.setIfInBounds_toArray, List.set_cons_zero, List.set_cons_succ]
                refine fin_takeG 2 (v := ?_) rfl (by kernel_rfl) (by kernel_rfl) (by kernel_rfl) (by kernel_rfl) (fun _ _ _ h => h) (by rfl) ?_ S0 ?_
                rotate_left
                · intro W hW
                  go_simp
                  (try with_reducible rfl)
                simp only [Act.put, List.setIfInBounds_toArray, List.set_cons_zero, List.set_cons_succ]
                refine fin_takeG 3 (v := ?_) rfl (by kernel_rfl) (by kernel_rfl) (by kernel_rfl) (by kernel_rfl) (fun _ _ _ h => h) (by rfl) ?_ S0 ?_
                rotate_left
                · intro W hW
                  go_simp
                  (try with_reducible rfl)
                simp only [Act.put, List.setIfInBounds_toArray, List.set_cons_zero, List.set_cons_succ]
                refine fin_takeG 4 (v := ?_) rfl (by kernel_rfl) (by kernel_rfl) (by kernel_rfl) (by kernel_rfl) (fun _ _ _ h => h) (by rfl) ?_ S0 ?_
                rotate_left
                · intro W hW
                  go_simp
                  (try with_reducible rfl)
                simp only [Act.put, List.setIfInBounds_toArray, List.set_cons_zero, List.set_cons_succ]
                refine fin_takeG 5 (v := .agg (finA y)) rfl (by kernel_rfl) (by kernel_rfl) (by kernel_rfl) (by kernel_rfl) (fun _ _ _ h => h) (by rfl) (fun W hW => exec_fld rfl rfl (RY.out W hW)) S0 ?_
                simp only [Act.put, List.setIfInBounds_toArray, List.set_cons_zero, List.set_cons_succ]
                refine fin_takeG 6 (v := .agg (finA f)) rfl (by kernel_rfl) (by kernel_rfl) (by kernel_rfl) (by kernel_rfl) (fun _ _ _ h => h) (by rfl) (fun W hW => exec_fld rfl rfl (RF.out W hW)) S0 ?_
                simp only [Act.put, List.setIfInBounds_toArray, List.set_cons_zero, List.set_cons_succ]
                refine fin_takeG 7 (v := .bool (decide (y = f))) rfl (by kernel_rfl) (by kernel_rfl) (by kernel_rfl) (by kernel_rfl) (fun _ _ _ h => h) (by rfl) (fun W hW => exec_feq rfl rfl rfl W) S0 ?_
                simp only [Act.put, List.setIfInBounds_toArray, List.set_cons_zero, List.set_cons_succ]
                refine fin_take 8 (v := ?_) rfl (by kernel_rfl) (by kernel_rfl) (by kernel_rfl) (by kernel_rfl) (fun _ _ _ h => h) rfl ?_ S0 ?_
                rotate_left
                · intro W hW
                  go_simp
                  (try with_reducible rfl)
                simp only [Act.put, List.setIfInBounds_toArray, List.set_cons_zero, List.set_cons_succ]
                refine fin_take 9 (v := ?_) rfl (by kernel_rfl) (by kernel_rfl) (by kernel_rfl) (by kernel_rfl) (fun _ _ _ h => h) rfl ?_ S0 ?_
                rotate_left
                · intro W hW
                  go_simp
                  (try with_reducible rfl)
                simp only [Act.put, List.setIfInBounds_toArray, List.set_cons_zero, List.set_cons_succ]
                refine fin_done (by kernel_rfl) (NoPanic.normal ?_)
                go_wp2
                go_roundg (A.length - (k + 1))
                case measure => omega
                case rel => exact ⟨k + 1, by omega, rfl, by go_num, by rw [HE.out], HKO.out.drew⟩
            · obtain ⟨q, hq⟩ : ∃ q, q = decide (f ∈ A.take k) := ⟨_, rfl⟩
              have hqA : decide (f ∈ A) = q := by rw [hq, List.take_of_length_le hgek]
              rw [← hq]
              have dk : decide (k < A.length) = false := decide_eq_false (by omega)
              have HHF : Hid (∀ W, On w2 W → Calls Tryd.prog 14 #[.slice a A.length c, .agg (finA f)] W fun e w' => e = .returned (.bool q) ∧ On W w') := fun W k => by
                have := has_is A f a c W (HA.out.on (K2.out.trans k))
                rwa [hqA] at this
              have hqq : (q == q) = true := by simp
              clear hq hqA
              go_wp2_with fail
              refine (HMi.out _ (K2.out.trans HK.out)).mono ?_
              rintro _ w4 ⟨v4, M4, rfl, k4, R4, h41, _, h43⟩
              obtain rfl : M4 = X := ris_ext h41 (by rw [HXS.out]; exact HS1.out.filter _) (fun z => by rw [h43, HXS.out, List.mem_filter, HS3.out]; simp)
              obtain ⟨a4, c4, rfl, _, _⟩ := R4.slice
              have hsame := samef_is M4 M4 a4 a8 c4 c8 w4 R4 ((HR8.out.on HKO.out).on k4)
              rw [decide_eq_true rfl] at hsame
              have HSM : Hid (Calls Tryd.prog 15 #[.slice a4 M4.length c4, .slice a8 M4.length c8] w4 fun e w' => e = .returned (.bool true) ∧ On w4 w') := hsame
              have K4' : Hid (On w2 w4) := HK.out.trans k4
              clear hsame h41 h43 R4 k4
              go_wp2_with fail
              refine HSM.out.mono ?_
              rintro _ w5 ⟨rfl, k5⟩
              have K5 : Hid (On w2 w5) := K4'.out.trans k5
              have r5 := RF.out _ K5.out
              go_wp2_with (first | (refine wpList_fld rfl rfl rfl r5 ?_) | (refine wpList_fldG rfl rfl rfl r5 ?_))
              refine (HHF.out _ K5.out).mono ?_
              rintro _ w6 ⟨rfl, k6⟩
              have K6 : Hid (On w2 w6) := K5.out.trans k6
              go_wp2_with fail
              refine (HW.out _ (K2.out.trans K6.out)).mono ?_
              rintro _ w7 ⟨rfl, k7⟩
              go_wp2
              go_ret
              exact ⟨rfl, (K2.out.trans K6.out).trans k7⟩
end Go.Proofs.YteddggkelbpmaaaDoor
