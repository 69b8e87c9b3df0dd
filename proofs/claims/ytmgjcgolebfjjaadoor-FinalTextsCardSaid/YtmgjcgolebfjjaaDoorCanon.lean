/- Decimal numerals, of no program: the numeral of a number is read back to it; a row of digits without noughts ahead is its number's numeral. -/
import Derived.Test.YtmgjcgolebfjjaaDoorDigits
import Derived.Lib.Atoi
namespace Go.Proofs.YtmgjcgolebfjjaaDoor

theorem dig_toNat (u : Nat) (h : u < 10) : (UInt8.ofNat (48 + u)).toNat = 48 + u := by rw [UInt8.toNat_ofNat']; omega
theorem dig_of {c : UInt8} (h1 : 48 ≤ c.toNat) (h2 : c.toNat ≤ 57) : UInt8.ofNat (48 + (c.toNat - 48)) = c := by
  apply UInt8.toNat_inj.1
  rw [dig_toNat _ (by omega)]
  omega
theorem digitVal_dig (u : Nat) (h : u < 10) : Lib.digitVal (UInt8.ofNat (48 + u)) = some u := by
  unfold Lib.digitVal
  rw [dig_toNat u h, if_pos (by omega)]
  congr 1
  omega

theorem decFrom_snoc (l : List UInt8) (c : UInt8) : ∀ acc, Lib.decFrom acc (l ++ [c]) = (Lib.decFrom acc l).bind fun n => (Lib.digitVal c).map fun d => n * 10 + d := by
  induction l with
  | nil =>
    intro acc
    simp only [List.nil_append, Lib.decFrom, Option.bind_some]
    cases Lib.digitVal c <;> rfl
  | cons a r ih =>
    intro acc
    simp only [List.cons_append, Lib.decFrom]
    cases Lib.digitVal a with
    | none => rfl
    | some d => exact ih _

theorem parseUintM_snoc (M : Nat) (l : List UInt8) (c : UInt8) : ∀ acc, Lib.parseUintM M acc (l ++ [c]) = match Lib.parseUintM M acc l with
    | .ok a => Lib.parseUintM M a [c]
    | e => e := by
  induction l with
  | nil => intro acc; simp only [List.nil_append, Lib.parseUintM]
  | cons a r ih =>
    intro acc
    simp only [List.cons_append]
    rw [Lib.parseUintM, Lib.parseUintM]
    by_cases h1 : 48 ≤ a.toNat ∧ a.toNat ≤ 57
    · simp only [h1, and_self, if_true]
      by_cases h2 : 1844674407370955162 ≤ acc
      · simp only [h2, if_true]
      · simp only [h2, if_false]
        by_cases h3 : M < acc * 10 + (a.toNat - 48)
        · simp only [h3, if_true]
        · simp only [h3, if_false]
          exact ih _
    · simp only [h1, if_false]

/-- A number's digits spell it. -/
theorem decFrom_digits (u : Nat) : Lib.decFrom 0 (Lib.decDigits u) = some u := by
  induction u using Nat.strongRecOn with
  | _ u ih =>
    by_cases h : u < 10
    · rw [Lib.decDigits_one h]
      simp only [Lib.decFrom, digitVal_dig u h, Nat.zero_mul, Nat.zero_add]
    · rw [Lib.decDigits, dif_neg h, decFrom_snoc, ih (u / 10) (by omega), digitVal_dig _ (by omega)]
      simp only [Option.map_some, Option.bind_some, Option.some.injEq]
      omega

theorem parseUintM_digits (M : Nat) (hM : M < 18446744073709551616) (u : Nat) (hu : u ≤ M) : Lib.parseUintM M 0 (Lib.decDigits u) = .ok u := by
  induction u using Nat.strongRecOn with
  | _ u ih =>
    by_cases h : u < 10
    · rw [Lib.decDigits_one h, Lib.parseUintM, dig_toNat u h]
      simp only [Lib.parseUintM]
      rw [if_pos (by omega), if_neg (by omega), if_neg (by omega)]
      congr 1
      omega
    · rw [Lib.decDigits, dif_neg h, parseUintM_snoc, ih (u / 10) (by omega) (by omega)]
      simp only [Lib.parseUintM]
      rw [dig_toNat _ (by omega), if_pos (by omega), if_neg (by omega), if_neg (by omega)]
      congr 1
      omega

/-- A number's numeral is read back. -/
theorem parse_itoa (v : Int) (h0 : -9223372036854775808 ≤ v) (h1 : v ≤ 9223372036854775807) : Lib.parseIntB 64 (Lib.itoa v) = .ok v := by
  by_cases hn : v < 0
  · have e : Lib.itoa v = 45 :: Lib.decDigits v.natAbs := by unfold Lib.itoa; rw [if_pos hn]
    obtain ⟨d, r, ed, _⟩ := digits_head v.natAbs
    have hp := parseUintM_digits 18446744073709551615 (by omega) v.natAbs (by omega)
    have hB : Lib.parseUintB 64 (Lib.decDigits v.natAbs) = .ok v.natAbs := by
      unfold Lib.parseUintB
      rw [if_neg (by rw [ed]; simp)]
      exact hp
    rw [e]
    unfold Lib.parseIntB
    simp only [show ((45 : UInt8).toNat = 45) = True from by decide, or_true, if_true, hB, not_true, false_and, if_false, true_and]
    rw [if_neg (by omega)]
    congr 1
    omega
  · have e : Lib.itoa v = Lib.decDigits v.toNat := by unfold Lib.itoa; rw [if_neg hn]
    obtain ⟨d, r, ed, b1, b2, _⟩ := digits_head v.toNat
    have hp := parseUintM_digits 18446744073709551615 (by omega) v.toNat (by omega)
    have hB : Lib.parseUintB 64 (d :: r) = .ok v.toNat := by
      unfold Lib.parseUintB
      rw [if_neg (by simp), ← ed]
      exact hp
    rw [e, ed]
    unfold Lib.parseIntB
    have g1 : ¬ d.toNat = 43 := by omega
    have g2 : ¬ d.toNat = 45 := by omega
    simp only [g1, g2, or_self, if_false, hB, not_false_eq_true, true_and, false_and]
    rw [if_neg (by omega)]
    congr 1
    omega

/-- The leading digit of a number that is not nought is not nought. -/
theorem digits_lead (u : Nat) (h : 1 ≤ u) : ∃ d r, Lib.decDigits u = d :: r ∧ 49 ≤ d.toNat ∧ d.toNat ≤ 57 := by
  induction u using Nat.strongRecOn with
  | _ u ih =>
    by_cases hs : u < 10
    · exact ⟨_, [], Lib.decDigits_one hs, by rw [dig_toNat u hs]; omega, by rw [dig_toNat u hs]; omega⟩
    · obtain ⟨d, r, e, b1, b2⟩ := ih (u / 10) (by omega) (by omega)
      exact ⟨d, r ++ [UInt8.ofNat (48 + u % 10)], by rw [Lib.decDigits, dif_neg hs, e]; rfl, b1, b2⟩

/-- Digits without a nought ahead are their number's numeral, and it is not nought. -/
theorem digits_of (n : Nat) : ∀ (l : List UInt8) (u : Nat), l.length = n + 1 → Lib.decFrom 0 l = some u → (∀ c r, l = c :: r → c.toNat ≠ 48) → Lib.decDigits u = l ∧ 1 ≤ u := by
  induction n with
  | zero =>
    intro l u hl h hc
    match l, hl with
    | [c], _ =>
      have h48 := hc c [] rfl
      simp only [Lib.decFrom] at h
      cases hd : Lib.digitVal c with
      | none => rw [hd] at h; cases h
      | some d =>
        rw [hd] at h
        simp only [Option.some.injEq, Nat.zero_mul, Nat.zero_add] at h
        unfold Lib.digitVal at hd
        split at hd
        · rename_i hb
          obtain rfl := Option.some.inj hd
          subst h
          refine ⟨?_, by omega⟩
          rw [Lib.decDigits_one (by omega), dig_of hb.1 hb.2]
        · cases hd
  | succ n ih =>
    intro l u hl h hc
    obtain ⟨l', c, rfl⟩ : ∃ l' c, l = l' ++ [c] := ⟨l.dropLast, l.getLast (by intro e; simp [e] at hl), (List.dropLast_concat_getLast _).symm⟩
    have hl' : l'.length = n + 1 := by simpa using hl
    rw [decFrom_snoc] at h
    cases h' : Lib.decFrom 0 l' with
    | none => rw [h'] at h; cases h
    | some m =>
      rw [h'] at h
      simp only [Option.bind_some] at h
      obtain ⟨e, hm⟩ := ih l' m hl' h' (fun a r hh => hc a (r ++ [c]) (by rw [hh]; rfl))
      cases hd : Lib.digitVal c with
      | none => rw [hd] at h; cases h
      | some d =>
        rw [hd] at h
        simp only [Option.map_some, Option.some.injEq] at h
        unfold Lib.digitVal at hd
        split at hd
        · rename_i hb
          obtain rfl := Option.some.inj hd
          subst h
          refine ⟨?_, by omega⟩
          rw [Lib.decDigits, dif_neg (by omega), show (m * 10 + (c.toNat - 48)) / 10 = m by omega, show (m * 10 + (c.toNat - 48)) % 10 = c.toNat - 48 by omega, e, dig_of hb.1 hb.2]
        · cases hd

/-- No numeral has a nought ahead. -/
theorem itoa_lead (v : Int) (r : List UInt8) (h : Lib.itoa v = 48 :: r) : r = [] := by
  by_cases hn : v < 0
  · unfold Lib.itoa at h
    rw [if_pos hn] at h
    simp at h
  · unfold Lib.itoa at h
    rw [if_neg hn] at h
    by_cases h0 : v.toNat = 0
    · rw [h0, Lib.decDigits_one (by omega)] at h
      simpa using h.symm
    · obtain ⟨d, r', e, b1, _⟩ := digits_lead v.toNat (by omega)
      rw [e] at h
      obtain ⟨rfl, _⟩ := List.cons.inj h
      simp at b1
theorem itoa_minus (v : Int) (r : List UInt8) : Lib.itoa v ≠ 45 :: 48 :: r := by
  intro h
  by_cases hn : v < 0
  · unfold Lib.itoa at h
    rw [if_pos hn] at h
    obtain ⟨d, r', e, b1, _⟩ := digits_lead v.natAbs (by omega)
    rw [e] at h
    simp only [List.cons.injEq, true_and] at h
    rw [h.1] at b1
    simp at b1
  · unfold Lib.itoa at h
    rw [if_neg hn] at h
    obtain ⟨d, r', e, b1, b2, _⟩ := digits_head v.toNat
    rw [e] at h
    obtain ⟨rfl, _⟩ := List.cons.inj h
    simp at b1
end Go.Proofs.YtmgjcgolebfjjaaDoor
