/- The decimal numeral, of no program: its length, its first byte, and that reading it gives the number back. -/
import Derived.Lib.ItoaNum
import Derived.Lib.ParseIntB
namespace Go.Proofs.YtmgjcgolebfjjaaDoor

theorem nDigits_le : ∀ (k u : Nat), u < 10 ^ (k + 1) → Lib.nDigits u ≤ k + 1
  | 0, u, h => by rw [Lib.nDigits_small (by simpa using h)]; exact Nat.le_refl _
  | k + 1, u, h => by
    by_cases hs : u < 10
    · rw [Lib.nDigits_small hs]; omega
    · rw [Lib.nDigits_big hs]
      have := nDigits_le k (u / 10) (by rw [Nat.pow_succ] at h; omega)
      omega

theorem digits_head (u : Nat) : ∃ d r, Lib.decDigits u = d :: r ∧ 48 ≤ d.toNat ∧ d.toNat ≤ 57 ∧ (10 ≤ u → r ≠ []) := by
  induction u using Nat.strongRecOn with
  | _ u ih =>
    by_cases h : u < 10
    · refine ⟨_, [], Lib.decDigits_one h, ?_, ?_, fun h' => by omega⟩
      · rw [UInt8.toNat_ofNat']; omega
      · rw [UInt8.toNat_ofNat']; omega
    · obtain ⟨d, r, e, h1, h2, _⟩ := ih (u / 10) (by omega)
      refine ⟨d, r ++ [UInt8.ofNat (48 + u % 10)], ?_, h1, h2, fun _ => by simp⟩
      rw [Lib.decDigits, dif_neg h, e]; rfl

/-- What NumLess asks of a number's text. -/
theorem itoa_shape (a : Int) (h0 : -9223372036854775808 ≤ a) (h1 : a ≤ 9223372036854775807) :
    1 ≤ (Lib.itoa a).length ∧ (Lib.itoa a).length ≤ 20 ∧ (a < 0 → (Lib.itoa a).head? = some 45 ∧ (Lib.itoa a).length ≠ 1)
      ∧ (0 ≤ a → ∃ d, (Lib.itoa a).head? = some d ∧ 48 ≤ d.toNat ∧ d.toNat ≤ 57) ∧ (0 ≤ a → a < 10 → (Lib.itoa a).length = 1) ∧ (10 ≤ a → (Lib.itoa a).length ≠ 1) ∧ (a = 0 → Lib.itoa a = [48]) := by
  by_cases hn : a < 0
  · have e : Lib.itoa a = 45 :: Lib.decDigits a.natAbs := by unfold Lib.itoa; rw [if_pos hn]
    have hl := Lib.decDigits_length a.natAbs
    have hp := Lib.nDigits_pos a.natAbs
    have hle := nDigits_le 18 a.natAbs (by omega)
    rw [e]
    refine ⟨by simp, by rw [List.length_cons]; omega, fun _ => ⟨rfl, by rw [List.length_cons]; omega⟩, by omega, by omega, by omega, by omega⟩
  · have e : Lib.itoa a = Lib.decDigits a.toNat := by unfold Lib.itoa; rw [if_neg hn]
    have hl := Lib.decDigits_length a.toNat
    have hp := Lib.nDigits_pos a.toNat
    have hle := nDigits_le 18 a.toNat (by omega)
    obtain ⟨d, r, ed, b1, b2, _⟩ := digits_head a.toNat
    rw [e]
    refine ⟨by omega, by omega, by omega, fun _ => ⟨d, by rw [ed]; rfl, b1, b2⟩, fun _ h => ?_, fun h => ?_, fun h => ?_⟩
    · rw [hl, Lib.nDigits_small (by omega)]
    · rw [hl, Lib.nDigits_big (by omega)]
      have := Lib.nDigits_pos (a.toNat / 10)
      omega
    · subst h; simp [Lib.decDigits]
end Go.Proofs.YtmgjcgolebfjjaaDoor
