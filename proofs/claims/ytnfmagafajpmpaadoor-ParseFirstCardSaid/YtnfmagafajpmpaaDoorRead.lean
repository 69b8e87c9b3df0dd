/- What Parse answers, in the numeral's own words: a text is a number just if it is that number's numeral. -/
import Derived.Test.YtnfmagafajpmpaaDoorNumBase
import Derived.Test.YtnfmagafajpmpaaDoorCanon
namespace Go.Proofs.YtnfmagafajpmpaaDoor

theorem parseV_itoa {l : List UInt8} (v : Int) (h0 : -9223372036854775808 ≤ v) (h1 : v ≤ 9223372036854775807) (h : Lib.itoa v = l) : parseV l = some v := by
  subst h
  unfold parseV
  rw [parse_itoa v h0 h1]
  simp
theorem parseV_of {l : List UInt8} {v : Int} (h : parseV l = some v) : Lib.itoa v = l := by
  unfold parseV at h
  split at h
  · split at h
    · rename_i e; obtain rfl := Option.some.inj h; exact e
    · cases h
  · cases h
theorem parseV_range {l : List UInt8} (h : Lib.parseIntB 64 l = .range) : parseV l = none := by unfold parseV; rw [h]
theorem parseV_no {l : List UInt8} (h : (match Lib.parseIntB 64 l with | .ok _ => true | _ => false) = false) : parseV l = none := by
  unfold parseV
  split
  · rename_i e; rw [e] at h; cases h
  · rfl

theorem parseV_bound {l : List UInt8} {v : Int} (h : parseV l = some v) : -9223372036854775808 ≤ v ∧ v ≤ 9223372036854775807 := by
  unfold parseV at h
  split at h
  · rename_i hp
    split at h
    · obtain rfl := Option.some.inj h
      exact parseIntB_bound hp
    · cases h
  · cases h

/-- Behind a minus. -/
theorem neg_yes {m : List UInt8} {u : Nat} (hne : m ≠ []) (hh : ∀ c r, m = c :: r → c.toNat ≠ 48) (h : Lib.decFrom 0 m = some u) (hu : u ≤ 9223372036854775808) : parseV (45 :: m) = some (-(u : Int)) := by
  obtain ⟨n, hn⟩ : ∃ n, m.length = n + 1 := ⟨m.length - 1, by cases m with | nil => exact absurd rfl hne | cons a r => simp⟩
  obtain ⟨e, h1⟩ := digits_of n m u hn h hh
  refine parseV_itoa _ (by omega) (by omega) ?_
  unfold Lib.itoa
  rw [if_pos (by omega), show (-(u : Int)).natAbs = u by omega, e]
theorem neg_shape {m : List UInt8} {v : Int} (h : parseV (45 :: m) = some v) : m ≠ [] ∧ m.length ≤ 19 ∧ (∀ c r, m = c :: r → c.toNat ≠ 48) ∧ ∃ u : Nat, Lib.decFrom 0 m = some u ∧ u ≤ 9223372036854775808 := by
  obtain ⟨b0, b1⟩ := parseV_bound h
  have e := parseV_of h
  by_cases hn : v < 0
  · unfold Lib.itoa at e
    rw [if_pos hn] at e
    obtain ⟨-, rfl⟩ := List.cons.inj e
    obtain ⟨d, r, ed, c1, _⟩ := digits_lead v.natAbs (by omega)
    refine ⟨by rw [ed]; simp, ?_, ?_, v.natAbs, decFrom_digits _, by omega⟩
    · rw [Lib.decDigits_length]; exact nDigits_le 18 _ (by omega)
    · intro c r' hc
      rw [ed] at hc
      obtain ⟨rfl, _⟩ := List.cons.inj hc
      omega
  · unfold Lib.itoa at e
    rw [if_neg hn] at e
    obtain ⟨d, r, ed, c1, c2, _⟩ := digits_head v.toNat
    rw [ed] at e
    obtain ⟨rfl, _⟩ := List.cons.inj e
    simp at c1
/-- Without one. -/
theorem pos_yes {m : List UInt8} {u : Nat} (hne : m ≠ []) (hh : (∀ c r, m = c :: r → c.toNat ≠ 48) ∨ m.length = 1) (h : Lib.decFrom 0 m = some u) (hu : u < 9223372036854775808) : parseV m = some (u : Int) := by
  refine parseV_itoa _ (by omega) (by omega) ?_
  unfold Lib.itoa
  rw [if_neg (by omega), show (u : Int).toNat = u by omega]
  rcases hh with hh | h1
  · obtain ⟨n, hn⟩ : ∃ n, m.length = n + 1 := ⟨m.length - 1, by cases m with | nil => exact absurd rfl hne | cons a r => simp⟩
    exact (digits_of n m u hn h hh).1
  · match m, h1 with
    | [c], _ =>
      simp only [Lib.decFrom] at h
      cases hd : Lib.digitVal c with
      | none => rw [hd] at h; cases h
      | some d =>
        rw [hd] at h
        simp only [Option.some.injEq, Nat.zero_mul, Nat.zero_add] at h
        unfold Lib.digitVal at hd
        split at hd
        · rename_i hb
          obtain rfl := Option.some.inj hd
          subst h
          rw [Lib.decDigits_one (by omega), dig_of hb.1 hb.2]
        · cases hd
theorem pos_shape {c : UInt8} {r : List UInt8} {v : Int} (hc : c.toNat ≠ 45) (h : parseV (c :: r) = some v) : (c :: r).length ≤ 19 ∧ (c.toNat = 48 → r = []) ∧ ∃ u : Nat, Lib.decFrom 0 (c :: r) = some u ∧ u < 9223372036854775808 := by
  obtain ⟨b0, b1⟩ := parseV_bound h
  have e := parseV_of h
  by_cases hn : v < 0
  · unfold Lib.itoa at e
    rw [if_pos hn] at e
    obtain ⟨rfl, _⟩ := List.cons.inj e
    exact absurd rfl hc
  · refine ⟨?_, fun h48 => ?_, v.toNat, ?_, by omega⟩
    · rw [← e]
      unfold Lib.itoa
      rw [if_neg hn, Lib.decDigits_length]
      exact nDigits_le 18 _ (by omega)
    · have : c = 48 := UInt8.toNat_inj.1 h48
      subst this
      exact itoa_lead v r e
    · rw [← e]
      unfold Lib.itoa
      rw [if_neg hn]
      exact decFrom_digits _
end Go.Proofs.YtnfmagafajpmpaaDoor
