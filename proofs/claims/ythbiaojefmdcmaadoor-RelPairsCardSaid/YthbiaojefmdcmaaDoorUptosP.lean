/- Few numbers in one word, in plain Lean: the first so many; in and out again. -/
import Derived.Test.YthbiaojefmdcmaaDoorSetQ
namespace Go.Proofs.YthbiaojefmdcmaaDoor

theorem upto_facts : ∀ k, k ≤ 64 → cnt64 (2 ^ k - 1) = k ∧ (k ≠ 0 → hasI (2 ^ k - 1) ((k : Int) - 1) = true) ∧ hasI (2 ^ k - 1) k = false := by decide +kernel
theorem upto_zero (n : Int) (h : n ≤ 0) : uptoI n = 0 := by
  unfold uptoI
  split
  · rfl
  · have : n = 0 := by omega
    subst this
    rfl
theorem upto_mid (k : Nat) (h : k ≤ 64) : uptoI k = 2 ^ k - 1 := by
  unfold uptoI
  rw [if_neg (by omega)]
  split
  · have : k = 64 := by omega
    subst this
    rfl
  · rw [Int.toNat_natCast]
theorem upto_top (n : Int) (h : 64 ≤ n) : uptoI n = 2 ^ 64 - 1 := by
  unfold uptoI
  rw [if_neg (by omega), if_pos h]
theorem upto_lt (n : Int) : uptoI n < 18446744073709551616 := by
  unfold uptoI
  split
  · decide
  · split
    · decide
    · have : 2 ^ n.toNat ≤ 2 ^ 63 := Nat.pow_le_pow_right (by decide) (by omega)
      omega
theorem high_bit {s : Nat} (hs : s < 18446744073709551616) {j : Nat} (h : ¬ j < 64) : s.testBit j = false :=
  Nat.testBit_lt_two_pow (Nat.lt_of_lt_of_le hs (Nat.pow_le_pow_right (n := 2) (i := 64) (by decide) (by omega)))
theorem out_in (s : Nat) (i : Int) (hs : s < 18446744073709551616) : lessI (withI s i) i = lessI s i := by
  apply Nat.eq_of_testBit_eq
  intro j
  rw [less_bit _ _ _ (with_lt s i hs), with_bit, less_bit _ _ _ hs]
  by_cases h : i = (j : Int) ∧ j < 64 <;> simp [h]
theorem in_out (s : Nat) (i : Int) (hs : s < 18446744073709551616) : withI (lessI s i) i = withI s i := by
  apply Nat.eq_of_testBit_eq
  intro j
  rw [with_bit, with_bit, less_bit _ _ _ hs]
  by_cases h : i = (j : Int) ∧ j < 64 <;> simp [h]
theorem in_has (s : Nat) (k : Nat) (hk : k < 64) : hasI (withI s k) k = true := by
  rw [has_bit, with_bit]
  have h1 : (0 : Int) ≤ (k : Int) ∧ (k : Int) < 64 := by omega
  have h2 : (k : Int) = ((k : Int).toNat : Int) ∧ (k : Int).toNat < 64 := by omega
  rw [decide_eq_true h1, decide_eq_true h2]
  simp
def ofN (s : Nat) (L : List Int) : Nat := L.foldl withI s
theorem of_bit : ∀ (L : List Nat) (s j : Nat), (ofN s (L.map fun i : Nat => (i : Int))).testBit j = (s.testBit j || L.any fun i => decide (i = j ∧ j < 64))
  | [], s, j => by simp [ofN]
  | i :: L, s, j => by
    have := of_bit L (withI s i) j
    rw [with_bit] at this
    rw [List.map_cons, ofN, List.foldl_cons]
    refine this.trans ?_
    rw [List.any_cons, Bool.or_assoc]
    congr 2
    apply decide_eq_decide.2
    omega
theorem of_bits (s : Nat) (hs : s < 18446744073709551616) : ofN 0 ((bits64 s).map fun i : Nat => (i : Int)) = s := by
  apply Nat.eq_of_testBit_eq
  intro j
  rw [of_bit, Nat.zero_testBit, Bool.false_or]
  by_cases h : j < 64
  · by_cases hb : s.testBit j = true
    · rw [hb, List.any_eq_true]
      exact ⟨j, (mem64 s j).2 ⟨h, hb⟩, by simp [h]⟩
    · have hb' : s.testBit j = false := by simpa using hb
      rw [hb', List.any_eq_false]
      intro i hi
      have := ((mem64 s i).1 hi).2
      intro he
      have he' : i = j ∧ j < 64 := by simpa using he
      rw [he'.1] at this
      rw [this] at hb'
      exact absurd hb' (by decide)
  · rw [high_bit hs h, List.any_eq_false]
    intro i _
    simp [h]
end Go.Proofs.YthbiaojefmdcmaaDoor
