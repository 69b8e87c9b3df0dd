/- The letters of a set, from the lowest bit on. Of no memory. -/
import Derived.Test.YtacflahkofmcpaaGreatDoorJ09WlOwnR
import Derived.Lib.TrailingZeros
namespace Go.Proofs.YtacflahkofmcpaaGreatDoor.Wl

def bitsN (n : Nat) : List Nat := (List.range 26).filter (fun i => n.testBit i)
theorem cnt_bits (n : Nat) : cntN n = (bitsN n).length := rfl
theorem letters_bits (n : Nat) : lettersN n = (bitsN n).map (fun i => UInt8.ofNat (97 + i)) := rfl
theorem bits_zero : bitsN 0 = [] := by decide
theorem low_bits (k m i : Nat) : (2 ^ k * (2 * m + 1)).testBit i = (decide (i = k) || (2 ^ (k + 1) * m).testBit i) := by
  rw [Nat.mul_comm, Nat.testBit_mul_two_pow, Nat.mul_comm (2 ^ (k + 1)), Nat.testBit_mul_two_pow]
  rcases Nat.lt_trichotomy i k with h | h | h
  · have h1 : ¬ k ≤ i := by omega
    have h2 : ¬ k + 1 ≤ i := by omega
    simp [h1, h2]; omega
  · subst h
    simp [Nat.testBit_zero]
  · obtain ⟨j, rfl⟩ : ∃ j, i = k + (j + 1) := ⟨i - k - 1, by omega⟩
    have e : k + (j + 1) - k = j + 1 := by omega
    have e2 : k + (j + 1) - (k + 1) = j := by omega
    have d : (2 * m + 1) / 2 = m := by omega
    rw [e, e2, Nat.testBit_succ, d]
    simp
theorem low_and (k m : Nat) : (2 ^ k * (2 * m + 1)) &&& (2 ^ k * (2 * m + 1) - 1) = 2 ^ (k + 1) * m := by
  have hp : 0 < 2 ^ k := Nat.two_pow_pos k
  have e : 2 ^ k * (2 * m + 1) - 1 = 2 ^ (k + 1) * m + (2 ^ k - 1) := by
    rw [Nat.pow_succ, Nat.mul_add, Nat.mul_one, Nat.mul_assoc]
    omega
  have hlt : 2 ^ k - 1 < 2 ^ (k + 1) := by rw [Nat.pow_succ]; omega
  apply Nat.eq_of_testBit_eq
  intro i
  rw [Nat.testBit_and, low_bits, e, Nat.testBit_two_pow_mul_add _ hlt, Nat.mul_comm (2 ^ (k + 1)), Nat.testBit_mul_two_pow]
  by_cases h : i < k + 1
  · have h1 : ¬ k + 1 ≤ i := by omega
    rw [if_pos h, Nat.testBit_two_pow_sub_one]
    simp [h1]
    omega
  · have h1 : k + 1 ≤ i := by omega
    have h2 : ¬ i = k := by omega
    rw [if_neg h]
    simp [h1, h2]
theorem filter_cons (A B : Nat → Bool) (k d : Nat) (hA : ∀ i, A i = (decide (i = k) || B i)) (hB : ∀ i, i ≤ k → B i = false) :
    (List.range (k + (d + 1))).filter A = k :: (List.range (k + (d + 1))).filter B := by
  have h1 : (List.range k).filter A = [] := by
    rw [List.filter_eq_nil_iff]
    intro i hi
    have hi' : i < k := by simpa using hi
    rw [hA, hB i (by omega)]
    simp; omega
  have h2 : (List.range k).filter B = [] := by
    rw [List.filter_eq_nil_iff]
    intro i hi
    have hi' : i < k := by simpa using hi
    rw [hB i (by omega)]
    simp
  have h3 : ((List.range d).map (fun i => k + (i + 1))).filter A = ((List.range d).map (fun i => k + (i + 1))).filter B := by
    apply List.filter_congr
    intro i hi
    obtain ⟨j, _, rfl⟩ := List.mem_map.1 hi
    rw [hA]
    simp
  have e : List.range (k + (d + 1)) = List.range k ++ (k :: (List.range d).map (fun i => k + (i + 1))) := by
    rw [List.range_add, List.range_succ_eq_map, List.map_cons, List.map_map]
    rfl
  rw [e, List.filter_append, List.filter_append, h1, h2, List.filter_cons, List.filter_cons, h3, hA k, hB k (Nat.le_refl _)]
  simp
theorem bits_cons (k m : Nat) (hk : k < 26) : bitsN (2 ^ k * (2 * m + 1)) = k :: bitsN (2 ^ (k + 1) * m) := by
  unfold bitsN
  have e : 26 = k + ((25 - k) + 1) := by omega
  rw [e]
  refine filter_cons _ _ k (25 - k) (fun i => low_bits k m i) (fun i hi => ?_)
  rw [Nat.mul_comm, Nat.testBit_mul_two_pow]
  have : ¬ k + 1 ≤ i := by omega
  simp [this]
/-- The lowest letter, and the others. -/
theorem rise_step (r : Nat) (h0 : r ≠ 0) (h : r < 67108864) : Lib.ctz 32 r < 26 ∧ bitsN r = Lib.ctz 32 r :: bitsN (r &&& (r - 1)) ∧ r &&& (r - 1) < r := by
  obtain ⟨m, hm, _⟩ := Lib.ctzFrom_spec 32 r (by omega) (by omega)
  have e : Lib.ctz 32 r = Lib.ctzFrom 32 r := by simp [Lib.ctz, h0]
  rw [e]
  generalize Lib.ctzFrom 32 r = k at *
  have hp : 0 < 2 ^ k := Nat.two_pow_pos k
  have hle : 2 ^ k ≤ r := by rw [hm]; exact Nat.le_mul_of_pos_right _ (by omega)
  have hk : k < 26 := by
    apply Nat.lt_of_not_le
    intro hh
    have : 2 ^ 26 ≤ 2 ^ k := Nat.pow_le_pow_right (by decide) hh
    omega
  have ha : r &&& (r - 1) = 2 ^ (k + 1) * m := by rw [hm]; exact low_and k m
  refine ⟨hk, ?_, ?_⟩
  · rw [ha, hm]; exact bits_cons k m hk
  · rw [ha, hm, Nat.pow_succ, Nat.mul_add, Nat.mul_one, Nat.mul_assoc]; omega
end Go.Proofs.YtacflahkofmcpaaGreatDoor.Wl
