/- Few numbers in one word, in plain Lean: the next of as many, held against all that lie between; how many there are. -/
import Derived.Test.YtpfhfabhjnmlfaaDoorNextsP
namespace Go.Proofs.YtpfhfabhjnmlfaaDoor

theorem run_ctz (s t m : Nat) (h0 : s ≠ 0) (hs : s < 18446744073709551616) (e : s = 2 ^ t * (2 * m + 1)) : Lib.ctz 64 s = t ∧ s &&& (18446744073709551616 - s) = 2 ^ t := by
  have h1 := (Lib.lowest_bit 64 s h0 hs).1
  have h2 := Lib.and_neg 64 t m (by rw [← e]; exact hs)
  rw [← e] at h2
  have h3 : 2 ^ Lib.ctz 64 s = 2 ^ t := h1.symm.trans h2
  refine ⟨?_, h2⟩
  rcases Nat.lt_trichotomy (Lib.ctz 64 s) t with h | h | h
  · have := Nat.pow_lt_pow_right (by decide : 1 < 2) h; omega
  · exact h
  · have := Nat.pow_lt_pow_right (by decide : 1 < 2) h; omega
/-- The word with the run carried over. -/
theorem run_xor (A t r : Nat) : (A * 2 ^ (t + r + 1) + (2 ^ r - 1) * 2 ^ t) ^^^ (A * 2 ^ (t + r + 1) + 2 ^ (t + r)) = (2 ^ (r + 1) - 1) * 2 ^ t := by
  have hr : (2 ^ r - 1) * 2 ^ t < 2 ^ (t + r + 1) := by
    have h1 : (2 ^ r - 1) * 2 ^ t ≤ 2 ^ r * 2 ^ t := Nat.mul_le_mul_right _ (Nat.sub_le _ _)
    have h2 : 2 ^ r * 2 ^ t = 2 ^ (t + r) := by rw [← Nat.pow_add, Nat.add_comm]
    have h3 : 0 < 2 ^ (t + r) := Nat.two_pow_pos _
    rw [Nat.pow_succ]
    omega
  have hc : 2 ^ (t + r) < 2 ^ (t + r + 1) := by have := Nat.two_pow_pos (t + r); rw [Nat.pow_succ]; omega
  apply Nat.eq_of_testBit_eq
  intro i
  rw [Nat.testBit_xor, Nat.mul_comm A, Nat.testBit_two_pow_mul_add _ hr, Nat.testBit_two_pow_mul_add _ hc, Nat.testBit_mul_two_pow, Nat.testBit_mul_two_pow, Nat.testBit_two_pow_sub_one, Nat.testBit_two_pow_sub_one, Nat.testBit_two_pow]
  by_cases h : i < t + r + 1
  · rw [if_pos h, if_pos h]
    by_cases h1 : t ≤ i
    · by_cases h2 : i - t < r
      · have h3 : ¬ t + r = i := by omega
        have h4 : i - t < r + 1 := by omega
        simp [h1, h2, h3, h4]
      · have h3 : t + r = i := by omega
        have h4 : i - t < r + 1 := by omega
        simp [h1, h2, h3, h4]
    · have h3 : ¬ t + r = i := by omega
      simp [h1, h3]
  · rw [if_neg h, if_neg h]
    have h1 : t ≤ i := by omega
    have h2 : ¬ i - t < r + 1 := by omega
    simp [h2]
theorem quarter (r t : Nat) (h : 1 ≤ r) : (2 ^ (r + 1) - 1) * 2 ^ t / 2 ^ t / 4 = 2 ^ (r - 1) - 1 := by
  rw [Nat.mul_div_cancel _ (Nat.two_pow_pos t)]
  obtain ⟨q, rfl⟩ : ∃ q, r = q + 1 := ⟨r - 1, by omega⟩
  have hp : 0 < 2 ^ q := Nat.two_pow_pos q
  rw [show q + 1 - 1 = q by omega, Nat.pow_succ, Nat.pow_succ]
  omega
theorem next_form (s : Nat) (h0 : s ≠ 0) (hs : s < 18446744073709551616) :
    nextN s = 0 ∨ ∃ t r A, 1 ≤ r ∧ t + r + 1 ≤ 64 ∧ s = A * 2 ^ (t + r + 1) + (2 ^ r - 1) * 2 ^ t ∧ nextN s = A * 2 ^ (t + r + 1) + (2 ^ (t + r) + (2 ^ (r - 1) - 1)) ∧ A * 2 ^ (t + r + 1) + 2 ^ (t + r + 1) ≤ 18446744073709551616 := by
  obtain ⟨t, r, A, hr, hn, he⟩ := run_of 64 s h0 hs
  obtain ⟨q, hq⟩ : ∃ q, r = q + 1 := ⟨r - 1, by omega⟩
  have hpt : 0 < 2 ^ t := Nat.two_pow_pos t
  have hpq : 0 < 2 ^ q := Nat.two_pow_pos q
  have hodd : s = 2 ^ t * (2 * (A * 2 ^ r + (2 ^ q - 1)) + 1) := by
    rw [he, show t + r + 1 = t + (r + 1) by omega, Nat.pow_add 2 t (r + 1), ← Nat.mul_assoc, Nat.mul_comm A, Nat.mul_assoc, Nat.mul_comm (2 ^ r - 1), ← Nat.mul_add]
    congr 1
    rw [Nat.pow_succ, ← Nat.mul_assoc, hq, Nat.pow_succ 2 q]
    generalize A * (2 ^ q * 2) = P
    omega
  obtain ⟨hctz, hlow⟩ := run_ctz s t _ h0 hs hodd
  have hrt : (2 ^ r - 1) * 2 ^ t + 2 ^ t = 2 ^ (t + r) := by
    rw [Nat.pow_add, Nat.mul_comm (2 ^ t)]
    have hp : 0 < 2 ^ r := Nat.two_pow_pos r
    obtain ⟨p, hp'⟩ : ∃ p, 2 ^ r = p + 1 := ⟨2 ^ r - 1, by omega⟩
    rw [hp', show p + 1 - 1 = p by omega, Nat.add_mul, Nat.one_mul]
  have hcar : s + (s &&& (18446744073709551616 - s) % 18446744073709551616) = A * 2 ^ (t + r + 1) + 2 ^ (t + r) := by
    rw [Nat.mod_eq_of_lt (show 18446744073709551616 - s < 18446744073709551616 by omega), hlow, ← hrt]
    omega
  have hN : nextN s = if (A * 2 ^ (t + r + 1) + 2 ^ (t + r)) % 18446744073709551616 = 0 then 0 else (A * 2 ^ (t + r + 1) + 2 ^ (t + r)) % 18446744073709551616 ||| ((s ^^^ ((A * 2 ^ (t + r + 1) + 2 ^ (t + r)) % 18446744073709551616)) / 2 ^ t) / 4 := by
    unfold nextN
    simp only [hcar, hctz]
  by_cases h64 : t + r + 1 ≤ 64
  · have hA : A * 2 ^ (t + r + 1) + 2 ^ (t + r + 1) ≤ 18446744073709551616 := by
      obtain ⟨d, hd⟩ : ∃ d, 64 = (t + r + 1) + d := ⟨64 - (t + r + 1), by omega⟩
      have e64 : (18446744073709551616 : Nat) = 2 ^ d * 2 ^ (t + r + 1) := by rw [← Nat.pow_add, Nat.add_comm d, ← hd]
      have hlt : A * 2 ^ (t + r + 1) < 2 ^ d * 2 ^ (t + r + 1) := by rw [← e64]; omega
      have hAd : A < 2 ^ d := Nat.lt_of_mul_lt_mul_right hlt
      rw [e64, ← Nat.succ_mul]
      exact Nat.mul_le_mul_right _ hAd
    have hlt : A * 2 ^ (t + r + 1) + 2 ^ (t + r) < 18446744073709551616 := by
      have := Nat.two_pow_pos (t + r)
      rw [Nat.pow_succ 2 (t + r)] at hA ⊢
      omega
    refine Or.inr ⟨t, r, A, hr, h64, he, ?_, hA⟩
    rw [hN, Nat.mod_eq_of_lt hlt, if_neg (by have := Nat.two_pow_pos (t + r); omega), he, run_xor, quarter r t hr]
    have hqlt : 2 ^ (r - 1) - 1 < 2 ^ (t + r) := by
      have h1 : 2 ^ (r - 1) ≤ 2 ^ (t + r) := Nat.pow_le_pow_right (by decide) (by omega)
      have h2 := Nat.two_pow_pos (r - 1)
      omega
    have hfac : A * 2 ^ (t + r + 1) + 2 ^ (t + r) = 2 ^ (t + r) * (2 * A + 1) := by
      rw [Nat.pow_succ, Nat.mul_add, Nat.mul_one, Nat.mul_comm A, Nat.mul_assoc]
    rw [hfac, ← Nat.two_pow_add_eq_or_of_lt hqlt, ← hfac, Nat.add_assoc]
  · have htr : t + r = 64 := by omega
    have hA0 : A = 0 := by
      rcases A with _ | A
      · rfl
      · exfalso
        rw [htr] at he
        have : 2 ^ (64 + 1) ≤ (A + 1) * 2 ^ (64 + 1) := Nat.le_mul_of_pos_left _ (by omega)
        have e65 : (2 : Nat) ^ (64 + 1) = 36893488147419103232 := by decide
        rw [e65] at this he
        omega
    left
    rw [hN, hA0, htr]
    rfl
theorem pc_run (t r : Nat) : pc (t + r + 1) ((2 ^ r - 1) * 2 ^ t) = r := by
  rw [Nat.add_assoc, pc_split, Nat.mul_mod_left, pc_zero, Nat.mul_div_cancel _ (Nat.two_pow_pos t), pc_ones r (r + 1) (by omega), Nat.zero_add]
theorem pc_top (m v : Nat) (h : v < 2 ^ m) : pc (m + 1) (2 ^ m + v) = pc m v + 1 := by
  have hp := Nat.two_pow_pos m
  rw [pc_split m 1, Nat.add_mod_left, Nat.mod_eq_of_lt h, Nat.add_div_left _ hp, Nat.div_eq_of_lt h]
  rfl
theorem pc_at (A B u : Nat) (hB : B ≤ 64) (hu : u < 2 ^ B) : pc 64 (A * 2 ^ B + u) = pc B u + pc (64 - B) A := by
  obtain ⟨d, hd⟩ : ∃ d, 64 = B + d := ⟨64 - B, by omega⟩
  have hp := Nat.two_pow_pos B
  rw [hd, pc_split, Nat.mul_comm, Nat.mul_add_mod, Nat.mod_eq_of_lt hu, Nat.mul_add_div hp, Nat.div_eq_of_lt hu, Nat.add_zero, show B + d - B = d by omega]
/-- The next word of as many bits: greater, of as many, and none of that many between. -/
theorem next_spec (s : Nat) (hs : s < 18446744073709551616) (hn : nextN s ≠ 0) :
    s < nextN s ∧ nextN s < 18446744073709551616 ∧ cnt64 (nextN s) = cnt64 s ∧ ∀ z, s < z → z < nextN s → cnt64 z ≠ cnt64 s := by
  have h0 : s ≠ 0 := fun h => hn (by subst h; rfl)
  rcases next_form s h0 hs with h | ⟨t, r, A, hr, hB, he, hN, hA⟩
  · exact absurd h hn
  have hp := Nat.two_pow_pos (t + r)
  have hq1 : 2 ^ (r - 1) ≤ 2 ^ (t + r) := Nat.pow_le_pow_right (by decide) (by omega)
  have hq2 := Nat.two_pow_pos (r - 1)
  have hrt : (2 ^ r - 1) * 2 ^ t < 2 ^ (t + r) := by
    rw [Nat.pow_add, Nat.mul_comm (2 ^ t)]
    have := Nat.two_pow_pos r
    exact Nat.mul_lt_mul_of_pos_right (by omega) (Nat.two_pow_pos t)
  have hs2 : 2 ^ (t + r + 1) = 2 ^ (t + r) * 2 := Nat.pow_succ _ _
  have hcs : cnt64 s = r + pc (64 - (t + r + 1)) A := by
    rw [cnt_pc, he, pc_at A _ _ hB (by omega), pc_run]
  have hcn : cnt64 (nextN s) = r + pc (64 - (t + r + 1)) A := by
    rw [cnt_pc, hN, pc_at A _ _ hB (by omega), pc_top _ _ (by omega), pc_ones (r - 1) (t + r) (by omega), Nat.sub_add_cancel hr]
  refine ⟨by omega, by omega, hcn.trans hcs.symm, fun z h1 h2 hz => ?_⟩
  rw [hcs, cnt_pc] at hz
  obtain ⟨u, hu⟩ : ∃ u, z = A * 2 ^ (t + r + 1) + u := ⟨z - A * 2 ^ (t + r + 1), by omega⟩
  have hul : u < 2 ^ (t + r + 1) := by omega
  rw [hu, pc_at A _ _ hB hul] at hz
  have hpu : pc (t + r + 1) u = r := by omega
  by_cases hlow : u < 2 ^ (t + r)
  · rw [pc_lt (t + r) (t + r + 1) u hlow (by omega)] at hpu
    have := pc_max (t + r) u hlow
    rw [hpu, show t + r - r = t by omega] at this
    omega
  · obtain ⟨v, hv⟩ : ∃ v, u = 2 ^ (t + r) + v := ⟨u - 2 ^ (t + r), by omega⟩
    have hvl : v < 2 ^ (t + r) := by omega
    rw [hv, pc_top _ _ hvl] at hpu
    have := pc_min (t + r) v hvl
    rw [show pc (t + r) v = r - 1 by omega] at this
    omega
theorem next_lt (s : Nat) (hs : s < 18446744073709551616) : nextN s < 18446744073709551616 := by
  by_cases h : nextN s = 0
  · rw [h]; decide
  · exact (next_spec s hs h).2.1
/-- Choices of so many out of so many, as the law reckons them. -/
def wantN (n : Nat) : Nat → Nat
  | 0 => 1
  | i + 1 => wantN n i * (n - i) / (i + 1)
/-- The law's walk through all of one size. -/
def runC : Nat → Nat → Nat → Nat → Nat → Nat
  | 0, _, _, _, c => c
  | f + 1, n, want, z, c => if z < 2 ^ n ∧ c ≤ want then (if nextN z = 0 then c + 1 else runC f n want (nextN z) (c + 1)) else c
theorem runs_all : ∀ n, n < 11 → ∀ k, k < 11 → k ≤ n → runC 254 n (wantN n k) (2 ^ k - 1) 0 = wantN n k ∧ wantN n k ≤ 252 := by decide +kernel
theorem want_le : ∀ n, n < 11 → ∀ i, i < 11 → i ≤ n → wantN n i ≤ 252 := fun n hn i hi h => (runs_all n hn i hi h).2
end Go.Proofs.YtpfhfabhjnmlfaaDoor
