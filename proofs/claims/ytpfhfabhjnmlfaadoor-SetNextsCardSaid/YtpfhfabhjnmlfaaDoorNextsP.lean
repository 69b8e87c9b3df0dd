/- Few numbers in one word, in plain Lean: the next of as many. -/
import Derived.Test.YtpfhfabhjnmlfaaDoorAlgP
namespace Go.Proofs.YtpfhfabhjnmlfaaDoor

theorem pc_lt : ∀ (n m x : Nat), x < 2 ^ n → n ≤ m → pc m x = pc n x
  | 0, m, x, h, _ => by
    have : x = 0 := by simpa using h
    subst this
    rw [pc_zero]
    rfl
  | n + 1, m + 1, x, h, hm => by
    rw [pc, pc, pc_lt n m (x / 2) (by rw [Nat.pow_succ] at h; omega) (by omega)]
  | n + 1, 0, _, _, hm => by omega
theorem pc_ones : ∀ r n, r ≤ n → pc n (2 ^ r - 1) = r
  | 0, n, _ => pc_zero n
  | r + 1, n + 1, h => by
    have hp : 0 < 2 ^ r := Nat.two_pow_pos r
    have e1 : (2 ^ (r + 1) - 1) % 2 = 1 := by rw [Nat.pow_succ]; omega
    have e2 : (2 ^ (r + 1) - 1) / 2 = 2 ^ r - 1 := by rw [Nat.pow_succ]; omega
    rw [pc, e1, e2, pc_ones r n (by omega)]
    omega
  | r + 1, 0, h => by omega
/-- The least word of so many bits. -/
theorem pc_min : ∀ (n x : Nat), x < 2 ^ n → 2 ^ pc n x - 1 ≤ x
  | 0, x, _ => by simp [pc]
  | n + 1, x, h => by
    have ih := pc_min n (x / 2) (by rw [Nat.pow_succ] at h; omega)
    rw [pc]
    have hp : 0 < 2 ^ pc n (x / 2) := Nat.two_pow_pos _
    rcases Nat.mod_two_eq_zero_or_one x with e | e
    · rw [e, Nat.zero_add]
      omega
    · rw [e, Nat.add_comm, Nat.pow_succ]
      omega
/-- The greatest word of so many bits. -/
theorem pc_max : ∀ (n x : Nat), x < 2 ^ n → x ≤ (2 ^ pc n x - 1) * 2 ^ (n - pc n x)
  | 0, x, h => by simp at h; subst h; simp
  | n + 1, x, h => by
    have ih := pc_max n (x / 2) (by rw [Nat.pow_succ] at h; omega)
    have hle := pc_le n (x / 2)
    rw [pc]
    generalize pc n (x / 2) = c at *
    have hp : 0 < 2 ^ c := Nat.two_pow_pos c
    have hq : 0 < 2 ^ (n - c) := Nat.two_pow_pos _
    rcases Nat.mod_two_eq_zero_or_one x with e | e
    · rw [e, Nat.zero_add, show n + 1 - c = (n - c) + 1 by omega, Nat.pow_succ, ← Nat.mul_assoc]
      omega
    · rw [e, Nat.add_comm 1 c, show n + 1 - (c + 1) = n - c by omega, Nat.pow_succ]
      have : (2 ^ c * 2 - 1) * 2 ^ (n - c) = (2 ^ c - 1) * 2 ^ (n - c) * 2 + 2 ^ (n - c) := by
        obtain ⟨p, hp'⟩ : ∃ p, 2 ^ c = p + 1 := ⟨2 ^ c - 1, by omega⟩
        rw [hp', show (p + 1) * 2 - 1 = p * 2 + 1 by omega, show p + 1 - 1 = p by omega, Nat.add_mul, Nat.mul_assoc, Nat.mul_comm 2, ← Nat.mul_assoc, Nat.one_mul]
      rw [this]
      omega
/-- A word's lowest run of ones, and what is above it. -/
theorem run_of : ∀ (n x : Nat), x ≠ 0 → x < 2 ^ n → ∃ t r A, 1 ≤ r ∧ t + r ≤ n ∧ x = A * 2 ^ (t + r + 1) + (2 ^ r - 1) * 2 ^ t
  | 0, x, h0, h => by simp at h; omega
  | n + 1, x, h0, h => by
    have hx2 : x / 2 < 2 ^ n := by rw [Nat.pow_succ] at h; omega
    rcases Nat.mod_two_eq_zero_or_one x with e | e
    · obtain ⟨t, r, A, hr, hn, hx⟩ := run_of n (x / 2) (by omega) hx2
      refine ⟨t + 1, r, A, hr, by omega, ?_⟩
      rw [show t + 1 + r + 1 = (t + r + 1) + 1 by omega, Nat.pow_succ, Nat.pow_succ 2 t, ← Nat.mul_assoc, ← Nat.mul_assoc]
      generalize A * 2 ^ (t + r + 1) = P at *
      generalize (2 ^ r - 1) * 2 ^ t = Q at *
      omega
    · -- the run begins here
      by_cases h2 : x / 2 % 2 = 0
      · refine ⟨0, 1, x / 4, by omega, by omega, ?_⟩
        simp
        omega
      · obtain ⟨t, r, A, hr, hn, hx⟩ := run_of n (x / 2) (by omega) hx2
        have ht : t = 0 := by
          rcases t with _ | t
          · rfl
          · exfalso
            rw [show t + 1 + r + 1 = (t + r + 1) + 1 by omega, Nat.pow_succ, Nat.pow_succ 2 t, ← Nat.mul_assoc, ← Nat.mul_assoc] at hx
            generalize A * 2 ^ (t + r + 1) = P at *
            generalize (2 ^ r - 1) * 2 ^ t = Q at *
            omega
        subst ht
        refine ⟨0, r + 1, A, by omega, by omega, ?_⟩
        have hp : 0 < 2 ^ r := Nat.two_pow_pos r
        rw [Nat.zero_add, Nat.pow_zero, Nat.mul_one] at hx ⊢
        rw [show r + 1 + 1 = (r + 1) + 1 from rfl, Nat.pow_succ 2 (r + 1), ← Nat.mul_assoc, Nat.pow_succ 2 r] at *
        rw [← Nat.mul_assoc] at *
        generalize A * 2 ^ r = P at *
        omega
end Go.Proofs.YtpfhfabhjnmlfaaDoor
