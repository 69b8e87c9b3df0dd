/- The lowest bits of a number. -/
import Derived.Test.YtmgjcgolebfjjaaDoorMath
namespace Go.Proofs.YtmgjcgolebfjjaaDoor
open Go.RowKit

theorem i64_low (n : Int) (p : Nat) (m : Int) (hm : (BitVec.ofInt 64 m).toNat = 2 ^ p - 1) (hp : p ≤ 62) : ∃ k : Nat, k < 2 ^ p ∧ bits .and .i64 n m = (k : Int) ∧ (k : Int) = n % ((2 ^ p : Nat) : Int) := by
  have key : (BitVec.ofInt 64 n &&& BitVec.ofInt 64 m).toNat = (n % ((2 ^ 64 : Nat) : Int)).toNat % 2 ^ p := by
    rw [BitVec.toNat_and, BitVec.toNat_ofInt, hm, Nat.and_two_pow_sub_one_eq_mod]
  have hlt : (n % ((2 ^ 64 : Nat) : Int)).toNat % 2 ^ p < 2 ^ p := Nat.mod_lt _ (Nat.two_pow_pos p)
  have h62 : 2 ^ p ≤ 2 ^ 62 := Nat.pow_le_pow_right (by decide) hp
  refine ⟨_, hlt, ?_, ?_⟩
  · show IntKind.i64.wrap ((BitVec.ofInt 64 n &&& BitVec.ofInt 64 m).toNat : Nat) = _
    rw [key, IntKind.wrap_i64]
    generalize (n % ((2 ^ 64 : Nat) : Int)).toNat % 2 ^ p = x at *
    have : x < 2 ^ 62 := by omega
    omega
  · rw [Int.natCast_emod]
    have h0 : 0 ≤ n % ((2 ^ 64 : Nat) : Int) := Int.emod_nonneg _ (by decide)
    rw [Int.toNat_of_nonneg h0]
    have hd : ((2 ^ p : Nat) : Int) ∣ ((2 ^ 64 : Nat) : Int) := Int.natCast_dvd_natCast.2 (Nat.pow_dvd_pow 2 (by omega))
    exact Int.emod_emod_of_dvd n hd
theorem low2 (n : Int) : ∃ k : Nat, k < 4 ∧ bits .and .i64 n 3 = (k : Int) := by obtain ⟨k, h, e, _⟩ := i64_low n 2 3 (by decide) (by decide); exact ⟨k, h, e⟩
theorem low3 (n : Int) : ∃ k : Nat, k < 8 ∧ bits .and .i64 n 7 = (k : Int) := by obtain ⟨k, h, e, _⟩ := i64_low n 3 7 (by decide) (by decide); exact ⟨k, h, e⟩
theorem low4 (n : Int) : ∃ k : Nat, k < 16 ∧ bits .and .i64 n 15 = (k : Int) := by obtain ⟨k, h, e, _⟩ := i64_low n 4 15 (by decide) (by decide); exact ⟨k, h, e⟩
theorem low8 (n : Int) : ∃ k : Nat, k < 256 ∧ bits .and .i64 n 255 = (k : Int) := by obtain ⟨k, h, e, _⟩ := i64_low n 8 255 (by decide) (by decide); exact ⟨k, h, e⟩
theorem low16 (n : Int) : bits .and .i64 n 65535 = ((n % 65536).toNat : Int) := by
  obtain ⟨k, h, e, f⟩ := i64_low n 16 65535 (by decide) (by decide)
  have f' : (k : Int) = n % 65536 := f
  rw [e]; omega
end Go.Proofs.YtmgjcgolebfjjaaDoor
