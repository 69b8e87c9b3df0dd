/- Arithmetic on 64 bits, of no program: the bitwise operations as those of BitVec, the wrap, and what the laws of layer 1 want of them. -/
import Derived.Laws.BitsAllLaws
import Derived.IntWalk
namespace Go.Proofs.YtbhpldjeljlblaaDoor
open Go.RowKit

theorem wrap_toInt (v : BitVec 64) : IntKind.i64.wrap (v.toNat : Nat) = v.toInt := by
  rw [IntKind.wrap_i64, BitVec.toInt_eq_toNat_cond]
  have := v.isLt
  split <;> omega
theorem band_eq (a b : Int) : bits .and .i64 a b = (BitVec.ofInt 64 a &&& BitVec.ofInt 64 b).toInt := wrap_toInt _
theorem bor_eq (a b : Int) : bits .or .i64 a b = (BitVec.ofInt 64 a ||| BitVec.ofInt 64 b).toInt := wrap_toInt _
theorem bxor_eq (a b : Int) : bits .xor .i64 a b = (BitVec.ofInt 64 a ^^^ BitVec.ofInt 64 b).toInt := wrap_toInt _
theorem wrap64_eq (n : Int) : wrap64 n = (BitVec.ofInt 64 n).toInt := by
  rw [BitVec.toInt_ofInt]; unfold wrap64; rw [Int.bmod_def]; split <;> omega
theorem toInt_of {a : Int} (h0 : -9223372036854775808 ≤ a) (h1 : a ≤ 9223372036854775807) : (BitVec.ofInt 64 a).toInt = a := by
  rw [← wrap64_eq]; unfold wrap64; omega

theorem nat_and_or : ∀ n a b : Nat, a < n → (a &&& b) + (a ||| b) = a + b
  | 0, a, b, h => by omega
  | n + 1, a, b, h => by
    by_cases ha : a = 0
    · subst ha; simp
    · have ih := nat_and_or n (a / 2) (b / 2) (by omega)
      rw [← Nat.and_div_two, ← Nat.or_div_two] at ih
      have m1 : (a &&& b) % 2 = (a % 2) &&& (b % 2) := Nat.and_mod_two_pow (n := 1)
      have m2 : (a ||| b) % 2 = (a % 2) ||| (b % 2) := Nat.or_mod_two_pow (n := 1)
      have m : (a &&& b) % 2 + (a ||| b) % 2 = a % 2 + b % 2 := by
        rw [m1, m2]
        rcases Nat.mod_two_eq_zero_or_one a with e1 | e1 <;> rcases Nat.mod_two_eq_zero_or_one b with e2 | e2 <;> rw [e1, e2] <;> rfl
      omega

theorem bv_and_or (x y : BitVec 64) : (x &&& y) + (x ||| y) = x + y := by
  apply BitVec.eq_of_toNat_eq
  simp only [BitVec.toNat_add, BitVec.toNat_and, BitVec.toNat_or]
  rw [nat_and_or (x.toNat + 1) x.toNat y.toNat (by omega)]

theorem bits_back (a b : Int) (h0 : -9223372036854775808 ≤ a) (h1 : a ≤ 9223372036854775807) : bits .xor .i64 (bits .xor .i64 a b) b = a := by
  rw [bxor_eq, bxor_eq, BitVec.ofInt_toInt, BitVec.xor_assoc, BitVec.xor_self, BitVec.xor_zero, toInt_of h0 h1]
theorem bits_sum (a b : Int) : wrap64 (bits .and .i64 a b + bits .or .i64 a b) = wrap64 (a + b) := by
  rw [band_eq, bor_eq, wrap64_eq, wrap64_eq, BitVec.ofInt_add, BitVec.ofInt_add, BitVec.ofInt_toInt, BitVec.ofInt_toInt, bv_and_or]
theorem bits_or (a b : Int) : bits .or .i64 (bits .and .i64 a b) (bits .xor .i64 a b) = bits .or .i64 a b := by
  rw [bor_eq, bor_eq, band_eq, bxor_eq, BitVec.ofInt_toInt, BitVec.ofInt_toInt]
  congr 1
  apply BitVec.eq_of_getLsbD_eq
  intro i _
  simp only [BitVec.getLsbD_or, BitVec.getLsbD_and, BitVec.getLsbD_xor]
  cases (BitVec.ofInt 64 a).getLsbD i <;> cases (BitVec.ofInt 64 b).getLsbD i <;> rfl
end Go.Proofs.YtbhpldjeljlblaaDoor
