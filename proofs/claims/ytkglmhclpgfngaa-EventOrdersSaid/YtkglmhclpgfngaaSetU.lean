/- Few numbers in one word: Upto. -/
import Derived.Test.YtkglmhclpgfngaaJ41SetA
namespace Go.Proofs.Ytkglmhclpgfngaa
open Go.RowKit

theorem less_val (i : Int) (h0 : 0 ≤ i) (h1 : i < 64) : IntKind.u64.wrap (IntKind.u64.wrap (2 ^ i.toNat) - 1) = ((2 ^ i.toNat - 1 : Nat) : Int) := by
  have e : bitI i = 2 ^ i.toNat := by unfold bitI; rw [if_pos ⟨h0, h1⟩]
  have hl := bit_lt i
  rw [bit_val i h0 h1, e, IntKind.wrap_u64]
  rw [e] at hl
  have hp : 0 < 2 ^ i.toNat := Nat.two_pow_pos _
  omega
def carN (s : Nat) : Nat := (s + (s &&& (18446744073709551616 - s) % 18446744073709551616)) % 18446744073709551616
theorem car_lt (s : Nat) : carN s < 18446744073709551616 := Nat.mod_lt _ (by decide)
theorem car_val (s : Nat) (hs : s < 18446744073709551616) : IntKind.u64.wrap ((s : Int) + bits .and .u64 (s : Int) (IntKind.u64.wrap (-(s : Int)))) = ((carN s : Nat) : Int) := by
  have e : IntKind.u64.wrap (-(s : Int)) = (((18446744073709551616 - s) % 18446744073709551616 : Nat) : Int) := by rw [IntKind.wrap_u64]; omega
  rw [e, u64_and_nat s _ hs (Nat.mod_lt _ (by decide)), IntKind.wrap_u64]
  unfold carN
  omega
end Go.Proofs.Ytkglmhclpgfngaa
