/- Few numbers in one word: Upto. -/
import Derived.Test.YtohngifmbnlmmaaDoorSetA
namespace Go.Proofs.YtohngifmbnlmmaaDoor
open Go.RowKit

theorem less_val (i : Int) (h0 : 0 ≤ i) (h1 : i < 64) : IntKind.u64.wrap (IntKind.u64.wrap (2 ^ i.toNat) - 1) = ((2 ^ i.toNat - 1 : Nat) : Int) := by
  have e : bitI i = 2 ^ i.toNat := by unfold bitI; rw [if_pos ⟨h0, h1⟩]
  have hl := bit_lt i
  rw [bit_val i h0 h1, e, IntKind.wrap_u64]
  rw [e] at hl
  have hp : 0 < 2 ^ i.toNat := Nat.two_pow_pos _
  omega
set_option maxHeartbeats 1000000 in
theorem upto_is (n : Int) (w : World) :
    Calls Tryd.prog 37 #[.int .i64 n] w fun e w' => e = .returned (.int .u64 (uptoI n)) ∧ w' = w := by
  by_cases h0 : n < 0
  · have e : uptoI n = 0 := by unfold uptoI; rw [if_pos h0]
    rw [e]
    go_enter Tryd.func37, Tryd.ntmps37
    go_wp2
    go_ret
    exact ⟨rfl, rfl⟩
  · by_cases h1 : 64 ≤ n
    · have e : uptoI n = 18446744073709551615 := by unfold uptoI; rw [if_neg h0, if_pos h1]
      rw [e]
      obtain rfl | h2 : n = 64 ∨ 64 < n := by omega
      · go_enter Tryd.func37, Tryd.ntmps37
        go_wp2
        go_ret
        exact ⟨rfl, rfl⟩
      go_enter Tryd.func37, Tryd.ntmps37
      go_wp2
      go_ret
      exact ⟨rfl, rfl⟩
    · have e : uptoI n = 2 ^ n.toNat - 1 := by unfold uptoI; rw [if_neg h0, if_neg h1]
      rw [e]
      have hv := less_val n (by omega) (by omega)
      go_enter Tryd.func37, Tryd.ntmps37
      go_wp2
      go_ret
      exact ⟨rfl, rfl⟩
def carN (s : Nat) : Nat := (s + (s &&& (18446744073709551616 - s) % 18446744073709551616)) % 18446744073709551616
theorem car_lt (s : Nat) : carN s < 18446744073709551616 := Nat.mod_lt _ (by decide)
theorem car_val (s : Nat) (hs : s < 18446744073709551616) : IntKind.u64.wrap ((s : Int) + bits .and .u64 (s : Int) (IntKind.u64.wrap (-(s : Int)))) = ((carN s : Nat) : Int) := by
  have e : IntKind.u64.wrap (-(s : Int)) = (((18446744073709551616 - s) % 18446744073709551616 : Nat) : Int) := by rw [IntKind.wrap_u64]; omega
  rw [e, u64_and_nat s _ hs (Nat.mod_lt _ (by decide)), IntKind.wrap_u64]
  unfold carN
  omega
end Go.Proofs.YtohngifmbnlmmaaDoor
