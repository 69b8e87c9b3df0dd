/- Few numbers in one word: the program's package set, what asks no table. -/
import Derived.Test.YtohngifmbnlmmaaDoorSetQ
import Derived.Test.YtohngifmbnlmmaaDoorPuts
import Derived.Test.YtohngifmbnlmmaaDoorMathB
import Derived.Laws.BitsAllLaws
import Derived.Laws.ShiftsVarLaws
import Derived.Deep.QuietTactic
import Derived.BigQuiet
namespace Go.Proofs.YtohngifmbnlmmaaDoor
open Go.RowKit

abbrev S64 (s : Nat) : Value := .int .u64 s
theorem ret_int {k : IntKind} {a b : Int} (h : a = b) : Ending.returned (.int k a) = .returned (.int k b) := by rw [h]
theorem ret_bool {a b : Bool} (h : a = b) : Ending.returned (.bool a) = .returned (.bool b) := by rw [h]
theorem bit_val (i : Int) (h0 : 0 ≤ i) (h1 : i < 64) : IntKind.u64.wrap (2 ^ i.toNat) = ((bitI i : Nat) : Int) := by
  have hm : min i.toNat 64 = i.toNat := by omega
  have hv := u64_shl_one_var i h0
  rw [hm] at hv
  rw [IntKind.wrap_u64, hv]
  unfold bitI
  have h2 : ¬ 64 ≤ i := by omega
  simp [h0, h1, h2]
set_option maxHeartbeats 1000000 in
theorem bit_is (i : Int) (w : World) :
    Calls Tryd.prog 41 #[.int .i64 i] w fun e w' => e = .returned (.int .u64 (bitI i)) ∧ w' = w := by
  by_cases h0 : i < 0
  · have e : bitI i = 0 := by unfold bitI; rw [if_neg (by omega)]
    rw [e]
    go_enter Tryd.func41, Tryd.ntmps41
    go_wp2
    go_ret
    exact ⟨rfl, rfl⟩
  · by_cases h1 : 64 ≤ i
    · have e : bitI i = 0 := by unfold bitI; rw [if_neg (by omega)]
      rw [e]
      go_enter Tryd.func41, Tryd.ntmps41
      go_wp2
      go_ret
      exact ⟨rfl, rfl⟩
    · have e := bit_val i (by omega) (by omega)
      go_enter Tryd.func41, Tryd.ntmps41
      go_wp2
      go_ret
      exact ⟨rfl, rfl⟩
theorem has_int (s : Nat) (i : Int) (hs : s < 18446744073709551616) : (bits .and .u64 (s : Int) ((bitI i : Nat) : Int) != 0) = hasI s i := by
  rw [u64_and_nat s _ hs (bit_lt i)]
  unfold hasI
  cases h : (s &&& bitI i) with
  | zero => rfl
  | succ n =>
    have h1 : (((n + 1 : Nat) : Int) == 0) = false := by rw [beq_eq_false_iff_ne]; omega
    have h2 : (n + 1 == 0) = false := rfl
    rw [bne, bne, h1, h2]
set_option maxHeartbeats 1000000 in
theorem has_is (s : Nat) (i : Int) (hs : s < 18446744073709551616) (w : World) :
    Calls Tryd.prog 30 #[.int .u64 s, .int .i64 i] w fun e w' => e = .returned (.bool (hasI s i)) ∧ w' = w := by
  have e := has_int s i hs
  have hb := bit_is i w
  generalize bitI i = b at *
  generalize hasI s i = h at *
  go_enter Tryd.func30, Tryd.ntmps30
  go_wp2_with fail
  refine hb.mono ?_
  rintro _ _ ⟨rfl, rfl⟩
  go_wp2
  go_ret
  exact ⟨rfl, rfl⟩
set_option maxHeartbeats 1000000 in
theorem with_is (s : Nat) (i : Int) (hs : s < 18446744073709551616) (w : World) :
    Calls Tryd.prog 32 #[.int .u64 s, .int .i64 i] w fun e w' => e = .returned (.int .u64 (withI s i)) ∧ w' = w := by
  have e := u64_or_nat s _ hs (bit_lt i)
  have hb := bit_is i w
  go_enter Tryd.func32, Tryd.ntmps32
  go_wp2_with fail
  refine hb.mono ?_
  rintro _ _ ⟨rfl, rfl⟩
  go_wp2
  go_ret
  exact ⟨rfl, rfl⟩
set_option maxHeartbeats 1000000 in
theorem less_is (s : Nat) (i : Int) (hs : s < 18446744073709551616) (w : World) :
    Calls Tryd.prog 38 #[.int .u64 s, .int .i64 i] w fun e w' => e = .returned (.int .u64 (lessI s i)) ∧ w' = w := by
  have e := u64_andNot_nat s _ hs (bit_lt i)
  have hb := bit_is i w
  go_enter Tryd.func38, Tryd.ntmps38
  go_wp2_with fail
  refine hb.mono ?_
  rintro _ _ ⟨rfl, rfl⟩
  go_wp2
  go_ret
  exact ⟨rfl, rfl⟩
theorem ones_steps (n : Nat) (hn : n < 18446744073709551616) : ∃ x1 x2 x3 a b c : Nat,
    IntKind.u64.wrap (bits .and .u64 ((n : Int) / 2) 6148914691236517205 + bits .and .u64 (n : Int) 6148914691236517205) = (x1 : Int) ∧
    IntKind.u64.wrap (bits .and .u64 ((x1 : Int) / 4) 3689348814741910323 + bits .and .u64 (x1 : Int) 3689348814741910323) = (x2 : Int) ∧
    bits .and .u64 (IntKind.u64.wrap ((x2 : Int) / 16 + (x2 : Int))) 1085102592571150095 = (x3 : Int) ∧
    IntKind.u64.wrap ((x3 : Int) + (x3 : Int) / 256) = (a : Int) ∧ IntKind.u64.wrap ((a : Int) + (a : Int) / 65536) = (b : Int) ∧ IntKind.u64.wrap ((b : Int) + (b : Int) / 4294967296) = (c : Int) ∧
    bits .and .i64 (c : Int) 127 = (cnt64 n : Nat) ∧ c ≤ 9223372036854775807 ∧ IntKind.i64.wrap (c : Int) = c := by
  obtain ⟨x1, h1⟩ : ∃ x1, x1 = (n / 2 &&& 6148914691236517205) + (n &&& 6148914691236517205) := ⟨_, rfl⟩
  obtain ⟨x2, h2⟩ : ∃ x2, x2 = (x1 / 4 &&& 3689348814741910323) + (x1 &&& 3689348814741910323) := ⟨_, rfl⟩
  obtain ⟨x3, h3⟩ : ∃ x3, x3 = (x2 / 16 + x2) &&& 1085102592571150095 := ⟨_, rfl⟩
  obtain ⟨a, ha⟩ : ∃ a, a = x3 + x3 / 256 := ⟨_, rfl⟩
  obtain ⟨b, hb⟩ : ∃ b, b = a + a / 65536 := ⟨_, rfl⟩
  obtain ⟨c, hc⟩ : ∃ c, c = b + b / 4294967296 := ⟨_, rfl⟩
  obtain ⟨b1, b2, b3, hcn⟩ := ones64 n x1 x2 x3 a b c h1 h2 h3 ha hb hc
  have hcl : c ≤ 9223372036854775807 := by omega
  refine ⟨x1, x2, x3, a, b, c, ?_, ?_, ?_, ?_, ?_, ?_, ?_, hcl, ?_⟩
  · have e1 : bits .and .u64 ((n / 2 : Nat) : Int) 6148914691236517205 = _ := u64_and_nat (n / 2) 6148914691236517205 (by omega) (by decide)
    have e2 : bits .and .u64 (n : Int) 6148914691236517205 = _ := u64_and_nat n 6148914691236517205 hn (by decide)
    rw [show ((n / 2 : Nat) : Int) = (n : Int) / 2 by omega] at e1
    rw [IntKind.wrap_u64]
    omega
  · have e1 : bits .and .u64 ((x1 / 4 : Nat) : Int) 3689348814741910323 = _ := u64_and_nat (x1 / 4) 3689348814741910323 (by omega) (by decide)
    have e2 : bits .and .u64 (x1 : Int) 3689348814741910323 = _ := u64_and_nat x1 3689348814741910323 (by omega) (by decide)
    rw [show ((x1 / 4 : Nat) : Int) = (x1 : Int) / 4 by omega] at e1
    rw [IntKind.wrap_u64]
    omega
  · have e1 : bits .and .u64 ((x2 / 16 + x2 : Nat) : Int) 1085102592571150095 = _ := u64_and_nat (x2 / 16 + x2) 1085102592571150095 (by omega) (by decide)
    rw [IntKind.wrap_u64, show ((x2 : Int) / 16 + (x2 : Int)) % 18446744073709551616 = ((x2 / 16 + x2 : Nat) : Int) by omega]
    omega
  · rw [IntKind.wrap_u64]; omega
  · rw [IntKind.wrap_u64]; omega
  · rw [IntKind.wrap_u64]; omega
  · obtain ⟨k, _, hk, hk2⟩ := i64_low (c : Int) 7 127 (by decide) (by decide)
    rw [hk, ← hcn]
    omega
  · rw [IntKind.wrap_i64]; omega
set_option maxHeartbeats 4000000 in
theorem ones_is (n : Nat) (hn : n < 18446744073709551616) (w : World) :
    Calls Tryd.prog 46 #[.int .u64 n] w fun e w' => e = .returned (.int .i64 (cnt64 n)) ∧ w' = w := by
  obtain ⟨x1, x2, x3, a, b, c, s1, s2, s3, s4, s5, s6, s7, s8, s9⟩ := ones_steps n hn
  go_enter Tryd.func46, Tryd.ntmps46
  go_wp2
  go_ret
  exact ⟨rfl, rfl⟩
set_option maxHeartbeats 1000000 in
theorem len_is (s : Nat) (hs : s < 18446744073709551616) (w : World) :
    Calls Tryd.prog 45 #[.int .u64 s] w fun e w' => e = .returned (.int .i64 (cnt64 s)) ∧ w' = w := by
  have hb := ones_is s hs w
  go_enter Tryd.func45, Tryd.ntmps45
  go_wp2_with fail
  refine hb.mono ?_
  rintro _ _ ⟨rfl, rfl⟩
  go_wp2
  go_ret
  exact ⟨rfl, rfl⟩
end Go.Proofs.YtohngifmbnlmmaaDoor
