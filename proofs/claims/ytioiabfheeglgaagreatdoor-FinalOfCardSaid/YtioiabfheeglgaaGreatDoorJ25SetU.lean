/- Few numbers in one word: the program's package set, what asks no table. -/
import Derived.Test.YtioiabfheeglgaaGreatDoorJ24SetQ
import Derived.Test.YtioiabfheeglgaaGreatDoorJ01Puts
import Derived.Test.YtioiabfheeglgaaGreatDoorJ16SmallP
import Derived.Laws.BitsAllLaws
import Derived.Laws.ShiftsVarLaws
import Derived.Deep.QuietTactic
import Derived.BigQuiet
namespace Go.Proofs.YtioiabfheeglgaaGreatDoor
open Go.RowKit

abbrev S64 (s : Nat) : Value := .int .u64 s
theorem ret_int {k : IntKind} {a b : Int} (h : a = b) : Ending.returned (.int k a) = .returned (.int k b) := by rw [h]
theorem ret_b {a b : Bool} (h : a = b) : Ending.returned (.bool a) = .returned (.bool b) := by rw [h]
theorem bit_val (i : Int) (h0 : 0 ≤ i) (h1 : i < 64) : IntKind.u64.wrap (2 ^ i.toNat) = ((bitI i : Nat) : Int) := by
 have hm : min i.toNat 64 = i.toNat := by omega
 have hv := u64_shl_one_var i h0
 rw [hm] at hv
 rw [IntKind.wrap_u64, hv]
 unfold bitI
 have h2 : ¬ 64 ≤ i := by omega
 simp [h0, h1, h2]
theorem has_int (s : Nat) (i : Int) (hs : s < 18446744073709551616) : (bits .and .u64 (s : Int) ((bitI i : Nat) : Int) != 0) = hasI s i := by
 rw [u64_and_nat s _ hs (bit_lt i)]
 unfold hasI
 cases h : (s &&& bitI i) with
 | zero => rfl
 | succ n =>
  have h1 : (((n + 1 : Nat) : Int) == 0) = false := by rw [beq_eq_false_iff_ne]; omega
  have h2 : (n + 1 == 0) = false := rfl
  rw [bne, bne, h1, h2]
end Go.Proofs.YtioiabfheeglgaaGreatDoor

namespace Go.Proofs.YtioiabfheeglgaaGreatDoor
open Go.RowKit

theorem less_val (i : Int) (h0 : 0 ≤ i) (h1 : i < 64) : IntKind.u64.wrap (IntKind.u64.wrap (2 ^ i.toNat) - 1) = ((2 ^ i.toNat - 1 : Nat) : Int) := by
 have e : bitI i = 2 ^ i.toNat := by unfold bitI; rw [if_pos ⟨h0, h1⟩]
 have hl := bit_lt i
 rw [bit_val i h0 h1, e, IntKind.wrap_u64]
 rw [e] at hl
 have hp : 0 < 2 ^ i.toNat := Nat.two_pow_pos _
 omega
def carN (s : Nat) : Nat := (s + (s &&& (18446744073709551616 - s) % 18446744073709551616)) % 18446744073709551616
theorem car_lt (s : Nat) : carN s < 18446744073709551616 := Nat.mod_lt _ (by decide)
theorem car_val (s : Nat) (hs : s < 18446744073709551616) : IntKind.u64.wrap ((s : Int) + bits .and .u64 (s : Int) (IntKind.u64.wrap (-(s : Int)))) = ((carN s : Nat) : Int) := by
 have e : IntKind.u64.wrap (-(s : Int)) = (((18446744073709551616 - s) % 18446744073709551616 : Nat) : Int) := by rw [IntKind.wrap_u64]; omega
 rw [e, u64_and_nat s _ hs (Nat.mod_lt _ (by decide)), IntKind.wrap_u64]
 unfold carN
 omega
end Go.Proofs.YtioiabfheeglgaaGreatDoor
