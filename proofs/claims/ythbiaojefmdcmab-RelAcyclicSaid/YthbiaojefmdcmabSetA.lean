/- Few numbers in one word: the program's package set, what asks no table. -/
import Derived.Test.YthbiaojefmdcmabSetQ
import Derived.Test.YthbiaojefmdcmabPuts
import Derived.Test.YthbiaojefmdcmabMathB
import Derived.Laws.BitsAllLaws
import Derived.Laws.ShiftsVarLaws
import Derived.Deep.QuietTactic
import Derived.BigQuiet
namespace Go.Proofs.Ythbiaojefmdcmab
open Go.RowKit

abbrev S64 (s : Nat) : Value := .int .u64 s
theorem ret_int {k : IntKind} {a b : Int} (h : a = b) : Ending.returned (.int k a) = .returned (.int k b) := by rw [h]
theorem ret_bool {a b : Bool} (h : a = b) : Ending.returned (.bool a) = .returned (.bool b) := by rw [h]
theorem bit_val (i : Int) (h0 : 0 ≤ i) (h1 : i < 64) : IntKind.u64.wrap (2 ^ i.toNat) = ((bitI i : Nat) : Int) := by
  have hm : min i.toNat 64 = i.toNat := by omega
  have hv := u64_shl_one_var i h0
  rw [hm] at hv
  rw [IntKind.wrap_u64, hv]
  unfold bitI
  have h2 : ¬ 64 ≤ i := by omega
  simp [h0, h1, h2]
set_option maxHeartbeats 1000000 in
theorem bit_is (i : Int) (w : World) :
    Calls Try.prog 17 #[.int .i64 i] w fun e w' => e = .returned (.int .u64 (bitI i)) ∧ w' = w := by
  by_cases h0 : i < 0
  · have e : bitI i = 0 := by unfold bitI; rw [if_neg (by omega)]
    rw [e]
    go_enter Try.func17, Try.ntmps17
    go_wp2
    go_ret
    exact ⟨rfl, rfl⟩
  · by_cases h1 : 64 ≤ i
    · have e : bitI i = 0 := by unfold bitI; rw [if_neg (by omega)]
      rw [e]
      go_enter Try.func17, Try.ntmps17
      go_wp2
      go_ret
      exact ⟨rfl, rfl⟩
    · have e := bit_val i (by omega) (by omega)
      go_enter Try.func17, Try.ntmps17
      go_wp2
      go_ret
      exact ⟨rfl, rfl⟩
theorem has_int (s : Nat) (i : Int) (hs : s < 18446744073709551616) : (bits .and .u64 (s : Int) ((bitI i : Nat) : Int) != 0) = hasI s i := by
  rw [u64_and_nat s _ hs (bit_lt i)]
  unfold hasI
  cases h : (s &&& bitI i) with
  | zero => rfl
  | succ n =>
    have h1 : (((n + 1 : Nat) : Int) == 0) = false := by rw [beq_eq_false_iff_ne]; omega
    have h2 : (n + 1 == 0) = false := rfl
    rw [bne, bne, h1, h2]
set_option maxHeartbeats 1000000 in
theorem has_is (s : Nat) (i : Int) (hs : s < 18446744073709551616) (w : World) :
    Calls Try.prog 12 #[.int .u64 s, .int .i64 i] w fun e w' => e = .returned (.bool (hasI s i)) ∧ w' = w := by
  have e := has_int s i hs
  have hb := bit_is i w
  generalize bitI i = b at *
  generalize hasI s i = h at *
  go_enter Try.func12, Try.ntmps12
  go_wp2_with fail
  refine hb.mono ?_
  rintro _ _ ⟨rfl, rfl⟩
  go_wp2
  go_ret
  exact ⟨rfl, rfl⟩
set_option maxHeartbeats 1000000 in
theorem with_is (s : Nat) (i : Int) (hs : s < 18446744073709551616) (w : World) :
    Calls Try.prog 15 #[.int .u64 s, .int .i64 i] w fun e w' => e = .returned (.int .u64 (withI s i)) ∧ w' = w := by
  have e := u64_or_nat s _ hs (bit_lt i)
  have hb := bit_is i w
  go_enter Try.func15, Try.ntmps15
  go_wp2_with fail
  refine hb.mono ?_
  rintro _ _ ⟨rfl, rfl⟩
  go_wp2
  go_ret
  exact ⟨rfl, rfl⟩
end Go.Proofs.Ythbiaojefmdcmab
