/- Few numbers in one word, in plain Lean: the least, the others, the words of sets. Of no memory. -/
import Derived.Test.YtkglmhclpgfngaaSetP
import Derived.Laws.BitsAllLaws
import Derived.Test.YtkglmhclpgfngaaPuts
import Derived.Test.YtkglmhclpgfngaaJ26SmallP
import Derived.Laws.ShiftsVarLaws
import Derived.Deep.QuietTactic
import Derived.BigQuiet
namespace Go.Proofs.Ytkglmhclpgfngaa

theorem b64_zero : bits64 0 = [] := by decide +kernel
theorem low_bits (k m i : Nat) : (2 ^ k * (2 * m + 1)).testBit i = (decide (i = k) || (2 ^ (k + 1) * m).testBit i) := by
  rw [Nat.mul_comm, Nat.testBit_mul_two_pow, Nat.mul_comm (2 ^ (k + 1)), Nat.testBit_mul_two_pow]
  rcases Nat.lt_trichotomy i k with h | h | h
  · have h1 : ¬ k ≤ i := by omega
    have h2 : ¬ k + 1 ≤ i := by omega
    simp [h1, h2]; omega
  · subst h
    simp [Nat.testBit_zero]
  · obtain ⟨j, rfl⟩ : ∃ j, i = k + (j + 1) := ⟨i - k - 1, by omega⟩
    have e : k + (j + 1) - k = j + 1 := by omega
    have e2 : k + (j + 1) - (k + 1) = j := by omega
    have d : (2 * m + 1) / 2 = m := by omega
    rw [e, e2, Nat.testBit_succ, d]
    simp
theorem low_and (k m : Nat) : (2 ^ k * (2 * m + 1)) &&& (2 ^ k * (2 * m + 1) - 1) = 2 ^ (k + 1) * m := by
  have hp : 0 < 2 ^ k := Nat.two_pow_pos k
  have e : 2 ^ k * (2 * m + 1) - 1 = 2 ^ (k + 1) * m + (2 ^ k - 1) := by
    rw [Nat.pow_succ, Nat.mul_add, Nat.mul_one, Nat.mul_assoc]
    omega
  have hlt : 2 ^ k - 1 < 2 ^ (k + 1) := by rw [Nat.pow_succ]; omega
  apply Nat.eq_of_testBit_eq
  intro i
  rw [Nat.testBit_and, low_bits, e, Nat.testBit_two_pow_mul_add _ hlt, Nat.mul_comm (2 ^ (k + 1)), Nat.testBit_mul_two_pow]
  by_cases h : i < k + 1
  · have h1 : ¬ k + 1 ≤ i := by omega
    rw [if_pos h, Nat.testBit_two_pow_sub_one]
    simp [h1]
    omega
  · have h1 : k + 1 ≤ i := by omega
    have h2 : ¬ i = k := by omega
    rw [if_neg h]
    simp [h1, h2]
theorem filter_cons (A B : Nat → Bool) (k d : Nat) (hA : ∀ i, A i = (decide (i = k) || B i)) (hB : ∀ i, i ≤ k → B i = false) :
    (List.range (k + (d + 1))).filter A = k :: (List.range (k + (d + 1))).filter B := by
  have h1 : (List.range k).filter A = [] := by
    rw [List.filter_eq_nil_iff]
    intro i hi
    have hi' : i < k := by simpa using hi
    rw [hA, hB i (by omega)]
    simp; omega
  have h2 : (List.range k).filter B = [] := by
    rw [List.filter_eq_nil_iff]
    intro i hi
    have hi' : i < k := by simpa using hi
    rw [hB i (by omega)]
    simp
  have h3 : ((List.range d).map (fun i => k + (i + 1))).filter A = ((List.range d).map (fun i => k + (i + 1))).filter B := by
    apply List.filter_congr
    intro i hi
    obtain ⟨j, _, rfl⟩ := List.mem_map.1 hi
    rw [hA]
    simp
  have e : List.range (k + (d + 1)) = List.range k ++ (k :: (List.range d).map (fun i => k + (i + 1))) := by
    rw [List.range_add, List.range_succ_eq_map, List.map_cons, List.map_map]
    rfl
  rw [e, List.filter_append, List.filter_append, h1, h2, List.filter_cons, List.filter_cons, h3, hA k, hB k (Nat.le_refl _)]
  simp
theorem b64_cons (k m : Nat) (hk : k < 64) : bits64 (2 ^ k * (2 * m + 1)) = k :: bits64 (2 ^ (k + 1) * m) := by
  unfold bits64
  have e : 64 = k + ((63 - k) + 1) := by omega
  rw [e]
  refine filter_cons _ _ k (63 - k) (fun i => low_bits k m i) (fun i hi => ?_)
  rw [Nat.mul_comm, Nat.testBit_mul_two_pow]
  have : ¬ k + 1 ≤ i := by omega
  simp [this]
/-- The least, and the others. -/
theorem rise64 (r : Nat) (h0 : r ≠ 0) (h : r < 18446744073709551616) : Lib.ctz 64 r < 64 ∧ bits64 r = Lib.ctz 64 r :: bits64 (r &&& (r - 1)) ∧ r &&& (r - 1) < r := by
  obtain ⟨m, hm, hk⟩ := Lib.ctzFrom_spec 64 r (by omega) (by simpa using h)
  have e : Lib.ctz 64 r = Lib.ctzFrom 64 r := by simp [Lib.ctz, h0]
  rw [e]
  generalize Lib.ctzFrom 64 r = k at *
  have hp : 0 < 2 ^ k := Nat.two_pow_pos k
  have ha : r &&& (r - 1) = 2 ^ (k + 1) * m := by rw [hm]; exact low_and k m
  refine ⟨hk, ?_, ?_⟩
  · rw [ha, hm]; exact b64_cons k m hk
  · rw [ha, hm, Nat.pow_succ, Nat.mul_add, Nat.mul_one, Nat.mul_assoc]; omega
theorem mem64 (s i : Nat) : i ∈ bits64 s ↔ i < 64 ∧ s.testBit i = true := by
  unfold bits64
  rw [List.mem_filter]
  simp
/-- The least number, -1 of none. -/
def firstN (s : Nat) : Int := if s = 0 then -1 else (Lib.ctz 64 s : Nat)
/-- A number's bit. -/
def bitI (i : Int) : Nat := if 0 ≤ i ∧ i < 64 then 2 ^ i.toNat else 0
def hasI (s : Nat) (i : Int) : Bool := s &&& bitI i != 0
def withI (s : Nat) (i : Int) : Nat := s ||| bitI i
def lessI (s : Nat) (i : Int) : Nat := s &&& (18446744073709551615 - bitI i)
theorem bit_lt (i : Int) : bitI i < 18446744073709551616 := by
  unfold bitI
  split
  · rename_i h
    have : 2 ^ i.toNat ≤ 2 ^ 63 := Nat.pow_le_pow_right (by decide) (by omega)
    exact Nat.lt_of_le_of_lt this (by decide)
  · decide
theorem with_lt (s : Nat) (i : Int) (h : s < 18446744073709551616) : withI s i < 18446744073709551616 := Nat.or_lt_two_pow (n := 64) h (bit_lt i)
theorem less_lt (s : Nat) (i : Int) (h : s < 18446744073709551616) : lessI s i < 18446744073709551616 := Nat.lt_of_le_of_lt Nat.and_le_left h
theorem bit_bit (i : Int) (j : Nat) : (bitI i).testBit j = decide (i = (j : Int) ∧ j < 64) := by
  unfold bitI
  split
  · rename_i h
    rw [Nat.testBit_two_pow]
    congr 1
    apply propext
    omega
  · rename_i h
    rw [Nat.zero_testBit]
    symm
    rw [decide_eq_false_iff_not]
    omega
theorem not_bit (x j : Nat) (hx : x < 18446744073709551616) : (18446744073709551615 - x).testBit j = (decide (j < 64) && !x.testBit j) := by
  have : 18446744073709551615 - x = 2 ^ 64 - (x + 1) := by omega
  rw [this, Nat.testBit_two_pow_sub_succ hx]
theorem has_bit (s : Nat) (i : Int) : hasI s i = (decide (0 ≤ i ∧ i < 64) && s.testBit i.toNat) := by
  unfold hasI bitI
  split
  · rename_i h
    rw [decide_eq_true h, Bool.true_and]
    by_cases hb : s.testBit i.toNat = true
    · rw [hb]
      have : s &&& 2 ^ i.toNat ≠ 0 := by
        intro h0
        have := congrArg (fun n => n.testBit i.toNat) h0
        simp [Nat.testBit_and, hb] at this
      simpa using this
    · have hb' : s.testBit i.toNat = false := by simpa using hb
      rw [hb']
      have : s &&& 2 ^ i.toNat = 0 := by
        apply Nat.eq_of_testBit_eq
        intro j
        rw [Nat.testBit_and, Nat.testBit_two_pow, Nat.zero_testBit]
        by_cases h : i.toNat = j
        · subst h; simp [hb']
        · simp [h]
      simp [this]
  · rename_i h
    rw [decide_eq_false h]
    simp
theorem with_bit (s : Nat) (i : Int) (j : Nat) : (withI s i).testBit j = (s.testBit j || decide (i = (j : Int) ∧ j < 64)) := by
  unfold withI
  rw [Nat.testBit_or, bit_bit]
theorem less_bit (s : Nat) (i : Int) (j : Nat) (hs : s < 18446744073709551616) : (lessI s i).testBit j = (s.testBit j && !decide (i = (j : Int) ∧ j < 64)) := by
  unfold lessI
  rw [Nat.testBit_and, not_bit _ _ (bit_lt i), bit_bit]
  by_cases h : j < 64
  · simp [h]
  · have : s.testBit j = false := Nat.testBit_lt_two_pow (Nat.lt_of_lt_of_le hs (Nat.pow_le_pow_right (n := 2) (i := 64) (by decide) (by omega)))
    simp [this]
def uptoI (n : Int) : Nat := if n < 0 then 0 else if 64 ≤ n then 18446744073709551615 else 2 ^ n.toNat - 1
def nextN (s : Nat) : Nat :=
  let c := (s + (s &&& (18446744073709551616 - s) % 18446744073709551616)) % 18446744073709551616
  if c = 0 then 0 else c ||| ((s ^^^ c) / 2 ^ Lib.ctz 64 s) / 4
end Go.Proofs.Ytkglmhclpgfngaa

namespace Go.Proofs.Ytkglmhclpgfngaa
open Go.RowKit

abbrev S64 (s : Nat) : Value := .int .u64 s
theorem ret_int {k : IntKind} {a b : Int} (h : a = b) : Ending.returned (.int k a) = .returned (.int k b) := by rw [h]
theorem ret_b {a b : Bool} (h : a = b) : Ending.returned (.bool a) = .returned (.bool b) := by rw [h]
theorem bit_val (i : Int) (h0 : 0 ≤ i) (h1 : i < 64) : IntKind.u64.wrap (2 ^ i.toNat) = ((bitI i : Nat) : Int) := by
  have hm : min i.toNat 64 = i.toNat := by omega
  have hv := u64_shl_one_var i h0
  rw [hm] at hv
  rw [IntKind.wrap_u64, hv]
  unfold bitI
  have h2 : ¬ 64 ≤ i := by omega
  simp [h0, h1, h2]
set_option maxHeartbeats 1000000 in
theorem bit_is (i : Int) (w : World) :
    Calls Try.prog 60 #[.int .i64 i] w fun e w' => e = .returned (.int .u64 (bitI i)) ∧ w' = w := by
  by_cases h0 : i < 0
  · have e : bitI i = 0 := by unfold bitI; rw [if_neg (by omega)]
    rw [e]
    go_enter Try.func60, Try.ntmps60
    go_wp2
    go_ret
    exact ⟨rfl, rfl⟩
  · by_cases h1 : 64 ≤ i
    · have e : bitI i = 0 := by unfold bitI; rw [if_neg (by omega)]
      rw [e]
      go_enter Try.func60, Try.ntmps60
      go_wp2
      go_ret
      exact ⟨rfl, rfl⟩
    · have e := bit_val i (by omega) (by omega)
      go_enter Try.func60, Try.ntmps60
      go_wp2
      go_ret
      exact ⟨rfl, rfl⟩
theorem has_int (s : Nat) (i : Int) (hs : s < 18446744073709551616) : (bits .and .u64 (s : Int) ((bitI i : Nat) : Int) != 0) = hasI s i := by
  rw [u64_and_nat s _ hs (bit_lt i)]
  unfold hasI
  cases h : (s &&& bitI i) with
  | zero => rfl
  | succ n =>
    have h1 : (((n + 1 : Nat) : Int) == 0) = false := by rw [beq_eq_false_iff_ne]; omega
    have h2 : (n + 1 == 0) = false := rfl
    rw [bne, bne, h1, h2]
set_option maxHeartbeats 1000000 in
theorem with_is (s : Nat) (i : Int) (hs : s < 18446744073709551616) (w : World) :
    Calls Try.prog 55 #[.int .u64 s, .int .i64 i] w fun e w' => e = .returned (.int .u64 (withI s i)) ∧ w' = w := by
  have e := u64_or_nat s _ hs (bit_lt i)
  have hb := bit_is i w
  go_enter Try.func55, Try.ntmps55
  go_wp2_with fail
  refine hb.mono ?_
  rintro _ _ ⟨rfl, rfl⟩
  go_wp2
  go_ret
  exact ⟨rfl, rfl⟩
end Go.Proofs.Ytkglmhclpgfngaa
