/- num.Do for every sign and every two numbers. -/
import Derived.Test.YtkglmhclpgfngaaHeap
namespace Go.Proofs.Ytkglmhclpgfngaa
open Go.RowKit

theorem i64_and63 (n : Int) : bits .and .i64 n 63 = n % 64 := by
  have h63 : (BitVec.ofInt 64 63).toNat = 2 ^ 6 - 1 := by decide
  have key : (BitVec.ofInt 64 n &&& BitVec.ofInt 64 63).toNat = (n % ((2 ^ 64 : Nat) : Int)).toNat % 2 ^ 6 := by
    rw [BitVec.toNat_and, BitVec.toNat_ofInt, h63, Nat.and_two_pow_sub_one_eq_mod]
  show IntKind.i64.wrap ((BitVec.ofInt 64 n &&& BitVec.ofInt 64 63).toNat : Nat) = n % 64
  rw [key, IntKind.wrap_i64]
  omega

/-- How far b shifts. -/
def sh (b : Int) : Nat := (b % 64).toNat
theorem sh_lt (b : Int) : sh b < 64 := by unfold sh; omega

set_option maxHeartbeats 400000 in
theorem modulo_any (b : Int) (w : World) :
    Calls Try.prog 62 #[.int .i64 b] w fun e w' => e = .returned (.int .u64 (sh b)) ∧ w' = w := by
  have e : IntKind.u64.wrap (bits .and .i64 b 63) = (sh b : Int) := by
    rw [i64_and63, IntKind.wrap_u64]; unfold sh; omega
  go_enter Try.func62, Try.ntmps62
  go_wp2
  go_ret
  exact ⟨rfl, rfl⟩

def b2i (b : Bool) : Int := if b then 1 else 0
set_option maxHeartbeats 400000 in
theorem truth_any (b : Bool) (w : World) :
    Calls Try.prog 63 #[.bool b] w fun e w' => e = .returned (.int .i64 (b2i b)) ∧ w' = w := by
  cases b
  all_goals
    go_enter Try.func63, Try.ntmps63
    go_wp2
    go_ret
    exact ⟨rfl, rfl⟩

/-- What Do answers. -/
def doV (op a b : Int) : Int :=
  if op = 1 then wrap64 (a + b) else if op = 2 then wrap64 (a - b) else if op = 3 then wrap64 (a * b)
  else if op = 4 then bits .and .i64 a b else if op = 5 then bits .or .i64 a b else if op = 6 then bits .xor .i64 a b
  else if op = 7 then wrap64 (a * 2 ^ sh b) else if op = 8 then a / 2 ^ sh b
  else if op = 9 then b2i (a == b) else if op = 10 then b2i (a != b) else if op = 11 then b2i (decide (a < b)) else 0

def doW (op : Int) : Bool := decide (1 ≤ op ∧ op ≤ 11)

section
set_option maxHeartbeats 400000
theorem do1 (a b : Int) (w : World) : Calls Try.prog 61 #[.int .i64 1, .int .i64 a, .int .i64 b] w fun e w' => e = .returned (.tuple #[.int .i64 (wrap64 (a + b)), .bool true]) ∧ w' = w := by
  go_enter Try.func61, Try.ntmps61
  go_wp2
  go_ret2
  exact ⟨rfl, rfl⟩
theorem do2 (a b : Int) (w : World) : Calls Try.prog 61 #[.int .i64 2, .int .i64 a, .int .i64 b] w fun e w' => e = .returned (.tuple #[.int .i64 (wrap64 (a - b)), .bool true]) ∧ w' = w := by
  go_enter Try.func61, Try.ntmps61
  go_wp2
  go_ret2
  exact ⟨rfl, rfl⟩
theorem do3 (a b : Int) (w : World) : Calls Try.prog 61 #[.int .i64 3, .int .i64 a, .int .i64 b] w fun e w' => e = .returned (.tuple #[.int .i64 (wrap64 (a * b)), .bool true]) ∧ w' = w := by
  go_enter Try.func61, Try.ntmps61
  go_wp2
  go_ret2
  exact ⟨rfl, rfl⟩
theorem do4 (a b : Int) (w : World) : Calls Try.prog 61 #[.int .i64 4, .int .i64 a, .int .i64 b] w fun e w' => e = .returned (.tuple #[.int .i64 (bits .and .i64 a b), .bool true]) ∧ w' = w := by
  go_enter Try.func61, Try.ntmps61
  go_wp2
  go_ret2
  exact ⟨rfl, rfl⟩
theorem do5 (a b : Int) (w : World) : Calls Try.prog 61 #[.int .i64 5, .int .i64 a, .int .i64 b] w fun e w' => e = .returned (.tuple #[.int .i64 (bits .or .i64 a b), .bool true]) ∧ w' = w := by
  go_enter Try.func61, Try.ntmps61
  go_wp2
  go_ret2
  exact ⟨rfl, rfl⟩
theorem do6 (a b : Int) (w : World) : Calls Try.prog 61 #[.int .i64 6, .int .i64 a, .int .i64 b] w fun e w' => e = .returned (.tuple #[.int .i64 (bits .xor .i64 a b), .bool true]) ∧ w' = w := by
  go_enter Try.func61, Try.ntmps61
  go_wp2
  go_ret2
  exact ⟨rfl, rfl⟩
theorem do7 (a b : Int) (w : World) : Calls Try.prog 61 #[.int .i64 7, .int .i64 a, .int .i64 b] w fun e w' => e = .returned (.tuple #[.int .i64 (wrap64 (a * 2 ^ sh b)), .bool true]) ∧ w' = w := by
  have hs := sh_lt b
  go_enter Try.func61, Try.ntmps61
  go_wp2_with (go_at_call 62; refine (modulo_any _ _).mono ?_; rintro e w' ⟨rfl, rfl⟩)
  go_ret2
  exact ⟨rfl, rfl⟩
theorem do8 (a b : Int) (w : World) : Calls Try.prog 61 #[.int .i64 8, .int .i64 a, .int .i64 b] w fun e w' => e = .returned (.tuple #[.int .i64 (a / 2 ^ sh b), .bool true]) ∧ w' = w := by
  have hs := sh_lt b
  go_enter Try.func61, Try.ntmps61
  go_wp2_with (go_at_call 62; refine (modulo_any _ _).mono ?_; rintro e w' ⟨rfl, rfl⟩)
  go_ret2
  exact ⟨rfl, rfl⟩
theorem do9 (a b : Int) (w : World) : Calls Try.prog 61 #[.int .i64 9, .int .i64 a, .int .i64 b] w fun e w' => e = .returned (.tuple #[.int .i64 (b2i (a == b)), .bool true]) ∧ w' = w := by
  go_enter Try.func61, Try.ntmps61
  go_wp2_with (go_at_call 63; refine (truth_any _ _).mono ?_; rintro e w' ⟨rfl, rfl⟩)
  go_ret2
  exact ⟨rfl, rfl⟩
theorem do10 (a b : Int) (w : World) : Calls Try.prog 61 #[.int .i64 10, .int .i64 a, .int .i64 b] w fun e w' => e = .returned (.tuple #[.int .i64 (b2i (a != b)), .bool true]) ∧ w' = w := by
  go_enter Try.func61, Try.ntmps61
  go_wp2_with (go_at_call 63; refine (truth_any _ _).mono ?_; rintro e w' ⟨rfl, rfl⟩)
  go_ret2
  exact ⟨rfl, rfl⟩
theorem do11 (a b : Int) (w : World) : Calls Try.prog 61 #[.int .i64 11, .int .i64 a, .int .i64 b] w fun e w' => e = .returned (.tuple #[.int .i64 (b2i (decide (a < b))), .bool true]) ∧ w' = w := by
  go_enter Try.func61, Try.ntmps61
  go_wp2_with (go_at_call 63; refine (truth_any _ _).mono ?_; rintro e w' ⟨rfl, rfl⟩)
  go_ret2
  exact ⟨rfl, rfl⟩
end

theorem doV1 (a b : Int) : doV 1 a b = wrap64 (a + b) := rfl
theorem doV2 (a b : Int) : doV 2 a b = wrap64 (a - b) := rfl
theorem doV3 (a b : Int) : doV 3 a b = wrap64 (a * b) := rfl
theorem doV4 (a b : Int) : doV 4 a b = bits .and .i64 a b := rfl
theorem doV5 (a b : Int) : doV 5 a b = bits .or .i64 a b := rfl
theorem doV6 (a b : Int) : doV 6 a b = bits .xor .i64 a b := rfl
theorem doV7 (a b : Int) : doV 7 a b = wrap64 (a * 2 ^ sh b) := rfl
theorem doV8 (a b : Int) : doV 8 a b = a / 2 ^ sh b := rfl
theorem doV9 (a b : Int) : doV 9 a b = b2i (a == b) := rfl
theorem doV10 (a b : Int) : doV 10 a b = b2i (a != b) := rfl
theorem doV11 (a b : Int) : doV 11 a b = b2i (decide (a < b)) := rfl

/-- DO, at every op that there is. -/
theorem do_is (op a b : Int) (w : World) (h : 1 ≤ op ∧ op ≤ 11) :
    Calls Try.prog 61 #[.int .i64 op, .int .i64 a, .int .i64 b] w fun e w' => e = .returned (.tuple #[.int .i64 (doV op a b), .bool true]) ∧ w' = w := by
  have hc : op = 1 ∨ op = 2 ∨ op = 3 ∨ op = 4 ∨ op = 5 ∨ op = 6 ∨ op = 7 ∨ op = 8 ∨ op = 9 ∨ op = 10 ∨ op = 11 := by omega
  rcases hc with rfl | rfl | rfl | rfl | rfl | rfl | rfl | rfl | rfl | rfl | rfl
  · exact do1 a b w
  · exact do2 a b w
  · exact do3 a b w
  · exact do4 a b w
  · exact do5 a b w
  · exact do6 a b w
  · exact do7 a b w
  · exact do8 a b w
  · exact do9 a b w
  · exact do10 a b w
  · exact do11 a b w

set_option maxHeartbeats 400000 in
/-- .. and at another one. -/
theorem do_none (op a b : Int) (w : World) (h : ¬ (1 ≤ op ∧ op ≤ 11)) :
    Calls Try.prog 61 #[.int .i64 op, .int .i64 a, .int .i64 b] w fun e w' => e = .returned (.tuple #[.int .i64 0, .bool false]) ∧ w' = w := by
  have n1 : (op == 1) = false := by simp; omega
  have n2 : (op == 2) = false := by simp; omega
  have n3 : (op == 3) = false := by simp; omega
  have n4 : (op == 4) = false := by simp; omega
  have n5 : (op == 5) = false := by simp; omega
  have n6 : (op == 6) = false := by simp; omega
  have n7 : (op == 7) = false := by simp; omega
  have n8 : (op == 8) = false := by simp; omega
  have n9 : (op == 9) = false := by simp; omega
  have n10 : (op == 10) = false := by simp; omega
  have n11 : (op == 11) = false := by simp; omega
  clear h
  go_enter Try.func61, Try.ntmps61
  go_wp2
  go_ret2
  exact ⟨rfl, rfl⟩

/-- DO's number at any sign. -/
def doB (op : Int) : Bool := decide (1 ≤ op) && decide (op ≤ 11)
theorem doV_none (op a b : Int) (h : ¬ (1 ≤ op ∧ op ≤ 11)) : doV op a b = 0 := by
  unfold doV
  have h1 : op ≠ 1 := by omega
  have h2 : op ≠ 2 := by omega
  have h3 : op ≠ 3 := by omega
  have h4 : op ≠ 4 := by omega
  have h5 : op ≠ 5 := by omega
  have h6 : op ≠ 6 := by omega
  have h7 : op ≠ 7 := by omega
  have h8 : op ≠ 8 := by omega
  have h9 : op ≠ 9 := by omega
  have h10 : op ≠ 10 := by omega
  have h11 : op ≠ 11 := by omega
  simp only [h1, h2, h3, h4, h5, h6, h7, h8, h9, h10, h11, if_false]
theorem do_any (op a b : Int) (w : World) : Calls Try.prog 61 #[.int .i64 op, .int .i64 a, .int .i64 b] w fun e w' => e = .returned (.tuple #[.int .i64 (doV op a b), .bool (doB op)]) ∧ w' = w := by
  by_cases h : 1 ≤ op ∧ op ≤ 11
  · have hb : doB op = true := by unfold doB; simp; omega
    rw [hb]; exact do_is op a b w h
  · have hb : doB op = false := by unfold doB; simp; omega
    rw [hb, doV_none op a b h]; exact do_none op a b w h
end Go.Proofs.Ytkglmhclpgfngaa
