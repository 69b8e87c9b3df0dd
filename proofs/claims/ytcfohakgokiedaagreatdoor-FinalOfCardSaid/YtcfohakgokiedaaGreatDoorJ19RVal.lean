/- The document's Do for every sign and every two numbers. -/
import Derived.Test.YtcfohakgokiedaaGreatDoorJ13StepP
import Derived.Test.YtcfohakgokiedaaGreatDoorJ16StepZ
namespace Go.Proofs.YtcfohakgokiedaaGreatDoor
open Go.RowKit

theorem u64w (n : Int) : IntKind.u64.wrap n = n % 18446744073709551616 := IntKind.wrap_u64 n
theorem wrap_congr {x y : Int} (h : x % 18446744073709551616 = y % 18446744073709551616) : wrap64 x = wrap64 y := by unfold wrap64; omega
theorem wu_add (a b : Int) : wrap64 (IntKind.u64.wrap (IntKind.u64.wrap a + IntKind.u64.wrap b)) = wrap64 (a + b) := by
 rw [u64w, u64w, u64w]; apply wrap_congr; omega
theorem wu_sub (a b : Int) : wrap64 (IntKind.u64.wrap (IntKind.u64.wrap a - IntKind.u64.wrap b)) = wrap64 (a - b) := by
 rw [u64w, u64w, u64w]; apply wrap_congr; omega
theorem wu_mul (a b : Int) : wrap64 (IntKind.u64.wrap (IntKind.u64.wrap a * IntKind.u64.wrap b)) = wrap64 (a * b) := by
 rw [u64w, u64w, u64w]; apply wrap_congr; rw [Int.emod_emod_of_dvd _ (Int.dvd_refl _), ← Int.mul_emod]
theorem wu_shl (a p : Int) : wrap64 (IntKind.u64.wrap (IntKind.u64.wrap a * p)) = wrap64 (a * p) := by
 rw [u64w, u64w]; apply wrap_congr; rw [Int.emod_emod_of_dvd _ (Int.dvd_refl _), Int.mul_emod, Int.emod_emod_of_dvd _ (Int.dvd_refl _), ← Int.mul_emod]
theorem tmod64 (b : Int) : (IntKind.u64.wrap b).tmod 64 = (sh b : Int) := by
 rw [u64w, Int.tmod_eq_emod_of_nonneg (by omega)]; unfold sh; omega
theorem ret_i64b {x y : Int} {b : Bool} (h : x = y) : Ending.returned (.tuple #[.int .i64 x, .bool b]) = .returned (.tuple #[.int .i64 y, .bool b]) := by rw [h]

section
set_option maxHeartbeats 400000
theorem rdo1 (a b : Int) (w : World) : Calls Tryz.prog 70 #[.int .i64 1, .int .i64 a, .int .i64 b] w fun e w' => e = .returned (.tuple #[.int .i64 (doV 1 a b), .bool true]) ∧ w' = w := by
 have hk := tmod64 b
 have hs := sh_lt b
 go_enter Tryz.func70, Tryz.ntmps70
 go_wp2
 go_ret2
 exact ⟨ret_i64b (wu_add a b), rfl⟩
theorem rdo2 (a b : Int) (w : World) : Calls Tryz.prog 70 #[.int .i64 2, .int .i64 a, .int .i64 b] w fun e w' => e = .returned (.tuple #[.int .i64 (doV 2 a b), .bool true]) ∧ w' = w := by
 have hk := tmod64 b
 have hs := sh_lt b
 go_enter Tryz.func70, Tryz.ntmps70
 go_wp2
 go_ret2
 exact ⟨ret_i64b (wu_sub a b), rfl⟩
theorem rdo3 (a b : Int) (w : World) : Calls Tryz.prog 70 #[.int .i64 3, .int .i64 a, .int .i64 b] w fun e w' => e = .returned (.tuple #[.int .i64 (doV 3 a b), .bool true]) ∧ w' = w := by
 have hk := tmod64 b
 have hs := sh_lt b
 go_enter Tryz.func70, Tryz.ntmps70
 go_wp2
 go_ret2
 exact ⟨ret_i64b (wu_mul a b), rfl⟩
theorem rdo4 (a b : Int) (w : World) : Calls Tryz.prog 70 #[.int .i64 4, .int .i64 a, .int .i64 b] w fun e w' => e = .returned (.tuple #[.int .i64 (doV 4 a b), .bool true]) ∧ w' = w := by
 have hk := tmod64 b
 have hs := sh_lt b
 go_enter Tryz.func70, Tryz.ntmps70
 go_wp2
 go_ret2
 exact ⟨ret_i64b (rfl), rfl⟩
theorem rdo5 (a b : Int) (w : World) : Calls Tryz.prog 70 #[.int .i64 5, .int .i64 a, .int .i64 b] w fun e w' => e = .returned (.tuple #[.int .i64 (doV 5 a b), .bool true]) ∧ w' = w := by
 have hk := tmod64 b
 have hs := sh_lt b
 go_enter Tryz.func70, Tryz.ntmps70
 go_wp2
 go_ret2
 exact ⟨ret_i64b (rfl), rfl⟩
theorem rdo6 (a b : Int) (w : World) : Calls Tryz.prog 70 #[.int .i64 6, .int .i64 a, .int .i64 b] w fun e w' => e = .returned (.tuple #[.int .i64 (doV 6 a b), .bool true]) ∧ w' = w := by
 have hk := tmod64 b
 have hs := sh_lt b
 go_enter Tryz.func70, Tryz.ntmps70
 go_wp2
 go_ret2
 exact ⟨ret_i64b (rfl), rfl⟩
theorem rdo7 (a b : Int) (w : World) : Calls Tryz.prog 70 #[.int .i64 7, .int .i64 a, .int .i64 b] w fun e w' => e = .returned (.tuple #[.int .i64 (doV 7 a b), .bool true]) ∧ w' = w := by
 have hk := tmod64 b
 have hs := sh_lt b
 go_enter Tryz.func70, Tryz.ntmps70
 go_wp2
 go_ret2
 exact ⟨ret_i64b (wu_shl a _), rfl⟩
theorem rdo8 (a b : Int) (w : World) : Calls Tryz.prog 70 #[.int .i64 8, .int .i64 a, .int .i64 b] w fun e w' => e = .returned (.tuple #[.int .i64 (doV 8 a b), .bool true]) ∧ w' = w := by
 have hk := tmod64 b
 have hs := sh_lt b
 go_enter Tryz.func70, Tryz.ntmps70
 go_wp2
 go_ret2
 exact ⟨ret_i64b (rfl), rfl⟩
theorem rdo9 (a b : Int) (w : World) : Calls Tryz.prog 70 #[.int .i64 9, .int .i64 a, .int .i64 b] w fun e w' => e = .returned (.tuple #[.int .i64 (doV 9 a b), .bool true]) ∧ w' = w := by
 have hk := tmod64 b
 rw [doV9]
 cases ht : (a == b)
 all_goals
  go_enter Tryz.func70, Tryz.ntmps70
  go_wp2
  go_ret2
  exact ⟨rfl, rfl⟩
theorem rdo10 (a b : Int) (w : World) : Calls Tryz.prog 70 #[.int .i64 10, .int .i64 a, .int .i64 b] w fun e w' => e = .returned (.tuple #[.int .i64 (doV 10 a b), .bool true]) ∧ w' = w := by
 have hk := tmod64 b
 rw [doV10]
 cases ht : (a != b)
 all_goals
  go_enter Tryz.func70, Tryz.ntmps70
  go_wp2
  go_ret2
  exact ⟨rfl, rfl⟩
theorem rdo11 (a b : Int) (w : World) : Calls Tryz.prog 70 #[.int .i64 11, .int .i64 a, .int .i64 b] w fun e w' => e = .returned (.tuple #[.int .i64 (doV 11 a b), .bool true]) ∧ w' = w := by
 have hk := tmod64 b
 rw [doV11]
 cases ht : decide (a < b)
 all_goals
  go_enter Tryz.func70, Tryz.ntmps70
  go_wp2
  go_ret2
  exact ⟨rfl, rfl⟩
end
theorem rdo_is (op a b : Int) (w : World) (h : 1 ≤ op ∧ op ≤ 11) :
  Calls Tryz.prog 70 #[.int .i64 op, .int .i64 a, .int .i64 b] w fun e w' => e = .returned (.tuple #[.int .i64 (doV op a b), .bool true]) ∧ w' = w := by
 have hc : op = 1 ∨ op = 2 ∨ op = 3 ∨ op = 4 ∨ op = 5 ∨ op = 6 ∨ op = 7 ∨ op = 8 ∨ op = 9 ∨ op = 10 ∨ op = 11 := by omega
 rcases hc with rfl | rfl | rfl | rfl | rfl | rfl | rfl | rfl | rfl | rfl | rfl
 ·
  exact rdo1 a b w
 ·
  exact rdo2 a b w
 ·
  exact rdo3 a b w
 ·
  exact rdo4 a b w
 ·
  exact rdo5 a b w
 ·
  exact rdo6 a b w
 ·
  exact rdo7 a b w
 ·
  exact rdo8 a b w
 ·
  exact rdo9 a b w
 ·
  exact rdo10 a b w
 ·
  exact rdo11 a b w

set_option maxHeartbeats 400000 in
theorem rdo_none (op a b : Int) (w : World) (h : ¬ (1 ≤ op ∧ op ≤ 11)) :
  Calls Tryz.prog 70 #[.int .i64 op, .int .i64 a, .int .i64 b] w fun e w' => e = .returned (.tuple #[.int .i64 0, .bool false]) ∧ w' = w := by
 have n1 : (op == 1) = false := by simp; omega
 have n2 : (op == 2) = false := by simp; omega
 have n3 : (op == 3) = false := by simp; omega
 have n4 : (op == 4) = false := by simp; omega
 have n5 : (op == 5) = false := by simp; omega
 have n6 : (op == 6) = false := by simp; omega
 have n7 : (op == 7) = false := by simp; omega
 have n8 : (op == 8) = false := by simp; omega
 have n9 : (op == 9) = false := by simp; omega
 have n10 : (op == 10) = false := by simp; omega
 have n11 : (op == 11) = false := by simp; omega
 clear h
 go_enter Tryz.func70, Tryz.ntmps70
 go_wp2
 go_ret2
 exact ⟨rfl, rfl⟩
theorem rdo_any (op a b : Int) (w : World) : Calls Tryz.prog 70 #[.int .i64 op, .int .i64 a, .int .i64 b] w fun e w' => e = .returned (.tuple #[.int .i64 (doV op a b), .bool (doB op)]) ∧ w' = w := by
 by_cases h : 1 ≤ op ∧ op ≤ 11
 ·
  have hb : doB op = true := by unfold doB; simp; omega
  rw [hb]; exact rdo_is op a b w h
 ·
  have hb : doB op = false := by unfold doB; simp; omega
  rw [hb, doV_none op a b h]; exact rdo_none op a b w h
end Go.Proofs.YtcfohakgokiedaaGreatDoor

namespace Go.Proofs.YtcfohakgokiedaaGreatDoor
open Go.RowKit

set_option maxHeartbeats 1000000 in
theorem rvalue_is (o : Opd) (l : LocT) (w : World) : Calls Tryz.prog 55 #[.agg #[.int .i64 o.r, .int .i64 o.v], locV l] w fun e w' => e = .returned (.int .i64 (valOf o l)) ∧ On w w' := by
 obtain ⟨r, v⟩ := o
 obtain ⟨pc, r0, r1, r2, r3⟩ := l
 unfold valOf locV
 cases h : regOk r with
 | false =>
  by_cases h0 : 0 ≤ r
  ·
   have h3 : decide (r ≤ 3) = false := by unfold regOk at h; simp at h; simp; omega
   go_enter Tryz.func55, Tryz.ntmps55
   go_wp2
   go_ret
   exact ⟨rfl, ((On.refl w).alloc _).alloc _⟩
  ·
   go_enter Tryz.func55, Tryz.ntmps55
   go_wp2
   go_ret
   exact ⟨rfl, ((On.refl w).alloc _).alloc _⟩
 | true =>
  rcases regOk_four h with rfl | rfl | rfl | rfl
  all_goals
   go_enter Tryz.func55, Tryz.ntmps55
   go_wp2
   go_ret
   exact ⟨rfl, ((On.refl w).alloc _).alloc _⟩
end Go.Proofs.YtcfohakgokiedaaGreatDoor
