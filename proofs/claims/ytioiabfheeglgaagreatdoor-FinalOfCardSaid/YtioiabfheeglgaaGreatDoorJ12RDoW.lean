/- Executions and their order, in plain Lean. Of no memory. -/
import Derived.Test.YtioiabfheeglgaaGreatDoorJ11EvP
import Derived.Test.YtioiabfheeglgaaGreatDoorJ00Trees
import Derived.Test.YtioiabfheeglgaaGreatDoorJ07DoW
namespace Go.Proofs.YtioiabfheeglgaaGreatDoor

/-- An execution: its events, their sources, the orders of writes. -/
structure ExT where
 evs : List EvT
 rf : List Int
 co : List (List Int)
def evCs (a b : EvT) : List Int := [cmpI a.t b.t, cmpI a.i b.i, cmpI a.k b.k, cmpI a.l b.l, cmpI a.r b.r, cmpI a.w b.w]
def evCmp (a b : EvT) : Int := orN (evCs a b)
def exCmp (a b : ExT) : Int := if lexC evCmp a.evs b.evs = 0 then (if lexC cmpI a.rf b.rf = 0 then lexC (lexC cmpI) a.co b.co else lexC cmpI a.rf b.rf) else lexC evCmp a.evs b.evs

theorem ord_ev : Ord3 evCmp := by
 have key : ∀ a b : EvT, evCmp a b = if cmpI a.t b.t = 0 then (if cmpI a.i b.i = 0 then (if cmpI a.k b.k = 0 then (if cmpI a.l b.l = 0 then (if cmpI a.r b.r = 0 then cmpI a.w b.w else cmpI a.r b.r) else cmpI a.l b.l) else cmpI a.k b.k) else cmpI a.i b.i) else cmpI a.t b.t := by
  intro a b
  unfold evCmp evCs
  simp only [orN]
  by_cases e : cmpI a.w b.w = 0 <;> simp [e]
 have P5 := ord_pair (γ := Int × Int) ord_int ord_int Prod.fst Prod.snd (fun x y h k => Prod.ext h k)
 have P4 := ord_pair (γ := Int × (Int × Int)) ord_int P5 Prod.fst Prod.snd (fun x y h k => Prod.ext h k)
 have P3 := ord_pair (γ := Int × (Int × (Int × Int))) ord_int P4 Prod.fst Prod.snd (fun x y h k => Prod.ext h k)
 have P2 := ord_pair (γ := Int × (Int × (Int × (Int × Int)))) ord_int P3 Prod.fst Prod.snd (fun x y h k => Prod.ext h k)
 have P1 := ord_pair (γ := EvT) ord_int P2 (fun e => e.t) (fun e => (e.i, e.k, e.l, e.r, e.w)) (fun x y h k => by
  obtain ⟨a, b, c, d, e, f⟩ := x
  obtain ⟨a', b', c', d', e', f'⟩ := y
  simp only [Prod.mk.injEq] at h k
  obtain ⟨rfl, rfl, rfl, rfl, rfl⟩ := k
  rw [h])
 have : evCmp = (fun x y : EvT => if cmpI x.t y.t = 0 then (if cmpI x.i y.i = 0 then (if cmpI x.k y.k = 0 then (if cmpI x.l y.l = 0 then (if cmpI x.r y.r = 0 then cmpI x.w y.w else cmpI x.r y.r) else cmpI x.l y.l) else cmpI x.k y.k) else cmpI x.i y.i) else cmpI x.t y.t) := by
  funext a b; exact key a b
 rw [this]
 exact P1
theorem ord_ex : Ord3 exCmp := by
 have P2 := ord_pair (γ := List Int × List (List Int)) (ord_lex ord_int) (ord_lex (ord_lex ord_int)) Prod.fst Prod.snd (fun x y h k => Prod.ext h k)
 exact ord_pair (γ := ExT) (ord_lex ord_ev) P2 (fun x => x.evs) (fun x => (x.rf, x.co)) (fun x y h k => by
  obtain ⟨a, b, c⟩ := x
  obtain ⟨a', b', c'⟩ := y
  simp only [Prod.mk.injEq] at h k
  obtain ⟨rfl, rfl⟩ := k
  rw [h])
end Go.Proofs.YtioiabfheeglgaaGreatDoor

namespace Go.Proofs.YtioiabfheeglgaaGreatDoor
open Go.RowKit

theorem u64w (n : Int) : IntKind.u64.wrap n = n % 18446744073709551616 := IntKind.wrap_u64 n
theorem wrap_congr {x y : Int} (h : x % 18446744073709551616 = y % 18446744073709551616) : wrap64 x = wrap64 y := by unfold wrap64; omega
theorem wu_add (a b : Int) : wrap64 (IntKind.u64.wrap (IntKind.u64.wrap a + IntKind.u64.wrap b)) = wrap64 (a + b) := by
 rw [u64w, u64w, u64w]; apply wrap_congr; omega
theorem wu_sub (a b : Int) : wrap64 (IntKind.u64.wrap (IntKind.u64.wrap a - IntKind.u64.wrap b)) = wrap64 (a - b) := by
 rw [u64w, u64w, u64w]; apply wrap_congr; omega
theorem wu_mul (a b : Int) : wrap64 (IntKind.u64.wrap (IntKind.u64.wrap a * IntKind.u64.wrap b)) = wrap64 (a * b) := by
 rw [u64w, u64w, u64w]; apply wrap_congr; rw [Int.emod_emod_of_dvd _ (Int.dvd_refl _), ← Int.mul_emod]
theorem wu_shl (a p : Int) : wrap64 (IntKind.u64.wrap (IntKind.u64.wrap a * p)) = wrap64 (a * p) := by
 rw [u64w, u64w]; apply wrap_congr; rw [Int.emod_emod_of_dvd _ (Int.dvd_refl _), Int.mul_emod, Int.emod_emod_of_dvd _ (Int.dvd_refl _), ← Int.mul_emod]
theorem tmod64 (b : Int) : (IntKind.u64.wrap b).tmod 64 = (sh b : Int) := by
 rw [u64w, Int.tmod_eq_emod_of_nonneg (by omega)]; unfold sh; omega
theorem ret_i64b {x y : Int} {b : Bool} (h : x = y) : Ending.returned (.tuple #[.int .i64 x, .bool b]) = .returned (.tuple #[.int .i64 y, .bool b]) := by rw [h]

section
set_option maxHeartbeats 400000
theorem rdo1 (a b : Int) (w : World) : Calls Tryz.prog 70 #[.int .i64 1, .int .i64 a, .int .i64 b] w fun e w' => e = .returned (.tuple #[.int .i64 (doV 1 a b), .bool true]) ∧ w' = w := by
 have hk := tmod64 b
 have hs := sh_lt b
 go_enter Tryz.func70, Tryz.ntmps70
 go_wp2
 go_ret2
 exact ⟨ret_i64b (wu_add a b), rfl⟩
theorem rdo2 (a b : Int) (w : World) : Calls Tryz.prog 70 #[.int .i64 2, .int .i64 a, .int .i64 b] w fun e w' => e = .returned (.tuple #[.int .i64 (doV 2 a b), .bool true]) ∧ w' = w := by
 have hk := tmod64 b
 have hs := sh_lt b
 go_enter Tryz.func70, Tryz.ntmps70
 go_wp2
 go_ret2
 exact ⟨ret_i64b (wu_sub a b), rfl⟩
theorem rdo3 (a b : Int) (w : World) : Calls Tryz.prog 70 #[.int .i64 3, .int .i64 a, .int .i64 b] w fun e w' => e = .returned (.tuple #[.int .i64 (doV 3 a b), .bool true]) ∧ w' = w := by
 have hk := tmod64 b
 have hs := sh_lt b
 go_enter Tryz.func70, Tryz.ntmps70
 go_wp2
 go_ret2
 exact ⟨ret_i64b (wu_mul a b), rfl⟩
theorem rdo4 (a b : Int) (w : World) : Calls Tryz.prog 70 #[.int .i64 4, .int .i64 a, .int .i64 b] w fun e w' => e = .returned (.tuple #[.int .i64 (doV 4 a b), .bool true]) ∧ w' = w := by
 have hk := tmod64 b
 have hs := sh_lt b
 go_enter Tryz.func70, Tryz.ntmps70
 go_wp2
 go_ret2
 exact ⟨ret_i64b (rfl), rfl⟩
theorem rdo5 (a b : Int) (w : World) : Calls Tryz.prog 70 #[.int .i64 5, .int .i64 a, .int .i64 b] w fun e w' => e = .returned (.tuple #[.int .i64 (doV 5 a b), .bool true]) ∧ w' = w := by
 have hk := tmod64 b
 have hs := sh_lt b
 go_enter Tryz.func70, Tryz.ntmps70
 go_wp2
 go_ret2
 exact ⟨ret_i64b (rfl), rfl⟩
theorem rdo6 (a b : Int) (w : World) : Calls Tryz.prog 70 #[.int .i64 6, .int .i64 a, .int .i64 b] w fun e w' => e = .returned (.tuple #[.int .i64 (doV 6 a b), .bool true]) ∧ w' = w := by
 have hk := tmod64 b
 have hs := sh_lt b
 go_enter Tryz.func70, Tryz.ntmps70
 go_wp2
 go_ret2
 exact ⟨ret_i64b (rfl), rfl⟩
theorem rdo7 (a b : Int) (w : World) : Calls Tryz.prog 70 #[.int .i64 7, .int .i64 a, .int .i64 b] w fun e w' => e = .returned (.tuple #[.int .i64 (doV 7 a b), .bool true]) ∧ w' = w := by
 have hk := tmod64 b
 have hs := sh_lt b
 go_enter Tryz.func70, Tryz.ntmps70
 go_wp2
 go_ret2
 exact ⟨ret_i64b (wu_shl a _), rfl⟩
theorem rdo8 (a b : Int) (w : World) : Calls Tryz.prog 70 #[.int .i64 8, .int .i64 a, .int .i64 b] w fun e w' => e = .returned (.tuple #[.int .i64 (doV 8 a b), .bool true]) ∧ w' = w := by
 have hk := tmod64 b
 have hs := sh_lt b
 go_enter Tryz.func70, Tryz.ntmps70
 go_wp2
 go_ret2
 exact ⟨ret_i64b (rfl), rfl⟩
theorem rdo9 (a b : Int) (w : World) : Calls Tryz.prog 70 #[.int .i64 9, .int .i64 a, .int .i64 b] w fun e w' => e = .returned (.tuple #[.int .i64 (doV 9 a b), .bool true]) ∧ w' = w := by
 have hk := tmod64 b
 rw [doV9]
 cases ht : (a == b)
 all_goals
  go_enter Tryz.func70, Tryz.ntmps70
  go_wp2
  go_ret2
  exact ⟨rfl, rfl⟩
theorem rdo10 (a b : Int) (w : World) : Calls Tryz.prog 70 #[.int .i64 10, .int .i64 a, .int .i64 b] w fun e w' => e = .returned (.tuple #[.int .i64 (doV 10 a b), .bool true]) ∧ w' = w := by
 have hk := tmod64 b
 rw [doV10]
 cases ht : (a != b)
 all_goals
  go_enter Tryz.func70, Tryz.ntmps70
  go_wp2
  go_ret2
  exact ⟨rfl, rfl⟩
theorem rdo11 (a b : Int) (w : World) : Calls Tryz.prog 70 #[.int .i64 11, .int .i64 a, .int .i64 b] w fun e w' => e = .returned (.tuple #[.int .i64 (doV 11 a b), .bool true]) ∧ w' = w := by
 have hk := tmod64 b
 rw [doV11]
 cases ht : decide (a < b)
 all_goals
  go_enter Tryz.func70, Tryz.ntmps70
  go_wp2
  go_ret2
  exact ⟨rfl, rfl⟩
end
theorem rdo_is (op a b : Int) (w : World) (h : 1 ≤ op ∧ op ≤ 11) :
  Calls Tryz.prog 70 #[.int .i64 op, .int .i64 a, .int .i64 b] w fun e w' => e = .returned (.tuple #[.int .i64 (doV op a b), .bool true]) ∧ w' = w := by
 have hc : op = 1 ∨ op = 2 ∨ op = 3 ∨ op = 4 ∨ op = 5 ∨ op = 6 ∨ op = 7 ∨ op = 8 ∨ op = 9 ∨ op = 10 ∨ op = 11 := by omega
 rcases hc with rfl | rfl | rfl | rfl | rfl | rfl | rfl | rfl | rfl | rfl | rfl
 ·
  exact rdo1 a b w
 ·
  exact rdo2 a b w
 ·
  exact rdo3 a b w
 ·
  exact rdo4 a b w
 ·
  exact rdo5 a b w
 ·
  exact rdo6 a b w
 ·
  exact rdo7 a b w
 ·
  exact rdo8 a b w
 ·
  exact rdo9 a b w
 ·
  exact rdo10 a b w
 ·
  exact rdo11 a b w

set_option maxHeartbeats 400000 in
theorem rdo_none (op a b : Int) (w : World) (h : ¬ (1 ≤ op ∧ op ≤ 11)) :
  Calls Tryz.prog 70 #[.int .i64 op, .int .i64 a, .int .i64 b] w fun e w' => e = .returned (.tuple #[.int .i64 0, .bool false]) ∧ w' = w := by
 have n1 : (op == 1) = false := by simp; omega
 have n2 : (op == 2) = false := by simp; omega
 have n3 : (op == 3) = false := by simp; omega
 have n4 : (op == 4) = false := by simp; omega
 have n5 : (op == 5) = false := by simp; omega
 have n6 : (op == 6) = false := by simp; omega
 have n7 : (op == 7) = false := by simp; omega
 have n8 : (op == 8) = false := by simp; omega
 have n9 : (op == 9) = false := by simp; omega
 have n10 : (op == 10) = false := by simp; omega
 have n11 : (op == 11) = false := by simp; omega
 clear h
 go_enter Tryz.func70, Tryz.ntmps70
 go_wp2
 go_ret2
 exact ⟨rfl, rfl⟩
theorem rdo_any (op a b : Int) (w : World) : Calls Tryz.prog 70 #[.int .i64 op, .int .i64 a, .int .i64 b] w fun e w' => e = .returned (.tuple #[.int .i64 (doV op a b), .bool (doB op)]) ∧ w' = w := by
 by_cases h : 1 ≤ op ∧ op ≤ 11
 ·
  have hb : doB op = true := by unfold doB; simp; omega
  rw [hb]; exact rdo_is op a b w h
 ·
  have hb : doB op = false := by unfold doB; simp; omega
  rw [hb, doV_none op a b h]; exact rdo_none op a b w h
end Go.Proofs.YtioiabfheeglgaaGreatDoor
