/- Events, and what a thread does, in plain Lean. Of no memory. -/
import Derived.Test.YtplihlmejnohnaaGreatDoorStepI
import Derived.Test.YtplihlmejnohnaaGreatDoorJ01StepP
import Derived.Test.YtplihlmejnohnaaGreatDoorJ06StepD
namespace Go.Proofs.YtplihlmejnohnaaGreatDoor
open Go.RowKit

/-- An event. -/
structure EvT where
  t : Int
  i : Int
  k : Int
  l : Int
  r : Int
  w : Int
def evC (e : EvT) : List Value := [.int .i64 e.t, .int .i64 e.i, .int .i64 e.k, .int .i64 e.l, .int .i64 e.r, .int .i64 e.w]
def evV (e : EvT) : Value := .agg #[.int .i64 e.t, .int .i64 e.i, .int .i64 e.k, .int .i64 e.l, .int .i64 e.r, .int .i64 e.w]
def evZ : EvT := ⟨0, 0, 0, 0, 0, 0⟩
def rdsB (k : Int) : Bool := k == 1 || (k == 4 || k == 5)
def wrsB (k : Int) : Bool := k == 2 || k == 4
def fncB (k : Int) : Bool := k == 3 || (k == 4 || k == 5)
def swapP (x : InsT) (l : LocT) (v : Int) : EvT := if v == valOf x.a l then ⟨0, 0, 4, x.l, v, valOf x.b l⟩ else ⟨0, 0, 5, x.l, v, 0⟩
def doneP (x : InsT) (l : LocT) (v : Int) : EvT := if x.k == 2 then ⟨0, 0, 1, x.l, v, 0⟩ else if x.k == 1 then ⟨0, 0, 2, x.l, 0, valOf x.a l⟩ else if x.k == 4 then swapP x l v else ⟨0, 0, 3, 0, 0, 0⟩
def atP (t : Int) (i : Nat) (e : EvT) : EvT := ⟨t, i, e.k, e.l, e.r, e.w⟩
/-- The value that an instruction reads, and what is left to read; none: there is nothing left. -/
def valP (x : InsT) (rs : List Int) : Option (Int × List Int) :=
  if readB x.k then (match rs with | [] => none | v :: r => some (v, r)) else some (0, rs)
def unfN : Nat → List InsT → Int → LocT → Nat → List Int → List EvT × LocT × Bool
  | 0, _, _, l, _, _ => ([], l, false)
  | n + 1, L, t, l, i, rs =>
    match nextP L l with
    | none => ([], l, false)
    | some x =>
      match valP x rs with
      | none => ([], l, true)
      | some (v, r) => let u := unfN n L t (afterP L l v) (i + 1) r; (atP t i (doneP x l v) :: u.1, u.2)
def unfP (L : List InsT) (t : Int) (rs : List Int) : List EvT × LocT × Bool := unfN (L.length + 1) L t (startP L) 0 rs
theorem unf_none {n : Nat} {L : List InsT} {t : Int} {l : LocT} {i : Nat} {rs : List Int} (h : nextP L l = none) : unfN n L t l i rs = ([], l, false) := by
  cases n with
  | zero => rfl
  | succ n => rw [unfN, h]
theorem unf_more {n : Nat} {L : List InsT} {t : Int} {l : LocT} {i : Nat} {rs : List Int} {x : InsT} (h : nextP L l = some x) (hv : valP x rs = none) : unfN (n + 1) L t l i rs = ([], l, true) := by
  rw [unfN, h]
  simp only [hv]
theorem unf_some {n : Nat} {L : List InsT} {t : Int} {l : LocT} {i : Nat} {rs r : List Int} {x : InsT} {v : Int} (h : nextP L l = some x) (hv : valP x rs = some (v, r)) :
    unfN (n + 1) L t l i rs = (atP t i (doneP x l v) :: (unfN n L t (afterP L l v) (i + 1) r).1, (unfN n L t (afterP L l v) (i + 1) r).2) := by
  rw [unfN, h]
  simp only [hv]
/-- A step leads on. -/
theorem settleN_on : ∀ (n : Nat) (L : List InsT) (l : LocT), 0 ≤ l.pc → L.length - l.pc.toNat ≤ n → l.pc ≤ (settleN n L l).pc
  | 0, _, _, _, _ => Int.le_refl _
  | n + 1, L, l, h0, h1 => by
    rw [settleN]
    cases hi : L[l.pc.toNat]? with
    | none => exact Int.le_refl _
    | some x =>
      have hlt := (List.getElem?_eq_some_iff.1 hi).1
      have hs := skipOf_bd x l (L.length - l.pc - 1) (by omega)
      simp only
      split
      · have := settleN_on n L (pcTo (withR l x.r (resOf x l)) (l.pc + 1)) (by simp only [pcTo]; omega) (by simp only [pcTo]; omega)
        simp only [pcTo] at this ⊢
        omega
      · split
        · have := settleN_on n L (pcTo l (l.pc + skipOf x l (L.length - l.pc - 1) + 1)) (by simp only [pcTo]; omega) (by simp only [pcTo]; omega)
          simp only [pcTo] at this ⊢
          omega
        · exact Int.le_refl _
theorem after_on {L : List InsT} {l : LocT} {x : InsT} (v : Int) (h : nextP L l = some x) : l.pc + 1 ≤ (afterP L l v).pc := by
  have h0 := (next_at h).1
  unfold afterP
  rw [h]
  have := settleN_on (L.length - (stepTo x l v).pc.toNat) L (stepTo x l v) (by simp only [stepTo, pcTo]; omega) (Nat.le_refl _)
  exact this
theorem start_on (L : List InsT) : 0 ≤ (startP L).pc := settleN_on _ L ⟨0, 0, 0, 0, 0⟩ (by decide) (Nat.le_refl _)
/-- As many events as instructions that are left. -/
theorem unf_len : ∀ (n : Nat) (L : List InsT) (t : Int) (l : LocT) (i : Nat) (rs : List Int), 0 ≤ l.pc → (unfN n L t l i rs).1.length ≤ L.length - l.pc.toNat
  | 0, _, _, _, _, _, _ => Nat.zero_le _
  | n + 1, L, t, l, i, rs, h0 => by
    cases hx : nextP L l with
    | none => rw [unf_none hx]; exact Nat.zero_le _
    | some x =>
      cases hv : valP x rs with
      | none => rw [unf_more hx hv]; exact Nat.zero_le _
      | some p =>
        obtain ⟨v, r⟩ := p
        rw [unf_some hx hv]
        have h1 := after_on v hx
        have h2 := next_at hx
        have := unf_len n L t (afterP L l v) (i + 1) r (by omega)
        simp only [List.length_cons]
        omega
end Go.Proofs.YtplihlmejnohnaaGreatDoor

namespace Go.Proofs.YtplihlmejnohnaaGreatDoor
open Go.RowKit

theorem u64w (n : Int) : IntKind.u64.wrap n = n % 18446744073709551616 := IntKind.wrap_u64 n
theorem wrap_congr {x y : Int} (h : x % 18446744073709551616 = y % 18446744073709551616) : wrap64 x = wrap64 y := by unfold wrap64; omega
theorem wu_add (a b : Int) : wrap64 (IntKind.u64.wrap (IntKind.u64.wrap a + IntKind.u64.wrap b)) = wrap64 (a + b) := by
  rw [u64w, u64w, u64w]; apply wrap_congr; omega
theorem wu_sub (a b : Int) : wrap64 (IntKind.u64.wrap (IntKind.u64.wrap a - IntKind.u64.wrap b)) = wrap64 (a - b) := by
  rw [u64w, u64w, u64w]; apply wrap_congr; omega
theorem wu_mul (a b : Int) : wrap64 (IntKind.u64.wrap (IntKind.u64.wrap a * IntKind.u64.wrap b)) = wrap64 (a * b) := by
  rw [u64w, u64w, u64w]; apply wrap_congr; rw [Int.emod_emod_of_dvd _ (Int.dvd_refl _), ← Int.mul_emod]
theorem wu_shl (a p : Int) : wrap64 (IntKind.u64.wrap (IntKind.u64.wrap a * p)) = wrap64 (a * p) := by
  rw [u64w, u64w]; apply wrap_congr; rw [Int.emod_emod_of_dvd _ (Int.dvd_refl _), Int.mul_emod, Int.emod_emod_of_dvd _ (Int.dvd_refl _), ← Int.mul_emod]
theorem tmod64 (b : Int) : (IntKind.u64.wrap b).tmod 64 = (sh b : Int) := by
  rw [u64w, Int.tmod_eq_emod_of_nonneg (by omega)]; unfold sh; omega
theorem ret_i64b {x y : Int} {b : Bool} (h : x = y) : Ending.returned (.tuple #[.int .i64 x, .bool b]) = .returned (.tuple #[.int .i64 y, .bool b]) := by rw [h]

section
set_option maxHeartbeats 400000
theorem rdo1 (a b : Int) (w : World) : Calls Tryz.prog 91 #[.int .i64 1, .int .i64 a, .int .i64 b] w fun e w' => e = .returned (.tuple #[.int .i64 (doV 1 a b), .bool true]) ∧ w' = w := by
  have hk := tmod64 b
  have hs := sh_lt b
  go_enter Tryz.func91, Tryz.ntmps91
  go_wp2
  go_ret2
  exact ⟨ret_i64b (wu_add a b), rfl⟩
theorem rdo2 (a b : Int) (w : World) : Calls Tryz.prog 91 #[.int .i64 2, .int .i64 a, .int .i64 b] w fun e w' => e = .returned (.tuple #[.int .i64 (doV 2 a b), .bool true]) ∧ w' = w := by
  have hk := tmod64 b
  have hs := sh_lt b
  go_enter Tryz.func91, Tryz.ntmps91
  go_wp2
  go_ret2
  exact ⟨ret_i64b (wu_sub a b), rfl⟩
theorem rdo3 (a b : Int) (w : World) : Calls Tryz.prog 91 #[.int .i64 3, .int .i64 a, .int .i64 b] w fun e w' => e = .returned (.tuple #[.int .i64 (doV 3 a b), .bool true]) ∧ w' = w := by
  have hk := tmod64 b
  have hs := sh_lt b
  go_enter Tryz.func91, Tryz.ntmps91
  go_wp2
  go_ret2
  exact ⟨ret_i64b (wu_mul a b), rfl⟩
theorem rdo4 (a b : Int) (w : World) : Calls Tryz.prog 91 #[.int .i64 4, .int .i64 a, .int .i64 b] w fun e w' => e = .returned (.tuple #[.int .i64 (doV 4 a b), .bool true]) ∧ w' = w := by
  have hk := tmod64 b
  have hs := sh_lt b
  go_enter Tryz.func91, Tryz.ntmps91
  go_wp2
  go_ret2
  exact ⟨ret_i64b (rfl), rfl⟩
theorem rdo5 (a b : Int) (w : World) : Calls Tryz.prog 91 #[.int .i64 5, .int .i64 a, .int .i64 b] w fun e w' => e = .returned (.tuple #[.int .i64 (doV 5 a b), .bool true]) ∧ w' = w := by
  have hk := tmod64 b
  have hs := sh_lt b
  go_enter Tryz.func91, Tryz.ntmps91
  go_wp2
  go_ret2
  exact ⟨ret_i64b (rfl), rfl⟩
theorem rdo6 (a b : Int) (w : World) : Calls Tryz.prog 91 #[.int .i64 6, .int .i64 a, .int .i64 b] w fun e w' => e = .returned (.tuple #[.int .i64 (doV 6 a b), .bool true]) ∧ w' = w := by
  have hk := tmod64 b
  have hs := sh_lt b
  go_enter Tryz.func91, Tryz.ntmps91
  go_wp2
  go_ret2
  exact ⟨ret_i64b (rfl), rfl⟩
theorem rdo7 (a b : Int) (w : World) : Calls Tryz.prog 91 #[.int .i64 7, .int .i64 a, .int .i64 b] w fun e w' => e = .returned (.tuple #[.int .i64 (doV 7 a b), .bool true]) ∧ w' = w := by
  have hk := tmod64 b
  have hs := sh_lt b
  go_enter Tryz.func91, Tryz.ntmps91
  go_wp2
  go_ret2
  exact ⟨ret_i64b (wu_shl a _), rfl⟩
theorem rdo8 (a b : Int) (w : World) : Calls Tryz.prog 91 #[.int .i64 8, .int .i64 a, .int .i64 b] w fun e w' => e = .returned (.tuple #[.int .i64 (doV 8 a b), .bool true]) ∧ w' = w := by
  have hk := tmod64 b
  have hs := sh_lt b
  go_enter Tryz.func91, Tryz.ntmps91
  go_wp2
  go_ret2
  exact ⟨ret_i64b (rfl), rfl⟩
theorem rdo9 (a b : Int) (w : World) : Calls Tryz.prog 91 #[.int .i64 9, .int .i64 a, .int .i64 b] w fun e w' => e = .returned (.tuple #[.int .i64 (doV 9 a b), .bool true]) ∧ w' = w := by
  have hk := tmod64 b
  rw [doV9]
  cases ht : (a == b)
  all_goals
    go_enter Tryz.func91, Tryz.ntmps91
    go_wp2
    go_ret2
    exact ⟨rfl, rfl⟩
theorem rdo10 (a b : Int) (w : World) : Calls Tryz.prog 91 #[.int .i64 10, .int .i64 a, .int .i64 b] w fun e w' => e = .returned (.tuple #[.int .i64 (doV 10 a b), .bool true]) ∧ w' = w := by
  have hk := tmod64 b
  rw [doV10]
  cases ht : (a != b)
  all_goals
    go_enter Tryz.func91, Tryz.ntmps91
    go_wp2
    go_ret2
    exact ⟨rfl, rfl⟩
theorem rdo11 (a b : Int) (w : World) : Calls Tryz.prog 91 #[.int .i64 11, .int .i64 a, .int .i64 b] w fun e w' => e = .returned (.tuple #[.int .i64 (doV 11 a b), .bool true]) ∧ w' = w := by
  have hk := tmod64 b
  rw [doV11]
  cases ht : decide (a < b)
  all_goals
    go_enter Tryz.func91, Tryz.ntmps91
    go_wp2
    go_ret2
    exact ⟨rfl, rfl⟩
end
theorem rdo_is (op a b : Int) (w : World) (h : 1 ≤ op ∧ op ≤ 11) :
    Calls Tryz.prog 91 #[.int .i64 op, .int .i64 a, .int .i64 b] w fun e w' => e = .returned (.tuple #[.int .i64 (doV op a b), .bool true]) ∧ w' = w := by
  have hc : op = 1 ∨ op = 2 ∨ op = 3 ∨ op = 4 ∨ op = 5 ∨ op = 6 ∨ op = 7 ∨ op = 8 ∨ op = 9 ∨ op = 10 ∨ op = 11 := by omega
  rcases hc with rfl | rfl | rfl | rfl | rfl | rfl | rfl | rfl | rfl | rfl | rfl
  · exact rdo1 a b w
  · exact rdo2 a b w
  · exact rdo3 a b w
  · exact rdo4 a b w
  · exact rdo5 a b w
  · exact rdo6 a b w
  · exact rdo7 a b w
  · exact rdo8 a b w
  · exact rdo9 a b w
  · exact rdo10 a b w
  · exact rdo11 a b w

set_option maxHeartbeats 400000 in
theorem rdo_none (op a b : Int) (w : World) (h : ¬ (1 ≤ op ∧ op ≤ 11)) :
    Calls Tryz.prog 91 #[.int .i64 op, .int .i64 a, .int .i64 b] w fun e w' => e = .returned (.tuple #[.int .i64 0, .bool false]) ∧ w' = w := by
  have n1 : (op == 1) = false := by simp; omega
  have n2 : (op == 2) = false := by simp; omega
  have n3 : (op == 3) = false := by simp; omega
  have n4 : (op == 4) = false := by simp; omega
  have n5 : (op == 5) = false := by simp; omega
  have n6 : (op == 6) = false := by simp; omega
  have n7 : (op == 7) = false := by simp; omega
  have n8 : (op == 8) = false := by simp; omega
  have n9 : (op == 9) = false := by simp; omega
  have n10 : (op == 10) = false := by simp; omega
  have n11 : (op == 11) = false := by simp; omega
  clear h
  go_enter Tryz.func91, Tryz.ntmps91
  go_wp2
  go_ret2
  exact ⟨rfl, rfl⟩
theorem rdo_any (op a b : Int) (w : World) : Calls Tryz.prog 91 #[.int .i64 op, .int .i64 a, .int .i64 b] w fun e w' => e = .returned (.tuple #[.int .i64 (doV op a b), .bool (doB op)]) ∧ w' = w := by
  by_cases h : 1 ≤ op ∧ op ≤ 11
  · have hb : doB op = true := by unfold doB; simp; omega
    rw [hb]; exact rdo_is op a b w h
  · have hb : doB op = false := by unfold doB; simp; omega
    rw [hb, doV_none op a b h]; exact rdo_none op a b w h
end Go.Proofs.YtplihlmejnohnaaGreatDoor

namespace Go.Proofs.YtplihlmejnohnaaGreatDoor
open Go.RowKit

set_option maxHeartbeats 1000000 in
theorem rvalue_is (o : Opd) (l : LocT) (w : World) : Calls Tryz.prog 74 #[.agg #[.int .i64 o.r, .int .i64 o.v], locV l] w fun e w' => e = .returned (.int .i64 (valOf o l)) ∧ On w w' := by
  obtain ⟨r, v⟩ := o
  obtain ⟨pc, r0, r1, r2, r3⟩ := l
  unfold valOf locV
  cases h : regOk r with
  | false =>
    by_cases h0 : 0 ≤ r
    · have h3 : decide (r ≤ 3) = false := by unfold regOk at h; simp at h; simp; omega
      go_enter Tryz.func74, Tryz.ntmps74
      go_wp2
      go_ret
      exact ⟨rfl, ((On.refl w).alloc _).alloc _⟩
    · go_enter Tryz.func74, Tryz.ntmps74
      go_wp2
      go_ret
      exact ⟨rfl, ((On.refl w).alloc _).alloc _⟩
  | true =>
    rcases regOk_four h with rfl | rfl | rfl | rfl
    all_goals
      go_enter Tryz.func74, Tryz.ntmps74
      go_wp2
      go_ret
      exact ⟨rfl, ((On.refl w).alloc _).alloc _⟩
end Go.Proofs.YtplihlmejnohnaaGreatDoor
