/- num.Do for every sign and every two numbers. -/
import Derived.Test.YtplihlmejnohnaaGreatDoorJ00Heap
namespace Go.Proofs.YtplihlmejnohnaaGreatDoor
open Go.RowKit

theorem i64_and63 (n : Int) : bits .and .i64 n 63 = n % 64 := by
  have h63 : (BitVec.ofInt 64 63).toNat = 2 ^ 6 - 1 := by decide
  have key : (BitVec.ofInt 64 n &&& BitVec.ofInt 64 63).toNat = (n % ((2 ^ 64 : Nat) : Int)).toNat % 2 ^ 6 := by
    rw [BitVec.toNat_and, BitVec.toNat_ofInt, h63, Nat.and_two_pow_sub_one_eq_mod]
  show IntKind.i64.wrap ((BitVec.ofInt 64 n &&& BitVec.ofInt 64 63).toNat : Nat) = n % 64
  rw [key, IntKind.wrap_i64]
  omega

/-- How far b shifts. -/
def sh (b : Int) : Nat := (b % 64).toNat
theorem sh_lt (b : Int) : sh b < 64 := by unfold sh; omega

set_option maxHeartbeats 400000 in
theorem modulo_any (b : Int) (w : World) :
    Calls Tryz.prog 120 #[.int .i64 b] w fun e w' => e = .returned (.int .u64 (sh b)) ∧ w' = w := by
  have e : IntKind.u64.wrap (bits .and .i64 b 63) = (sh b : Int) := by
    rw [i64_and63, IntKind.wrap_u64]; unfold sh; omega
  go_enter Tryz.func120, Tryz.ntmps120
  go_wp2
  go_ret
  exact ⟨rfl, rfl⟩

def b2i (b : Bool) : Int := if b then 1 else 0
set_option maxHeartbeats 400000 in
theorem truth_any (b : Bool) (w : World) :
    Calls Tryz.prog 121 #[.bool b] w fun e w' => e = .returned (.int .i64 (b2i b)) ∧ w' = w := by
  cases b
  all_goals
    go_enter Tryz.func121, Tryz.ntmps121
    go_wp2
    go_ret
    exact ⟨rfl, rfl⟩

/-- What Do answers. -/
def doV (op a b : Int) : Int :=
  if op = 1 then wrap64 (a + b) else if op = 2 then wrap64 (a - b) else if op = 3 then wrap64 (a * b)
  else if op = 4 then bits .and .i64 a b else if op = 5 then bits .or .i64 a b else if op = 6 then bits .xor .i64 a b
  else if op = 7 then wrap64 (a * 2 ^ sh b) else if op = 8 then a / 2 ^ sh b
  else if op = 9 then b2i (a == b) else if op = 10 then b2i (a != b) else if op = 11 then b2i (decide (a < b)) else 0

def doW (op : Int) : Bool := decide (1 ≤ op ∧ op ≤ 11)

section
set_option maxHeartbeats 400000
theorem do1 (a b : Int) (w : World) : Calls Tryz.prog 103 #[.int .i64 1, .int .i64 a, .int .i64 b] w fun e w' => e = .returned (.tuple #[.int .i64 (wrap64 (a + b)), .bool true]) ∧ w' = w := by
  go_enter Tryz.func103, Tryz.ntmps103
  go_wp2
  go_ret2
  exact ⟨rfl, rfl⟩
theorem do2 (a b : Int) (w : World) : Calls Tryz.prog 103 #[.int .i64 2, .int .i64 a, .int .i64 b] w fun e w' => e = .returned (.tuple #[.int .i64 (wrap64 (a - b)), .bool true]) ∧ w' = w := by
  go_enter Tryz.func103, Tryz.ntmps103
  go_wp2
  go_ret2
  exact ⟨rfl, rfl⟩
theorem do3 (a b : Int) (w : World) : Calls Tryz.prog 103 #[.int .i64 3, .int .i64 a, .int .i64 b] w fun e w' => e = .returned (.tuple #[.int .i64 (wrap64 (a * b)), .bool true]) ∧ w' = w := by
  go_enter Tryz.func103, Tryz.ntmps103
  go_wp2
  go_ret2
  exact ⟨rfl, rfl⟩
theorem do4 (a b : Int) (w : World) : Calls Tryz.prog 103 #[.int .i64 4, .int .i64 a, .int .i64 b] w fun e w' => e = .returned (.tuple #[.int .i64 (bits .and .i64 a b), .bool true]) ∧ w' = w := by
  go_enter Tryz.func103, Tryz.ntmps103
  go_wp2
  go_ret2
  exact ⟨rfl, rfl⟩
theorem do5 (a b : Int) (w : World) : Calls Tryz.prog 103 #[.int .i64 5, .int .i64 a, .int .i64 b] w fun e w' => e = .returned (.tuple #[.int .i64 (bits .or .i64 a b), .bool true]) ∧ w' = w := by
  go_enter Tryz.func103, Tryz.ntmps103
  go_wp2
  go_ret2
  exact ⟨rfl, rfl⟩
theorem do6 (a b : Int) (w : World) : Calls Tryz.prog 103 #[.int .i64 6, .int .i64 a, .int .i64 b] w fun e w' => e = .returned (.tuple #[.int .i64 (bits .xor .i64 a b), .bool true]) ∧ w' = w := by
  go_enter Tryz.func103, Tryz.ntmps103
  go_wp2
  go_ret2
  exact ⟨rfl, rfl⟩
theorem do7 (a b : Int) (w : World) : Calls Tryz.prog 103 #[.int .i64 7, .int .i64 a, .int .i64 b] w fun e w' => e = .returned (.tuple #[.int .i64 (wrap64 (a * 2 ^ sh b)), .bool true]) ∧ w' = w := by
  have hs := sh_lt b
  go_enter Tryz.func103, Tryz.ntmps103
  go_wp2_with (go_at_call 120; refine (modulo_any _ _).mono ?_; rintro e w' ⟨rfl, rfl⟩)
  go_ret2
  exact ⟨rfl, rfl⟩
theorem do8 (a b : Int) (w : World) : Calls Tryz.prog 103 #[.int .i64 8, .int .i64 a, .int .i64 b] w fun e w' => e = .returned (.tuple #[.int .i64 (a / 2 ^ sh b), .bool true]) ∧ w' = w := by
  have hs := sh_lt b
  go_enter Tryz.func103, Tryz.ntmps103
  go_wp2_with (go_at_call 120; refine (modulo_any _ _).mono ?_; rintro e w' ⟨rfl, rfl⟩)
  go_ret2
  exact ⟨rfl, rfl⟩
theorem do9 (a b : Int) (w : World) : Calls Tryz.prog 103 #[.int .i64 9, .int .i64 a, .int .i64 b] w fun e w' => e = .returned (.tuple #[.int .i64 (b2i (a == b)), .bool true]) ∧ w' = w := by
  go_enter Tryz.func103, Tryz.ntmps103
  go_wp2_with (go_at_call 121; refine (truth_any _ _).mono ?_; rintro e w' ⟨rfl, rfl⟩)
  go_ret2
  exact ⟨rfl, rfl⟩
theorem do10 (a b : Int) (w : World) : Calls Tryz.prog 103 #[.int .i64 10, .int .i64 a, .int .i64 b] w fun e w' => e = .returned (.tuple #[.int .i64 (b2i (a != b)), .bool true]) ∧ w' = w := by
  go_enter Tryz.func103, Tryz.ntmps103
  go_wp2_with (go_at_call 121; refine (truth_any _ _).mono ?_; rintro e w' ⟨rfl, rfl⟩)
  go_ret2
  exact ⟨rfl, rfl⟩
theorem do11 (a b : Int) (w : World) : Calls Tryz.prog 103 #[.int .i64 11, .int .i64 a, .int .i64 b] w fun e w' => e = .returned (.tuple #[.int .i64 (b2i (decide (a < b))), .bool true]) ∧ w' = w := by
  go_enter Tryz.func103, Tryz.ntmps103
  go_wp2_with (go_at_call 121; refine (truth_any _ _).mono ?_; rintro e w' ⟨rfl, rfl⟩)
  go_ret2
  exact ⟨rfl, rfl⟩
end

theorem doV1 (a b : Int) : doV 1 a b = wrap64 (a + b) := rfl
theorem doV2 (a b : Int) : doV 2 a b = wrap64 (a - b) := rfl
theorem doV3 (a b : Int) : doV 3 a b = wrap64 (a * b) := rfl
theorem doV4 (a b : Int) : doV 4 a b = bits .and .i64 a b := rfl
theorem doV5 (a b : Int) : doV 5 a b = bits .or .i64 a b := rfl
theorem doV6 (a b : Int) : doV 6 a b = bits .xor .i64 a b := rfl
theorem doV7 (a b : Int) : doV 7 a b = wrap64 (a * 2 ^ sh b) := rfl
theorem doV8 (a b : Int) : doV 8 a b = a / 2 ^ sh b := rfl
theorem doV9 (a b : Int) : doV 9 a b = b2i (a == b) := rfl
theorem doV10 (a b : Int) : doV 10 a b = b2i (a != b) := rfl
theorem doV11 (a b : Int) : doV 11 a b = b2i (decide (a < b)) := rfl

/-- DO, at every op that there is. -/
theorem do_is (op a b : Int) (w : World) (h : 1 ≤ op ∧ op ≤ 11) :
    Calls Tryz.prog 103 #[.int .i64 op, .int .i64 a, .int .i64 b] w fun e w' => e = .returned (.tuple #[.int .i64 (doV op a b), .bool true]) ∧ w' = w := by
  have hc : op = 1 ∨ op = 2 ∨ op = 3 ∨ op = 4 ∨ op = 5 ∨ op = 6 ∨ op = 7 ∨ op = 8 ∨ op = 9 ∨ op = 10 ∨ op = 11 := by omega
  rcases hc with rfl | rfl | rfl | rfl | rfl | rfl | rfl | rfl | rfl | rfl | rfl
  · exact do1 a b w
  · exact do2 a b w
  · exact do3 a b w
  · exact do4 a b w
  · exact do5 a b w
  · exact do6 a b w
  · exact do7 a b w
  · exact do8 a b w
  · exact do9 a b w
  · exact do10 a b w
  · exact do11 a b w

set_option maxHeartbeats 400000 in
/-- .. and at another one. -/
theorem do_none (op a b : Int) (w : World) (h : ¬ (1 ≤ op ∧ op ≤ 11)) :
    Calls Tryz.prog 103 #[.int .i64 op, .int .i64 a, .int .i64 b] w fun e w' => e = .returned (.tuple #[.int .i64 0, .bool false]) ∧ w' = w := by
  have n1 : (op == 1) = false := by simp; omega
  have n2 : (op == 2) = false := by simp; omega
  have n3 : (op == 3) = false := by simp; omega
  have n4 : (op == 4) = false := by simp; omega
  have n5 : (op == 5) = false := by simp; omega
  have n6 : (op == 6) = false := by simp; omega
  have n7 : (op == 7) = false := by simp; omega
  have n8 : (op == 8) = false := by simp; omega
  have n9 : (op == 9) = false := by simp; omega
  have n10 : (op == 10) = false := by simp; omega
  have n11 : (op == 11) = false := by simp; omega
  clear h
  go_enter Tryz.func103, Tryz.ntmps103
  go_wp2
  go_ret2
  exact ⟨rfl, rfl⟩

/-- DO's number at any sign. -/
def doB (op : Int) : Bool := decide (1 ≤ op) && decide (op ≤ 11)
theorem doV_none (op a b : Int) (h : ¬ (1 ≤ op ∧ op ≤ 11)) : doV op a b = 0 := by
  unfold doV
  have h1 : op ≠ 1 := by omega
  have h2 : op ≠ 2 := by omega
  have h3 : op ≠ 3 := by omega
  have h4 : op ≠ 4 := by omega
  have h5 : op ≠ 5 := by omega
  have h6 : op ≠ 6 := by omega
  have h7 : op ≠ 7 := by omega
  have h8 : op ≠ 8 := by omega
  have h9 : op ≠ 9 := by omega
  have h10 : op ≠ 10 := by omega
  have h11 : op ≠ 11 := by omega
  simp only [h1, h2, h3, h4, h5, h6, h7, h8, h9, h10, h11, if_false]
theorem do_any (op a b : Int) (w : World) : Calls Tryz.prog 103 #[.int .i64 op, .int .i64 a, .int .i64 b] w fun e w' => e = .returned (.tuple #[.int .i64 (doV op a b), .bool (doB op)]) ∧ w' = w := by
  by_cases h : 1 ≤ op ∧ op ≤ 11
  · have hb : doB op = true := by unfold doB; simp; omega
    rw [hb]; exact do_is op a b w h
  · have hb : doB op = false := by unfold doB; simp; omega
    rw [hb, doV_none op a b h]; exact do_none op a b w h
end Go.Proofs.YtplihlmejnohnaaGreatDoor

namespace Go.Proofs.YtplihlmejnohnaaGreatDoor

/-- Where a thread is. -/
structure LocT where
  pc : Int
  r0 : Int
  r1 : Int
  r2 : Int
  r3 : Int
def regAt (l : LocT) (r : Int) : Int := if r = 0 then l.r0 else if r = 1 then l.r1 else if r = 2 then l.r2 else l.r3
def setR (l : LocT) (r v : Int) : LocT := if r = 0 then ⟨l.pc, v, l.r1, l.r2, l.r3⟩ else if r = 1 then ⟨l.pc, l.r0, v, l.r2, l.r3⟩ else if r = 2 then ⟨l.pc, l.r0, l.r1, v, l.r3⟩ else ⟨l.pc, l.r0, l.r1, l.r2, v⟩
def pcTo (l : LocT) (n : Int) : LocT := ⟨n, l.r0, l.r1, l.r2, l.r3⟩
def valOf (o : Opd) (l : LocT) : Int := if regOk o.r then regAt l o.r else o.v
def withR (l : LocT) (r v : Int) : LocT := if regOk r then setR l r v else l
def resOf (i : InsT) (l : LocT) : Int := if i.o == 0 then valOf i.a l else doV i.o (valOf i.a l) (valOf i.b l)
def skipOf (i : InsT) (l : LocT) (left : Int) : Int := if valOf i.a l == valOf i.b l then min (max i.n 0) left else 0
theorem regOk_four {r : Int} (h : regOk r = true) : r = 0 ∨ r = 1 ∨ r = 2 ∨ r = 3 := by
  unfold regOk at h
  simp only [Bool.and_eq_true, decide_eq_true_eq] at h
  omega
/-- A thread that is made normal: as many steps as it may take. -/
def settleN : Nat → List InsT → LocT → LocT
  | 0, _, l => l
  | n + 1, L, l =>
    match L[l.pc.toNat]? with
    | none => l
    | some i =>
      if i.k == 5 then settleN n L (pcTo (withR l i.r (resOf i l)) (l.pc + 1))
      else if i.k == 6 then settleN n L (pcTo l (l.pc + skipOf i l (L.length - l.pc - 1) + 1))
      else l
def settleP (L : List InsT) (l : LocT) : LocT := settleN (L.length - l.pc.toNat) L l
theorem withR_pc (l : LocT) (r v : Int) : (withR l r v).pc = l.pc := by
  unfold withR setR
  repeat' split
  all_goals rfl
theorem skipOf_bd (i : InsT) (l : LocT) (left : Int) (h : 0 ≤ left) : 0 ≤ skipOf i l left ∧ skipOf i l left ≤ left := by
  unfold skipOf
  split <;> omega
theorem settleN_more : ∀ (n m : Nat) (L : List InsT) (l : LocT), 0 ≤ l.pc → L.length - l.pc.toNat ≤ n → n ≤ m → settleN n L l = settleN m L l
  | 0, 0, _, _, _, _, _ => rfl
  | 0, m + 1, L, l, _, h, _ => by
    have : L[l.pc.toNat]? = none := List.getElem?_eq_none (by omega)
    unfold settleN
    rw [this]
  | n + 1, 0, _, _, _, _, h => by omega
  | n + 1, m + 1, L, l, h0, h, hm => by
    unfold settleN
    rcases hi : L[l.pc.toNat]? with _ | i
    · rfl
    · have hlt : l.pc.toNat < L.length := (List.getElem?_eq_some_iff.1 hi).1
      have hs := skipOf_bd i l (L.length - l.pc - 1) (by omega)
      simp only
      split
      · exact settleN_more n m L _ (by simp only [pcTo]; omega) (by simp only [pcTo]; omega) (by omega)
      · split
        · exact settleN_more n m L _ (by simp only [pcTo]; omega) (by simp only [pcTo]; omega) (by omega)
        · rfl
theorem settle_end {L : List InsT} {l : LocT} (h : L.length ≤ l.pc.toNat) : settleP L l = l := by
  unfold settleP
  rw [show L.length - l.pc.toNat = 0 by omega]
  rfl
theorem settle_step {L : List InsT} {l : LocT} {i : InsT} (h0 : 0 ≤ l.pc) (hi : L[l.pc.toNat]? = some i) : settleP L l =
    if i.k == 5 then settleP L (pcTo (withR l i.r (resOf i l)) (l.pc + 1)) else if i.k == 6 then settleP L (pcTo l (l.pc + skipOf i l (L.length - l.pc - 1) + 1)) else l := by
  have hlt : l.pc.toNat < L.length := (List.getElem?_eq_some_iff.1 hi).1
  have hs := skipOf_bd i l (L.length - l.pc - 1) (by omega)
  unfold settleP
  obtain ⟨n, hn⟩ : ∃ n, L.length - l.pc.toNat = n + 1 := ⟨L.length - l.pc.toNat - 1, by omega⟩
  rw [hn]
  rw [settleN, hi]
  simp only
  split
  · exact (settleN_more _ n L _ (by simp only [pcTo]; omega) (Nat.le_refl _) (by simp only [pcTo]; omega)).symm
  · split
    · exact (settleN_more _ n L _ (by simp only [pcTo]; omega) (Nat.le_refl _) (by simp only [pcTo]; omega)).symm
    · rfl
end Go.Proofs.YtplihlmejnohnaaGreatDoor
