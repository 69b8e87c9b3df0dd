/- Relations: Row, Has, Add. -/
import Derived.Test.YtcfohakgokiedaaGreatDoorJ30RaC
import Derived.Deep.LoopGhost
import Derived.Test.YtcfohakgokiedaaGreatDoorJ06RegFin3
namespace Go.Proofs.YtcfohakgokiedaaGreatDoor
open Go.RowKit

structure Wr (r : RelT) : Prop where
 n : r.n ≤ 64
 w : ∀ a, r.f a < 18446744073709551616
def rowR (r : RelT) (a : Int) : Nat := if overR r a then r.f a.toNat else 0
def hasR (r : RelT) (a b : Int) : Bool := hasI (rowR r a) b
theorem row_lt {r : RelT} (h : Wr r) (a : Int) : rowR r a < 18446744073709551616 := by unfold rowR; split; exact h.w _; decide
def addR (r : RelT) (a b : Int) : RelT := if overR r a && overR r b then ⟨r.n, fun j => if j = a.toNat then withI (r.f a.toNat) b else r.f j⟩ else r
theorem add_n (r : RelT) (a b : Int) : (addR r a b).n = r.n := by unfold addR; split <;> rfl
theorem add_wr {r : RelT} (h : Wr r) (a b : Int) : Wr (addR r a b) := by
 refine ⟨by rw [add_n]; exact h.n, fun j => ?_⟩
 unfold addR
 split
 ·
  show (if j = a.toNat then withI (r.f a.toNat) b else r.f j) < _
  split
  ·
   exact with_lt _ _ (h.w _)
  ·
   exact h.w _
 ·
  exact h.w _
end Go.Proofs.YtcfohakgokiedaaGreatDoor

namespace Go.Proofs.YtcfohakgokiedaaGreatDoor
open Go.RowKit

def keepG (r : RelT) (s : Nat) (j : Nat) : Nat := if hasI s j then r.f j &&& s else 0
def keepR (r : RelT) (s : Nat) : RelT := uptoR (newR r.n) (keepG r s) r.n
theorem size2 (w : World) (A B : Obj) : ((w.alloc A).alloc B).heap.size = w.heap.size + 2 := by rw [World.size_alloc, World.size_alloc]
end Go.Proofs.YtcfohakgokiedaaGreatDoor

namespace Go.Proofs.YtcfohakgokiedaaGreatDoor
open Go.RowKit

def belowR (r : RelT) (n : Nat) : RelT := ⟨n, (keepR r (uptoI n)).f⟩
theorem upto_lt (n : Int) : uptoI n < 18446744073709551616 := by
 unfold uptoI
 split
 ·
  decide
 ·
  split
  ·
   decide
  ·
   have : 2 ^ n.toNat ≤ 2 ^ 63 := Nat.pow_le_pow_right (by decide) (by omega)
   have e : (2 : Nat) ^ 63 = 9223372036854775808 := by decide
   omega
end Go.Proofs.YtcfohakgokiedaaGreatDoor

namespace Go.Proofs.YtcfohakgokiedaaGreatDoor
open Go.RowKit

theorem and_lt64 {a : Nat} (b : Nat) (h : a < 18446744073709551616) : a &&& b < 18446744073709551616 := Nat.lt_of_le_of_lt Nat.and_le_left h
theorem keep_wr {r : RelT} (h : Wr r) (s : Nat) : Wr (keepR r s) := by
 refine ⟨Nat.min_le_right _ _, fun j => ?_⟩
 show (if j < r.n then keepG r s j else 0) < _
 split
 ·
  unfold keepG
  split
  ·
   exact and_lt64 _ (h.w j)
  ·
   decide
 ·
  decide
theorem below_wr {r : RelT} (h : Wr r) {n : Nat} (hn : n ≤ 64) : Wr (belowR r n) := ⟨hn, (keep_wr h _).w⟩
end Go.Proofs.YtcfohakgokiedaaGreatDoor

namespace Go.Proofs.YtcfohakgokiedaaGreatDoor
open Go.RowKit

def fromN (r : RelT) (s : Nat) : Nat → Nat
 | 0 => 0
 | i + 1 => if hasI s i then fromN r s i ||| r.f i else fromN r s i
theorem from_lt {r : RelT} (h : Wr r) (s : Nat) : ∀ i, fromN r s i < 18446744073709551616
 | 0 => by unfold fromN; decide
 | i + 1 => by
  unfold fromN
  split
  ·
   exact Nat.or_lt_two_pow (n := 64) (from_lt h s i) (h.w i)
  ·
   exact from_lt h s i
def thenG (a b : RelT) (j : Nat) : Nat := fromN b (a.f j) b.n
def thenR (r o : RelT) : RelT := uptoR (belowR r (min r.n o.n)) (thenG (belowR r (min r.n o.n)) (belowR o (min r.n o.n))) (min r.n o.n)
theorem then_wr {r o : RelT} (hr : Wr r) (ho : Wr o) : Wr (thenR r o) := by
 have hm : min r.n o.n ≤ 64 := by have := hr.n; omega
 have ha := below_wr hr hm
 have hb := below_wr ho hm
 refine ⟨hm, fun j => ?_⟩
 unfold thenR
 generalize belowR r (min r.n o.n) = a at *
 generalize belowR o (min r.n o.n) = b at *
 show (if j < min r.n o.n then thenG a b j else a.f j) < _
 split
 ·
  exact from_lt hb _ _
 ·
  exact ha.w j
end Go.Proofs.YtcfohakgokiedaaGreatDoor

namespace Go.Proofs.YtcfohakgokiedaaGreatDoor
open Go.RowKit

theorem uptoR_over (z : RelT) (g h : Nat → Nat) (n : Nat) : uptoR (uptoR z g n) h n = uptoR z h n := by
 unfold uptoR
 congr 1
 funext j
 by_cases hj : j < n <;> simp [hj]
/-- Who leads to j, of those below a. -/
def invN (r : RelT) (j : Nat) : Nat → Nat
 | 0 => 0
 | a + 1 => if hasI (r.f a) j then withI (invN r j a) a else invN r j a
theorem inv_none (r : RelT) {Z : RelT} {n : Nat} (h : Z = newR n) : uptoR Z (fun j => invN r j 0) n = Z := by
 subst h
 have e : (fun j => if j < n then invN r j 0 else (newR n).f j) = (newR n).f := by
  funext j
  split <;> rfl
 unfold uptoR
 rw [e]
theorem inv_lt (r : RelT) (j : Nat) : ∀ a, invN r j a < 18446744073709551616
 | 0 => by unfold invN; decide
 | a + 1 => by
  unfold invN
  split
  ·
   exact with_lt _ _ (inv_lt r j a)
  ·
   exact inv_lt r j a
def invR (r : RelT) : RelT := uptoR (newR r.n) (fun j => invN r j r.n) r.n
theorem inv_wr {r : RelT} (_ : Wr r) : Wr (invR r) := by
 refine ⟨Nat.min_le_right _ _, fun j => ?_⟩
 show (if j < r.n then invN r j r.n else 0) < _
 split
 ·
  exact inv_lt r j _
 ·
  decide
end Go.Proofs.YtcfohakgokiedaaGreatDoor

namespace Go.Proofs.YtcfohakgokiedaaGreatDoor
open Go.RowKit

def cloG (r : RelT) (b a : Nat) : Nat := if hasI (r.f a) b then r.f a ||| r.f b else r.f a
/-- b turns of the closure's outer loop. -/
def cloN (r : RelT) : Nat → RelT
 | 0 => r
 | b + 1 => uptoR (cloN r b) (cloG (cloN r b) b) r.n
theorem cloN_n (r : RelT) : ∀ b, (cloN r b).n = r.n
 | 0 => rfl
 | b + 1 => cloN_n r b
theorem cloG_lt {r : RelT} (h : ∀ a, r.f a < 18446744073709551616) (b a : Nat) : cloG r b a < 18446744073709551616 := by
 unfold cloG
 split
 ·
  exact Nat.or_lt_two_pow (n := 64) (h a) (h b)
 ·
  exact h a
theorem cloN_lt {r : RelT} (h : Wr r) : ∀ b a, (cloN r b).f a < 18446744073709551616
 | 0, a => h.w a
 | b + 1, a => by
  show (if a < r.n then cloG (cloN r b) b a else (cloN r b).f a) < _
  split
  ·
   exact cloG_lt (cloN_lt h b) b a
  ·
   exact cloN_lt h b a
def closeR (r : RelT) : RelT := cloN r r.n
theorem close_n (r : RelT) : (closeR r).n = r.n := cloN_n r _
theorem close_wr {r : RelT} (h : Wr r) : Wr (closeR r) := ⟨by rw [close_n]; exact h.n, cloN_lt h _⟩
theorem cloG_self (r : RelT) (b : Nat) : cloG r b b = r.f b := by
 unfold cloG
 split
 ·
  rw [Nat.or_self]
 ·
  rfl
/-- No number below n leads to itself. -/
def noSelf (r : RelT) : Nat → Bool
 | 0 => true
 | n + 1 => noSelf r n && !hasI (r.f n) n
def acycR (r : RelT) : Bool := noSelf (closeR r) r.n
theorem noSelf_mono (r : RelT) (i : Nat) : ∀ n, i < n → hasI (r.f i) i = true → noSelf r n = false
 | 0, h, _ => by omega
 | n + 1, h, hb => by
  unfold noSelf
  by_cases he : i = n
  ·
   subst he; rw [hb]; simp
  ·
   rw [noSelf_mono r i n (by omega) hb]; rfl
end Go.Proofs.YtcfohakgokiedaaGreatDoor

namespace Go.Proofs.YtcfohakgokiedaaGreatDoor
open Go.RowKit

theorem rel_infow : (Tryz.prog.info? 103).map (fun i => (i.zero, i.size)) = some (some (.agg (relA zeroR)), 65) := by kernel_rfl
/-- A relation that lies in a block is what the call hands back. -/
theorem ret65w {fn : Func} {q : Tmp} {tmps : Array Value} {w : World} {N : Nat} {r : RelT} (hf : fn.results = #[.cell q 103]) (hp : tmps.getD q undef = .pointer (some ⟨N, 0, none⟩)) (h : Bk w N (relA r)) :
  (results fn tmps).run Tryz.prog w = .ok (.agg (relA r)) w := by
 obtain ⟨T, e⟩ := h
 obtain ⟨_, hi⟩ := zero_of_info rel_infow
 exact results_cell_row hf tmps w N T (relA r) (0, 0) _ hp e Tryz.underlying103 rfl (by rw [hi, relA_size])
/-- A whole relation read by one operation of a plain region. -/
theorem wpList_ldw {ops : Array Oper} {rest : List Oper} {o : Oper} {a : Act} {w : World} {Q : Exit → Act → World → Prop} (hgd : o.guard = none) {x : Operand} (ho : o.op = .load 103 x)
  {N : Nat} (hx : a.eval x = .pointer (some ⟨N, 0, none⟩)) {r : RelT} (h : Bk w N (relA r)) (k : wpList Tryz.prog ops Q rest (a.put o.dst (.agg (relA r))) w) : wpList Tryz.prog ops Q (o :: rest) a w := by
 obtain ⟨T, e⟩ := h
 obtain ⟨_, hi⟩ := zero_of_info rel_infow
 exact wpList_load_row hgd 103 x ho N hx T (relA r) (0, 0) _ e Tryz.underlying103 rfl (by rw [hi, relA_size]) k
theorem wpList_ldGw {ops : Array Oper} {rest : List Oper} {o : Oper} {a : Act} {w : World} {Q : Exit → Act → World → Prop} (hw : Region.wanted o (yielded ops a.tmps) = true) {x : Operand} (ho : o.op = .load 103 x)
  {N : Nat} (hx : a.eval x = .pointer (some ⟨N, 0, none⟩)) {r : RelT} (h : Bk w N (relA r)) (k : wpList Tryz.prog ops Q rest (a.put o.dst (.agg (relA r))) w) : wpList Tryz.prog ops Q (o :: rest) a w := by
 obtain ⟨T, e⟩ := h
 obtain ⟨_, hi⟩ := zero_of_info rel_infow
 unfold wpList
 rw [if_pos hw]
 exact Or.inl (wp_load_row 103 x ho N hx T (relA r) (0, 0) _ e Tryz.underlying103 rfl (by rw [hi, relA_size]) k)
theorem wpList_stw {ops : Array Oper} {rest : List Oper} {o : Oper} {a : Act} {w : World} {Q : Exit → Act → World → Prop} (hgd : o.guard = none) {x y : Operand} (ho : o.op = .store 103 x y)
  {N : Nat} (hx : a.eval x = .pointer (some ⟨N, 0, none⟩)) {r q : RelT} (hy : a.eval y = .agg (relA r)) (h : Bk w N (relA q)) (k : wpList Tryz.prog ops Q rest (a.put o.dst undef) (w.setRow N (relA r))) : wpList Tryz.prog ops Q (o :: rest) a w := by
 obtain ⟨T, e⟩ := h
 obtain ⟨_, hi⟩ := zero_of_info rel_infow
 exact wpList_store_row hgd 103 x y ho N (relA r) hx hy T (relA q) e (by rw [hi, relA_size]) (by rw [relA_size, relA_size]) (all_oneCell_toArray (relA_one r)) k
theorem exec_ldw {a : Act} {o : Oper} {x : Operand} (ho : o.op = .load 103 x) {N : Nat} (hx : a.eval x = .pointer (some ⟨N, 0, none⟩)) {r : RelT} {W : World} (h : Bk W N (relA r)) : (execOp a.eval o).run Tryz.prog W = .ok (.value (.agg (relA r))) W := by
 obtain ⟨T, e⟩ := h
 obtain ⟨_, hi⟩ := zero_of_info rel_infow
 unfold execOp
 simp only [ho, hx, Instr.loadAt, Instr.sureAddr, Sem.run_bind, Sem.run_pure, Result.andThen_ok, run_loadVar_row W N T 103 (relA r) (0, 0) _ e Tryz.underlying103 rfl (by rw [hi, relA_size])]
theorem wp_stw {o : Oper} {a : Act} {w : World} {K : Act → World → Prop} {Q : Exit → Act → World → Prop} {x y : Operand} (ho : o.op = .store 103 x y)
  {N : Nat} (hx : a.eval x = .pointer (some ⟨N, 0, none⟩)) {r q : RelT} (hy : a.eval y = .agg (relA r)) (h : Bk w N (relA q)) (k : K (a.put o.dst undef) (w.setRow N (relA r))) : o.wp Tryz.prog a w K Q := by
 obtain ⟨T, e⟩ := h
 obtain ⟨_, hi⟩ := zero_of_info rel_infow
 exact wp_store_row 103 x y ho N (relA r) hx hy T (relA q) e (by rw [hi, relA_size]) (by rw [relA_size, relA_size]) (all_oneCell_toArray (relA_one r)) k

theorem bit_test (x b : Nat) (hx : x < 18446744073709551616) : (bits .and .u64 ((x : Int) / 2 ^ b) 1 == 1) = x.testBit b := by
 have e : (x : Int) / 2 ^ b = ((x / 2 ^ b : Nat) : Int) := by simp
 have h1 : bits .and .u64 ((x / 2 ^ b : Nat) : Int) ((1 : Nat) : Int) = _ := u64_and_nat (x / 2 ^ b) 1 (Nat.lt_of_le_of_lt (Nat.div_le_self _ _) hx) (by decide)
 have h2 : (((1 : Nat) : Int)) = 1 := rfl
 rw [h2] at h1
 rw [e, h1, Nat.and_one_is_mod, Nat.testBit_eq_decide_div_mod_eq]
 rw [Bool.eq_iff_iff]
 simp
 omega
set_option maxHeartbeats 1000000 in
theorem whas_is (r : RelT) (hr : Wr r) (N a b : Nat) (ha : a < 64) (hb : b < 64) (w : World) (h : Bk w N (relA r)) :
  Calls Tryz.prog 64 #[.pointer (some ⟨N, 0, none⟩), .int .i64 a, .int .i64 b] w fun e w' => e = .returned (.bool ((r.f a).testBit b)) ∧ w' = w := by
 have hc := h.at (relA_at r ha)
 have hl := h.lt
 have e := bit_test (r.f a) b (hr.w a)
 generalize r.f a = x at *
 generalize x.testBit b = T at *
 go_enter Tryz.func64, Tryz.ntmps64
 go_wp2
 go_ret
 exact ⟨rfl, rfl⟩
set_option maxHeartbeats 1000000 in
theorem wadd_is (r : RelT) (hr : Wr r) (N a b : Nat) (ha : a < r.n) (hb : b < r.n) (w : World) (h : Bk w N (relA r)) :
  Calls Tryz.prog 48 #[.pointer (some ⟨N, 0, none⟩), .int .i64 a, .int .i64 b] w fun e w' => e = .returned (.tuple #[]) ∧ Bk w' N (relA (addR r a b)) ∧ w' = w.drew.setCell ⟨N, 1 + a, none⟩ (.int .u64 (withI (r.f a) b)) := by
 have hn := hr.n
 have ha6 : a < 64 := by omega
 have hc := h.at (relA_at r ha6)
 have hf := h.fr (1 + a)
 have hl := h.lt
 have e1 := bit_val b (by omega) (by omega)
 simp only [Int.toNat_natCast] at e1
 have e2 := u64_or_nat (r.f a) (bitI b) (hr.w a) (bit_lt b)
 have e3 : r.f a ||| bitI b = withI (r.f a) b := rfl
 rw [e3] at e2
 have hB := h.drew.set1 ha6 (withI (r.f a) b)
 have eA : addR r a b = ⟨r.n, fun j => if j = a then withI (r.f a) b else r.f j⟩ := by
  unfold addR
  have h1 : overR r a = true := by unfold overR; simp; omega
  have h2 : overR r b = true := by unfold overR; simp; omega
  rw [h1, h2]
  rfl
 rw [← eA] at hB
 clear eA e3
 generalize addR r a b = A at *
 generalize withI (r.f a) b = y at *
 generalize bitI b = z at *
 generalize r.f a = x at *
 go_enter Tryz.func48, Tryz.ntmps48
 go_wp2
 go_region
 go_wp2
 go_end0
 exact ⟨rfl, hB, rfl⟩
end Go.Proofs.YtcfohakgokiedaaGreatDoor
