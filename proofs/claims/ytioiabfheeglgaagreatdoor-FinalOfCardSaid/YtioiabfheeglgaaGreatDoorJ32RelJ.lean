/- Relations: Closure, Acyclic. -/
import Derived.Test.YtioiabfheeglgaaGreatDoorJ31RelH
namespace Go.Proofs.YtioiabfheeglgaaGreatDoor
open Go.RowKit

def cloG (r : RelT) (b a : Nat) : Nat := if hasI (r.f a) b then r.f a ||| r.f b else r.f a
/-- b turns of the closure's outer loop. -/
def cloN (r : RelT) : Nat → RelT
 | 0 => r
 | b + 1 => uptoR (cloN r b) (cloG (cloN r b) b) r.n
theorem cloN_n (r : RelT) : ∀ b, (cloN r b).n = r.n
 | 0 => rfl
 | b + 1 => cloN_n r b
theorem cloG_lt {r : RelT} (h : ∀ a, r.f a < 18446744073709551616) (b a : Nat) : cloG r b a < 18446744073709551616 := by
 unfold cloG
 split
 ·
  exact Nat.or_lt_two_pow (n := 64) (h a) (h b)
 ·
  exact h a
theorem cloN_lt {r : RelT} (h : Wr r) : ∀ b a, (cloN r b).f a < 18446744073709551616
 | 0, a => h.w a
 | b + 1, a => by
  show (if a < r.n then cloG (cloN r b) b a else (cloN r b).f a) < _
  split
  ·
   exact cloG_lt (cloN_lt h b) b a
  ·
   exact cloN_lt h b a
def closeR (r : RelT) : RelT := cloN r r.n
theorem close_n (r : RelT) : (closeR r).n = r.n := cloN_n r _
theorem close_wr {r : RelT} (h : Wr r) : Wr (closeR r) := ⟨by rw [close_n]; exact h.n, cloN_lt h _⟩
theorem cloG_self (r : RelT) (b : Nat) : cloG r b b = r.f b := by
 unfold cloG
 split
 ·
  rw [Nat.or_self]
 ·
  rfl
/-- No number below n leads to itself. -/
def noSelf (r : RelT) : Nat → Bool
 | 0 => true
 | n + 1 => noSelf r n && !hasI (r.f n) n
def acycR (r : RelT) : Bool := noSelf (closeR r) r.n
theorem noSelf_mono (r : RelT) (i : Nat) : ∀ n, i < n → hasI (r.f i) i = true → noSelf r n = false
 | 0, h, _ => by omega
 | n + 1, h, hb => by
  unfold noSelf
  by_cases he : i = n
  ·
   subst he; rw [hb]; simp
  ·
   rw [noSelf_mono r i n (by omega) hb]; rfl
end Go.Proofs.YtioiabfheeglgaaGreatDoor

namespace Go.Proofs.YtioiabfheeglgaaGreatDoor
open Go.RowKit

theorem rel_infow : (Tryz.prog.info? 103).map (fun i => (i.zero, i.size)) = some (some (.agg (relA zeroR)), 65) := by kernel_rfl
/-- A relation that lies in a block is what the call hands back. -/
theorem ret65w {fn : Func} {q : Tmp} {tmps : Array Value} {w : World} {N : Nat} {r : RelT} (hf : fn.results = #[.cell q 103]) (hp : tmps.getD q undef = .pointer (some ⟨N, 0, none⟩)) (h : Bk w N (relA r)) :
  (results fn tmps).run Tryz.prog w = .ok (.agg (relA r)) w := by
 obtain ⟨T, e⟩ := h
 obtain ⟨_, hi⟩ := zero_of_info rel_infow
 exact results_cell_row hf tmps w N T (relA r) (0, 0) _ hp e Tryz.underlying103 rfl (by rw [hi, relA_size])
/-- A whole relation read by one operation of a plain region. -/
theorem wpList_ldw {ops : Array Oper} {rest : List Oper} {o : Oper} {a : Act} {w : World} {Q : Exit → Act → World → Prop} (hgd : o.guard = none) {x : Operand} (ho : o.op = .load 103 x)
  {N : Nat} (hx : a.eval x = .pointer (some ⟨N, 0, none⟩)) {r : RelT} (h : Bk w N (relA r)) (k : wpList Tryz.prog ops Q rest (a.put o.dst (.agg (relA r))) w) : wpList Tryz.prog ops Q (o :: rest) a w := by
 obtain ⟨T, e⟩ := h
 obtain ⟨_, hi⟩ := zero_of_info rel_infow
 exact wpList_load_row hgd 103 x ho N hx T (relA r) (0, 0) _ e Tryz.underlying103 rfl (by rw [hi, relA_size]) k
theorem wpList_ldGw {ops : Array Oper} {rest : List Oper} {o : Oper} {a : Act} {w : World} {Q : Exit → Act → World → Prop} (hw : Region.wanted o (yielded ops a.tmps) = true) {x : Operand} (ho : o.op = .load 103 x)
  {N : Nat} (hx : a.eval x = .pointer (some ⟨N, 0, none⟩)) {r : RelT} (h : Bk w N (relA r)) (k : wpList Tryz.prog ops Q rest (a.put o.dst (.agg (relA r))) w) : wpList Tryz.prog ops Q (o :: rest) a w := by
 obtain ⟨T, e⟩ := h
 obtain ⟨_, hi⟩ := zero_of_info rel_infow
 unfold wpList
 rw [if_pos hw]
 exact Or.inl (wp_load_row 103 x ho N hx T (relA r) (0, 0) _ e Tryz.underlying103 rfl (by rw [hi, relA_size]) k)
theorem wpList_stw {ops : Array Oper} {rest : List Oper} {o : Oper} {a : Act} {w : World} {Q : Exit → Act → World → Prop} (hgd : o.guard = none) {x y : Operand} (ho : o.op = .store 103 x y)
  {N : Nat} (hx : a.eval x = .pointer (some ⟨N, 0, none⟩)) {r q : RelT} (hy : a.eval y = .agg (relA r)) (h : Bk w N (relA q)) (k : wpList Tryz.prog ops Q rest (a.put o.dst undef) (w.setRow N (relA r))) : wpList Tryz.prog ops Q (o :: rest) a w := by
 obtain ⟨T, e⟩ := h
 obtain ⟨_, hi⟩ := zero_of_info rel_infow
 exact wpList_store_row hgd 103 x y ho N (relA r) hx hy T (relA q) e (by rw [hi, relA_size]) (by rw [relA_size, relA_size]) (all_oneCell_toArray (relA_one r)) k
theorem exec_ldw {a : Act} {o : Oper} {x : Operand} (ho : o.op = .load 103 x) {N : Nat} (hx : a.eval x = .pointer (some ⟨N, 0, none⟩)) {r : RelT} {W : World} (h : Bk W N (relA r)) : (execOp a.eval o).run Tryz.prog W = .ok (.value (.agg (relA r))) W := by
 obtain ⟨T, e⟩ := h
 obtain ⟨_, hi⟩ := zero_of_info rel_infow
 unfold execOp
 simp only [ho, hx, Instr.loadAt, Instr.sureAddr, Sem.run_bind, Sem.run_pure, Result.andThen_ok, run_loadVar_row W N T 103 (relA r) (0, 0) _ e Tryz.underlying103 rfl (by rw [hi, relA_size])]
theorem wp_stw {o : Oper} {a : Act} {w : World} {K : Act → World → Prop} {Q : Exit → Act → World → Prop} {x y : Operand} (ho : o.op = .store 103 x y)
  {N : Nat} (hx : a.eval x = .pointer (some ⟨N, 0, none⟩)) {r q : RelT} (hy : a.eval y = .agg (relA r)) (h : Bk w N (relA q)) (k : K (a.put o.dst undef) (w.setRow N (relA r))) : o.wp Tryz.prog a w K Q := by
 obtain ⟨T, e⟩ := h
 obtain ⟨_, hi⟩ := zero_of_info rel_infow
 exact wp_store_row 103 x y ho N (relA r) hx hy T (relA q) e (by rw [hi, relA_size]) (by rw [relA_size, relA_size]) (all_oneCell_toArray (relA_one r)) k

theorem bit_test (x b : Nat) (hx : x < 18446744073709551616) : (bits .and .u64 ((x : Int) / 2 ^ b) 1 == 1) = x.testBit b := by
 have e : (x : Int) / 2 ^ b = ((x / 2 ^ b : Nat) : Int) := by simp
 have h1 : bits .and .u64 ((x / 2 ^ b : Nat) : Int) ((1 : Nat) : Int) = _ := u64_and_nat (x / 2 ^ b) 1 (Nat.lt_of_le_of_lt (Nat.div_le_self _ _) hx) (by decide)
 have h2 : (((1 : Nat) : Int)) = 1 := rfl
 rw [h2] at h1
 rw [e, h1, Nat.and_one_is_mod, Nat.testBit_eq_decide_div_mod_eq]
 rw [Bool.eq_iff_iff]
 simp
 omega
set_option maxHeartbeats 1000000 in
theorem whas_is (r : RelT) (hr : Wr r) (N a b : Nat) (ha : a < 64) (hb : b < 64) (w : World) (h : Bk w N (relA r)) :
  Calls Tryz.prog 64 #[.pointer (some ⟨N, 0, none⟩), .int .i64 a, .int .i64 b] w fun e w' => e = .returned (.bool ((r.f a).testBit b)) ∧ w' = w := by
 have hc := h.at (relA_at r ha)
 have hl := h.lt
 have e := bit_test (r.f a) b (hr.w a)
 generalize r.f a = x at *
 generalize x.testBit b = T at *
 go_enter Tryz.func64, Tryz.ntmps64
 go_wp2
 go_ret
 exact ⟨rfl, rfl⟩
set_option maxHeartbeats 1000000 in
theorem wadd_is (r : RelT) (hr : Wr r) (N a b : Nat) (ha : a < r.n) (hb : b < r.n) (w : World) (h : Bk w N (relA r)) :
  Calls Tryz.prog 48 #[.pointer (some ⟨N, 0, none⟩), .int .i64 a, .int .i64 b] w fun e w' => e = .returned (.tuple #[]) ∧ Bk w' N (relA (addR r a b)) ∧ w' = w.drew.setCell ⟨N, 1 + a, none⟩ (.int .u64 (withI (r.f a) b)) := by
 have hn := hr.n
 have ha6 : a < 64 := by omega
 have hc := h.at (relA_at r ha6)
 have hf := h.fr (1 + a)
 have hl := h.lt
 have e1 := bit_val b (by omega) (by omega)
 simp only [Int.toNat_natCast] at e1
 have e2 := u64_or_nat (r.f a) (bitI b) (hr.w a) (bit_lt b)
 have e3 : r.f a ||| bitI b = withI (r.f a) b := rfl
 rw [e3] at e2
 have hB := h.drew.set1 ha6 (withI (r.f a) b)
 have eA : addR r a b = ⟨r.n, fun j => if j = a then withI (r.f a) b else r.f j⟩ := by
  unfold addR
  have h1 : overR r a = true := by unfold overR; simp; omega
  have h2 : overR r b = true := by unfold overR; simp; omega
  rw [h1, h2]
  rfl
 rw [← eA] at hB
 clear eA e3
 generalize addR r a b = A at *
 generalize withI (r.f a) b = y at *
 generalize bitI b = z at *
 generalize r.f a = x at *
 go_enter Tryz.func48, Tryz.ntmps48
 go_wp2
 go_region
 go_wp2
 go_end0
 exact ⟨rfl, hB, rfl⟩
end Go.Proofs.YtioiabfheeglgaaGreatDoor
