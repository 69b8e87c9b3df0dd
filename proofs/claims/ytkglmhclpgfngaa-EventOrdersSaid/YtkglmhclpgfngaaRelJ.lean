/- The document's own relations: the same cells. -/
import Derived.Test.YtkglmhclpgfngaaJ47RelI
namespace Go.Proofs.Ytkglmhclpgfngaa
open Go.RowKit

theorem rel_infow : (Try.prog.info? 60).map (fun i => (i.zero, i.size)) = some (some (.agg (relA zeroR)), 65) := by kernel_rfl
/-- A relation that lies in a block is what the call hands back. -/
theorem ret65w {fn : Func} {q : Tmp} {tmps : Array Value} {w : World} {N : Nat} {r : RelT} (hf : fn.results = #[.cell q 60]) (hp : tmps.getD q undef = .pointer (some ⟨N, 0, none⟩)) (h : Bk w N (relA r)) :
    (results fn tmps).run Try.prog w = .ok (.agg (relA r)) w := by
  obtain ⟨T, e⟩ := h
  obtain ⟨_, hi⟩ := zero_of_info rel_infow
  exact results_cell_row hf tmps w N T (relA r) (0, 0) _ hp e Try.underlying60 rfl (by rw [hi, relA_size])
/-- A whole relation read by one operation of a plain region. -/
theorem wpList_ldw {ops : Array Oper} {rest : List Oper} {o : Oper} {a : Act} {w : World} {Q : Exit → Act → World → Prop} (hgd : o.guard = none) {x : Operand} (ho : o.op = .load 60 x)
    {N : Nat} (hx : a.eval x = .pointer (some ⟨N, 0, none⟩)) {r : RelT} (h : Bk w N (relA r)) (k : wpList Try.prog ops Q rest (a.put o.dst (.agg (relA r))) w) : wpList Try.prog ops Q (o :: rest) a w := by
  obtain ⟨T, e⟩ := h
  obtain ⟨_, hi⟩ := zero_of_info rel_infow
  exact wpList_load_row hgd 60 x ho N hx T (relA r) (0, 0) _ e Try.underlying60 rfl (by rw [hi, relA_size]) k
theorem wpList_ldGw {ops : Array Oper} {rest : List Oper} {o : Oper} {a : Act} {w : World} {Q : Exit → Act → World → Prop} (hw : Region.wanted o (yielded ops a.tmps) = true) {x : Operand} (ho : o.op = .load 60 x)
    {N : Nat} (hx : a.eval x = .pointer (some ⟨N, 0, none⟩)) {r : RelT} (h : Bk w N (relA r)) (k : wpList Try.prog ops Q rest (a.put o.dst (.agg (relA r))) w) : wpList Try.prog ops Q (o :: rest) a w := by
  obtain ⟨T, e⟩ := h
  obtain ⟨_, hi⟩ := zero_of_info rel_infow
  unfold wpList
  rw [if_pos hw]
  exact Or.inl (wp_load_row 60 x ho N hx T (relA r) (0, 0) _ e Try.underlying60 rfl (by rw [hi, relA_size]) k)
theorem wpList_stw {ops : Array Oper} {rest : List Oper} {o : Oper} {a : Act} {w : World} {Q : Exit → Act → World → Prop} (hgd : o.guard = none) {x y : Operand} (ho : o.op = .store 60 x y)
    {N : Nat} (hx : a.eval x = .pointer (some ⟨N, 0, none⟩)) {r q : RelT} (hy : a.eval y = .agg (relA r)) (h : Bk w N (relA q)) (k : wpList Try.prog ops Q rest (a.put o.dst undef) (w.setRow N (relA r))) : wpList Try.prog ops Q (o :: rest) a w := by
  obtain ⟨T, e⟩ := h
  obtain ⟨_, hi⟩ := zero_of_info rel_infow
  exact wpList_store_row hgd 60 x y ho N (relA r) hx hy T (relA q) e (by rw [hi, relA_size]) (by rw [relA_size, relA_size]) (all_oneCell_toArray (relA_one r)) k
theorem exec_ldw {a : Act} {o : Oper} {x : Operand} (ho : o.op = .load 60 x) {N : Nat} (hx : a.eval x = .pointer (some ⟨N, 0, none⟩)) {r : RelT} {W : World} (h : Bk W N (relA r)) : (execOp a.eval o).run Try.prog W = .ok (.value (.agg (relA r))) W := by
  obtain ⟨T, e⟩ := h
  obtain ⟨_, hi⟩ := zero_of_info rel_infow
  unfold execOp
  simp only [ho, hx, Instr.loadAt, Instr.sureAddr, Sem.run_bind, Sem.run_pure, Result.andThen_ok, run_loadVar_row W N T 60 (relA r) (0, 0) _ e Try.underlying60 rfl (by rw [hi, relA_size])]
theorem wp_stw {o : Oper} {a : Act} {w : World} {K : Act → World → Prop} {Q : Exit → Act → World → Prop} {x y : Operand} (ho : o.op = .store 60 x y)
    {N : Nat} (hx : a.eval x = .pointer (some ⟨N, 0, none⟩)) {r q : RelT} (hy : a.eval y = .agg (relA r)) (h : Bk w N (relA q)) (k : K (a.put o.dst undef) (w.setRow N (relA r))) : o.wp Try.prog a w K Q := by
  obtain ⟨T, e⟩ := h
  obtain ⟨_, hi⟩ := zero_of_info rel_infow
  exact wp_store_row 60 x y ho N (relA r) hx hy T (relA q) e (by rw [hi, relA_size]) (by rw [relA_size, relA_size]) (all_oneCell_toArray (relA_one r)) k

theorem bit_test (x b : Nat) (hx : x < 18446744073709551616) : (bits .and .u64 ((x : Int) / 2 ^ b) 1 == 1) = x.testBit b := by
  have e : (x : Int) / 2 ^ b = ((x / 2 ^ b : Nat) : Int) := by simp
  have h1 : bits .and .u64 ((x / 2 ^ b : Nat) : Int) ((1 : Nat) : Int) = _ := u64_and_nat (x / 2 ^ b) 1 (Nat.lt_of_le_of_lt (Nat.div_le_self _ _) hx) (by decide)
  have h2 : (((1 : Nat) : Int)) = 1 := rfl
  rw [h2] at h1
  rw [e, h1, Nat.and_one_is_mod, Nat.testBit_eq_decide_div_mod_eq]
  rw [Bool.eq_iff_iff]
  simp
  omega
set_option maxHeartbeats 1000000 in
theorem wadd_is (r : RelT) (hr : Wr r) (N a b : Nat) (ha : a < r.n) (hb : b < r.n) (w : World) (h : Bk w N (relA r)) :
    Calls Try.prog 42 #[.pointer (some ⟨N, 0, none⟩), .int .i64 a, .int .i64 b] w fun e w' => e = .returned (.tuple #[]) ∧ Bk w' N (relA (addR r a b)) ∧ w' = w.drew.setCell ⟨N, 1 + a, none⟩ (.int .u64 (withI (r.f a) b)) := by
  have hn := hr.n
  have ha6 : a < 64 := by omega
  have hc := h.at (relA_at r ha6)
  have hf := h.fr (1 + a)
  have hl := h.lt
  have e1 := bit_val b (by omega) (by omega)
  simp only [Int.toNat_natCast] at e1
  have e2 := u64_or_nat (r.f a) (bitI b) (hr.w a) (bit_lt b)
  have e3 : r.f a ||| bitI b = withI (r.f a) b := rfl
  rw [e3] at e2
  have hB := h.drew.set1 ha6 (withI (r.f a) b)
  have eA : addR r a b = ⟨r.n, fun j => if j = a then withI (r.f a) b else r.f j⟩ := by
    unfold addR
    have h1 : overR r a = true := by unfold overR; simp; omega
    have h2 : overR r b = true := by unfold overR; simp; omega
    rw [h1, h2]
    rfl
  rw [← eA] at hB
  clear eA e3
  generalize addR r a b = A at *
  generalize withI (r.f a) b = y at *
  generalize bitI b = z at *
  generalize r.f a = x at *
  go_enter Try.func42, Try.ntmps42
  go_wp2
  go_region
  go_wp2
  go_end0
  exact ⟨rfl, hB, rfl⟩
end Go.Proofs.Ytkglmhclpgfngaa
