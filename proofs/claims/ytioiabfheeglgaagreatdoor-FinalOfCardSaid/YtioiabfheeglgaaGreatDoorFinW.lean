/- Ends as they lie in memory: twenty numbers, one behind the other. -/
import Derived.Test.YtioiabfheeglgaaGreatDoorFinP
import Derived.Test.YtioiabfheeglgaaGreatDoorReads
import Derived.Deep.WholeRow
import Derived.Deep.MidRow
import Derived.DeepKeys4
import Derived.Shelf.SlicesE.Kit
namespace Go.Proofs.YtioiabfheeglgaaGreatDoor
open Go.RowKit

def finC (f : FinT) : List Value := f.l.map (Value.int .i64)
def finA (f : FinT) : Array Value := (finC f).toArray
theorem finC_len (f : FinT) : (finC f).length = 20 := by unfold finC; rw [List.length_map, f.h]
theorem finA_size (f : FinT) : (finA f).size = 20 := by unfold finA; simp [finC_len]
theorem finC_one (f : FinT) : ∀ v ∈ finC f, v.oneCell' = true := by
  intro v hv
  unfold finC at hv
  simp only [List.mem_map] at hv
  obtain ⟨z, _, rfl⟩ := hv
  rfl
theorem finC_at (f : FinT) {i : Nat} {z : Int} (h : f.l[i]? = some z) : (finC f)[i]? = some (.int .i64 z) := by
  unfold finC
  rw [List.getElem?_map, h]
  rfl
theorem finA_at (f : FinT) {i : Nat} {z : Int} (h : f.l[i]? = some z) : (finA f)[i]? = some (.int .i64 z) := by
  unfold finA
  rw [List.getElem?_toArray]
  exact finC_at f h
theorem finC_inj {f g : FinT} (h : finC f = finC g) : f = g := by
  refine FinT.ext ?_
  unfold finC at h
  apply List.ext_getElem?
  intro i
  have hi : (f.l.map (Value.int .i64))[i]? = (g.l.map (Value.int .i64))[i]? := by rw [h]
  rw [List.getElem?_map, List.getElem?_map] at hi
  cases h1 : f.l[i]? <;> cases h2 : g.l[i]? <;> simp_all
theorem fin_info : (Tryz.prog.info? 36).map (fun i => (i.zero, i.size)) = some (some (.agg (finA finZ)), 20) := by kernel_rfl
theorem fin_size : (Tryz.prog.info? 36).map (·.size) = some 20 := by kernel_rfl

/-- All are numbers of 64 bits. -/
def AllI (cs : List Value) : Prop := ∀ v ∈ cs, ∃ z : Int, v = .int .i64 z ∧ (Lit.int .i64 z).wf = true
theorem AllI.take {cs : List Value} (h : AllI cs) (n : Nat) : AllI (cs.take n) := fun v hv => h v (List.mem_of_mem_take hv)
theorem AllI.drop {cs : List Value} (h : AllI cs) (n : Nat) : AllI (cs.drop n) := fun v hv => h v (List.mem_of_mem_drop hv)
theorem finC_all (f : FinT) : AllI (finC f) := by
  intro v hv
  unfold finC at hv
  simp only [List.mem_map] at hv
  obtain ⟨z, hz, rfl⟩ := hv
  refine ⟨z, rfl, ?_⟩
  have e1 : IntKind.i64.min = -9223372036854775808 := rfl
  have e2 : IntKind.i64.max = 9223372036854775807 := rfl
  simp [Lit.wf, e1, e2]
  exact f.b z hz
theorem mapM_some {α β : Type} {f : α → Option β} : ∀ (L : List α), (∀ x ∈ L, ∃ y, f x = some y) → ∃ ys, L.mapM f = some ys
  | [], _ => ⟨[], rfl⟩
  | x :: L, h => by
    obtain ⟨y, hy⟩ := h x List.mem_cons_self
    obtain ⟨ys, hys⟩ := mapM_some L (fun z hz => h z (List.mem_cons_of_mem _ hz))
    exact ⟨y :: ys, by simp [List.mapM_cons, hy, hys]⟩
theorem cell64 : Tryz.prog.cellsOf 2 = 1 := by kernel_rfl
theorem cell4 : Tryz.prog.cellsOf 33 = 4 := by kernel_rfl
theorem cell16 : Tryz.prog.cellsOf 34 = 16 := by kernel_rfl
theorem cell20 : Tryz.prog.cellsOf 36 = 20 := by kernel_rfl
theorem key1 (d : Nat) (cs : List Value) (hl : cs.length = 1) (h : AllI cs) : ∃ l, Tryz.prog.keyLits (d + 1) 2 cs = some l := by
  match cs, hl with
  | [v], _ =>
    obtain ⟨z, rfl, hz⟩ := h v List.mem_cons_self
    unfold Program.keyLits
    rw [Tryz.underlying2]
    simp [hz]
theorem key4 (d : Nat) (cs : List Value) (hl : cs.length = 4) (h : AllI cs) : ∃ l, Tryz.prog.keyLits (d + 2) 33 cs = some l := by
  unfold Program.keyLits
  rw [Tryz.underlying33]
  simp only [cell4, hl, if_true, cell64, Nat.mul_one]
  obtain ⟨ys, hy⟩ := mapM_some (f := fun i => Tryz.prog.keyLits (d + 1) 2 ((cs.drop i).take 1)) (List.range 4) (fun i hi => key1 d _ (by rw [List.length_take, List.length_drop, hl]; have := List.mem_range.1 hi; omega) ((h.drop i).take 1))
  exact ⟨ys.flatten, by rw [hy]; rfl⟩
theorem key16 (d : Nat) (cs : List Value) (hl : cs.length = 16) (h : AllI cs) : ∃ l, Tryz.prog.keyLits (d + 3) 34 cs = some l := by
  unfold Program.keyLits
  rw [Tryz.underlying34]
  simp only [cell16, hl, if_true, cell4]
  obtain ⟨ys, hy⟩ := mapM_some (f := fun i => Tryz.prog.keyLits (d + 2) 33 ((cs.drop (i * 4)).take 4)) (List.range 4) (fun i hi => key4 d _ (by rw [List.length_take, List.length_drop, hl]; have := List.mem_range.1 hi; omega) ((h.drop _).take 4))
  exact ⟨ys.flatten, by rw [hy]; rfl⟩
theorem fields_fin : Tryz.prog.underlying 36 = some (.struct (Tryz.prog.fieldsOf 36)) := by kernel_rfl
theorem fin_fields : (Tryz.prog.fieldsOf 36).toList.map (fun f => (f.offset, f.type)) = [(0, 34), (16, 33)] := by kernel_rfl
theorem fin_names : (Tryz.prog.fieldsOf 36).all (·.name != "_") = true := by kernel_rfl
theorem key20 (d : Nat) (cs : List Value) (hl : cs.length = 20) (h : AllI cs) : ∃ l, Tryz.prog.keyLits (d + 4) 36 cs = some l := by
  unfold Program.keyLits
  rw [fields_fin]
  simp only [cell20, hl, fin_names, and_self, if_true]
  obtain ⟨ys, hy⟩ := mapM_some (f := fun f : Field => Tryz.prog.keyLits (d + 3) f.type ((cs.drop f.offset).take (Tryz.prog.cellsOf f.type))) (Tryz.prog.fieldsOf 36).toList (fun f hf => by
    have hm : (f.offset, f.type) ∈ [(0, 34), (16, 33)] := by rw [← fin_fields]; exact List.mem_map.2 ⟨f, hf, rfl⟩
    simp only [List.mem_cons, List.not_mem_nil, or_false, Prod.mk.injEq] at hm
    rcases hm with ⟨h1, h2⟩ | ⟨h1, h2⟩
    · rw [h1, h2, cell16]
      exact key16 d _ (by rw [List.length_take, List.length_drop, hl]; omega) ((h.drop _).take _)
    · rw [h1, h2, cell4]
      exact key4 (d + 1) _ (by rw [List.length_take, List.length_drop, hl]; omega) ((h.drop _).take _))
  exact ⟨ys.flatten, by rw [hy]; rfl⟩
theorem types_size : ∃ d, Tryz.prog.types.size + 1 = d + 4 := ⟨Tryz.prog.types.size - 3, by
  have : 3 < Tryz.prog.types.size := by decide +kernel
  omega⟩
theorem key_fin (f : FinT) : ∃ l, keyOf Tryz.prog 36 (.agg (finA f)) = some l := by
  obtain ⟨d, hd⟩ := types_size
  obtain ⟨l, hl⟩ := key20 d (finC f) (finC_len f) (finC_all f)
  refine ⟨.string (keyBytes l), ?_⟩
  unfold keyOf
  rw [fields_fin]
  have h1 : Tryz.prog.keyType 36 = true := by kernel_rfl
  have h2 : (Value.agg (finA f)).formed Tryz.prog 36 = true := by
    unfold Value.formed
    rw [fields_fin, cell20]
    show ((finA f).size == 20) = true
    rw [finA_size]
    rfl
  have h3 : (Value.agg (finA f)).cells.toList = finC f := by
    unfold Value.cells finA
    simp
  simp only [h1, h2, Bool.and_self, if_true, h3, hd, hl, Option.map_some]
theorem kt_fin : Tryz.prog.keyTypeAt 4 36 = true := by decide +kernel
theorem tl_fin : Tryz.prog.tiled 4 36 = true := by decide +kernel
theorem law_fin : WideMaps.KeyLaw Tryz.prog 36 := deep_law (m := 4) (by omega) kt_fin tl_fin (by rw [fields_fin])
theorem key_inj {f g : FinT} {l : Lit} (hf : keyOf Tryz.prog 36 (.agg (finA f)) = some l) (hg : keyOf Tryz.prog 36 (.agg (finA g)) = some l) : f = g := by
  have := law_fin.inj hf hg
  simp only [Value.agg.injEq] at this
  unfold finA at this
  exact finC_inj (by simpa using this)
theorem eq_fin (f g : FinT) (w : World) : (Op.equal 36 (.agg (finA f)) (.agg (finA g))).run Tryz.prog w = .ok (decide (f = g)) w := by
  obtain ⟨lf, hf⟩ := key_fin f
  obtain ⟨lg, hg⟩ := key_fin g
  obtain ⟨r, hr, hi⟩ := run_equal_deep w (m := 4) (by omega) kt_fin (by rw [fields_fin]) hf hg
  have e : r = decide (f = g) := by
    by_cases e : f = g
    · subst e
      rw [hf] at hg
      rw [decide_eq_true rfl]
      exact hi.2 (Option.some.inj hg)
    · rw [decide_eq_false e]
      cases r
      · rfl
      · have := hi.1 rfl
        subst this
        exact absurd (key_inj hf hg) e
  rw [hr, e]
theorem eql_fin (f g : FinT) (w : World) : (binOp .eql 36 (.agg (finA f)) (.agg (finA g))).run Tryz.prog w = .ok (.bool (decide (f = g))) w := by
  simp [binOp, eq_fin f g w]
theorem neq_fin (f g : FinT) (w : World) : (binOp .neq 36 (.agg (finA f)) (.agg (finA g))).run Tryz.prog w = .ok (.bool (!decide (f = g))) w := by
  simp [binOp, eq_fin f g w]
theorem guard_fin : GuardAt Tryz.prog 36 (fun x : FinT => .agg (finC x).toArray) := GuardAt.agg _ (by kernel_rfl)
theorem eqlAt_fin : EqlAt Tryz.prog 36 (fun x : FinT => .agg (finC x).toArray) (fun x y => decide (x = y)) := ⟨fun x y w => eql_fin x y w, guard_fin⟩

/-- A whole end read by one operation. -/
theorem fin_rows : Tryz.prog.underlying 36 = some (.struct (Tryz.prog.fieldsOf 36)) := fields_fin
theorem wpList_fld {ops : Array Oper} {rest : List Oper} {o : Oper} {a : Act} {w : World} {Q : Exit → Act → World → Prop} (hgd : o.guard = none) {x : Operand} (ho : o.op = .load 36 x)
    {N i : Nat} (hx : a.eval x = .pointer (some ⟨N, i, none⟩)) {f : FinT} (h : w.rangeAt N i (finC f)) (k : wpList Tryz.prog ops Q rest (a.put o.dst (.agg (finA f))) w) : wpList Tryz.prog ops Q (o :: rest) a w :=
  wpList_load_mid hgd 36 x ho N i hx (finC f) _ h fields_fin rfl (by rw [finC_len]; exact fin_size) k
theorem exec_fld {a : Act} {o : Oper} {x : Operand} (ho : o.op = .load 36 x) {N i : Nat} (hx : a.eval x = .pointer (some ⟨N, i, none⟩)) {f : FinT} {W : World} (h : W.rangeAt N i (finC f)) : (execOp a.eval o).run Tryz.prog W = .ok (.value (.agg (finA f))) W := by
  unfold execOp
  simp only [ho, hx, Instr.loadAt, Instr.sureAddr, Sem.run_bind, Sem.run_pure, Result.andThen_ok, run_loadVar_mid W N i 36 (finC f) _ h fields_fin rfl (by rw [finC_len]; exact fin_size)]
  rfl
/-- An end that lies in a block. -/
theorem Bk.range {w : World} {N : Nat} {f : FinT} (h : Bk w N (finA f)) : w.rangeAt N 0 (finC f) := by
  intro j v hv
  rw [Nat.zero_add]
  exact h.at (by unfold finA; rw [List.getElem?_toArray]; exact hv)
theorem range_on {w w' : World} {N i : Nat} {f : FinT} (h : w.rangeAt N i (finC f)) (hN : N < w.heap.size) (o : On w w') : w'.rangeAt N i (finC f) :=
  fun j v hv => (o.cell (p := ⟨N, i + j, none⟩) hN).trans (h j v hv)
theorem wpList_fldG {ops : Array Oper} {rest : List Oper} {o : Oper} {a : Act} {w : World} {Q : Exit → Act → World → Prop} (hw : Region.wanted o (yielded ops a.tmps) = true) {x : Operand} (ho : o.op = .load 36 x)
    {N i : Nat} (hx : a.eval x = .pointer (some ⟨N, i, none⟩)) {f : FinT} (h : w.rangeAt N i (finC f)) (k : wpList Tryz.prog ops Q rest (a.put o.dst (.agg (finA f))) w) : wpList Tryz.prog ops Q (o :: rest) a w := by
  unfold wpList
  rw [if_pos hw]
  exact Or.inl (wp_load_mid 36 x ho N i hx (finC f) _ h fields_fin rfl (by rw [finC_len]; exact fin_size) k)
/-- Two ends held against each other by one operation. -/
theorem exec_feq {a : Act} {o : Oper} {x y : Operand} {u : TypeId} (ho : o.op = .binOp .eql 36 x y u) {f g : FinT} (hx : a.eval x = .agg (finA f)) (hy : a.eval y = .agg (finA g)) (W : World) : (execOp a.eval o).run Tryz.prog W = .ok (.value (.bool (decide (f = g)))) W := by
  unfold execOp
  simp only [ho, hx, hy, Sem.run_bind, show (eqGuard .eql 36 x y (.agg (finA f)) (.agg (finA g))).run Tryz.prog W = .ok () W from guard_fin .eql x y f g W, Result.andThen_ok, eql_fin f g W]
  rfl
theorem exec_fne {a : Act} {o : Oper} {x y : Operand} {u : TypeId} (ho : o.op = .binOp .neq 36 x y u) {f g : FinT} (hx : a.eval x = .agg (finA f)) (hy : a.eval y = .agg (finA g)) (W : World) : (execOp a.eval o).run Tryz.prog W = .ok (.value (.bool (!decide (f = g)))) W := by
  unfold execOp
  simp only [ho, hx, hy, Sem.run_bind, show (eqGuard .neq 36 x y (.agg (finA f)) (.agg (finA g))).run Tryz.prog W = .ok () W from guard_fin .neq x y f g W, Result.andThen_ok, neq_fin f g W]
  rfl
theorem wp_fne {o : Oper} {a : Act} {w : World} {K : Act → World → Prop} {Q : Exit → Act → World → Prop} {x y : Operand} {u : TypeId} (ho : o.op = .binOp .neq 36 x y u) {f g : FinT} (hx : a.eval x = .agg (finA f)) (hy : a.eval y = .agg (finA g))
    (k : K (a.put o.dst (.bool (!decide (f = g)))) w) : o.wp Tryz.prog a w K Q := by
  unfold Oper.wp
  rw [exec_fne ho hx hy w]
  exact k
theorem wpList_fneG {ops : Array Oper} {rest : List Oper} {o : Oper} {a : Act} {w : World} {Q : Exit → Act → World → Prop} (hw : Region.wanted o (yielded ops a.tmps) = true) {x y : Operand} {u : TypeId} (ho : o.op = .binOp .neq 36 x y u) {f g : FinT} (hx : a.eval x = .agg (finA f)) (hy : a.eval y = .agg (finA g))
    (k : wpList Tryz.prog ops Q rest (a.put o.dst (.bool (!decide (f = g)))) w) : wpList Tryz.prog ops Q (o :: rest) a w := by
  unfold wpList
  rw [if_pos hw]
  exact Or.inl (wp_fne ho hx hy k)
end Go.Proofs.YtioiabfheeglgaaGreatDoor
