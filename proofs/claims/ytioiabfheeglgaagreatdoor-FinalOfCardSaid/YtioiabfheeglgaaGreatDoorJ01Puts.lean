/- Lists in memory as they are read: each thing some cells, a row of rows. -/
import Derived.Test.YtioiabfheeglgaaGreatDoorJ00Trees
import Derived.Deep.WholeRow
import Derived.Deep.MidRow
import Derived.DeepKeys4
import Derived.Shelf.SlicesE.Kit
import Derived.Deep.LoopGhost
import Derived.Deep.RegionLaw
import Derived.Laws.MakeOwn
import Derived.Maps.AppendAt
import Derived.Laws.ResultCell
namespace Go.Proofs.YtioiabfheeglgaaGreatDoor
open Go.RowKit

def iniC (x : InitT) : List Value := [.int .i64 x.l, .int .i64 x.v]
def atomC (x : AtomT) : List Value := [.int .i64 x.t, .int .i64 x.r, .int .i64 x.l, .int .i64 x.v]
def insC (x : InsT) : List Value := [.int .i64 x.k, .int .i64 x.r, .int .i64 x.l, .int .i64 x.a.r, .int .i64 x.a.v, .int .i64 x.o, .int .i64 x.b.r, .int .i64 x.b.v, .int .i64 x.n]

/-- v holds this list: each thing k cells, one behind the other. -/
def Rd {α : Type} (C : α → List Value) (k : Nat) (w : World) (v : Value) (L : List α) : Prop :=
 ∃ a c, v = .slice a L.length c ∧ L.length ≤ c ∧ L.length ≤ 9223372036854775807 ∧
  (0 < L.length → ∃ g off, a = some ⟨g, off, none⟩ ∧ g < w.heap.size ∧ ∀ (i : Nat) (x : α) (j : Nat) (u : Value), L[i]? = some x → (C x)[j]? = some u → w.cell? ⟨g, off + i * k + j, none⟩ = some u)
def oneC (v : Value) : List Value := [v]
/-- v holds these rows. -/
def Rd2 {α : Type} (C : α → List Value) (k : Nat) (w : World) (v : Value) (LL : List (List α)) : Prop :=
 ∃ vs : List Value, vs.length = LL.length ∧ Rd oneC 1 w v vs ∧ ∀ (i : Nat) (u : Value) (L : List α), vs[i]? = some u → LL[i]? = some L → Rd C k w u L
theorem flat_at {α : Type} (C : α → List Value) (n : Nat) (hC : ∀ x, (C x).length = n) : ∀ (L : List α) (k j : Nat) (x : α), L[k]? = some x → j < n → (L.flatMap C)[k * n + j]? = (C x)[j]?
 | [], k, j, x, h, _ => by simp at h
 | y :: L, 0, j, x, h, hj => by
  simp only [List.getElem?_cons_zero, Option.some.injEq] at h
  subst h
  rw [List.flatMap_cons, Nat.zero_mul, Nat.zero_add, List.getElem?_append_left (by rw [hC]; exact hj)]
 | y :: L, k + 1, j, x, h, hj => by
  rw [List.getElem?_cons_succ] at h
  rw [List.flatMap_cons, List.getElem?_append_right (by rw [hC, Nat.succ_mul]; omega), hC]
  have e : (k + 1) * n + j - n = k * n + j := by rw [Nat.succ_mul]; omega
  rw [e]
  exact flat_at C n hC L k j x h hj
theorem own_cells {w : World} {base k n : Nat} {e : TypeId} {v : Value} {xs : List Value} (h : w.ownsRow base e k v n xs) (hn : 0 < n) :
  ∃ g cap, v = .slice (some ⟨g, 0, none⟩) n cap ∧ n ≤ cap ∧ base ≤ g ∧ g < w.heap.size ∧ ∀ i u, xs[i]? = some u → w.cell? ⟨g, i, none⟩ = some u := by
 rcases h.2 with ⟨_, h0⟩ | ⟨g, cap, cur, hv, hb, hh, hc, _, _, ht⟩
 ·
  omega
 ·
  refine ⟨g, cap, hv, hc, hb, lt_of_block hh, fun i u hi => ?_⟩
  rw [← ht, List.getElem?_take] at hi
  split at hi
  ·
   simp only [World.cell?, hh]
   simpa using hi
  ·
   cases hi
theorem own_max {w : World} {base k n : Nat} {e : TypeId} {v : Value} {xs : List Value} (h : w.ownsRow base e k v n xs) : n ≤ 9223372036854775807 := by
 rcases h.2 with ⟨_, h0⟩ | ⟨g, cap, cur, hv, hb, hh, hc, hm, _⟩
 ·
  omega
 ·
  exact Nat.le_trans hc hm
section
variable {α : Type} {C : α → List Value} {k : Nat} {w w' : World} {v : Value} {L : List α} {LL : List (List α)}
theorem Rd.on (h : Rd C k w v L) (o : On w w') : Rd C k w' v L := by
 obtain ⟨a, c, hv, hc, hm, h⟩ := h
 refine ⟨a, c, hv, hc, hm, fun hl => ?_⟩
 obtain ⟨g, off, ha, hg, hr⟩ := h hl
 exact ⟨g, off, ha, Nat.lt_of_lt_of_le hg o.size, fun i x j u hi hj => (o.cell (p := ⟨g, off + i * k + j, none⟩) hg).trans (hr i x j u hi hj)⟩
theorem Rd2.on (h : Rd2 C k w v LL) (o : On w w') : Rd2 C k w' v LL := by
 obtain ⟨vs, h1, h2, h3⟩ := h
 exact ⟨vs, h1, h2.on o, fun i u L a b => (h3 i u L a b).on o⟩
theorem Rd.nil (C : α → List Value) (k : Nat) (w : World) : Rd C k w (.slice none 0 0) [] := ⟨none, 0, rfl, Nat.le_refl _, by simp, fun h => absurd h (Nat.lt_irrefl 0)⟩
theorem Rd2.nil (C : α → List Value) (k : Nat) (w : World) : Rd2 C k w (.slice none 0 0) [] := ⟨[], rfl, Rd.nil _ _ _, fun i u L a _ => by simp at a⟩
theorem Rd.slice (h : Rd C k w v L) : ∃ a c, v = .slice a L.length c ∧ L.length ≤ c ∧ L.length ≤ 9223372036854775807 := by
 obtain ⟨a, c, hv, hc, hm, _⟩ := h
 exact ⟨a, c, hv, hc, hm⟩
theorem Rd2.slice (h : Rd2 C k w v LL) : ∃ a c, v = .slice a LL.length c ∧ LL.length ≤ c ∧ LL.length ≤ 9223372036854775807 := by
 obtain ⟨vs, h1, h2, _⟩ := h
 rw [← h1]
 exact h2.slice
theorem Rd.own {base : Nat} {e : TypeId} (hC : ∀ x, (C x).length = k) (h : w.ownsRow base e k v L.length (L.flatMap C)) : Rd C k w v L := by
 rcases Nat.eq_zero_or_pos L.length with h0 | h0
 ·
  obtain rfl : L = [] := List.eq_nil_of_length_eq_zero h0
  rcases h.2 with ⟨hv, _⟩ | ⟨g, cap, cur, hv, hb, hh, hc, hm, _⟩
  ·
   rw [hv]; exact Rd.nil _ _ _
  ·
   exact ⟨_, cap, hv, hc, by simp, fun h => absurd h (Nat.lt_irrefl 0)⟩
 ·
  obtain ⟨g, cap, hv, hc, _, hg, hr⟩ := own_cells h h0
  refine ⟨_, cap, hv, hc, own_max h, fun _ => ⟨g, 0, rfl, hg, fun i x j u hi hj => ?_⟩⟩
  rw [Nat.zero_add]
  refine hr _ _ ?_
  have hj' : j < k := by have := (List.getElem?_eq_some_iff.1 hj).1; rwa [hC] at this
  rw [flat_at C k hC L i j x hi hj', hj]
theorem Rd.at {a : Option Addr} {c : Nat} (h : Rd C k w (.slice a L.length c) L) {i : Nat} {x : α} (hi : L[i]? = some x) :
  ∃ g off, a = some ⟨g, off, none⟩ ∧ g < w.heap.size ∧ ∀ (j : Nat) (u : Value), (C x)[j]? = some u → w.cell? ⟨g, off + i * k + j, none⟩ = some u := by
 obtain ⟨a', c', hv, hc, hm, hr⟩ := h
 simp only [Value.slice.injEq] at hv
 obtain ⟨rfl, _, rfl⟩ := hv
 have hlt : i < L.length := (List.getElem?_eq_some_iff.1 hi).1
 obtain ⟨g, off, ha, hg, hcell⟩ := hr (by omega)
 exact ⟨g, off, ha, hg, fun j u hj => hcell i x j u hi hj⟩
theorem Rd2.row {a : Option Addr} {c : Nat} (h : Rd2 C k w (.slice a LL.length c) LL) {i : Nat} {L : List α} (hi : LL[i]? = some L) :
  ∃ g off, a = some ⟨g, off, none⟩ ∧ g < w.heap.size ∧ ∃ ax cx, w.cell? ⟨g, off + i, none⟩ = some (.slice ax L.length cx) ∧ L.length ≤ 9223372036854775807 ∧ Rd C k w (.slice ax L.length cx) L := by
 obtain ⟨vs, hl, h1, h2⟩ := h
 have hlt : i < LL.length := (List.getElem?_eq_some_iff.1 hi).1
 obtain ⟨u, hu⟩ : ∃ u, vs[i]? = some u := ⟨_, List.getElem?_eq_getElem (by omega)⟩
 rw [← hl] at h1
 obtain ⟨g, off, ha, hg, hc⟩ := h1.at hu
 have hr := h2 i u L hu hi
 obtain ⟨ax, cx, rfl, _, hm⟩ := hr.slice
 exact ⟨g, off, ha, hg, ax, cx, by have := hc 0 _ rfl; simpa using this, hm, hr⟩
end
end Go.Proofs.YtioiabfheeglgaaGreatDoor

namespace Go.Proofs.YtioiabfheeglgaaGreatDoor
open Go.RowKit

def finC (f : FinT) : List Value := f.l.map (Value.int .i64)
def finA (f : FinT) : Array Value := (finC f).toArray
theorem finC_len (f : FinT) : (finC f).length = 20 := by unfold finC; rw [List.length_map, f.h]
theorem finA_size (f : FinT) : (finA f).size = 20 := by unfold finA; simp [finC_len]
theorem finC_one (f : FinT) : ∀ v ∈ finC f, v.oneCell' = true := by
 intro v hv
 unfold finC at hv
 simp only [List.mem_map] at hv
 obtain ⟨z, _, rfl⟩ := hv
 rfl
theorem finC_at (f : FinT) {i : Nat} {z : Int} (h : f.l[i]? = some z) : (finC f)[i]? = some (.int .i64 z) := by
 unfold finC
 rw [List.getElem?_map, h]
 rfl
theorem finA_at (f : FinT) {i : Nat} {z : Int} (h : f.l[i]? = some z) : (finA f)[i]? = some (.int .i64 z) := by
 unfold finA
 rw [List.getElem?_toArray]
 exact finC_at f h
theorem finC_inj {f g : FinT} (h : finC f = finC g) : f = g := by
 refine FinT.ext ?_
 unfold finC at h
 apply List.ext_getElem?
 intro i
 have hi : (f.l.map (Value.int .i64))[i]? = (g.l.map (Value.int .i64))[i]? := by rw [h]
 rw [List.getElem?_map, List.getElem?_map] at hi
 cases h1 : f.l[i]? <;> cases h2 : g.l[i]? <;> simp_all
theorem fin_info : (Tryz.prog.info? 36).map (fun i => (i.zero, i.size)) = some (some (.agg (finA finZ)), 20) := by kernel_rfl
theorem fin_size : (Tryz.prog.info? 36).map (·.size) = some 20 := by kernel_rfl

/-- All are numbers of 64 bits. -/
def AllI (cs : List Value) : Prop := ∀ v ∈ cs, ∃ z : Int, v = .int .i64 z ∧ (Lit.int .i64 z).wf = true
theorem AllI.take {cs : List Value} (h : AllI cs) (n : Nat) : AllI (cs.take n) := fun v hv => h v (List.mem_of_mem_take hv)
theorem AllI.drop {cs : List Value} (h : AllI cs) (n : Nat) : AllI (cs.drop n) := fun v hv => h v (List.mem_of_mem_drop hv)
theorem finC_all (f : FinT) : AllI (finC f) := by
 intro v hv
 unfold finC at hv
 simp only [List.mem_map] at hv
 obtain ⟨z, hz, rfl⟩ := hv
 refine ⟨z, rfl, ?_⟩
 have e1 : IntKind.i64.min = -9223372036854775808 := rfl
 have e2 : IntKind.i64.max = 9223372036854775807 := rfl
 simp [Lit.wf, e1, e2]
 exact f.b z hz
theorem mapM_some {α β : Type} {f : α → Option β} : ∀ (L : List α), (∀ x ∈ L, ∃ y, f x = some y) → ∃ ys, L.mapM f = some ys
 | [], _ => ⟨[], rfl⟩
 | x :: L, h => by
  obtain ⟨y, hy⟩ := h x List.mem_cons_self
  obtain ⟨ys, hys⟩ := mapM_some L (fun z hz => h z (List.mem_cons_of_mem _ hz))
  exact ⟨y :: ys, by simp [List.mapM_cons, hy, hys]⟩
theorem cell64 : Tryz.prog.cellsOf 2 = 1 := by kernel_rfl
theorem cell4 : Tryz.prog.cellsOf 33 = 4 := by kernel_rfl
theorem cell16 : Tryz.prog.cellsOf 34 = 16 := by kernel_rfl
theorem cell20 : Tryz.prog.cellsOf 36 = 20 := by kernel_rfl
theorem key1 (d : Nat) (cs : List Value) (hl : cs.length = 1) (h : AllI cs) : ∃ l, Tryz.prog.keyLits (d + 1) 2 cs = some l := by
 match cs, hl with
 | [v], _ =>
  obtain ⟨z, rfl, hz⟩ := h v List.mem_cons_self
  unfold Program.keyLits
  rw [Tryz.underlying2]
  simp [hz]
theorem key4 (d : Nat) (cs : List Value) (hl : cs.length = 4) (h : AllI cs) : ∃ l, Tryz.prog.keyLits (d + 2) 33 cs = some l := by
 unfold Program.keyLits
 rw [Tryz.underlying33]
 simp only [cell4, hl, if_true, cell64, Nat.mul_one]
 obtain ⟨ys, hy⟩ := mapM_some (f := fun i => Tryz.prog.keyLits (d + 1) 2 ((cs.drop i).take 1)) (List.range 4) (fun i hi => key1 d _ (by rw [List.length_take, List.length_drop, hl]; have := List.mem_range.1 hi; omega) ((h.drop i).take 1))
 exact ⟨ys.flatten, by rw [hy]; rfl⟩
theorem key16 (d : Nat) (cs : List Value) (hl : cs.length = 16) (h : AllI cs) : ∃ l, Tryz.prog.keyLits (d + 3) 34 cs = some l := by
 unfold Program.keyLits
 rw [Tryz.underlying34]
 simp only [cell16, hl, if_true, cell4]
 obtain ⟨ys, hy⟩ := mapM_some (f := fun i => Tryz.prog.keyLits (d + 2) 33 ((cs.drop (i * 4)).take 4)) (List.range 4) (fun i hi => key4 d _ (by rw [List.length_take, List.length_drop, hl]; have := List.mem_range.1 hi; omega) ((h.drop _).take 4))
 exact ⟨ys.flatten, by rw [hy]; rfl⟩
theorem fields_fin : Tryz.prog.underlying 36 = some (.struct (Tryz.prog.fieldsOf 36)) := by kernel_rfl
theorem fin_fields : (Tryz.prog.fieldsOf 36).toList.map (fun f => (f.offset, f.type)) = [(0, 34), (16, 33)] := by kernel_rfl
theorem fin_names : (Tryz.prog.fieldsOf 36).all (·.name != "_") = true := by kernel_rfl
theorem key20 (d : Nat) (cs : List Value) (hl : cs.length = 20) (h : AllI cs) : ∃ l, Tryz.prog.keyLits (d + 4) 36 cs = some l := by
 unfold Program.keyLits
 rw [fields_fin]
 simp only [cell20, hl, fin_names, and_self, if_true]
 obtain ⟨ys, hy⟩ := mapM_some (f := fun f : Field => Tryz.prog.keyLits (d + 3) f.type ((cs.drop f.offset).take (Tryz.prog.cellsOf f.type))) (Tryz.prog.fieldsOf 36).toList (fun f hf => by
  have hm : (f.offset, f.type) ∈ [(0, 34), (16, 33)] := by rw [← fin_fields]; exact List.mem_map.2 ⟨f, hf, rfl⟩
  simp only [List.mem_cons, List.not_mem_nil, or_false, Prod.mk.injEq] at hm
  rcases hm with ⟨h1, h2⟩ | ⟨h1, h2⟩
  ·
   rw [h1, h2, cell16]
   exact key16 d _ (by rw [List.length_take, List.length_drop, hl]; omega) ((h.drop _).take _)
  ·
   rw [h1, h2, cell4]
   exact key4 (d + 1) _ (by rw [List.length_take, List.length_drop, hl]; omega) ((h.drop _).take _))
 exact ⟨ys.flatten, by rw [hy]; rfl⟩
theorem types_size : ∃ d, Tryz.prog.types.size + 1 = d + 4 := ⟨Tryz.prog.types.size - 3, by
 have : 3 < Tryz.prog.types.size := by decide +kernel
 omega⟩
theorem key_fin (f : FinT) : ∃ l, keyOf Tryz.prog 36 (.agg (finA f)) = some l := by
 obtain ⟨d, hd⟩ := types_size
 obtain ⟨l, hl⟩ := key20 d (finC f) (finC_len f) (finC_all f)
 refine ⟨.string (keyBytes l), ?_⟩
 unfold keyOf
 rw [fields_fin]
 have h1 : Tryz.prog.keyType 36 = true := by kernel_rfl
 have h2 : (Value.agg (finA f)).formed Tryz.prog 36 = true := by
  unfold Value.formed
  rw [fields_fin, cell20]
  show ((finA f).size == 20) = true
  rw [finA_size]
  rfl
 have h3 : (Value.agg (finA f)).cells.toList = finC f := by
  unfold Value.cells finA
  simp
 simp only [h1, h2, Bool.and_self, if_true, h3, hd, hl, Option.map_some]
theorem kt_fin : Tryz.prog.keyTypeAt 4 36 = true := by decide +kernel
theorem tl_fin : Tryz.prog.tiled 4 36 = true := by decide +kernel
theorem law_fin : WideMaps.KeyLaw Tryz.prog 36 := deep_law (m := 4) (by omega) kt_fin tl_fin (by rw [fields_fin])
theorem key_inj {f g : FinT} {l : Lit} (hf : keyOf Tryz.prog 36 (.agg (finA f)) = some l) (hg : keyOf Tryz.prog 36 (.agg (finA g)) = some l) : f = g := by
 have := law_fin.inj hf hg
 simp only [Value.agg.injEq] at this
 unfold finA at this
 exact finC_inj (by simpa using this)
theorem eq_fin (f g : FinT) (w : World) : (Op.equal 36 (.agg (finA f)) (.agg (finA g))).run Tryz.prog w = .ok (decide (f = g)) w := by
 obtain ⟨lf, hf⟩ := key_fin f
 obtain ⟨lg, hg⟩ := key_fin g
 obtain ⟨r, hr, hi⟩ := run_equal_deep w (m := 4) (by omega) kt_fin (by rw [fields_fin]) hf hg
 have e : r = decide (f = g) := by
  by_cases e : f = g
  ·
   subst e
   rw [hf] at hg
   rw [decide_eq_true rfl]
   exact hi.2 (Option.some.inj hg)
  ·
   rw [decide_eq_false e]
   cases r
   ·
    rfl
   ·
    have := hi.1 rfl
    subst this
    exact absurd (key_inj hf hg) e
 rw [hr, e]
theorem eql_fin (f g : FinT) (w : World) : (binOp .eql 36 (.agg (finA f)) (.agg (finA g))).run Tryz.prog w = .ok (.bool (decide (f = g))) w := by
 simp [binOp, eq_fin f g w]
theorem neq_fin (f g : FinT) (w : World) : (binOp .neq 36 (.agg (finA f)) (.agg (finA g))).run Tryz.prog w = .ok (.bool (!decide (f = g))) w := by
 simp [binOp, eq_fin f g w]
theorem guard_fin : GuardAt Tryz.prog 36 (fun x : FinT => .agg (finC x).toArray) := GuardAt.agg _ (by kernel_rfl)
theorem eqlAt_fin : EqlAt Tryz.prog 36 (fun x : FinT => .agg (finC x).toArray) (fun x y => decide (x = y)) := ⟨fun x y w => eql_fin x y w, guard_fin⟩

/-- A whole end read by one operation. -/
theorem fin_rows : Tryz.prog.underlying 36 = some (.struct (Tryz.prog.fieldsOf 36)) := fields_fin
theorem wpList_fld {ops : Array Oper} {rest : List Oper} {o : Oper} {a : Act} {w : World} {Q : Exit → Act → World → Prop} (hgd : o.guard = none) {x : Operand} (ho : o.op = .load 36 x)
  {N i : Nat} (hx : a.eval x = .pointer (some ⟨N, i, none⟩)) {f : FinT} (h : w.rangeAt N i (finC f)) (k : wpList Tryz.prog ops Q rest (a.put o.dst (.agg (finA f))) w) : wpList Tryz.prog ops Q (o :: rest) a w :=
 wpList_load_mid hgd 36 x ho N i hx (finC f) _ h fields_fin rfl (by rw [finC_len]; exact fin_size) k
theorem exec_fld {a : Act} {o : Oper} {x : Operand} (ho : o.op = .load 36 x) {N i : Nat} (hx : a.eval x = .pointer (some ⟨N, i, none⟩)) {f : FinT} {W : World} (h : W.rangeAt N i (finC f)) : (execOp a.eval o).run Tryz.prog W = .ok (.value (.agg (finA f))) W := by
 unfold execOp
 simp only [ho, hx, Instr.loadAt, Instr.sureAddr, Sem.run_bind, Sem.run_pure, Result.andThen_ok, run_loadVar_mid W N i 36 (finC f) _ h fields_fin rfl (by rw [finC_len]; exact fin_size)]
 rfl
/-- An end that lies in a block. -/
theorem Bk.range {w : World} {N : Nat} {f : FinT} (h : Bk w N (finA f)) : w.rangeAt N 0 (finC f) := by
 intro j v hv
 rw [Nat.zero_add]
 exact h.at (by unfold finA; rw [List.getElem?_toArray]; exact hv)
theorem range_on {w w' : World} {N i : Nat} {f : FinT} (h : w.rangeAt N i (finC f)) (hN : N < w.heap.size) (o : On w w') : w'.rangeAt N i (finC f) :=
 fun j v hv => (o.cell (p := ⟨N, i + j, none⟩) hN).trans (h j v hv)
theorem wpList_fldG {ops : Array Oper} {rest : List Oper} {o : Oper} {a : Act} {w : World} {Q : Exit → Act → World → Prop} (hw : Region.wanted o (yielded ops a.tmps) = true) {x : Operand} (ho : o.op = .load 36 x)
  {N i : Nat} (hx : a.eval x = .pointer (some ⟨N, i, none⟩)) {f : FinT} (h : w.rangeAt N i (finC f)) (k : wpList Tryz.prog ops Q rest (a.put o.dst (.agg (finA f))) w) : wpList Tryz.prog ops Q (o :: rest) a w := by
 unfold wpList
 rw [if_pos hw]
 exact Or.inl (wp_load_mid 36 x ho N i hx (finC f) _ h fields_fin rfl (by rw [finC_len]; exact fin_size) k)
/-- Two ends held against each other by one operation. -/
theorem exec_feq {a : Act} {o : Oper} {x y : Operand} {u : TypeId} (ho : o.op = .binOp .eql 36 x y u) {f g : FinT} (hx : a.eval x = .agg (finA f)) (hy : a.eval y = .agg (finA g)) (W : World) : (execOp a.eval o).run Tryz.prog W = .ok (.value (.bool (decide (f = g)))) W := by
 unfold execOp
 simp only [ho, hx, hy, Sem.run_bind, show (eqGuard .eql 36 x y (.agg (finA f)) (.agg (finA g))).run Tryz.prog W = .ok () W from guard_fin .eql x y f g W, Result.andThen_ok, eql_fin f g W]
 rfl
theorem exec_fne {a : Act} {o : Oper} {x y : Operand} {u : TypeId} (ho : o.op = .binOp .neq 36 x y u) {f g : FinT} (hx : a.eval x = .agg (finA f)) (hy : a.eval y = .agg (finA g)) (W : World) : (execOp a.eval o).run Tryz.prog W = .ok (.value (.bool (!decide (f = g)))) W := by
 unfold execOp
 simp only [ho, hx, hy, Sem.run_bind, show (eqGuard .neq 36 x y (.agg (finA f)) (.agg (finA g))).run Tryz.prog W = .ok () W from guard_fin .neq x y f g W, Result.andThen_ok, neq_fin f g W]
 rfl
theorem wp_fne {o : Oper} {a : Act} {w : World} {K : Act → World → Prop} {Q : Exit → Act → World → Prop} {x y : Operand} {u : TypeId} (ho : o.op = .binOp .neq 36 x y u) {f g : FinT} (hx : a.eval x = .agg (finA f)) (hy : a.eval y = .agg (finA g))
  (k : K (a.put o.dst (.bool (!decide (f = g)))) w) : o.wp Tryz.prog a w K Q := by
 unfold Oper.wp
 rw [exec_fne ho hx hy w]
 exact k
theorem wpList_fneG {ops : Array Oper} {rest : List Oper} {o : Oper} {a : Act} {w : World} {Q : Exit → Act → World → Prop} (hw : Region.wanted o (yielded ops a.tmps) = true) {x y : Operand} {u : TypeId} (ho : o.op = .binOp .neq 36 x y u) {f g : FinT} (hx : a.eval x = .agg (finA f)) (hy : a.eval y = .agg (finA g))
  (k : wpList Tryz.prog ops Q rest (a.put o.dst (.bool (!decide (f = g)))) w) : wpList Tryz.prog ops Q (o :: rest) a w := by
 unfold wpList
 rw [if_pos hw]
 exact Or.inl (wp_fne ho hx hy k)
end Go.Proofs.YtioiabfheeglgaaGreatDoor

namespace Go.Proofs.YtioiabfheeglgaaGreatDoor
open Go.RowKit

theorem On.grown {x w w' : World} {v : Value} (h : On x w) (hg : w.grownBy w' v.ownBlock) (hv : ∀ g, v.ownBlock = some g → x.heap.size ≤ g) : On x w' :=
 ⟨hg.os.trans h.os, hg.tape.trans h.tape, hg.output.trans h.output, Nat.le_trans h.size hg.size, fun k hk => (hg.block k (Nat.lt_of_lt_of_le hk h.size) (fun e => by have := hv k e.symm; omega)).trans (h.block k hk)⟩
theorem On.grownNone {x w w' : World} (h : On x w) (hg : w.grownBy w' none) : On x w' :=
 ⟨hg.os.trans h.os, hg.tape.trans h.tape, hg.output.trans h.output, Nat.le_trans h.size hg.size, fun k hk => (hg.block k (Nat.lt_of_lt_of_le hk h.size) (fun e => by cases e)).trans (h.block k hk)⟩
theorem own_mono {w : World} {base base' k n : Nat} {e : TypeId} {v : Value} {xs : List Value} (h : w.ownsRow base e k v n xs) (hb : base' ≤ base) : w.ownsRow base' e k v n xs := by
 refine ⟨h.1, ?_⟩
 rcases h.2 with h2 | ⟨g, cap, cur, hv, hg, r⟩
 ·
  exact Or.inl h2
 ·
  exact Or.inr ⟨g, cap, cur, hv, by omega, r⟩
theorem own_on {w w' : World} {base k n : Nat} {e : TypeId} {v : Value} {xs : List Value} (h : w.ownsRow base e k v n xs) (o : On w w') : w'.ownsRow base e k v n xs := by
 refine ⟨h.1, ?_⟩
 rcases h.2 with h2 | ⟨g, cap, cur, hv, hb, hh, r⟩
 ·
  exact Or.inl h2
 ·
  exact Or.inr ⟨g, cap, cur, hv, hb, (o.block g (lt_of_block hh)).trans hh, r⟩
/-- A row of one, just laid. -/
theorem own_one (w : World) (cs : Array Value) (e : TypeId) (k base : Nat) (hk : cs.size = k) (hb : base ≤ w.heap.size) : (w.alloc (.cells cs e)).ownsRow base e k (.slice (some ⟨w.heap.size, 0, none⟩) 1 1) 1 cs.toList := by
 refine ⟨by simp [hk], Or.inr ⟨w.heap.size, 1, cs, rfl, hb, heap_alloc_new w _, Nat.le_refl _, by decide, by simp [hk], ?_⟩⟩
 rw [List.take_of_length_le (by simp [hk])]
theorem new_cell (w : World) (cs : Array Value) (T : TypeId) (j : Nat) : (w.alloc (.cells cs T)).cell? ((⟨w.heap.size, 0, none⟩ : Addr).add j) = cs.toList[j]? := by
 have h := heap_alloc_new w (.cells cs T)
 rw [Addr.add_lit, Nat.zero_add, Array.getElem?_toList]
 unfold World.cell?
 simp only [h]
 rfl
theorem own_slice {w : World} {base k n : Nat} {e : TypeId} {v : Value} {xs : List Value} (h : w.ownsRow base e k v n xs) : ∃ a c, v = .slice a n c := by
 rcases h.2 with ⟨hv, h0⟩ | ⟨g, cap, cur, hv, _⟩
 ·
  exact ⟨_, 0, by rw [hv, h0]⟩
 ·
  exact ⟨_, _, hv⟩
theorem own_far {w w' : World} {b1 b2 k1 k2 n m : Nat} {eo ei : TypeId} {u v : Value} {xs ys : List Value} (h : w.ownsRow b1 ei k1 u n xs) (ho : w.ownsRow b2 eo k2 v m ys) (hne : eo ≠ ei) (hg : w.grownBy w' v.ownBlock) : w'.ownsRow b1 ei k1 u n xs := by
 refine ⟨h.1, ?_⟩
 rcases h.2 with h2 | ⟨g, cap, cur, hv, hb, hh, r⟩
 ·
  exact Or.inl h2
 ·
  refine Or.inr ⟨g, cap, cur, hv, hb, (hg.block g (lt_of_block hh) (fun e => ?_)).trans hh, r⟩
  rcases ho.2 with ⟨hv2, _⟩ | ⟨g2, cap2, cur2, hv2, hb2, hh2, _⟩
  ·
   rw [hv2] at e; cases e
  ·
   rw [hv2] at e
   simp only [Value.ownBlock, Option.some.injEq] at e
   subst e
   rw [hh] at hh2
   simp only [Option.some.injEq, Obj.cells.injEq] at hh2
   exact hne hh2.2.1.symm
theorem Bk.grown {w w' : World} {N base : Nat} {cs : Array Value} {v : Value} (h : Bk w N cs) (hg : w.grownBy w' v.ownBlock) (hN : N < base) (ho : ∀ g, v.ownBlock = some g → base ≤ g) : Bk w' N cs := by
 obtain ⟨T, e⟩ := h
 exact ⟨T, (hg.block N (lt_of_block e) (fun h => by have := ho N h.symm; omega)).trans e⟩

/-- append to a row of the call's own, as one step of a region that draws. -/
theorem step_append_own {P : Program} {ops : Array Oper} {o : Oper} {a : Act} {w : World} {K : Act → World → Prop} {Q : Exit → Act → World → Prop} {E : Prop} (hg : o.guard = none) (s x : Operand) (t : TypeId)
  (ho : o.op = .call { callee := .builtin .append, args := #[s, x], argTypes := #[t, t] })
  (base : Nat) (e : TypeId) (i : TypeInfo) (z : Value) (size bytes : Nat) (ht : P.underlying t = some (.slice e)) (hi : P.info? e = some i) (hz : i.zero = some z)
  (hsize : i.size = size) (hby : i.bytes = bytes) (hzs : z.cells.size = size) (hsz : 0 < size)
  (v : Value) (n : Nat) (xs : List Value) (hs : a.eval s = v) (hown : w.ownsRow base e size v n xs)
  (ad : Addr) (m c : Nat) (news : List Value) (hx : a.eval x = .slice (some ad) m c) (hl : news.length = m * size) (hnews : ∀ j u, news[j]? = some u → w.cell? (ad.add j) = some u) (h1 : ∀ u ∈ news, u.oneCell' = true)
  (h63 : n + m ≤ maxLen) (hbytes : (n + m) * bytes ≤ 140737488355328) (hbase : base ≤ w.heap.size)
  (h : ∀ v' w', w'.ownsRow base e size v' (n + m) (xs ++ news) → w.grownBy w' v.ownBlock → K (a.put o.dst v') w') : if Region.wanted o (yielded ops a.tmps) = true then Oper.wp P o a w K Q else E := by
 have hw : Region.wanted o (yielded ops a.tmps) = true := by simp [Region.wanted, hg]
 rw [if_pos hw]
 exact wp_append_own w s x t ho base e i z size bytes ht hi hz hsize hby hzs hsz v n xs hs hown ad m c news hx hl hnews h1 h63 hbytes hbase fun v' w' h2 h3 _ => h v' w' h2 h3

/-- v holds rows of rows. -/
def Own2 {α : Type} (C : α → List Value) (k : Nat) (eo ei : TypeId) (w : World) (base : Nat) (v : Value) (LL : List (List α)) : Prop :=
 ∃ vs : List Value, vs.length = LL.length ∧ w.ownsRow base eo 1 v LL.length vs ∧ ∀ (i : Nat) (u : Value) (L : List α), vs[i]? = some u → LL[i]? = some L → w.ownsRow base ei k u L.length (L.flatMap C)
section
variable {α : Type} {C : α → List Value} {k : Nat} {eo ei : TypeId} {w w' : World} {base : Nat} {v : Value} {LL : List (List α)}
theorem Own2.on (h : Own2 C k eo ei w base v LL) (o : On w w') : Own2 C k eo ei w' base v LL := by
 obtain ⟨vs, h1, h2, h3⟩ := h
 exact ⟨vs, h1, own_on h2 o, fun i u L a b => own_on (h3 i u L a b) o⟩
theorem Own2.nil (C : α → List Value) (k : Nat) (eo ei : TypeId) (w : World) (base : Nat) : Own2 C k eo ei w base (.slice none 0 0) [] :=
 ⟨[], rfl, World.ownsRow_nil _ _ _ _, fun i u L a _ => by simp at a⟩
theorem Own2.snoc {vs : List Value} {v' u : Value} {L : List α} (hn : vs.length = LL.length) (ho : w.ownsRow base eo 1 v LL.length vs) (hs : ∀ (i : Nat) (u : Value) (L : List α), vs[i]? = some u → LL[i]? = some L → w.ownsRow base ei k u L.length (L.flatMap C))
  (hne : eo ≠ ei) (hg : w.grownBy w' v.ownBlock) (ho' : w'.ownsRow base eo 1 v' (LL.length + 1) (vs ++ [u])) (hu : w.ownsRow base ei k u L.length (L.flatMap C)) : Own2 C k eo ei w' base v' (LL ++ [L]) := by
 refine ⟨vs ++ [u], by simp [hn], by simpa using ho', fun i x M a b => ?_⟩
 rcases Nat.lt_or_ge i vs.length with h | h
 ·
  rw [List.getElem?_append_left h] at a
  rw [List.getElem?_append_left (by omega)] at b
  exact own_far (hs i x M a b) ho hne hg
 ·
  have hi : i = vs.length := by
   rcases Nat.lt_or_ge vs.length i with h' | h'
   ·
    rw [List.getElem?_eq_none (by simp; omega)] at a; cases a
   ·
    omega
  subst hi
  simp only [List.getElem?_concat_length, Option.some.injEq] at a
  rw [hn] at b
  simp only [List.getElem?_concat_length, Option.some.injEq] at b
  subst a; subst b
  exact own_far hu ho hne hg
theorem Own2.slice (h : Own2 C k eo ei w base v LL) : ∃ a c, v = .slice a LL.length c := by
 obtain ⟨vs, _, h2, _⟩ := h
 exact own_slice h2
theorem flat_one : ∀ vs : List Value, vs.flatMap oneC = vs
 | [] => rfl
 | v :: vs => by rw [List.flatMap_cons, flat_one vs]; rfl
/-- Such rows can be read. -/
theorem Own2.rd (hC : ∀ x, (C x).length = k) (h : Own2 C k eo ei w base v LL) : Rd2 C k w v LL := by
 obtain ⟨vs, h1, h2, h3⟩ := h
 refine ⟨vs, h1, Rd.own (fun _ => rfl) (e := eo) (base := base) (by rw [flat_one, h1]; exact h2), fun i u L a b => Rd.own hC (h3 i u L a b)⟩
end
end Go.Proofs.YtioiabfheeglgaaGreatDoor

namespace Go.Proofs.YtioiabfheeglgaaGreatDoor
open Go.RowKit

def putAt (l : List Value) (o : Nat) : List Value → List Value
 | [] => l
 | v :: vs => putAt (l.set o v) (o + 1) vs
def putCells (w : World) (N o : Nat) : List Value → World
 | [] => w
 | v :: vs => putCells (w.setCell ⟨N, o, none⟩ v) N (o + 1) vs
theorem putAt_skip (a : List Value) : ∀ (vs l : List Value) (o : Nat), putAt (a ++ l) (a.length + o) vs = a ++ putAt l o vs
 | [], _, _ => rfl
 | v :: vs, l, o => by
  rw [putAt, putAt, List.set_append_right _ _ (Nat.le_add_right _ _), Nat.add_sub_cancel_left, Nat.add_assoc]
  exact putAt_skip a vs _ _
theorem putAt_head : ∀ (b a l : List Value), a.length = b.length → putAt (a ++ l) 0 b = b ++ l
 | [], a, l, h => by
  have : a = [] := List.eq_nil_of_length_eq_zero h
  subst this; rfl
 | v :: b, [], l, h => by simp at h
 | v :: b, x :: a, l, h => by
  have := putAt_skip [v] b (a ++ l) 0
  simp only [List.length_cons, List.length_nil, List.singleton_append] at this
  rw [putAt, List.cons_append, List.set_cons_zero]
  rw [this, putAt_head b a l (by simpa using h)]
  rfl
theorem putAt_flat {α : Type} (C : α → List Value) (k : Nat) (hC : ∀ x, (C x).length = k) : ∀ (L : List α) (j : Nat) (x : α), j < L.length → putAt (L.flatMap C) (j * k) (C x) = (L.set j x).flatMap C
 | [], j, x, h => by simp at h
 | y :: L, 0, x, _ => by
  rw [List.flatMap_cons, Nat.zero_mul, putAt_head _ _ _ (by rw [hC, hC]), List.set_cons_zero, List.flatMap_cons]
 | y :: L, j + 1, x, h => by
  rw [List.flatMap_cons, show (j + 1) * k = (C y).length + j * k by rw [hC, Nat.succ_mul, Nat.add_comm], putAt_skip, putAt_flat C k hC L j x (by simpa using h), List.set_cons_succ, List.flatMap_cons]
theorem Bk.put {w : World} {N : Nat} {cs : List Value} (h : Bk w N cs.toArray) (o : Nat) (v : Value) : Bk (w.setCell ⟨N, o, none⟩ v) N (cs.set o v).toArray := by
 obtain ⟨T, e⟩ := h
 refine ⟨T, ?_⟩
 have hs : (cs.set o v).toArray = cs.toArray.setIfInBounds o v := by simp
 rw [hs]
 simp [World.setCell, Array.getElem?_modify, e]
theorem Bk.puts {N : Nat} : ∀ (vs : List Value) (w : World) (cs : List Value) (o : Nat), Bk w N cs.toArray → Bk (putCells w N o vs) N (putAt cs o vs).toArray
 | [], _, _, _, h => h
 | v :: vs, _, _, o, h => Bk.puts vs _ _ _ (h.put o v)
theorem Bk.far {w : World} {N M : Nat} {cs : Array Value} (h : Bk w M cs) (hne : N ≠ M) (o : Nat) (v : Value) : Bk (w.setCell ⟨N, o, none⟩ v) M cs := by
 obtain ⟨T, e⟩ := h
 exact ⟨T, (Below.heap_setCell _ _ _ _ (fun h => hne h.symm)).trans e⟩
theorem Bk.fars {N M : Nat} (hne : N ≠ M) : ∀ (vs : List Value) (w : World) (cs : Array Value) (o : Nat), Bk w M cs → Bk (putCells w N o vs) M cs
 | [], _, _, _, h => h
 | v :: vs, _, _, o, h => Bk.fars hne vs _ _ _ (h.far hne o v)
theorem size_set (w : World) (a : Addr) (v : Value) : (w.setCell a v).heap.size = w.heap.size := by simp [World.setCell]
theorem size_puts {N : Nat} : ∀ (vs : List Value) (w : World) (o : Nat), (putCells w N o vs).heap.size = w.heap.size
 | [], _, _ => rfl
 | v :: vs, w, _ => (size_puts vs _ _).trans (size_set w _ v)
theorem On.puts {x : World} {N : Nat} (hN : x.heap.size ≤ N) : ∀ (vs : List Value) (w : World) (o : Nat), On x w → On x (putCells w N o vs)
 | [], _, _, h => h
 | v :: vs, _, _, h => On.puts hN vs _ _ (h.setNew hN v)
theorem results_cell {fn : Func} {q : Tmp} {ty : TypeId} (h : fn.results = #[.cell q ty]) (tmps : Array Value) (P : Program) (w : World) :
  (results fn tmps).run P w = ((asAddr (tmps.getD q undef)).run P w).andThen fun a w₁ => (loadVar ty a).run P w₁ := by
 simp only [results, h]
 simp [Sem.run_bind, Result.andThen]
theorem results_cell_slot {fn : Func} {p u : Tmp} {ty : TypeId} (h : fn.results = #[.cell p ty, .tmp u]) (tmps : Array Value) (P : Program) (w : World) :
  (results fn tmps).run P w = ((asAddr (tmps.getD p undef)).run P w).andThen fun a w₁ => ((loadVar ty a).run P w₁).andThen fun v w₂ => .ok (.tuple #[v, tmps.getD u undef]) w₂ := by
 simp only [results, h]
 simp [Sem.run_bind, Result.andThen]
end Go.Proofs.YtioiabfheeglgaaGreatDoor
