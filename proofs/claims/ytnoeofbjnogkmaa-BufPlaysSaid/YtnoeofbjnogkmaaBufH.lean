/- What BufPlays' loop carries; rows of stores made anew. -/
import Derived.Test.YtnoeofbjnogkmaaBufM
import Derived.Great.BuildSlice
namespace Go.Proofs.Ytnoeofbjnogkmaa
open Go.RowKit

theorem exec_slE {a : Act} {o : Oper} {t : TypeId} {x : Operand} {lo hi : Option Operand} (ho : o.op = .slice t x lo hi none) {V : Value} {W : World} (h : (Instr.sliceAt t (a.eval x) (lo.map a.eval) (hi.map a.eval) none).run Try.prog W = .ok V W) : (execOp a.eval o).run Try.prog W = .ok (.value V) W := by
  unfold execOp
  simp only [ho, Option.map_none, Sem.run_bind, h, Result.andThen_ok]
  rfl
theorem sl_takeE {a : Option Addr} {n c k : Nat} (ha : a = none ∨ ∃ g, a = some ⟨g, 0, none⟩) (hk : k ≤ c) (W : World) : (Instr.sliceAt 35 (.slice a n c) none (some (.int .i64 k)) none).run Try.prog W = .ok (.slice a k c) W := by
  have e : (0 : Int) ≤ (k : Int) ∧ (k : Int) ≤ (c : Int) := by omega
  have hs := Try.sizeOf24 W
  rcases ha with rfl | ⟨g, rfl⟩
  · simp [Instr.sliceAt, Instr.slice, Instr.sliceBounds, Instr.sliceBound, asIntOf, run_underlying Try.underlying35, e, hs, hk]
  · simp [Instr.sliceAt, Instr.slice, Instr.sliceBounds, Instr.sliceBound, asIntOf, run_underlying Try.underlying35, e, hs, hk, Addr.add_lit]
theorem sl_dropE {a : Option Addr} {n c k : Nat} (hk : k ≤ n) (W : World) : (Instr.sliceAt 35 (.slice a n c) (some (.int .i64 k)) none none).run Try.prog W = .ok (.slice (if c = k then a else a.map (·.add (k * 3))) (n - k) (c - k)) W := by
  have e : (0 : Int) ≤ (k : Int) ∧ (k : Int) ≤ (n : Int) := by omega
  have hs := Try.sizeOf24 W
  simp [Instr.sliceAt, Instr.slice, Instr.sliceBounds, Instr.sliceBound, asIntOf, run_underlying Try.underlying35, e, hs, hk]
theorem rd_takeE {W : World} {a : Option Addr} {c : Nat} {L : List EnT} (h : Rd entC 3 W (.slice a L.length c) L) {k : Nat} (hk : k ≤ L.length) : Rd entC 3 W (.slice a k c) (L.take k) := by
  obtain ⟨a', c', hv, hc, hm, hr⟩ := h
  simp only [Value.slice.injEq] at hv
  obtain ⟨rfl, _, rfl⟩ := hv
  have hl : (L.take k).length = k := by rw [List.length_take]; omega
  refine ⟨a, c, by rw [hl], by omega, by omega, fun h0 => ?_⟩
  obtain ⟨g, off, ha, hg, hcell⟩ := hr (by omega)
  refine ⟨g, off, ha, hg, fun i x j u hi hj => hcell i x j u ?_ hj⟩
  rw [List.getElem?_take] at hi
  split at hi
  · exact hi
  · cases hi
theorem rd_dropE {W : World} {a : Option Addr} {c : Nat} {L : List EnT} (h : Rd entC 3 W (.slice a L.length c) L) {k : Nat} (hk : k ≤ L.length) : Rd entC 3 W (.slice (if c = k then a else a.map (·.add (k * 3))) (L.drop k).length (c - k)) (L.drop k) := by
  obtain ⟨a', c', hv, hc, hm, hr⟩ := h
  simp only [Value.slice.injEq] at hv
  obtain ⟨rfl, _, rfl⟩ := hv
  have hl : (L.drop k).length = L.length - k := List.length_drop
  refine ⟨_, c - k, rfl, by omega, by omega, fun h0 => ?_⟩
  obtain ⟨g, off, ha, hg, hcell⟩ := hr (by omega)
  subst ha
  rw [if_neg (by omega)]
  refine ⟨g, off + k * 3, by simp [Addr.add_lit], hg, fun i x j u hi hj => ?_⟩
  rw [List.getElem?_drop] at hi
  have := hcell (k + i) x j u hi hj
  rw [show off + k * 3 + i * 3 + j = off + (k + i) * 3 + j by omega]
  exact this
theorem own_setRow {W : World} {base k n N : Nat} {e : TypeId} {v : Value} {xs : List Value} (h : W.ownsRow base e k v n xs) (hN : N < base) (cs : Array Value) : (W.setRow N cs).ownsRow base e k v n xs := by
  refine ⟨h.1, ?_⟩
  rcases h.2 with h2 | ⟨g, cap, cur, hv, hg, hh, r⟩
  · exact Or.inl h2
  · exact Or.inr ⟨g, cap, cur, hv, hg, (setRow_other W N g cs (by omega)).trans hh, r⟩
theorem fill_ent (f : EnT) (zs : Array Value) (hz : zs.size = 3) : Instr.fill (fun i => some (i * 3, 3)) zs [(0, .agg (entA f))] = some (entA f) := by
  obtain ⟨l⟩ := zs
  match l, hz with
  | [a, b, c], _ =>
    obtain ⟨x1, x2, x3⟩ := f
    simp [Instr.fill, entA, entC, enL, Value.cells]
/-- A row of one store. -/
theorem wp_eslice {o : Oper} {a : Act} {w : World} {K : Act → World → Prop} {Q : Exit → Act → World → Prop} {x : Operand} (ho : o.op = .buildSlice 35 1 #[(0, x)]) {f : EnT} (hx : a.eval x = .agg (entA f))
    (h : K (a.put o.dst (.slice (some ⟨w.heap.size, 0, none⟩) 1 1)) (w.alloc (.cells (entA f) 24))) : o.wp Try.prog a w K Q := by
  obtain ⟨i0, hi, hz0, hz1, hz2⟩ := info_parts ent_info
  refine wp_buildSlice 35 24 1 _ ho (entA f) i0 _ Try.underlying35 hi hz0 (by rw [hz1]; omega) (by rw [hz1]; omega) ?_ h
  rw [hz1]
  simp only [List.map_toArray, List.map_cons, List.map_nil, hx]
  exact fill_ent f _ (by simp)
theorem rd_oneE {w : World} {N : Nat} {f : EnT} (B : Bk w N (entA f)) : Rd entC 3 w (.slice (some ⟨N, 0, none⟩) 1 1) [f] :=
  ⟨_, 1, rfl, Nat.le_refl _, by simp, fun _ => ⟨N, 0, rfl, B.lt, fun i x j u hi hj => by
    have hi0 : i = 0 := by
      have := (List.getElem?_eq_some_iff.1 hi).1
      simpa using this
    subst hi0
    simp only [List.getElem?_cons_zero, Option.some.injEq] at hi
    subst hi
    simp only [Nat.zero_add, Nat.zero_mul]
    exact B.at (by unfold entA; rw [List.getElem?_toArray]; exact hj)⟩⟩
theorem exec_mk3E {a : Act} {o : Oper} {x y z : Operand} (ho : o.op = .build 24 #[(0, x), (1, y), (2, z)]) {v1 v2 v3 : Int} (h1 : a.eval x = .int .i64 v1) (h2 : a.eval y = .int .i64 v2) (h3 : a.eval z = .int .i64 v3) (W : World) : (execOp a.eval o).run Try.prog W = .ok (.value (.agg (entA (v1, v2, v3)))) W := by
  unfold execOp
  simp only [ho, Sem.run_bind, List.map_toArray, List.map_cons, List.map_nil, h1, h2, h3, run_build W 24 #[(0, .int .i64 v1), (1, .int .i64 v2), (2, .int .i64 v3)] _ (ent_made v1 v2 v3), Result.andThen_ok]
  rfl
/-- A call read whole, put whole into the block that was made last. -/
def opA (o : OpT) : Array Value := (opC o).toArray
theorem fields_op : Try.prog.underlying 32 = some (.struct (Try.prog.fieldsOf 32)) := by kernel_rfl
theorem op_size : (Try.prog.info? 32).map (·.size) = some 3 := by kernel_rfl
theorem op_info : (Try.prog.info? 32).map (fun i => (i.zero, i.size)) = some (some (.agg #[.int .i64 0, .int .i64 0, .int .i64 0]), 3) := by kernel_rfl
theorem OpAt.range {W : World} {g i : Nat} {o : OpT} (h : OpAt W g i o) : W.rangeAt g i (opC o) := by
  intro j v hv
  match j, hv with
  | 0, hv => obtain rfl : _ = v := by simpa [opC_eq] using hv
             exact h.k
  | 1, hv => obtain rfl : _ = v := by simpa [opC_eq] using hv
             exact h.l
  | 2, hv => obtain rfl : _ = v := by simpa [opC_eq] using hv
             exact h.v
theorem cell_setRow {W : World} {N g i : Nat} (h : g ≠ N) (cs : Array Value) : (W.setRow N cs).cell? ⟨g, i, none⟩ = W.cell? ⟨g, i, none⟩ := by
  unfold World.cell?
  simp only [setRow_other W N g cs h]
theorem OpAt.setRow {W : World} {g i N : Nat} {o : OpT} (h : OpAt W g i o) (hne : g ≠ N) (cs : Array Value) : OpAt (W.setRow N cs) g i o :=
  ⟨by rw [size_setRow]; exact h.lt, (cell_setRow hne cs).trans h.k, (cell_setRow hne cs).trans h.l, (cell_setRow hne cs).trans h.v⟩
section
variable {ops : Array Oper} {rest : List Oper} {o : Oper} {a : Act} {w : World} {Q : Exit → Act → World → Prop}
theorem wpList_old (hw : Region.wanted o (yielded ops a.tmps) = true) {x : Operand} (ho : o.op = .load 32 x) {N i : Nat} (hx : a.eval x = .pointer (some ⟨N, i, none⟩)) {e : OpT} (h : w.rangeAt N i (opC e))
    (k : wpList Try.prog ops Q rest (a.put o.dst (.agg (opA e))) w) : wpList Try.prog ops Q (o :: rest) a w := by
  unfold wpList
  rw [if_pos hw]
  exact Or.inl (wp_load_mid 32 x ho N i hx (opC e) _ h fields_op rfl (by rw [opC_len]; exact op_size) k)
theorem wpList_ostN (hgd : o.guard = none) {x y : Operand} (ho : o.op = .store 32 x y) {c : Array Value} (hc : c.size = 3)
    (hx : a.eval x = .pointer (some ⟨w.heap.size, 0, none⟩)) {e : OpT} (hy : a.eval y = .agg (opA e)) (k : wpList Try.prog ops Q rest (a.put o.dst undef) (w.alloc (.cells (opA e) 32))) : wpList Try.prog ops Q (o :: rest) a (w.alloc (.cells c 32)) := by
  refine wpList_plain hgd fun K hK => ?_
  unfold Oper.wp execOp
  simp only [ho, hx, hy, Sem.run_bind, run_storeAt_new (P := Try.prog) w 32 c (opA e) (by exact op_size) (by rw [hc]; rfl) (all_oneCell_toArray (fun v hv => by simp only [opC_eq, List.mem_cons, List.not_mem_nil, or_false] at hv; rcases hv with rfl | rfl | rfl <;> rfl)), Result.andThen_ok]
  exact hK _ _ k
end
theorem lens1 {l : List EnT} (k : Nat) (h : l.length ≤ 24) : (l.take k).length ≤ 1000000 := by rw [List.length_take]; omega
theorem lens2 {l : List EnT} (k j : Nat) (h : l.length ≤ 24) : (l.take k).length + (l.drop j).length ≤ 1000000 := by rw [List.length_take, List.length_drop]; omega
theorem lens3 {l : List EnT} (e : EnT) (h : l.length ≤ 24) : l.length + [e].length ≤ 1000000 := by rw [List.length_singleton]; omega
theorem wrapTN {k : Nat} (h : k ≤ 900) : IntKind.i64.wrap ((k : Int) + 1) = ((k + 1 : Nat) : Int) := by rw [wrapT (by omega) (by omega)]; rfl
/-- The law's Buf and its row. -/
structure PlM (w W : World) (N : Nat) (b : BufT) (wa : Option Addr) (nw cw : Nat) (wl : List EnT) : Prop where
  on : On w W
  lo : w.heap.size ≤ N
  b7 : Bk W N (bufA b)
  len : nw = wl.length
  own : W.ownsRow (N + 1) 24 3 (.slice wa nw cw) nw (wl.flatMap entC)
section
variable {w W W' : World} {N : Nat} {b : BufT} {wa : Option Addr} {nw cw : Nat} {wl : List EnT}
theorem PlM.go (h : PlM w W N b wa nw cw wl) (k : On W W') : PlM w W' N b wa nw cw wl := ⟨h.on.trans k, h.lo, h.b7.on k, h.len, own_on h.own k⟩
theorem PlM.set (h : PlM w W N b wa nw cw wl) (b' : BufT) : PlM w (W.setRow N (bufA b')) N b' wa nw cw wl := ⟨h.on.row h.lo _, h.lo, h.b7.row _, h.len, own_setRow h.own (Nat.lt_succ_self N) _⟩
theorem PlM.rd (h : PlM w W N b wa nw cw wl) : Rd entC 3 W (.slice wa nw cw) wl := by
  have h1 := h.own
  have h2 := h.len
  subst h2
  exact Rd.own entC_len h1
theorem PlM.shape (h : PlM w W N b wa nw cw wl) : nw ≤ cw ∧ (wa = none ∨ ∃ g, wa = some ⟨g, 0, none⟩) := by
  rcases h.own.2 with ⟨hv, hl⟩ | ⟨g, cap, cur, hv, _, _, hc, _⟩
  · simp only [Value.slice.injEq] at hv
    exact ⟨by omega, Or.inl hv.1⟩
  · simp only [Value.slice.injEq] at hv
    exact ⟨by omega, Or.inr ⟨g, hv.1⟩⟩
end
end Go.Proofs.Ytnoeofbjnogkmaa
