/- What layer 15's laws share: calls read out of a row, Bufs in a law's own blocks, in drawn regions. -/
import Derived.Test.YtnoeofbjnogkmaaBufFull
import Derived.Test.YtnoeofbjnogkmaaBufArg
namespace Go.Proofs.Ytnoeofbjnogkmaa
open Go.RowKit

theorem nat_lt {i m : Nat} (h : i < m) : (i : Int) < (m : Int) := by omega
theorem nat_nn (i : Nat) : decide ((i : Int) < 0) = false := decide_eq_false (by omega)
theorem nat_0 (i : Nat) : (0 : Int) ≤ (i : Int) := by omega
theorem wrapN {i : Nat} (h : i ≤ 900) : wrap64 ((i : Int) + 1) = ((i + 1 : Nat) : Int) := by rw [wrapS (by omega) (by omega)]; rfl
theorem wrapM {i j : Nat} (h : i ≤ 900) (e : j = i + 1) : wrap64 ((i : Int) + 1) = (j : Int) := by rw [wrapN h, e]
/-- A call by its numbers. -/
def OpT.k (o : OpT) : Int := o.1.1
def OpT.l (o : OpT) : Int := o.1.2.1
def OpT.v (o : OpT) : Int := o.1.2.2
theorem opC_eq (o : OpT) : opC o = [.int .i64 o.k, .int .i64 o.l, .int .i64 o.v] := rfl
/-- The cells of a call in a row that is read. -/
structure OpAt (W : World) (g i : Nat) (o : OpT) : Prop where
  lt : g < W.heap.size
  k : W.cell? ⟨g, i, none⟩ = some (.int .i64 o.k)
  l : W.cell? ⟨g, i + 1, none⟩ = some (.int .i64 o.l)
  v : W.cell? ⟨g, i + 2, none⟩ = some (.int .i64 o.v)
theorem OpAt.on {W W' : World} {g i : Nat} {o : OpT} (h : OpAt W g i o) (k : On W W') : OpAt W' g i o :=
  ⟨Nat.lt_of_lt_of_le h.lt k.size, (k.cell (p := ⟨g, i, none⟩) h.lt).trans h.k, (k.cell (p := ⟨g, i + 1, none⟩) h.lt).trans h.l, (k.cell (p := ⟨g, i + 2, none⟩) h.lt).trans h.v⟩
theorem rd_ops {w : World} {a : Option Addr} {n c : Nat} {L : List OpT} (h : Rd opC 3 w (.slice a n c) L) (h0 : 0 < L.length) : ∃ g off, a = some ⟨g, off, none⟩ ∧ ∀ (i : Nat) (o : OpT), L[i]? = some o → OpAt w g (off + i * 3) o := by
  obtain ⟨a', c', hv, _, _, hr⟩ := h
  simp only [Value.slice.injEq] at hv
  obtain ⟨g, off, ha, hg, hc⟩ := hr h0
  refine ⟨g, off, by rw [hv.1, ha], fun i o ho => ⟨hg, hc i o 0 _ ho rfl, hc i o 1 _ ho rfl, hc i o 2 _ ho rfl⟩⟩
/-- The last two bits of a location. -/
def loc3 (x : Int) : Nat := (x % 4).toNat
theorem loc3_is (x : Int) : bits .and .i64 x 3 = (loc3 x : Int) := by
  rw [and_3]
  unfold loc3
  omega
theorem loc3_lt (x : Int) : loc3 x < 4 := by unfold loc3; omega
theorem op_in (o : OpT) {i : Nat} (hi : i ≤ 1000) : EnIn ((loc3 o.l : Int), o.v, (i : Int)) := enIn3 (inr_nat (by have := loc3_lt o.l; omega)) o.2.2.2 (inr_nat hi)
/-- A store as an operation of a drawn region. -/
theorem wp_bst {o : Oper} {a : Act} {w : World} {K : Act → World → Prop} {Q : Exit → Act → World → Prop} {x y : Operand} (ho : o.op = .store 27 x y) {N : Nat} (hx : a.eval x = .pointer (some ⟨N, 0, none⟩)) {b g : BufT} (hy : a.eval y = .agg (bufA b)) (h : Bk w N (bufA g))
    (k : K (a.put o.dst undef) (w.setRow N (bufA b))) : o.wp Try.prog a w K Q := by
  obtain ⟨T, e⟩ := h
  exact wp_store_row 27 x y ho N (bufA b) hx hy T (bufA g) e (by rw [bufA_size]; exact buf_size) (by rw [bufA_size, bufA_size]) (all_oneCell_toArray (rowC_one _ _ _)) k
/-- The law's two Bufs in memory. -/
structure OrM (w W : World) (N : Nat) (t p : BufT) : Prop where
  on : On w W
  lo : w.heap.size ≤ N
  b3 : Bk W N (bufA t)
  b4 : Bk W (N + 1) (bufA p)
section
variable {w W W' : World} {N : Nat} {t p : BufT}
theorem OrM.go (h : OrM w W N t p) (k : On W W') : OrM w W' N t p := ⟨h.on.trans k, h.lo, h.b3.on k, h.b4.on k⟩
theorem OrM.set3 (h : OrM w W N t p) (t' : BufT) : OrM w (W.setRow N (bufA t')) N t' p := ⟨h.on.row h.lo _, h.lo, h.b3.row _, h.b4.rowFar (by omega) _⟩
theorem OrM.set4 (h : OrM w W N t p) (p' : BufT) : OrM w (W.setRow (N + 1) (bufA p')) N t p' := ⟨h.on.row (by have := h.lo; omega) _, h.lo, h.b3.rowFar (by omega) _, h.b4.row _⟩
end
theorem oldest_some {b : BufT} {c : Int} {x y z : Int} (h : oldB b c = some (x, y, z)) (W : World) : Calls Try.prog 16 #[.agg (bufA b), .int .i64 c] W fun e w' => e = .returned (.tuple #[.int .i64 x, .int .i64 y, .int .i64 z, .bool true]) ∧ On W w' := by
  have := oldest_is b c W
  rw [h] at this
  exact this
theorem empty_nil {b : BufT} (h : b.l.length = 0) (W : World) : Calls Try.prog 13 #[.agg (bufA b)] W fun e w' => e = .returned (.bool true) ∧ On W w' := by
  have := empty_is b W
  rw [h] at this
  exact this
theorem exec_bne_same {a : Act} {o : Oper} {x y : Operand} {u : TypeId} (ho : o.op = .binOp .neq 27 x y u) {f : BufT} (hx : a.eval x = .agg (bufA f)) (hy : a.eval y = .agg (bufA f)) (W : World) : (execOp a.eval o).run Try.prog W = .ok (.value (.bool false)) W := by
  have := exec_bne ho hx hy W
  simpa using this
theorem exec_beq_same {a : Act} {o : Oper} {x y : Operand} {u : TypeId} (ho : o.op = .binOp .eql 27 x y u) {f : BufT} (hx : a.eval x = .agg (bufA f)) (hy : a.eval y = .agg (bufA f)) (W : World) : (execOp a.eval o).run Try.prog W = .ok (.value (.bool true)) W := by
  have := exec_beq ho hx hy W
  simpa using this
theorem exec_beq_not {a : Act} {o : Oper} {x y : Operand} {u : TypeId} (ho : o.op = .binOp .eql 27 x y u) {f g : BufT} (hx : a.eval x = .agg (bufA f)) (hy : a.eval y = .agg (bufA g)) (h : f ≠ g) (W : World) : (execOp a.eval o).run Try.prog W = .ok (.value (.bool false)) W := by
  have := exec_beq ho hx hy W
  simpa [h] using this
/-- How long, and of which model, behind a call. -/
theorem putB_len {b : BufT} {e : EnT} (he : EnIn e) (hm : b.m ≠ 0) (hl : b.l.length < 24) (h0 : 0 ≤ e.1) (h4 : e.1 < 4) : (putB b e he).l.length = b.l.length + 1 ∧ (putB b e he).m = b.m := by
  have hn : ¬ (b.m = 0 ∨ b.l.length = 24 ∨ e.1 < 0 ∨ 4 ≤ e.1) := by omega
  unfold putB
  rw [dif_neg hn]
  exact ⟨putL_len _ _ _, rfl⟩
theorem dropB_len (b : BufT) (c : Int) : (dropB b c).l.length ≤ b.l.length ∧ (dropB b c).m = b.m := by
  unfold dropB
  split
  · exact ⟨Nat.le_refl _, rfl⟩
  · rename_i h
    refine ⟨?_, rfl⟩
    show (cutL _ _).length ≤ _
    have := sp_le b c
    have := cutL_len (l := b.l) (k := spA b c) (by omega)
    omega
end Go.Proofs.Ytnoeofbjnogkmaa
