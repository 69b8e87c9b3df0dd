/- A row of numbers of the call's own that is taken from ahead and put to behind. -/
import Derived.Test.YthbiaojefmdcmaaPuts
import Derived.ArgAppend
namespace Go.Proofs.Ythbiaojefmdcmaa
open Go.RowKit

def numV (x : Nat) : Value := .int .i64 x
def Qu (w : World) (base : Nat) (v : Value) (xs : List Nat) : Prop :=
  ∃ (g off cap : Nat) (cur : Array Value) (T : TypeId), v = .slice (some ⟨g, off, none⟩) xs.length cap ∧ base ≤ g ∧ w.heap[g]? = some (.cells cur T (0, 0)) ∧ xs.length ≤ cap ∧ off + cap ≤ cur.size ∧ cap ≤ maxLen ∧ ∀ j x, xs[j]? = some x → cur[off + j]? = some (numV x)
theorem Qu.on {w w' : World} {base : Nat} {v : Value} {xs : List Nat} (h : Qu w base v xs) (k : On w w') : Qu w' base v xs := by
  obtain ⟨g, off, cap, cur, T, h1, h2, h3, h4⟩ := h
  exact ⟨g, off, cap, cur, T, h1, h2, (k.block g (lt_of_block h3)).trans h3, h4⟩
theorem Qu.far {w : World} {base N i : Nat} {v u : Value} {xs : List Nat} (h : Qu w base v xs) (hN : N < base) : Qu (w.setCell ⟨N, i, none⟩ u) base v xs := by
  obtain ⟨g, off, cap, cur, T, h1, h2, h3, h4⟩ := h
  exact ⟨g, off, cap, cur, T, h1, h2, (Below.heap_setCell _ _ _ _ (by show g ≠ N; omega)).trans h3, h4⟩
theorem Qu.one (w : World) (x : Nat) (e : TypeId) (base : Nat) (hb : base ≤ w.heap.size) : Qu (w.alloc (.cells #[.int .i64 x] e)) base (.slice (some ⟨w.heap.size, 0, none⟩) 1 1) [x] :=
  ⟨w.heap.size, 0, 1, #[.int .i64 x], e, rfl, hb, heap_alloc_new w _, Nat.le_refl _, by simp, by unfold maxLen; omega, fun j y hy => by
    match j, hy with
    | 0, hy =>
      simp only [List.getElem?_cons_zero, Option.some.injEq] at hy
      subst hy
      rfl
    | j + 1, hy => simp at hy⟩
/-- What stands ahead, and the others. -/
theorem Qu.parts {w : World} {base : Nat} {v : Value} {x : Nat} {xs : List Nat} (h : Qu w base v (x :: xs)) :
    ∃ g off cap : Nat, v = .slice (some ⟨g, off, none⟩) (xs.length + 1) (cap + 1) ∧ xs.length ≤ cap ∧ cap + 1 ≤ maxLen ∧ g < w.heap.size ∧ w.cell? ⟨g, off, none⟩ = some (.int .i64 x) ∧ (cap = 0 → Qu w base (.slice (some ⟨g, off, none⟩) xs.length 0) xs) ∧ (cap ≠ 0 → Qu w base (.slice (some ⟨g, off + 1, none⟩) xs.length cap) xs) := by
  obtain ⟨g, off, cap, cur, T, h1, h2, h3, h4, h5, h6, h7⟩ := h
  simp only [List.length_cons] at h1 h4
  refine ⟨g, off, cap - 1, by rw [h1]; congr 1; omega, by omega, by omega, lt_of_block h3, ?_, fun h0 => ?_, fun h0 => ?_⟩
  · have := h7 0 x rfl
    simp only [World.cell?, h3]
    rw [Nat.add_zero] at this
    exact this
  · obtain rfl : xs = [] := List.eq_nil_of_length_eq_zero (by omega)
    exact ⟨g, off, 0, cur, T, rfl, h2, h3, Nat.le_refl _, by omega, by omega, fun j y hy => by simp at hy⟩
  · exact ⟨g, off + 1, cap - 1, cur, T, rfl, h2, h3, by omega, by omega, by omega, fun j y hy => by
      have := h7 (j + 1) y (by simpa using hy)
      rw [← this]
      congr 1
      omega⟩
/-- One more behind. -/
theorem wpList_append_q {P : Program} (w : World) {ops : Array Oper} {rest : List Oper} {o : Oper} {a : Act} {Q : Exit → Act → World → Prop}
    (hg : o.guard = none) (s x : Operand) (t : TypeId) (hop : o.op = Op.call { callee := Callee.builtin Builtin.append, args := #[s, x], argTypes := #[t, t] })
    (e : TypeId) (i : TypeInfo) (z : Value) (h1 : P.underlying t = some (.slice e)) (h2 : P.info? e = some i) (h3 : i.zero = some z) (h4 : i.size = 1) (h5 : i.bytes = 8) (h6 : z.cells.size = 1)
    {base : Nat} {v : Value} {xs : List Nat} (hs : a.eval s = v) (hq : Qu w base v xs) (hb : base ≤ w.heap.size) (hl : xs.length ≤ 1000)
    (ad : Addr) (c n : Nat) (hx : a.eval x = .slice (some ad) 1 c) (hc : w.cell? (ad.add 0) = some (.int .i64 n))
    (hK : ∀ v' w', Qu w' base v' (xs ++ [n]) → Below base w w' → wpList P ops Q rest (a.put o.dst v') w') :
    wpList P ops Q (o :: rest) a w := by
  obtain ⟨g, off, cap, cur, T, rfl, q2, q3, q4, q5, q6, q7⟩ := hq
  refine wpList_append_arg w hg s x t hop e i z 1 8 h1 h2 h3 h4 h5 h6 (by decide) g off xs.length cap (xs.map numV) hs (by simp) (fun j u hj => ?_) ad 1 c [.int .i64 n] hx rfl (fun j u hj => ?_) (fun u hu => ?_) (fun hr j hj => ?_) (by unfold maxLen; omega) (by omega) (fun hr => ?_) (fun hr v' w' ho hgr => ?_)
  · rw [List.getElem?_map] at hj
    obtain ⟨y, hy, rfl⟩ := Option.map_eq_some_iff.1 hj
    simp only [World.cell?, q3]
    exact q7 j y hy
  · match j, hj with
    | 0, hj =>
      simp only [List.getElem?_cons_zero, Option.some.injEq] at hj
      rw [← hj]
      exact hc
    | j + 1, hj => simp at hj
  · simp only [List.mem_cons, List.not_mem_nil, or_false] at hu
    subst hu
    rfl
  · obtain rfl : j = 0 := by simpa using hj
    constructor
    · simp only [World.cell?, q3]
      simp
      omega
    · simp [World.frozen?, q3]
  · have hh := heap_setCell_same w g (off + xs.length) cur T (.int .i64 n) q3
    have he : w.setCells g (off + xs.length * 1) [.int .i64 n] = w.setCell ⟨g, off + xs.length, none⟩ (.int .i64 n) := by rw [Nat.mul_one]; rfl
    rw [he]
    refine hK _ _ ⟨g, off, cap, _, T, by simp, q2, hh, by simpa using hr, by simpa using q5, q6, fun j y hy => ?_⟩ ⟨rfl, rfl, rfl, by rw [size_set]; exact Nat.le_refl _, fun k hk => Below.heap_setCell _ _ _ _ (by show k ≠ g; omega)⟩
    rcases Nat.lt_or_ge j xs.length with hj | hj
    · rw [List.getElem?_append_left hj] at hy
      rw [Array.getElem?_setIfInBounds, if_neg (by omega)]
      exact q7 j y hy
    · rw [List.getElem?_append_right hj] at hy
      have : j - xs.length = 0 := by
        rcases Nat.eq_zero_or_pos (j - xs.length) with h | h
        · exact h
        · rw [List.getElem?_eq_none (by simp; omega)] at hy; cases hy
      rw [this] at hy
      simp only [List.getElem?_cons_zero, Option.some.injEq] at hy
      subst hy
      obtain rfl : j = xs.length := by omega
      rw [Array.getElem?_setIfInBounds, if_pos rfl, if_pos (by omega)]
      rfl
  · rcases ho.2 with ⟨_, h0⟩ | ⟨g', cap', cur', hv, hg', hh, hc1, hc2, hc3, hc4⟩
    · omega
    · refine hK _ _ ⟨g', 0, cap', cur', e, by rw [hv]; simp, by omega, hh, by simpa using hc1, by rw [hc3]; omega, hc2, fun j y hy => ?_⟩ ⟨hgr.os, hgr.tape, hgr.output, hgr.size, fun k hk => hgr.block k (by omega) (fun h => by cases h)⟩
      have hj : j < xs.length + 1 := by have := (List.getElem?_eq_some_iff.1 hy).1; simpa using this
      have e1 : (cur'.toList.take ((xs.length + 1) * 1))[j]? = (xs.map numV ++ [Value.int .i64 n])[j]? := by rw [hc4]
      rw [List.getElem?_take, if_pos (by omega), Array.getElem?_toList] at e1
      rw [Nat.zero_add, e1]
      have e2 : xs.map numV ++ [Value.int .i64 n] = (xs ++ [n]).map numV := by rw [List.map_append]; rfl
      rw [e2, List.getElem?_map, hy]
      rfl
end Go.Proofs.Ythbiaojefmdcmaa
