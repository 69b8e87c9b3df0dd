/- The verifier's own orders, one by one: what is plain; a row appended to a row; what may have turned. -/
import Derived.Test.YtohngifmbnlmmaaDoorOrdL
import Derived.Laws.OwnMore
namespace Go.Proofs.YtohngifmbnlmmaaDoor
open Go.RowKit

section
variable {n : Nat} {D : Nat → Nat} {t : Nat}
theorem free_filter (hn : n ≤ 64) (ht : t < 18446744073709551616) : (List.range n).filter (mayP n D t) = bits64 (freeN n D t) := by
  unfold bits64
  have e1 : (List.range 64).filter (fun i => (freeN n D t).testBit i) = (List.range 64).filter (mayP n D t) := List.filter_congr fun a _ => free_bit n D t a hn ht
  rw [e1]
  obtain ⟨d, hd⟩ : ∃ d, 64 = n + d := ⟨64 - n, by omega⟩
  rw [hd, List.range_add, List.filter_append]
  have e2 : (List.map (fun x => n + x) (List.range d)).filter (mayP n D t) = [] := List.filter_eq_nil_iff.2 fun a ha h => by
    obtain ⟨b, _, rfl⟩ := List.mem_map.1 ha
    have := may_lt h
    omega
  rw [e2, List.append_nil]
end
def grpL (n : Nat) (D : Nat → Nat) (row : List Nat) (k t a : Nat) : List (List Nat) := (exts n D k (withI t (a : Int))).map (fun s => row ++ a :: s)
/-- What the loop has told so far. -/
def preL (n : Nat) (D : Nat → Nat) (row : List Nat) (k t i : Nat) : List (List Nat) := ((List.range i).filter (mayP n D t)).flatMap (grpL n D row k t)
theorem preL_step (n : Nat) (D : Nat → Nat) (row : List Nat) (k t i : Nat) : preL n D row k t (i + 1) = if mayP n D t i = true then preL n D row k t i ++ grpL n D row k t i else preL n D row k t i := by
  unfold preL
  rw [List.range_succ, List.filter_append, List.flatMap_append]
  cases h : mayP n D t i with
  | true => simp [h]
  | false => simp [h]
theorem preL_all {n : Nat} {D : Nat → Nat} (hn : n ≤ 64) (row : List Nat) (k : Nat) {t : Nat} (ht : t < 18446744073709551616) : preL n D row k t n = (exts n D (k + 1) t).map (row ++ ·) := by
  unfold preL
  rw [free_filter hn ht, exts, List.map_flatMap]
  congr 1
  funext a
  unfold grpL
  rw [List.map_map]
  rfl
theorem take_more {α : Type} (o A B : List α) (M : Nat) : o ++ (A ++ B).take (M - o.length) = (o ++ A.take (M - o.length)) ++ B.take (M - (o ++ A.take (M - o.length)).length) := by
  rw [List.take_append, List.append_assoc, List.length_append, List.length_take]
  congr 3
  omega
/-- Has i come among the first k? -/
def notT (row : List Nat) (i k : Nat) : Bool := !(row.take k).contains i
theorem notT_step {row : List Nat} {k x : Nat} (i : Nat) (hx : row[k]? = some x) : notT row i (k + 1) = (notT row i k && !decide (x = i)) := by
  unfold notT
  rw [List.take_add_one, hx, Option.toList_some]
  rw [Bool.eq_iff_iff]
  simp
  intro _
  constructor <;> intro h1 h2 <;> exact h1 h2.symm
def thrT (row : List Nat) (a k : Nat) : Bool := (row.take k).contains a
theorem thrT_step {row : List Nat} {k x : Nat} (a : Nat) (hx : row[k]? = some x) : thrT row a (k + 1) = (thrT row a k || decide (x = a)) := by
  unfold thrT
  rw [List.take_add_one, hx, Option.toList_some]
  rw [Bool.eq_iff_iff]
  simp
  constructor <;> (rintro (h | h)) <;> first | exact Or.inl h | exact Or.inr h.symm
def frJ (r : RelT) (row : List Nat) (i : Nat) : Nat → Bool
  | 0 => notT row i row.length
  | a + 1 => if H r a i = true then frJ r row i a && thrT row a row.length else frJ r row i a
theorem frJ_iff (r : RelT) (row : List Nat) (i : Nat) : ∀ a, frJ r row i a = true ↔ i ∉ row ∧ ∀ b, b < a → H r b i = true → b ∈ row
  | 0 => by unfold frJ notT; simp
  | a + 1 => by
    have ih := frJ_iff r row i a
    rw [frJ]
    cases h : H r a i with
    | false =>
      rw [if_neg (by decide), ih]
      constructor
      · rintro ⟨h1, h2⟩
        refine ⟨h1, fun b hb hh => ?_⟩
        rcases Nat.lt_or_ge b a with hl | hl
        · exact h2 b hl hh
        · obtain rfl : b = a := by omega
          rw [h] at hh; cases hh
      · rintro ⟨h1, h2⟩
        exact ⟨h1, fun b hb hh => h2 b (by omega) hh⟩
    | true =>
      rw [if_pos rfl, Bool.and_eq_true, ih]
      unfold thrT
      rw [List.take_length]
      constructor
      · rintro ⟨⟨h1, h2⟩, h3⟩
        refine ⟨h1, fun b hb hh => ?_⟩
        rcases Nat.lt_or_ge b a with hl | hl
        · exact h2 b hl hh
        · obtain rfl : b = a := by omega
          simpa using h3
      · rintro ⟨h1, h2⟩
        exact ⟨⟨h1, fun b hb hh => h2 b (by omega) hh⟩, by simpa using h2 a (by omega) h⟩
theorem frJ_may {r : RelT} (hr : Wf r) {row : List Nat} (hrow : ∀ x ∈ row, x < 64) {i : Nat} (hi : i < r.n) : frJ r row i r.n = mayP r.n (DL2D (needL r)) (mskN 0 row) i := by
  rw [Bool.eq_iff_iff, frJ_iff, may_mem hr hrow]
  constructor
  · rintro ⟨h1, h2⟩
    exact ⟨hi, h1, fun b hb => h2 b (hr.b b i hb).1 hb⟩
  · rintro ⟨_, h2, h3⟩
    exact ⟨h2, fun b _ hb => h3 b hb⟩

/-- Rows of rows that the call owns alone may have turned. -/
structure Fr (base : Nat) (w w' : World) : Prop where
  os : w'.os = w.os
  tape : w'.tape = w.tape
  output : w'.output = w.output
  size : w.heap.size ≤ w'.heap.size
  block : ∀ k, k < w.heap.size → (k < base ∨ ∀ cs fz, w.heap[k]? ≠ some (.cells cs 36 fz)) → w'.heap[k]? = w.heap[k]?
section
variable {base : Nat} {w w' w'' : World}
theorem Fr.refl (base : Nat) (w : World) : Fr base w w := ⟨rfl, rfl, rfl, Nat.le_refl _, fun _ _ _ => rfl⟩
theorem Fr.trans (h : Fr base w w') (k : Fr base w' w'') : Fr base w w'' :=
  ⟨k.os.trans h.os, k.tape.trans h.tape, k.output.trans h.output, Nat.le_trans h.size k.size, fun i hi hc => by
    have e := h.block i hi hc
    rw [← e]
    refine k.block i (Nat.lt_of_lt_of_le hi h.size) ?_
    rcases hc with hc | hc
    · exact Or.inl hc
    · exact Or.inr fun cs fz => by rw [e]; exact hc cs fz⟩
theorem Fr.of (h : On w w') : Fr base w w' := ⟨h.os, h.tape, h.output, h.size, fun k hk _ => h.block k hk⟩
theorem Fr.grown {v : Value} {n : Nat} {xs : List Value} (ho : w.ownsRow base 36 1 v n xs) (hg : w.grownBy w' v.ownBlock) : Fr base w w' :=
  ⟨hg.os, hg.tape, hg.output, hg.size, fun k hk hc => hg.block k hk fun e => by
    rcases ho.2 with ⟨hv, _⟩ | ⟨g, cap, cur, hv, hb, hh, _⟩
    · rw [hv] at e; cases e
    · rw [hv] at e
      simp only [Value.ownBlock, Option.some.injEq] at e
      subst e
      rcases hc with hc | hc
      · omega
      · exact hc cur (0, 0) hh⟩
theorem Fr.toOn (h : Fr w.heap.size w w') : On w w' := ⟨h.os, h.tape, h.output, h.size, fun k hk => h.block k hk (Or.inl hk)⟩
theorem own_fr {b k n : Nat} {v : Value} {xs : List Value} (h : w.ownsRow b 3 k v n xs) (f : Fr base w w') : w'.ownsRow b 3 k v n xs := by
  refine ⟨h.1, ?_⟩
  rcases h.2 with h2 | ⟨g, cap, cur, hv, hb, hh, r⟩
  · exact Or.inl h2
  · refine Or.inr ⟨g, cap, cur, hv, hb, (f.block g (lt_of_block hh) (Or.inr fun cs fz e => ?_)).trans hh, r⟩
    rw [hh] at e
    simp only [Option.some.injEq, Obj.cells.injEq] at e
    exact absurd e.2.1 (by decide)
theorem box_fr {N : Nat} {cs : Array Value} (h : w.heap[N]? = some (.cells cs 27 (0, 0))) (f : Fr base w w') : w'.heap[N]? = some (.cells cs 27 (0, 0)) :=
  (f.block N (lt_of_block h) (Or.inr fun cs2 fz e => by
    rw [h] at e
    simp only [Option.some.injEq, Obj.cells.injEq] at e
    exact absurd e.2.1 (by decide))).trans h
end
/-- A row that is owned, nil or not, put behind a row of the call's own. -/
theorem wp_append_rows {o : Oper} {a : Act} {w : World} {K : Act → World → Prop} {Q : Exit → Act → World → Prop} (s x : Operand)
    (ho : o.op = .call { callee := .builtin .append, args := #[s, x], argTypes := #[36, 36] })
    {base b2 : Nat} {v u : Value} {X Y : List Nat} (hs : a.eval s = v) (hx : a.eval x = u) (hv : w.ownsRow base 3 1 v X.length (X.map intV)) (hu : w.ownsRow b2 3 1 u Y.length (Y.map intV)) (hl : X.length + Y.length ≤ 1000) (hb : base ≤ w.heap.size)
    (h : ∀ v' w', w'.ownsRow base 3 1 v' (X ++ Y).length ((X ++ Y).map intV) → w.grownBy w' v.ownBlock → K (a.put o.dst v') w') : o.wp Tryd.prog a w K Q := by
  obtain ⟨i0, hi, hz0, hz1, hz2⟩ := info_parts infoInt
  rcases hu.2 with ⟨hu0, hY⟩ | ⟨g, cap, cur, hu0, _⟩
  · have hY' : Y = [] := List.eq_nil_of_length_eq_zero hY
    subst hY'
    have hrun := run_append_owned_none (P := Tryd.prog) (w := w) base 36 o.type 3 i0 1 Tryd.underlying36 hi v X.length _ hv
    unfold Oper.wp
    simp [execOp, ho, resolve, invoke, builtin, hs, hx, hu0, hrun, Result.andThen]
    exact h v w (by simpa using hv) (World.grownBy.refl _ _)
  · rw [hu0] at hx
    refine wp_append_own w s x 36 ho base 3 i0 (.int .i64 0) 1 8 Tryd.underlying36 hi hz0 hz1 hz2 rfl (by decide) v X.length _ hs hv ⟨g, 0, none⟩ Y.length cap (Y.map intV) hx (by simp) (fun j y hy => ?_) (fun y hy => ?_) (by unfold maxLen; omega) (by omega) hb fun v' w' h1 h2 _ => h v' w' (by simpa using h1) h2
    · exact hu.cells (g := g) (by rw [hu0]; rfl) j y hy
    · obtain ⟨q, _, rfl⟩ := List.mem_map.1 hy
      rfl
theorem wpList_append_rows {ops : Array Oper} {rest : List Oper} {o : Oper} {a : Act} {w : World} {Q : Exit → Act → World → Prop} (hgd : o.guard = none) (s x : Operand)
    (ho : o.op = .call { callee := .builtin .append, args := #[s, x], argTypes := #[36, 36] })
    {base b2 : Nat} {v u : Value} {X Y : List Nat} (hs : a.eval s = v) (hx : a.eval x = u) (hv : w.ownsRow base 3 1 v X.length (X.map intV)) (hu : w.ownsRow b2 3 1 u Y.length (Y.map intV)) (hl : X.length + Y.length ≤ 1000) (hb : base ≤ w.heap.size)
    (h : ∀ v' w', w'.ownsRow base 3 1 v' (X ++ Y).length ((X ++ Y).map intV) → w.grownBy w' v.ownBlock → wpList Tryd.prog ops Q rest (a.put o.dst v') w') : wpList Tryd.prog ops Q (o :: rest) a w :=
  wpList_plain hgd fun _ hK => wp_append_rows s x ho hs hx hv hu hl hb fun v' w' h1 h2 => hK _ _ (h v' w' h1 h2)
end Go.Proofs.YtohngifmbnlmmaaDoor
