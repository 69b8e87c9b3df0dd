/- Numbers that are read, put behind a row of the call's own. -/
import Derived.Test.YtkglmhclpgfngaaEvB
import Derived.Maps.AppendAt
namespace Go.Proofs.Ytkglmhclpgfngaa
open Go.RowKit

theorem run_append_nil {P : Program} {w : World} (base : Nat) (t ty e : TypeId) (i : TypeInfo) (size : Nat) (ht : P.underlying t = some (.slice e)) (hi : P.info? e = some i) (v : Value) (n : Nat) (xs : List Value) (hown : w.ownsRow base e size v n xs) (d : Nat) :
    (Builtin.append_ #[t, t] ty #[v, .slice none 0 d]).run P w = .ok v w := by
  rcases hown.2 with ⟨rfl, rfl⟩ | ⟨g, cap, cur, rfl, _, _, hnc, _⟩
  · simp [Builtin.append_, run_underlying ht, sizeOf, typeInfo, hi, Builtin.lenOf, Builtin.firstCells]
  · simp [Builtin.append_, run_underlying ht, sizeOf, typeInfo, hi, Builtin.lenOf, Builtin.firstCells, hnc, storeCells]
theorem flat_int1 (Y : List Int) : ∀ (j : Nat) (u : Value), (Y.flatMap intC)[j]? = some u → ∃ y, Y[j]? = some y ∧ u = Value.int .i64 y := by
  induction Y with
  | nil => intro j u h; simp at h
  | cons y Y ih =>
    intro j u h
    match j, h with
    | 0, h =>
      simp only [List.flatMap_cons, intC, List.cons_append, List.nil_append, List.getElem?_cons_zero, Option.some.injEq] at h
      exact ⟨y, rfl, h.symm⟩
    | j + 1, h =>
      simp only [List.flatMap_cons, intC, List.cons_append, List.nil_append, List.getElem?_cons_succ] at h
      exact ih j u h
theorem wp_append_rd {o : Oper} {a : Act} {w : World} {K : Act → World → Prop} {Q : Exit → Act → World → Prop} (s x : Operand)
    (ho : o.op = .call { callee := .builtin .append, args := #[s, x], argTypes := #[28, 28] })
    {base : Nat} {v : Value} {X Y : List Int} {b : Option Addr} {d : Nat} (hs : a.eval s = v) (hx : a.eval x = .slice b Y.length d) (hv : w.ownsRow base 2 1 v X.length (X.flatMap intC)) (hu : Rd intC 1 w (.slice b Y.length d) Y) (hl : X.length + Y.length ≤ 1000) (hb : base ≤ w.heap.size)
    (h : ∀ v' w', w'.ownsRow base 2 1 v' (X ++ Y).length ((X ++ Y).flatMap intC) → w.grownBy w' v.ownBlock → K (a.put o.dst v') w') : o.wp Try.prog a w K Q := by
  obtain ⟨i0, hi, hz0, hz1, hz2⟩ := info_parts infoI64
  cases b with
  | none =>
    have hY : Y = [] := by
      cases Y with
      | nil => rfl
      | cons y Y =>
        obtain ⟨_, _, hv', _, _, hr⟩ := hu
        simp only [Value.slice.injEq] at hv'
        obtain ⟨g, off, ha, _⟩ := hr (by simp)
        rw [← hv'.1] at ha
        cases ha
    subst hY
    have hrun := run_append_nil (P := Try.prog) (w := w) base 28 o.type 2 i0 1 Try.underlying28 hi v X.length _ hv d
    unfold Oper.wp
    rw [List.length_nil] at hx
    simp [execOp, ho, resolve, invoke, builtin, hs, hx, hrun, Result.andThen]
    exact h v w (by simpa using hv) (World.grownBy.refl _ _)
  | some ad =>
    refine wp_append_own w s x 28 ho base 2 i0 (.int .i64 0) 1 8 Try.underlying28 hi hz0 hz1 hz2 rfl (by decide) v X.length _ hs hv ad Y.length d (Y.flatMap intC) hx (by rw [flat_len (C := intC) (k := 1) (fun _ => rfl)]) (fun j y hy => ?_) (fun y hy => ?_) (by unfold maxLen; omega) (by omega) hb fun v' w' h1 h2 _ => h v' w' (by rw [List.length_append, List.flatMap_append]; exact h1) h2
    · obtain ⟨z, hz, rfl⟩ := flat_int1 Y j y hy
      obtain ⟨g, off, ha, _, hc⟩ := hu.at hz
      obtain rfl := Option.some.inj ha
      have := hc 0 _ rfl
      rw [Addr.add_lit]
      simpa using this
    · obtain ⟨q, _, hq⟩ := List.mem_flatMap.1 hy
      simp only [intC, List.mem_cons, List.not_mem_nil, or_false] at hq
      rw [hq]
      rfl
end Go.Proofs.Ytkglmhclpgfngaa
