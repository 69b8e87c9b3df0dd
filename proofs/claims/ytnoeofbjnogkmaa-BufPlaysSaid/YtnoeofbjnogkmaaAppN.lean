/- Rows of any things put behind rows of the call's own, as operations of drawn regions. -/
import Derived.Test.YtnoeofbjnogkmaaRegGrow
import Derived.Test.YtnoeofbjnogkmaaOwnR
import Derived.Laws.OwnMore
namespace Go.Proofs.Ytnoeofbjnogkmaa
open Go.RowKit

/-- What is asked of an element's type. -/
structure ElT (TL T : TypeId) (k by_ : Nat) (z : Value) : Prop where
  under : Try.prog.underlying TL = some (.slice T)
  info : (Try.prog.info? T).map (fun i => (i.zero, i.size, i.bytes)) = some (some z, k, by_)
  cells : z.cells.size = k
  pos : 0 < k
section
variable {α : Type} {C : α → List Value} {k by_ : Nat} {TL T : TypeId} {z : Value}
theorem flat_lenC (hC : ∀ x, (C x).length = k) (Y : List α) : (Y.flatMap C).length = Y.length * k := by
  induction Y with
  | nil => simp
  | cons y Y ih => rw [List.flatMap_cons, List.length_append, ih, hC, List.length_cons, Nat.succ_mul]; omega
theorem flat_oneC (h1 : ∀ x, ∀ u ∈ C x, u.oneCell' = true) (Y : List α) : ∀ u ∈ Y.flatMap C, u.oneCell' = true := by
  intro u hu
  obtain ⟨y, _, hu⟩ := List.mem_flatMap.1 hu
  exact h1 y u hu
theorem Rd.cells {w : World} {ad : Addr} {n c : Nat} {Y : List α} (hC : ∀ x, (C x).length = k) (h : Rd C k w (.slice (some ad) n c) Y) : ∀ j u, (Y.flatMap C)[j]? = some u → w.cell? (ad.add j) = some u := by
  intro j u hj
  have hlt := (List.getElem?_eq_some_iff.1 hj).1
  rw [flat_lenC hC] at hlt
  have hk : 0 < k := by
    rcases Nat.eq_zero_or_pos k with h0 | h0
    · rw [h0] at hlt; omega
    · exact h0
  have hq : j / k < Y.length := Nat.div_lt_of_lt_mul (by rw [Nat.mul_comm]; exact hlt)
  have hm := Nat.mod_lt j hk
  obtain ⟨a, c', hv, _, _, hr⟩ := h
  obtain ⟨g, off, ha, _, hcell⟩ := hr (Nat.lt_of_le_of_lt (Nat.zero_le _) hq)
  simp only [Value.slice.injEq] at hv
  obtain ⟨rfl, _, _⟩ := hv
  obtain rfl := Option.some.inj ha
  have hd : j / k * k + j % k = j := by rw [Nat.mul_comm]; exact Nat.div_add_mod j k
  have hf := flat_at C k hC Y (j / k) (j % k) Y[j / k] (List.getElem?_eq_getElem hq) hm
  rw [hd, hj] at hf
  have := hcell (j / k) Y[j / k] (j % k) u (List.getElem?_eq_getElem hq) hf.symm
  rw [Addr.add_lit, ← this, Nat.add_assoc, hd]
theorem Rd.len {w : World} {a : Option Addr} {n c : Nat} {Y : List α} (h : Rd C k w (.slice a n c) Y) : n = Y.length := by
  obtain ⟨_, _, hv, _⟩ := h
  simp only [Value.slice.injEq] at hv
  exact hv.2.1
theorem Rd.none_nil {w : World} {n c : Nat} {Y : List α} (h : Rd C k w (.slice none n c) Y) : Y = [] := by
  cases Y with
  | nil => rfl
  | cons y Y =>
    obtain ⟨_, _, hv, _, _, hr⟩ := h
    simp only [Value.slice.injEq] at hv
    obtain ⟨g, off, ha, _⟩ := hr (by simp)
    rw [← hv.1] at ha
    cases ha
/-- Put behind a row that has nothing and no room: what was there stands. -/
theorem wp_append_new {o : Oper} {a : Act} {w : World} {K : Act → World → Prop} {Q : Exit → Act → World → Prop} (E : ElT TL T k by_ z) (hC : ∀ x, (C x).length = k) (s x : Operand)
    (ho : o.op = .call { callee := .builtin .append, args := #[s, x], argTypes := #[TL, TL] }) {base g : Nat} {Y : List α} {v : Value} (hs : a.eval s = .slice (some ⟨g, 0, none⟩) 0 0) (hx : a.eval x = v)
    (hE : w.ownsRow base T k (.slice (some ⟨g, 0, none⟩) 0 0) 0 []) (hu : Rd C k w v Y) (hl : Y.length ≤ 1000000) (hby : by_ ≤ 1000) (hb : base ≤ w.heap.size)
    (h : ∀ v' w', w'.ownsRow base T k v' Y.length (Y.flatMap C) → On w w' → K (a.put o.dst v') w') : o.wp Try.prog a w K Q := by
  obtain ⟨i0, hi, hz0, hz1, hz2⟩ := info_parts E.info
  obtain ⟨ax, cx, rfl, hcx, _⟩ := hu.slice
  cases ax with
  | none =>
    obtain rfl := hu.none_nil
    have hrun : (Builtin.append_ #[TL, TL] o.type #[.slice (some ⟨g, 0, none⟩) 0 0, .slice none 0 cx]).run Try.prog w = .ok (.slice (some ⟨g, 0, none⟩) 0 0) w := by
      simp [Builtin.append_, run_underlying E.under, sizeOf, typeInfo, hi, Builtin.lenOf, Builtin.firstCells, storeCells]
    unfold Oper.wp
    simp only [List.length_nil] at hx
    simp [execOp, ho, resolve, invoke, builtin, hs, hx, hrun, Result.andThen]
    exact h _ w (by simpa using hE) (On.refl w)
  | some ad =>
    by_cases h0 : Y.length = 0
    · obtain rfl := List.eq_nil_of_length_eq_zero h0
      have hl0 : (loadCells ad 0).run Try.prog w = .ok #[] w := by simpa using run_loadCells_list (P := Try.prog) w ad [] (by simp)
      have hrun : (Builtin.append_ #[TL, TL] o.type #[.slice (some ⟨g, 0, none⟩) 0 0, .slice (some ad) 0 cx]).run Try.prog w = .ok (.slice (some ⟨g, 0, none⟩) 0 0) w := by
        simp [Builtin.append_, run_underlying E.under, sizeOf, typeInfo, hi, Builtin.lenOf, Builtin.firstCells, storeCells, hl0]
      unfold Oper.wp
      simp only [List.length_nil] at hx
      simp [execOp, ho, resolve, invoke, builtin, hs, hx, hrun, Result.andThen]
      exact h _ w (by simpa using hE) (On.refl w)
    · have hlen : (Y.flatMap C).length = Y.length * k := flat_lenC hC Y
      have hfit : Builtin.nextslicecap (0 + Y.length) 0 * i0.bytes ≤ 281474976710656 := growslice_fits (by omega) (by rw [hz2, Nat.zero_add]; have := Nat.mul_le_mul hl hby; omega)
      have hrun := run_append_grow (P := Try.prog) w TL o.type T i0 z E.under hi hz0 ⟨g, 0, none⟩ 0 0 [] (by simp) (by simp) ad Y.length cx (Y.flatMap C) (by rw [hlen, hz1]) (hu.cells hC) (by omega) (by omega) hfit
      rw [Nat.zero_add] at hrun
      unfold Oper.wp execOp
      simp only [ho, resolve, invoke, builtin, Sem.run_bind, Sem.run_pure, Result.andThen_ok, List.map_toArray, List.map_cons, List.map_nil, hs, hx, hrun]
      refine h _ _ ⟨hlen, Or.inr ⟨w.heap.size, _, _, rfl, hb, heap_alloc_new w.drew _, grownCap_ge _ _ _ _, grownCap_le_maxLen _ _ _ _ (by unfold maxLen; omega), ?_, ?_⟩⟩ ((On.refl w).drew.alloc _)
      · have hge := grownCap_ge w Y.length 0 T
        simp only [Array.size_append, List.size_toArray, size_zeroCells, E.cells, hlen, List.length_nil, Nat.zero_add, ← Nat.add_mul]
        rw [Nat.add_sub_cancel' hge]
      · simp only [Array.toList_append, List.nil_append]
        rw [List.take_append_of_le_length (by rw [hlen]; exact Nat.le_refl _), List.take_of_length_le (by rw [hlen]; exact Nat.le_refl _)]
/-- A row that is read, put behind a row of the call's own. -/
theorem wp_append_rdG {o : Oper} {a : Act} {w : World} {K : Act → World → Prop} {Q : Exit → Act → World → Prop} (E : ElT TL T k by_ z) (hC : ∀ x, (C x).length = k) (s x : Operand)
    (ho : o.op = .call { callee := .builtin .append, args := #[s, x], argTypes := #[TL, TL] }) {base : Nat} {v u : Value} {X Y : List α} (hs : a.eval s = v) (hx : a.eval x = u) (h1 : ∀ u ∈ Y.flatMap C, u.oneCell' = true)
    (hv : w.ownsRow base T k v X.length (X.flatMap C)) (hu : Rd C k w u Y) (hl : X.length + Y.length ≤ 1000000) (hby : by_ ≤ 1000) (hb : base ≤ w.heap.size)
    (h : ∀ v' w', w'.ownsRow base T k v' (X ++ Y).length ((X ++ Y).flatMap C) → w.grownBy w' v.ownBlock → K (a.put o.dst v') w') : o.wp Try.prog a w K Q := by
  obtain ⟨i0, hi, hz0, hz1, hz2⟩ := info_parts E.info
  obtain ⟨ax, cx, rfl, hcx, _⟩ := hu.slice
  cases ax with
  | none =>
    obtain rfl := hu.none_nil
    have hrun : (Builtin.append_ #[TL, TL] o.type #[v, .slice none 0 cx]).run Try.prog w = .ok v w := by
      rcases hv.2 with ⟨rfl, _⟩ | ⟨g, cap, cur, rfl, _, _, hnc, _⟩
      · simp [Builtin.append_, run_underlying E.under, sizeOf, typeInfo, hi, Builtin.lenOf, Builtin.firstCells]
      · simp [Builtin.append_, run_underlying E.under, sizeOf, typeInfo, hi, Builtin.lenOf, Builtin.firstCells, hnc, storeCells]
    unfold Oper.wp
    simp only [List.length_nil] at hx
    simp [execOp, ho, resolve, invoke, builtin, hs, hx, hrun, Result.andThen]
    exact h v w (by simpa using hv) (World.grownBy.refl _ _)
  | some ad =>
    have hbm : (X.length + Y.length) * by_ ≤ 140737488355328 := by have := Nat.mul_le_mul hl hby; omega
    refine wp_append_own w s x TL ho base T i0 z k by_ E.under hi hz0 hz1 hz2 E.cells E.pos v X.length _ hs hv ad Y.length cx (Y.flatMap C) hx (flat_lenC hC Y) (hu.cells hC) h1 (by unfold maxLen; omega) hbm hb fun v' w' h1 h2 _ => h v' w' (by rw [List.length_append, List.flatMap_append]; exact h1) h2
/-- A new row of nothing, of one. -/
theorem own_empty (w : World) (T : TypeId) (k base : Nat) (hb : base ≤ w.heap.size) : (w.alloc (.cells #[] T)).ownsRow base T k (.slice (some ⟨w.heap.size, 0, none⟩) 0 0) 0 [] := by
  have := World.ownsRow_made (base := base) (e := T) (size := k) w #[] 0 hb (Nat.zero_le _) (by simp)
  simpa using this
end
end Go.Proofs.Ytnoeofbjnogkmaa
