/- A state of a drawn region with several ways on, each of which leaves all that was there and makes something that is known by a fact: all orders at once. -/
import Derived.Test.YtplihlmejnohnaaGreatDoorJ31RegMix
import Derived.Test.YtplihlmejnohnaaGreatDoorJ02OwnR
import Derived.Laws.OwnMore
namespace Go.Proofs.YtplihlmejnohnaaGreatDoor
open Go.RowKit

section
variable {P : Program} {ops : Array Oper} {Q : Exit → Act → World → Prop} {md : Region.Mode} {S : World → Prop} {Z : List Nat}
/-- Whatever of A is done, all that it waits for is done. -/
def closB (md : Region.Mode) (ops : Array Oper) (A : List Nat) (l : Array Bool) : Bool :=
  A.all fun i => !(l.getD i false) || (match ops[i]? with | some o => o.after.all fun e => !(Region.binds md e) || l.getD e.on false | none => true)
def openC (md : Region.Mode) (ops : Array Oper) (A : List Nat) (fin : Array Bool) (l : Array Bool) : Bool := !(closB md ops A l) || openB md ops A fin l
theorem getD_keep {l : Array Bool} {i j : Nat} (h : l.getD j false = true) : (l.setIfInBounds i true).getD j false = true := by
  by_cases e : j = i
  · subst e
    have hlt : j < l.size := by
      unfold Array.getD at h
      split at h
      · assumption
      · cases h
    simp [Array.getD_eq_getD_getElem?, hlt]
  · rw [← h]
    simp [Array.getD_eq_getD_getElem?, Ne.symm e]
theorem clos_set {A : List Nat} {l : Array Bool} {i : Nat} (h : closB md ops A l = true) (hi : i ∈ Region.ready md ops l) : closB md ops A (l.setIfInBounds i true) = true := by
  unfold closB at h ⊢
  rw [List.all_eq_true] at h ⊢
  intro j hj
  have hj' := h j hj
  obtain ⟨_, o, ho, hall⟩ := mem_ready.1 hi
  by_cases e : j = i
  · subst e
    rw [ho]
    simp only [Bool.or_eq_true, Array.all_eq_true']
    refine Or.inr fun x hx => ?_
    cases hb : Region.binds md x with
    | true => exact Or.inr (getD_keep (hall x hx hb))
    | false => exact Or.inl rfl
  · have e2 : (l.setIfInBounds i true).getD j false = l.getD j false := by simp [Array.getD_eq_getD_getElem?, Ne.symm e]
    rw [e2]
    simp only [Bool.or_eq_true] at hj' ⊢
    rcases hj' with h1 | h1
    · exact Or.inl h1
    · refine Or.inr ?_
      cases hq : ops[j]? with
      | none => rfl
      | some q =>
        rw [hq] at h1
        simp only [Array.all_eq_true', Bool.or_eq_true] at h1 ⊢
        exact fun x hx => (h1 x hx).imp id getD_keep
theorem fz_setC (A : List Nat) (hA : A.Nodup) (fin l0 : Array Bool) (J : Array Bool → Act → World → Prop)
    (hstep : ∀ l a w i, i ∈ A → i ∈ Region.ready md ops l → J l a w → wpOp P ops Q i (fun a' w' => (i ∉ Z → S w') ∧ J (l.setIfInBounds i true) a' w') a w)
    (n : Nat) (hend : ∀ a w, J fin a w → wpFz P md ops Q S Z n fin a w) (hsub : allSub (openC md ops A fin) A l0 = true) :
    ∀ (k : Nat) (d : Nat → Bool) (a : Act) (w : World), (A.filter fun j => !((markL d A l0).getD j false)).length = k → closB md ops A (markL d A l0) = true → J (markL d A l0) a w → wpFz P md ops Q S Z (n + k) (markL d A l0) a w
  | 0, d, a, w, hk, hcl, hj => by
    have ho := allSub_mark _ d A l0 hsub
    unfold openC at ho
    rw [hcl] at ho
    replace ho : openB md ops A fin (markL d A l0) = true := by simpa using ho
    unfold openB at ho
    have hall : A.all (fun i => (markL d A l0).getD i false) = true := by
      rw [List.all_eq_true]
      intro i hi
      cases h : (markL d A l0).getD i false with
      | true => rfl
      | false =>
        have : i ∈ A.filter fun j => !((markL d A l0).getD j false) := List.mem_filter.2 ⟨hi, by rw [h]; rfl⟩
        rw [List.eq_nil_of_length_eq_zero hk] at this
        simp at this
    rw [if_pos hall] at ho
    have e : markL d A l0 = fin := by simpa using ho
    rw [e] at hj ⊢
    exact hend a w hj
  | k + 1, d, a, w, hk, hcl, hj => by
    have ho := allSub_mark _ d A l0 hsub
    unfold openC at ho
    rw [hcl] at ho
    replace ho : openB md ops A fin (markL d A l0) = true := by simpa using ho
    unfold openB at ho
    have hnall : ¬ A.all (fun i => (markL d A l0).getD i false) = true := fun h => by
      have : A.filter (fun j => !((markL d A l0).getD j false)) = [] := List.filter_eq_nil_iff.2 fun i hi => by rw [List.all_eq_true.1 h i hi]; simp
      rw [this] at hk
      cases hk
    rw [if_neg hnall, Bool.and_eq_true, List.all_eq_true] at ho
    obtain ⟨hne, hall⟩ := ho
    refine ⟨fun h0 => ?_, fun i hi => ?_⟩
    · rw [h0] at hne
      cases hne
    · have h1 : i ∈ A := by simpa using hall i hi
      have hun := (mem_ready.1 hi).1
      have hc := count_set hun A hA h1
      have em := mark_set d i A l0 hA h1
      have hcl2 := clos_set hcl hi
      refine wpOp_mono (fun a' w' h' => ⟨h'.1, ?_⟩) (hstep _ a w i h1 hi hj)
      rw [em] at h' hc hcl2 ⊢
      exact fz_setC A hA fin l0 J hstep n hend hsub k _ a' w' (by omega) hcl2 h'.2
/-- What is known of the slots in between. -/
structure Gr (T : List (Nat × Tmp × Option Value)) (F : Nat → Value → World → Prop) (w0 : World) (p : Nat → Option Value) (l : Array Bool) (w : World) : Prop where
  done : ∀ x ∈ T, l.getD x.1 false = true → (p x.1).isSome = true
  fact : ∀ x ∈ T, ∀ u, p x.1 = some u → F x.1 u w
  on : On w0 w
theorem Gr.get {T : List (Nat × Tmp × Option Value)} {F : Nat → Value → World → Prop} {w0 : World} {p : Nat → Option Value} {l : Array Bool} {w : World} (h : Gr T F w0 p l w) {x : Nat × Tmp × Option Value} (hx : x ∈ T) (hl : l.getD x.1 false = true) : ∃ u, p x.1 = some u ∧ F x.1 u w := by
  obtain ⟨u, hu⟩ := Option.isSome_iff_exists.1 (h.done x hx hl)
  exact ⟨u, hu, h.fact x hx u hu⟩
theorem fz_grow (T : List (Nat × Tmp × Option Value)) (F : Nat → Value → World → Prop) (fin : Array Bool) (k n : Nat) {l : Array Bool} {a : Act} {w : World}
    (h1 : (T.map (·.1)).Nodup) (h2 : (T.map (·.2.1)).Nodup) (hl : ∀ x ∈ T, l.getD x.1 false = false) (ha : putsA T (fun _ => none) a = a)
    (hSon : ∀ w w', S w → On w w' → S w') (hS : S w) (hF : ∀ i v w w', F i v w → On w w' → F i v w')
    (hcl : allSub (openC md ops (T.map (·.1)) fin) (T.map (·.1)) l = true) (hk : ((T.map (·.1)).filter fun j => !(l.getD j false)).length = k)
    (hop : ∀ i d c, (i, d, c) ∈ T → ∃ o, ops[i]? = some o ∧ o.guard = none ∧ ∀ p w' (l' : Array Bool) (K : Act → World → Prop), i ∈ Region.ready md ops l' → Gr T F w p l' w' → S w' → (∀ v w'', On w' w'' → F i v w'' → K ((putsA T p a).put (some d) v) w'') → o.wp P (putsA T p a) w' K Q)
    (hend : ∀ p w', Gr T F w p fin w' → S w' → wpFz P md ops Q S Z n fin (putsA T p a) w') : wpFz P md ops Q S Z (n + k) l a w := by
  have em : ∀ (A : List Nat) (l : Array Bool), markL (fun _ => false) A l = l := by
    intro A
    induction A with
    | nil => intro _; rfl
    | cons i A ih => intro l; exact ih l
  have main := fz_setC (P := P) (ops := ops) (Q := Q) (md := md) (S := S) (Z := Z) (T.map (·.1)) h1 fin l (fun l' a' w' => ∃ p, a' = putsA T p a ∧ Gr T F w p l' w' ∧ S w') ?_ n ?_ hcl k (fun _ => false) a w (by rw [em]; exact hk) (by
    rw [em]
    unfold closB
    rw [List.all_eq_true]
    intro i hi
    obtain ⟨x, hx, rfl⟩ := List.mem_map.1 hi
    rw [hl x hx]
    rfl) (by rw [em]; exact ⟨fun _ => none, ha.symm, ⟨fun x hx h => (by rw [hl x hx] at h; cases h), fun _ _ _ h => (by cases h), On.refl w⟩, hS⟩)
  · rw [em] at main
    exact main
  · rintro l' a' w' i hi hready ⟨p, rfl, hm, hs⟩
    obtain ⟨⟨i', d, c⟩, hx, rfl⟩ := List.mem_map.1 hi
    obtain ⟨o, ho1, ho4, ho⟩ := hop i' d c hx
    unfold wpOp
    simp only [ho1]
    rw [if_pos (by simp [Region.wanted, ho4])]
    refine Or.inl (ho p w' l' _ hready hm hs fun v w'' k hv => ?_)
    refine ⟨fun _ => hSon _ _ hs k, updP p i' v, putsA_put p i' d c v T a h1 h2 hx, ⟨fun x hx' h => ?_, fun x hx' u hu => ?_, hm.on.trans k⟩, hSon _ _ hs k⟩
    · unfold updP
      by_cases e : x.1 = i'
      · rw [if_pos e]; rfl
      · rw [if_neg e]
        rcases getD_self h with h | h
        · exact absurd h e
        · exact hm.done x hx' h
    · unfold updP at hu
      by_cases e : x.1 = i'
      · rw [if_pos e] at hu
        obtain rfl := Option.some.inj hu
        rw [e]
        exact hv
      · rw [if_neg e] at hu
        exact hF _ _ _ _ (hm.fact x hx' u hu) k
  · rintro a' w' ⟨p, rfl, hm, hs⟩
    exact hend p w' hm hs
end
end Go.Proofs.YtplihlmejnohnaaGreatDoor

namespace Go.Proofs.YtplihlmejnohnaaGreatDoor
open Go.RowKit

/-- What is asked of an element's type. -/
structure ElT (TL T : TypeId) (k by_ : Nat) (z : Value) : Prop where
  under : Tryz.prog.underlying TL = some (.slice T)
  info : (Tryz.prog.info? T).map (fun i => (i.zero, i.size, i.bytes)) = some (some z, k, by_)
  cells : z.cells.size = k
  pos : 0 < k
section
variable {α : Type} {C : α → List Value} {k by_ : Nat} {TL T : TypeId} {z : Value}
theorem flat_lenC (hC : ∀ x, (C x).length = k) (Y : List α) : (Y.flatMap C).length = Y.length * k := by
  induction Y with
  | nil => simp
  | cons y Y ih => rw [List.flatMap_cons, List.length_append, ih, hC, List.length_cons, Nat.succ_mul]; omega
theorem flat_oneC (h1 : ∀ x, ∀ u ∈ C x, u.oneCell' = true) (Y : List α) : ∀ u ∈ Y.flatMap C, u.oneCell' = true := by
  intro u hu
  obtain ⟨y, _, hu⟩ := List.mem_flatMap.1 hu
  exact h1 y u hu
theorem Rd.cells {w : World} {ad : Addr} {n c : Nat} {Y : List α} (hC : ∀ x, (C x).length = k) (h : Rd C k w (.slice (some ad) n c) Y) : ∀ j u, (Y.flatMap C)[j]? = some u → w.cell? (ad.add j) = some u := by
  intro j u hj
  have hlt := (List.getElem?_eq_some_iff.1 hj).1
  rw [flat_lenC hC] at hlt
  have hk : 0 < k := by
    rcases Nat.eq_zero_or_pos k with h0 | h0
    · rw [h0] at hlt; omega
    · exact h0
  have hq : j / k < Y.length := Nat.div_lt_of_lt_mul (by rw [Nat.mul_comm]; exact hlt)
  have hm := Nat.mod_lt j hk
  obtain ⟨a, c', hv, _, _, hr⟩ := h
  obtain ⟨g, off, ha, _, hcell⟩ := hr (Nat.lt_of_le_of_lt (Nat.zero_le _) hq)
  simp only [Value.slice.injEq] at hv
  obtain ⟨rfl, _, _⟩ := hv
  obtain rfl := Option.some.inj ha
  have hd : j / k * k + j % k = j := by rw [Nat.mul_comm]; exact Nat.div_add_mod j k
  have hf := flat_at C k hC Y (j / k) (j % k) Y[j / k] (List.getElem?_eq_getElem hq) hm
  rw [hd, hj] at hf
  have := hcell (j / k) Y[j / k] (j % k) u (List.getElem?_eq_getElem hq) hf.symm
  rw [Addr.add_lit, ← this, Nat.add_assoc, hd]
theorem Rd.len {w : World} {a : Option Addr} {n c : Nat} {Y : List α} (h : Rd C k w (.slice a n c) Y) : n = Y.length := by
  obtain ⟨_, _, hv, _⟩ := h
  simp only [Value.slice.injEq] at hv
  exact hv.2.1
theorem Rd.none_nil {w : World} {n c : Nat} {Y : List α} (h : Rd C k w (.slice none n c) Y) : Y = [] := by
  cases Y with
  | nil => rfl
  | cons y Y =>
    obtain ⟨_, _, hv, _, _, hr⟩ := h
    simp only [Value.slice.injEq] at hv
    obtain ⟨g, off, ha, _⟩ := hr (by simp)
    rw [← hv.1] at ha
    cases ha
/-- Put behind a row that has nothing and no room: what was there stands. -/
theorem wp_append_new {o : Oper} {a : Act} {w : World} {K : Act → World → Prop} {Q : Exit → Act → World → Prop} (E : ElT TL T k by_ z) (hC : ∀ x, (C x).length = k) (s x : Operand)
    (ho : o.op = .call { callee := .builtin .append, args := #[s, x], argTypes := #[TL, TL] }) {base g : Nat} {Y : List α} {v : Value} (hs : a.eval s = .slice (some ⟨g, 0, none⟩) 0 0) (hx : a.eval x = v)
    (hE : w.ownsRow base T k (.slice (some ⟨g, 0, none⟩) 0 0) 0 []) (hu : Rd C k w v Y) (hl : Y.length ≤ 1000000) (hby : by_ ≤ 1000) (hb : base ≤ w.heap.size)
    (h : ∀ v' w', w'.ownsRow base T k v' Y.length (Y.flatMap C) → On w w' → K (a.put o.dst v') w') : o.wp Tryz.prog a w K Q := by
  obtain ⟨i0, hi, hz0, hz1, hz2⟩ := info_parts E.info
  obtain ⟨ax, cx, rfl, hcx, _⟩ := hu.slice
  cases ax with
  | none =>
    obtain rfl := hu.none_nil
    have hrun : (Builtin.append_ #[TL, TL] o.type #[.slice (some ⟨g, 0, none⟩) 0 0, .slice none 0 cx]).run Tryz.prog w = .ok (.slice (some ⟨g, 0, none⟩) 0 0) w := by
      simp [Builtin.append_, run_underlying E.under, sizeOf, typeInfo, hi, Builtin.lenOf, Builtin.firstCells, storeCells]
    unfold Oper.wp
    simp only [List.length_nil] at hx
    simp [execOp, ho, resolve, invoke, builtin, hs, hx, hrun, Result.andThen]
    exact h _ w (by simpa using hE) (On.refl w)
  | some ad =>
    by_cases h0 : Y.length = 0
    · obtain rfl := List.eq_nil_of_length_eq_zero h0
      have hl0 : (loadCells ad 0).run Tryz.prog w = .ok #[] w := by simpa using run_loadCells_list (P := Tryz.prog) w ad [] (by simp)
      have hrun : (Builtin.append_ #[TL, TL] o.type #[.slice (some ⟨g, 0, none⟩) 0 0, .slice (some ad) 0 cx]).run Tryz.prog w = .ok (.slice (some ⟨g, 0, none⟩) 0 0) w := by
        simp [Builtin.append_, run_underlying E.under, sizeOf, typeInfo, hi, Builtin.lenOf, Builtin.firstCells, storeCells, hl0]
      unfold Oper.wp
      simp only [List.length_nil] at hx
      simp [execOp, ho, resolve, invoke, builtin, hs, hx, hrun, Result.andThen]
      exact h _ w (by simpa using hE) (On.refl w)
    · have hlen : (Y.flatMap C).length = Y.length * k := flat_lenC hC Y
      have hfit : Builtin.nextslicecap (0 + Y.length) 0 * i0.bytes ≤ 281474976710656 := growslice_fits (by omega) (by rw [hz2, Nat.zero_add]; have := Nat.mul_le_mul hl hby; omega)
      have hrun := run_append_grow (P := Tryz.prog) w TL o.type T i0 z E.under hi hz0 ⟨g, 0, none⟩ 0 0 [] (by simp) (by simp) ad Y.length cx (Y.flatMap C) (by rw [hlen, hz1]) (hu.cells hC) (by omega) (by omega) hfit
      rw [Nat.zero_add] at hrun
      unfold Oper.wp execOp
      simp only [ho, resolve, invoke, builtin, Sem.run_bind, Sem.run_pure, Result.andThen_ok, List.map_toArray, List.map_cons, List.map_nil, hs, hx, hrun]
      refine h _ _ ⟨hlen, Or.inr ⟨w.heap.size, _, _, rfl, hb, heap_alloc_new w.drew _, grownCap_ge _ _ _ _, grownCap_le_maxLen _ _ _ _ (by unfold maxLen; omega), ?_, ?_⟩⟩ ((On.refl w).drew.alloc _)
      · have hge := grownCap_ge w Y.length 0 T
        simp only [Array.size_append, List.size_toArray, size_zeroCells, E.cells, hlen, List.length_nil, Nat.zero_add, ← Nat.add_mul]
        rw [Nat.add_sub_cancel' hge]
      · simp only [Array.toList_append, List.nil_append]
        rw [List.take_append_of_le_length (by rw [hlen]; exact Nat.le_refl _), List.take_of_length_le (by rw [hlen]; exact Nat.le_refl _)]
/-- A row that is read, put behind a row of the call's own. -/
theorem wp_append_rdG {o : Oper} {a : Act} {w : World} {K : Act → World → Prop} {Q : Exit → Act → World → Prop} (E : ElT TL T k by_ z) (hC : ∀ x, (C x).length = k) (s x : Operand)
    (ho : o.op = .call { callee := .builtin .append, args := #[s, x], argTypes := #[TL, TL] }) {base : Nat} {v u : Value} {X Y : List α} (hs : a.eval s = v) (hx : a.eval x = u) (h1 : ∀ u ∈ Y.flatMap C, u.oneCell' = true)
    (hv : w.ownsRow base T k v X.length (X.flatMap C)) (hu : Rd C k w u Y) (hl : X.length + Y.length ≤ 1000000) (hby : by_ ≤ 1000) (hb : base ≤ w.heap.size)
    (h : ∀ v' w', w'.ownsRow base T k v' (X ++ Y).length ((X ++ Y).flatMap C) → w.grownBy w' v.ownBlock → K (a.put o.dst v') w') : o.wp Tryz.prog a w K Q := by
  obtain ⟨i0, hi, hz0, hz1, hz2⟩ := info_parts E.info
  obtain ⟨ax, cx, rfl, hcx, _⟩ := hu.slice
  cases ax with
  | none =>
    obtain rfl := hu.none_nil
    have hrun : (Builtin.append_ #[TL, TL] o.type #[v, .slice none 0 cx]).run Tryz.prog w = .ok v w := by
      rcases hv.2 with ⟨rfl, _⟩ | ⟨g, cap, cur, rfl, _, _, hnc, _⟩
      · simp [Builtin.append_, run_underlying E.under, sizeOf, typeInfo, hi, Builtin.lenOf, Builtin.firstCells]
      · simp [Builtin.append_, run_underlying E.under, sizeOf, typeInfo, hi, Builtin.lenOf, Builtin.firstCells, hnc, storeCells]
    unfold Oper.wp
    simp only [List.length_nil] at hx
    simp [execOp, ho, resolve, invoke, builtin, hs, hx, hrun, Result.andThen]
    exact h v w (by simpa using hv) (World.grownBy.refl _ _)
  | some ad =>
    have hbm : (X.length + Y.length) * by_ ≤ 140737488355328 := by have := Nat.mul_le_mul hl hby; omega
    refine wp_append_own w s x TL ho base T i0 z k by_ E.under hi hz0 hz1 hz2 E.cells E.pos v X.length _ hs hv ad Y.length cx (Y.flatMap C) hx (flat_lenC hC Y) (hu.cells hC) h1 (by unfold maxLen; omega) hbm hb fun v' w' h1 h2 _ => h v' w' (by rw [List.length_append, List.flatMap_append]; exact h1) h2
/-- A new row of nothing, of one. -/
theorem own_empty (w : World) (T : TypeId) (k base : Nat) (hb : base ≤ w.heap.size) : (w.alloc (.cells #[] T)).ownsRow base T k (.slice (some ⟨w.heap.size, 0, none⟩) 0 0) 0 [] := by
  have := World.ownsRow_made (base := base) (e := T) (size := k) w #[] 0 hb (Nat.zero_le _) (by simp)
  simpa using this
end
theorem elInt : ElT 22 3 1 8 (.int .i64 0) := ⟨Tryz.underlying22, by kernel_rfl, rfl, by decide⟩
end Go.Proofs.YtplihlmejnohnaaGreatDoor
