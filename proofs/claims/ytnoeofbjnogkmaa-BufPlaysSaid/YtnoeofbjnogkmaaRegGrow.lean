/- A state of a drawn region with several ways on, each of which leaves all that was there and makes something that is known by a fact: all orders at once. -/
import Derived.Test.YtnoeofbjnogkmaaRegMix
namespace Go.Proofs.Ytnoeofbjnogkmaa
open Go.RowKit

section
variable {P : Program} {ops : Array Oper} {Q : Exit → Act → World → Prop} {md : Region.Mode} {S : World → Prop} {Z : List Nat}
/-- Whatever of A is done, all that it waits for is done. -/
def closB (md : Region.Mode) (ops : Array Oper) (A : List Nat) (l : Array Bool) : Bool :=
  A.all fun i => !(l.getD i false) || (match ops[i]? with | some o => o.after.all fun e => !(Region.binds md e) || l.getD e.on false | none => true)
def openC (md : Region.Mode) (ops : Array Oper) (A : List Nat) (fin : Array Bool) (l : Array Bool) : Bool := !(closB md ops A l) || openB md ops A fin l
theorem getD_keep {l : Array Bool} {i j : Nat} (h : l.getD j false = true) : (l.setIfInBounds i true).getD j false = true := by
  by_cases e : j = i
  · subst e
    have hlt : j < l.size := by
      unfold Array.getD at h
      split at h
      · assumption
      · cases h
    simp [Array.getD_eq_getD_getElem?, hlt]
  · rw [← h]
    simp [Array.getD_eq_getD_getElem?, Ne.symm e]
theorem clos_set {A : List Nat} {l : Array Bool} {i : Nat} (h : closB md ops A l = true) (hi : i ∈ Region.ready md ops l) : closB md ops A (l.setIfInBounds i true) = true := by
  unfold closB at h ⊢
  rw [List.all_eq_true] at h ⊢
  intro j hj
  have hj' := h j hj
  obtain ⟨_, o, ho, hall⟩ := mem_ready.1 hi
  by_cases e : j = i
  · subst e
    rw [ho]
    simp only [Bool.or_eq_true, Array.all_eq_true']
    refine Or.inr fun x hx => ?_
    cases hb : Region.binds md x with
    | true => exact Or.inr (getD_keep (hall x hx hb))
    | false => exact Or.inl rfl
  · have e2 : (l.setIfInBounds i true).getD j false = l.getD j false := by simp [Array.getD_eq_getD_getElem?, Ne.symm e]
    rw [e2]
    simp only [Bool.or_eq_true] at hj' ⊢
    rcases hj' with h1 | h1
    · exact Or.inl h1
    · refine Or.inr ?_
      cases hq : ops[j]? with
      | none => rfl
      | some q =>
        rw [hq] at h1
        simp only [Array.all_eq_true', Bool.or_eq_true] at h1 ⊢
        exact fun x hx => (h1 x hx).imp id getD_keep
theorem fz_setC (A : List Nat) (hA : A.Nodup) (fin l0 : Array Bool) (J : Array Bool → Act → World → Prop)
    (hstep : ∀ l a w i, i ∈ A → i ∈ Region.ready md ops l → J l a w → wpOp P ops Q i (fun a' w' => (i ∉ Z → S w') ∧ J (l.setIfInBounds i true) a' w') a w)
    (n : Nat) (hend : ∀ a w, J fin a w → wpFz P md ops Q S Z n fin a w) (hsub : allSub (openC md ops A fin) A l0 = true) :
    ∀ (k : Nat) (d : Nat → Bool) (a : Act) (w : World), (A.filter fun j => !((markL d A l0).getD j false)).length = k → closB md ops A (markL d A l0) = true → J (markL d A l0) a w → wpFz P md ops Q S Z (n + k) (markL d A l0) a w
  | 0, d, a, w, hk, hcl, hj => by
    have ho := allSub_mark _ d A l0 hsub
    unfold openC at ho
    rw [hcl] at ho
    replace ho : openB md ops A fin (markL d A l0) = true := by simpa using ho
    unfold openB at ho
    have hall : A.all (fun i => (markL d A l0).getD i false) = true := by
      rw [List.all_eq_true]
      intro i hi
      cases h : (markL d A l0).getD i false with
      | true => rfl
      | false =>
        have : i ∈ A.filter fun j => !((markL d A l0).getD j false) := List.mem_filter.2 ⟨hi, by rw [h]; rfl⟩
        rw [List.eq_nil_of_length_eq_zero hk] at this
        simp at this
    rw [if_pos hall] at ho
    have e : markL d A l0 = fin := by simpa using ho
    rw [e] at hj ⊢
    exact hend a w hj
  | k + 1, d, a, w, hk, hcl, hj => by
    have ho := allSub_mark _ d A l0 hsub
    unfold openC at ho
    rw [hcl] at ho
    replace ho : openB md ops A fin (markL d A l0) = true := by simpa using ho
    unfold openB at ho
    have hnall : ¬ A.all (fun i => (markL d A l0).getD i false) = true := fun h => by
      have : A.filter (fun j => !((markL d A l0).getD j false)) = [] := List.filter_eq_nil_iff.2 fun i hi => by rw [List.all_eq_true.1 h i hi]; simp
      rw [this] at hk
      cases hk
    rw [if_neg hnall, Bool.and_eq_true, List.all_eq_true] at ho
    obtain ⟨hne, hall⟩ := ho
    refine ⟨fun h0 => ?_, fun i hi => ?_⟩
    · rw [h0] at hne
      cases hne
    · have h1 : i ∈ A := by simpa using hall i hi
      have hun := (mem_ready.1 hi).1
      have hc := count_set hun A hA h1
      have em := mark_set d i A l0 hA h1
      have hcl2 := clos_set hcl hi
      refine wpOp_mono (fun a' w' h' => ⟨h'.1, ?_⟩) (hstep _ a w i h1 hi hj)
      rw [em] at h' hc hcl2 ⊢
      exact fz_setC A hA fin l0 J hstep n hend hsub k _ a' w' (by omega) hcl2 h'.2
/-- What is known of the slots in between. -/
structure Gr (T : List (Nat × Tmp × Option Value)) (F : Nat → Value → World → Prop) (w0 : World) (p : Nat → Option Value) (l : Array Bool) (w : World) : Prop where
  done : ∀ x ∈ T, l.getD x.1 false = true → (p x.1).isSome = true
  fact : ∀ x ∈ T, ∀ u, p x.1 = some u → F x.1 u w
  on : On w0 w
theorem Gr.get {T : List (Nat × Tmp × Option Value)} {F : Nat → Value → World → Prop} {w0 : World} {p : Nat → Option Value} {l : Array Bool} {w : World} (h : Gr T F w0 p l w) {x : Nat × Tmp × Option Value} (hx : x ∈ T) (hl : l.getD x.1 false = true) : ∃ u, p x.1 = some u ∧ F x.1 u w := by
  obtain ⟨u, hu⟩ := Option.isSome_iff_exists.1 (h.done x hx hl)
  exact ⟨u, hu, h.fact x hx u hu⟩
theorem fz_grow (T : List (Nat × Tmp × Option Value)) (F : Nat → Value → World → Prop) (fin : Array Bool) (k n : Nat) {l : Array Bool} {a : Act} {w : World}
    (h1 : (T.map (·.1)).Nodup) (h2 : (T.map (·.2.1)).Nodup) (hl : ∀ x ∈ T, l.getD x.1 false = false) (ha : putsA T (fun _ => none) a = a)
    (hSon : ∀ w w', S w → On w w' → S w') (hS : S w) (hF : ∀ i v w w', F i v w → On w w' → F i v w')
    (hcl : allSub (openC md ops (T.map (·.1)) fin) (T.map (·.1)) l = true) (hk : ((T.map (·.1)).filter fun j => !(l.getD j false)).length = k)
    (hop : ∀ i d c, (i, d, c) ∈ T → ∃ o, ops[i]? = some o ∧ o.guard = none ∧ ∀ p w' (l' : Array Bool) (K : Act → World → Prop), i ∈ Region.ready md ops l' → Gr T F w p l' w' → S w' → (∀ v w'', On w' w'' → F i v w'' → K ((putsA T p a).put (some d) v) w'') → o.wp P (putsA T p a) w' K Q)
    (hend : ∀ p w', Gr T F w p fin w' → S w' → wpFz P md ops Q S Z n fin (putsA T p a) w') : wpFz P md ops Q S Z (n + k) l a w := by
  have em : ∀ (A : List Nat) (l : Array Bool), markL (fun _ => false) A l = l := by
    intro A
    induction A with
    | nil => intro _; rfl
    | cons i A ih => intro l; exact ih l
  have main := fz_setC (P := P) (ops := ops) (Q := Q) (md := md) (S := S) (Z := Z) (T.map (·.1)) h1 fin l (fun l' a' w' => ∃ p, a' = putsA T p a ∧ Gr T F w p l' w' ∧ S w') ?_ n ?_ hcl k (fun _ => false) a w (by rw [em]; exact hk) (by
    rw [em]
    unfold closB
    rw [List.all_eq_true]
    intro i hi
    obtain ⟨x, hx, rfl⟩ := List.mem_map.1 hi
    rw [hl x hx]
    rfl) (by rw [em]; exact ⟨fun _ => none, ha.symm, ⟨fun x hx h => (by rw [hl x hx] at h; cases h), fun _ _ _ h => (by cases h), On.refl w⟩, hS⟩)
  · rw [em] at main
    exact main
  · rintro l' a' w' i hi hready ⟨p, rfl, hm, hs⟩
    obtain ⟨⟨i', d, c⟩, hx, rfl⟩ := List.mem_map.1 hi
    obtain ⟨o, ho1, ho4, ho⟩ := hop i' d c hx
    unfold wpOp
    simp only [ho1]
    rw [if_pos (by simp [Region.wanted, ho4])]
    refine Or.inl (ho p w' l' _ hready hm hs fun v w'' k hv => ?_)
    refine ⟨fun _ => hSon _ _ hs k, updP p i' v, putsA_put p i' d c v T a h1 h2 hx, ⟨fun x hx' h => ?_, fun x hx' u hu => ?_, hm.on.trans k⟩, hSon _ _ hs k⟩
    · unfold updP
      by_cases e : x.1 = i'
      · rw [if_pos e]; rfl
      · rw [if_neg e]
        rcases getD_self h with h | h
        · exact absurd h e
        · exact hm.done x hx' h
    · unfold updP at hu
      by_cases e : x.1 = i'
      · rw [if_pos e] at hu
        obtain rfl := Option.some.inj hu
        rw [e]
        exact hv
      · rw [if_neg e] at hu
        exact hF _ _ _ _ (hm.fact x hx' u hu) k
  · rintro a' w' ⟨p, rfl, hm, hs⟩
    exact hend p w' hm hs
end
end Go.Proofs.Ytnoeofbjnogkmaa
