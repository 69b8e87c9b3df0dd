/- A region that draws its order and has several operations at its end that write what it reads; a state with several ways on. -/
import Derived.Test.YtnoeofbjnogkmaaRegFin2
namespace Go.Proofs.Ytnoeofbjnogkmaa
open Go.RowKit

section
variable {P : Program} {ops : Array Oper} {Q : Exit → Act → World → Prop} {md : Region.Mode} {S : World → Prop} {Z : List Nat}

/-- Whatever order is picked from here on, and S holds behind every operation but those of Z. -/
def wpFz (P : Program) (md : Region.Mode) (ops : Array Oper) (Q : Exit → Act → World → Prop) (S : World → Prop) (Z : List Nat) : Nat → Array Bool → Act → World → Prop
  | 0, listed, a, w => Region.ready md ops listed = [] ∧ Q .normal a w
  | n + 1, listed, a, w =>
    (Region.ready md ops listed = [] → Q .normal a w) ∧
    ∀ i ∈ Region.ready md ops listed, wpOp P ops Q i (fun a' w' => (i ∉ Z → S w') ∧ wpFz P md ops Q S Z n (listed.setIfInBounds i true) a' w') a w
theorem any_of_fz : ∀ (n : Nat) (listed : Array Bool) (a : Act) (w : World), wpFz P md ops Q S Z n listed a w → wpAny P md ops Q n listed a w
  | 0, _, _, _, h => h
  | n + 1, _, _, _, h => ⟨h.1, fun i hi => wpOp_mono (fun a' w' h' => any_of_fz n _ a' w' h'.2) (h.2 i hi)⟩
/-- Number z comes behind number i: it waits for it, or for one that waits for it and has not been. -/
def lateB (md : Region.Mode) (ops : Array Oper) (listed : Array Bool) (i z : Nat) : Bool :=
  waitsB md ops z i || (List.range ops.size).any fun m => waitsB md ops m i && (waitsB md ops z m && (listed.getD m true == false))
theorem late_no {listed : Array Bool} {i z : Nat} (h : lateB md ops listed i z = true) (hi : i ∈ Region.ready md ops listed) : z ∉ Region.ready md ops listed := by
  intro hz
  obtain ⟨_, oz, hoz, hall⟩ := mem_ready.1 hz
  unfold lateB at h
  simp only [Bool.or_eq_true, List.any_eq_true, List.mem_range, Bool.and_eq_true, beq_iff_eq] at h
  rcases h with h | ⟨m, hm, _, h2, h3⟩
  · obtain ⟨e, he, hb, heq⟩ := waits_spec h hoz
    exact ready_apart hi hz hoz he hb heq
  · obtain ⟨e, he, hb, heq⟩ := waits_spec h2 hoz
    have h1 : listed.getD m false = true := heq ▸ hall e he hb
    unfold Array.getD at h3 h1
    split at h3
    · rename_i hlt
      rw [dif_pos hlt] at h1
      exact absurd (h3.symm.trans h1) (by decide)
    · cases h3
theorem late_set {listed : Array Bool} {i j z : Nat} (h : lateB md ops listed i z = true) (hi : i ∈ Region.ready md ops listed) (hj : j ∈ Region.ready md ops listed) : lateB md ops (listed.setIfInBounds j true) i z = true := by
  unfold lateB at h ⊢
  simp only [Bool.or_eq_true, List.any_eq_true, List.mem_range, Bool.and_eq_true, beq_iff_eq] at h ⊢
  rcases h with h | ⟨m, hm, h1, h2, h3⟩
  · exact Or.inl h
  · refine Or.inr ⟨m, hm, h1, h2, ?_⟩
    have hne : j ≠ m := by
      rintro rfl
      obtain ⟨_, oj, hoj, _⟩ := mem_ready.1 hj
      obtain ⟨e, he, hb, heq⟩ := waits_spec h1 hoj
      exact ready_apart hi hj hoj he hb heq
    exact (getD_set_ne true hne).trans h3
theorem fz_first {i : Nat} {oi : Oper} {v : Value} (hi : ops[i]? = some oi) (hsel : ∀ (j : Nat) (o : Oper) cs b, ops[j]? = some o → o.op ≠ .select cs b)
    (hQ : ∀ c a w, Q (.panic c) (a.put oi.dst v) w → Q (.panic c) a w) :
    ∀ (n : Nat) (listed : Array Bool) (a : Act) (w : World), (∀ z ∈ Z, lateB md ops listed i z = true) → Free md ops i oi listed → i ∈ Region.ready md ops listed → YieldsIf P ops S oi v a → S w →
      wpFz P md ops Q S Z n (listed.setIfInBounds i true) (a.put oi.dst v) w → wpFz P md ops Q S Z (n + 1) listed a w
  | n, listed, a, w, hz, hF, hr, hy, hS, H => by
    refine ⟨fun h => absurd (h ▸ hr) (by simp), fun j hj => ?_⟩
    rcases Decidable.em (j = i) with rfl | hji
    · exact hy.wpOp hi hS ⟨fun _ => hS, H⟩
    obtain ⟨hun, oj, hoj, _⟩ := mem_ready.1 hj
    have hno : ∀ e ∈ oj.after, Region.binds md e = true → e.on ≠ i := fun e he hb => ready_apart hr hj hoj he hb
    have hjz : j ∉ Z := fun hm => late_no (hz j hm) hr hj
    match n, H with
    | 0, H => exact absurd (H.1 ▸ ready_mono hj hji) (by simp)
    | n + 1, H =>
      refine wpOp_mono (fun a' w' k => ⟨k.2.1, ?_⟩) (wpOp_putIf hoj (hF j oj hoj hji hun hno) (fun cs b => hsel i oi cs b hi) (fun cs b => hsel j oj cs b hoj) hQ hy (H.2 j (ready_mono hj hji)))
      exact fz_first hi hsel hQ n _ a' w' (fun z hm => late_set (hz z hm) hr hj) (hF.set hun) (ready_mono hr (Ne.symm hji)) k.1 (k.2.1 hjz) (Array.setIfInBounds_comm true true hji ▸ k.2.2)
theorem at_of_drop {l rest : List Oper} {i : Nat} {oi : Oper} (hi : l.drop i = oi :: rest) : l.toArray[i]? = some oi := by
  rw [List.getElem?_toArray]
  have := congrArg (·[0]?) hi
  simpa using this
theorem fz_take {l rest : List Oper} (i : Nat) {oi : Oper} {v : Value} {n : Nat} {listed : Array Bool} {a : Act} {w : World} (hi : l.drop i = oi :: rest)
    (hs : Region.noSelect l.toArray = true) (hf : Region.free md l.toArray listed i = true) (hr : (Region.ready md l.toArray listed).contains i = true) (hz : (Z.all fun z => lateB md l.toArray listed i z) = true)
    (hQ : ∀ c a w, Q (.panic c) (a.put oi.dst v) w → Q (.panic c) a w) (hg : oi.guard = none) (hy : ∀ w, S w → (execOp a.eval oi).run P w = .ok (.value v) w) (hS : S w)
    (h : wpFz P md l.toArray Q S Z n (listed.setIfInBounds i true) (a.put oi.dst v) w) : wpFz P md l.toArray Q S Z (n + 1) listed a w := by
  have hi' := at_of_drop hi
  exact fz_first hi' (Region.noSelect_spec hs) hQ n listed a w (fun z hm => List.all_eq_true.1 hz z hm) (Region.free_spec hi' hf) (by simpa using hr) (Or.inl ⟨by simp [Region.wanted, hg], hy⟩) hS h
theorem fz_one {l rest : List Oper} (i : Nat) {o : Oper} {n : Nat} {listed : Array Bool} {a : Act} {w : World} (hi : l.drop i = o :: rest) (hg : o.guard = none) (hr : Region.ready md l.toArray listed = [i])
    (h : ∀ K : Act → World → Prop, Hid (∀ a' w', (i ∉ Z → S w') → wpFz P md l.toArray Q S Z n (listed.setIfInBounds i true) a' w' → K a' w') → o.wp P a w K Q) : wpFz P md l.toArray Q S Z (n + 1) listed a w := by
  have hi' := at_of_drop hi
  refine ⟨fun h0 => (by rw [hr] at h0; cases h0), fun j hj => ?_⟩
  rw [hr] at hj
  obtain rfl : j = i := by simpa using hj
  unfold wpOp
  simp only [hi']
  rw [if_pos (by simp [Region.wanted, hg])]
  exact Or.inl (h _ (fun a' w' h1 h2 => ⟨h1, h2⟩))
theorem fz_two {l r1 r2 : List Oper} (i j : Nat) {oi oj : Oper} {n : Nat} {listed : Array Bool} {a : Act} {w : World} (hi : l.drop i = oi :: r1) (hj : l.drop j = oj :: r2) (hgi : oi.guard = none) (hgj : oj.guard = none) (hr : Region.ready md l.toArray listed = [i, j])
    (h1 : ∀ K : Act → World → Prop, Hid (∀ a' w', (i ∉ Z → S w') → wpFz P md l.toArray Q S Z n (listed.setIfInBounds i true) a' w' → K a' w') → oi.wp P a w K Q)
    (h2 : ∀ K : Act → World → Prop, Hid (∀ a' w', (j ∉ Z → S w') → wpFz P md l.toArray Q S Z n (listed.setIfInBounds j true) a' w' → K a' w') → oj.wp P a w K Q) : wpFz P md l.toArray Q S Z (n + 1) listed a w := by
  have hi' := at_of_drop hi
  have hj' := at_of_drop hj
  refine ⟨fun h0 => (by rw [hr] at h0; cases h0), fun q hq => ?_⟩
  rw [hr] at hq
  simp only [List.mem_cons, List.not_mem_nil, or_false] at hq
  rcases hq with rfl | rfl
  · unfold wpOp
    simp only [hi']
    rw [if_pos (by simp [Region.wanted, hgi])]
    exact Or.inl (h1 _ (fun a' w' x y => ⟨x, y⟩))
  · unfold wpOp
    simp only [hj']
    rw [if_pos (by simp [Region.wanted, hgj])]
    exact Or.inl (h2 _ (fun a' w' x y => ⟨x, y⟩))
theorem fz_three {l r1 r2 r3 : List Oper} (i j k : Nat) {oi oj ok : Oper} {n : Nat} {listed : Array Bool} {a : Act} {w : World} (hi : l.drop i = oi :: r1) (hj : l.drop j = oj :: r2) (hk : l.drop k = ok :: r3) (hgi : oi.guard = none) (hgj : oj.guard = none) (hgk : ok.guard = none) (hr : Region.ready md l.toArray listed = [i, j, k])
    (h1 : ∀ K : Act → World → Prop, Hid (∀ a' w', (i ∉ Z → S w') → wpFz P md l.toArray Q S Z n (listed.setIfInBounds i true) a' w' → K a' w') → oi.wp P a w K Q)
    (h2 : ∀ K : Act → World → Prop, Hid (∀ a' w', (j ∉ Z → S w') → wpFz P md l.toArray Q S Z n (listed.setIfInBounds j true) a' w' → K a' w') → oj.wp P a w K Q)
    (h3 : ∀ K : Act → World → Prop, Hid (∀ a' w', (k ∉ Z → S w') → wpFz P md l.toArray Q S Z n (listed.setIfInBounds k true) a' w' → K a' w') → ok.wp P a w K Q) : wpFz P md l.toArray Q S Z (n + 1) listed a w := by
  have hi' := at_of_drop hi
  have hj' := at_of_drop hj
  have hk' := at_of_drop hk
  refine ⟨fun h0 => (by rw [hr] at h0; cases h0), fun q hq => ?_⟩
  rw [hr] at hq
  simp only [List.mem_cons, List.not_mem_nil, or_false] at hq
  rcases hq with rfl | rfl | rfl
  · unfold wpOp
    simp only [hi']
    rw [if_pos (by simp [Region.wanted, hgi])]
    exact Or.inl (h1 _ (fun a' w' x y => ⟨x, y⟩))
  · unfold wpOp
    simp only [hj']
    rw [if_pos (by simp [Region.wanted, hgj])]
    exact Or.inl (h2 _ (fun a' w' x y => ⟨x, y⟩))
  · unfold wpOp
    simp only [hk']
    rw [if_pos (by simp [Region.wanted, hgk])]
    exact Or.inl (h3 _ (fun a' w' x y => ⟨x, y⟩))
theorem fz_done {n : Nat} {listed : Array Bool} {a : Act} {w : World} (hr : Region.ready md ops listed = []) (h : Q .normal a w) : wpFz P md ops Q S Z n listed a w := by
  cases n with
  | zero => exact ⟨hr, h⟩
  | succ n => exact ⟨fun _ => h, by rw [hr]; simp⟩
theorem region_fz (S : World → Prop) (Z : List Nat) (k : Nat) {l : List Oper} {id : Nat} {a : Act} {w : World} (hm : P.follows .mixedOrders = true) (hk : l.length = k)
    (h : wpFz P .any l.toArray (NoPanic Q) S Z k (Array.replicate k false) a w.drew) : (Code.region id l.toArray true).wp P Q a w := by
  subst hk
  exact wp_region_noPanic (wp_region_any hm (any_of_fz _ _ _ _ h))
end
end Go.Proofs.Ytnoeofbjnogkmaa
