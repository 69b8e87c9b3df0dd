/- The same, for operations that are guarded. -/
import Derived.Test.YtioiabfheeglgaaGreatDoorJ02RegFin
import Derived.Test.YtioiabfheeglgaaGreatDoorJ00Trees
namespace Go.Proofs.YtioiabfheeglgaaGreatDoor
open Go.RowKit

section
variable {P : Program} {Q : Exit → Act → World → Prop} {md : Region.Mode} {S : World → Prop} {z : Nat}
theorem fin_takeG {l rest : List Oper} (i : Nat) {oi : Oper} {v : Value} {n : Nat} {listed : Array Bool} {a : Act} {w : World} (hi : l.drop i = oi :: rest)
  (hs : Region.noSelect l.toArray = true) (hf : Region.free md l.toArray listed i = true) (hr : (Region.ready md l.toArray listed).contains i = true) (hz : waitsB md l.toArray z i = true)
  (hQ : ∀ c a w, Q (.panic c) (a.put oi.dst v) w → Q (.panic c) a w) (hg : Region.wanted oi (yielded l.toArray a.tmps) = true) (hy : ∀ w, S w → (execOp a.eval oi).run P w = .ok (.value v) w) (hS : S w)
  (h : wpFin P md l.toArray Q S z n (listed.setIfInBounds i true) (a.put oi.dst v) w) : wpFin P md l.toArray Q S z (n + 1) listed a w := by
 have hi' : l.toArray[i]? = some oi := by
  rw [List.getElem?_toArray]
  have := congrArg (·[0]?) hi
  simpa using this
 exact fin_first hi' (Region.noSelect_spec hs) hQ hz n listed a w (Region.free_spec hi' hf) (by simpa using hr) (Or.inl ⟨hg, hy⟩) hS h
theorem fin_takeN {l rest : List Oper} (i : Nat) {oi : Oper} {n : Nat} {listed : Array Bool} {a : Act} {w : World} (hi : l.drop i = oi :: rest)
  (hs : Region.noSelect l.toArray = true) (hf : Region.free md l.toArray listed i = true) (hr : (Region.ready md l.toArray listed).contains i = true) (hz : waitsB md l.toArray z i = true)
  (hQ : ∀ c a w, Q (.panic c) (a.put oi.dst undef) w → Q (.panic c) a w) (hg : Region.wanted oi (yielded l.toArray a.tmps) = false) (hS : S w)
  (h : wpFin P md l.toArray Q S z n (listed.setIfInBounds i true) (a.put oi.dst undef) w) : wpFin P md l.toArray Q S z (n + 1) listed a w := by
 have hi' : l.toArray[i]? = some oi := by
  rw [List.getElem?_toArray]
  have := congrArg (·[0]?) hi
  simpa using this
 exact fin_first hi' (Region.noSelect_spec hs) hQ hz n listed a w (Region.free_spec hi' hf) (by simpa using hr) (Or.inr ⟨hg, rfl⟩) hS h
theorem fin_oneG {l rest : List Oper} (i : Nat) {o : Oper} {n : Nat} {listed : Array Bool} {a : Act} {w : World} (hi : l.drop i = o :: rest) (hg : Region.wanted o (yielded l.toArray a.tmps) = true) (hr : Region.ready md l.toArray listed = [i])
  (h : ∀ K : Act → World → Prop, Hid (∀ a' w', (i ≠ z → S w') → wpFin P md l.toArray Q S z n (listed.setIfInBounds i true) a' w' → K a' w') → o.wp P a w K Q) : wpFin P md l.toArray Q S z (n + 1) listed a w := by
 have hi' : l.toArray[i]? = some o := by
  rw [List.getElem?_toArray]
  have := congrArg (·[0]?) hi
  simpa using this
 refine ⟨fun h0 => (by rw [hr] at h0; cases h0), fun j hj => ?_⟩
 rw [hr] at hj
 obtain rfl : j = i := by simpa using hj
 unfold wpOp
 simp only [hi']
 rw [if_pos hg]
 exact Or.inl (h _ (fun a' w' h1 h2 => ⟨h1, h2⟩))
/-- More may be asked from here on. -/
theorem fin_mono {ops : Array Oper} {S' : World → Prop} (hS : ∀ w, S' w → S w) : ∀ {n : Nat} {listed : Array Bool} {a : Act} {w : World}, wpFin P md ops Q S' z n listed a w → wpFin P md ops Q S z n listed a w
 | 0, _, _, _, h => h
 | _ + 1, _, _, _, h => ⟨h.1, fun i hi => wpOp_mono (fun _ _ h' => ⟨fun hz => hS _ (h'.1 hz), fin_mono hS h'.2⟩) (h.2 i hi)⟩
end
end Go.Proofs.YtioiabfheeglgaaGreatDoor

namespace Go.Proofs.YtioiabfheeglgaaGreatDoor
open Go.RowKit

section
variable {P : Program} {ops : Array Oper} {Q : Exit → Act → World → Prop} {md : Region.Mode} {S : World → Prop} {Z : List Nat}

/-- Whatever order is picked from here on, and S holds behind every operation but those of Z. -/
def wpFz (P : Program) (md : Region.Mode) (ops : Array Oper) (Q : Exit → Act → World → Prop) (S : World → Prop) (Z : List Nat) : Nat → Array Bool → Act → World → Prop
 | 0, listed, a, w => Region.ready md ops listed = [] ∧ Q .normal a w
 | n + 1, listed, a, w =>
  (Region.ready md ops listed = [] → Q .normal a w) ∧
  ∀ i ∈ Region.ready md ops listed, wpOp P ops Q i (fun a' w' => (i ∉ Z → S w') ∧ wpFz P md ops Q S Z n (listed.setIfInBounds i true) a' w') a w
theorem any_of_fz : ∀ (n : Nat) (listed : Array Bool) (a : Act) (w : World), wpFz P md ops Q S Z n listed a w → wpAny P md ops Q n listed a w
 | 0, _, _, _, h => h
 | n + 1, _, _, _, h => ⟨h.1, fun i hi => wpOp_mono (fun a' w' h' => any_of_fz n _ a' w' h'.2) (h.2 i hi)⟩
/-- Number z comes behind number i: it waits for it, or for one that waits for it and has not been. -/
def lateB (md : Region.Mode) (ops : Array Oper) (listed : Array Bool) (i z : Nat) : Bool :=
 waitsB md ops z i || (List.range ops.size).any fun m => waitsB md ops m i && (waitsB md ops z m && (listed.getD m true == false))
theorem late_no {listed : Array Bool} {i z : Nat} (h : lateB md ops listed i z = true) (hi : i ∈ Region.ready md ops listed) : z ∉ Region.ready md ops listed := by
 intro hz
 obtain ⟨_, oz, hoz, hall⟩ := mem_ready.1 hz
 unfold lateB at h
 simp only [Bool.or_eq_true, List.any_eq_true, List.mem_range, Bool.and_eq_true, beq_iff_eq] at h
 rcases h with h | ⟨m, hm, _, h2, h3⟩
 ·
  obtain ⟨e, he, hb, heq⟩ := waits_spec h hoz
  exact ready_apart hi hz hoz he hb heq
 ·
  obtain ⟨e, he, hb, heq⟩ := waits_spec h2 hoz
  have h1 : listed.getD m false = true := heq ▸ hall e he hb
  unfold Array.getD at h3 h1
  split at h3
  ·
   rename_i hlt
   rw [dif_pos hlt] at h1
   exact absurd (h3.symm.trans h1) (by decide)
  ·
   cases h3
theorem late_set {listed : Array Bool} {i j z : Nat} (h : lateB md ops listed i z = true) (hi : i ∈ Region.ready md ops listed) (hj : j ∈ Region.ready md ops listed) : lateB md ops (listed.setIfInBounds j true) i z = true := by
 unfold lateB at h ⊢
 simp only [Bool.or_eq_true, List.any_eq_true, List.mem_range, Bool.and_eq_true, beq_iff_eq] at h ⊢
 rcases h with h | ⟨m, hm, h1, h2, h3⟩
 ·
  exact Or.inl h
 ·
  refine Or.inr ⟨m, hm, h1, h2, ?_⟩
  have hne : j ≠ m := by
   rintro rfl
   obtain ⟨_, oj, hoj, _⟩ := mem_ready.1 hj
   obtain ⟨e, he, hb, heq⟩ := waits_spec h1 hoj
   exact ready_apart hi hj hoj he hb heq
  exact (getD_set_ne true hne).trans h3
theorem fz_first {i : Nat} {oi : Oper} {v : Value} (hi : ops[i]? = some oi) (hsel : ∀ (j : Nat) (o : Oper) cs b, ops[j]? = some o → o.op ≠ .select cs b)
  (hQ : ∀ c a w, Q (.panic c) (a.put oi.dst v) w → Q (.panic c) a w) :
  ∀ (n : Nat) (listed : Array Bool) (a : Act) (w : World), (∀ z ∈ Z, lateB md ops listed i z = true) → Free md ops i oi listed → i ∈ Region.ready md ops listed → YieldsIf P ops S oi v a → S w →
   wpFz P md ops Q S Z n (listed.setIfInBounds i true) (a.put oi.dst v) w → wpFz P md ops Q S Z (n + 1) listed a w
 | n, listed, a, w, hz, hF, hr, hy, hS, H => by
  refine ⟨fun h => absurd (h ▸ hr) (by simp), fun j hj => ?_⟩
  rcases Decidable.em (j = i) with rfl | hji
  ·
   exact hy.wpOp hi hS ⟨fun _ => hS, H⟩
  obtain ⟨hun, oj, hoj, _⟩ := mem_ready.1 hj
  have hno : ∀ e ∈ oj.after, Region.binds md e = true → e.on ≠ i := fun e he hb => ready_apart hr hj hoj he hb
  have hjz : j ∉ Z := fun hm => late_no (hz j hm) hr hj
  match n, H with
  | 0, H => exact absurd (H.1 ▸ ready_mono hj hji) (by simp)
  | n + 1, H =>
   refine wpOp_mono (fun a' w' k => ⟨k.2.1, ?_⟩) (wpOp_putIf hoj (hF j oj hoj hji hun hno) (fun cs b => hsel i oi cs b hi) (fun cs b => hsel j oj cs b hoj) hQ hy (H.2 j (ready_mono hj hji)))
   exact fz_first hi hsel hQ n _ a' w' (fun z hm => late_set (hz z hm) hr hj) (hF.set hun) (ready_mono hr (Ne.symm hji)) k.1 (k.2.1 hjz) (Array.setIfInBounds_comm true true hji ▸ k.2.2)
theorem at_of_drop {l rest : List Oper} {i : Nat} {oi : Oper} (hi : l.drop i = oi :: rest) : l.toArray[i]? = some oi := by
 rw [List.getElem?_toArray]
 have := congrArg (·[0]?) hi
 simpa using this
theorem fz_take {l rest : List Oper} (i : Nat) {oi : Oper} {v : Value} {n : Nat} {listed : Array Bool} {a : Act} {w : World} (hi : l.drop i = oi :: rest)
  (hs : Region.noSelect l.toArray = true) (hf : Region.free md l.toArray listed i = true) (hr : (Region.ready md l.toArray listed).contains i = true) (hz : (Z.all fun z => lateB md l.toArray listed i z) = true)
  (hQ : ∀ c a w, Q (.panic c) (a.put oi.dst v) w → Q (.panic c) a w) (hg : oi.guard = none) (hy : ∀ w, S w → (execOp a.eval oi).run P w = .ok (.value v) w) (hS : S w)
  (h : wpFz P md l.toArray Q S Z n (listed.setIfInBounds i true) (a.put oi.dst v) w) : wpFz P md l.toArray Q S Z (n + 1) listed a w := by
 have hi' := at_of_drop hi
 exact fz_first hi' (Region.noSelect_spec hs) hQ n listed a w (fun z hm => List.all_eq_true.1 hz z hm) (Region.free_spec hi' hf) (by simpa using hr) (Or.inl ⟨by simp [Region.wanted, hg], hy⟩) hS h
theorem fz_one {l rest : List Oper} (i : Nat) {o : Oper} {n : Nat} {listed : Array Bool} {a : Act} {w : World} (hi : l.drop i = o :: rest) (hg : o.guard = none) (hr : Region.ready md l.toArray listed = [i])
  (h : ∀ K : Act → World → Prop, Hid (∀ a' w', (i ∉ Z → S w') → wpFz P md l.toArray Q S Z n (listed.setIfInBounds i true) a' w' → K a' w') → o.wp P a w K Q) : wpFz P md l.toArray Q S Z (n + 1) listed a w := by
 have hi' := at_of_drop hi
 refine ⟨fun h0 => (by rw [hr] at h0; cases h0), fun j hj => ?_⟩
 rw [hr] at hj
 obtain rfl : j = i := by simpa using hj
 unfold wpOp
 simp only [hi']
 rw [if_pos (by simp [Region.wanted, hg])]
 exact Or.inl (h _ (fun a' w' h1 h2 => ⟨h1, h2⟩))
theorem fz_two {l r1 r2 : List Oper} (i j : Nat) {oi oj : Oper} {n : Nat} {listed : Array Bool} {a : Act} {w : World} (hi : l.drop i = oi :: r1) (hj : l.drop j = oj :: r2) (hgi : oi.guard = none) (hgj : oj.guard = none) (hr : Region.ready md l.toArray listed = [i, j])
  (h1 : ∀ K : Act → World → Prop, Hid (∀ a' w', (i ∉ Z → S w') → wpFz P md l.toArray Q S Z n (listed.setIfInBounds i true) a' w' → K a' w') → oi.wp P a w K Q)
  (h2 : ∀ K : Act → World → Prop, Hid (∀ a' w', (j ∉ Z → S w') → wpFz P md l.toArray Q S Z n (listed.setIfInBounds j true) a' w' → K a' w') → oj.wp P a w K Q) : wpFz P md l.toArray Q S Z (n + 1) listed a w := by
 have hi' := at_of_drop hi
 have hj' := at_of_drop hj
 refine ⟨fun h0 => (by rw [hr] at h0; cases h0), fun q hq => ?_⟩
 rw [hr] at hq
 simp only [List.mem_cons, List.not_mem_nil, or_false] at hq
 rcases hq with rfl | rfl
 ·
  unfold wpOp
  simp only [hi']
  rw [if_pos (by simp [Region.wanted, hgi])]
  exact Or.inl (h1 _ (fun a' w' x y => ⟨x, y⟩))
 ·
  unfold wpOp
  simp only [hj']
  rw [if_pos (by simp [Region.wanted, hgj])]
  exact Or.inl (h2 _ (fun a' w' x y => ⟨x, y⟩))
theorem fz_three {l r1 r2 r3 : List Oper} (i j k : Nat) {oi oj ok : Oper} {n : Nat} {listed : Array Bool} {a : Act} {w : World} (hi : l.drop i = oi :: r1) (hj : l.drop j = oj :: r2) (hk : l.drop k = ok :: r3) (hgi : oi.guard = none) (hgj : oj.guard = none) (hgk : ok.guard = none) (hr : Region.ready md l.toArray listed = [i, j, k])
  (h1 : ∀ K : Act → World → Prop, Hid (∀ a' w', (i ∉ Z → S w') → wpFz P md l.toArray Q S Z n (listed.setIfInBounds i true) a' w' → K a' w') → oi.wp P a w K Q)
  (h2 : ∀ K : Act → World → Prop, Hid (∀ a' w', (j ∉ Z → S w') → wpFz P md l.toArray Q S Z n (listed.setIfInBounds j true) a' w' → K a' w') → oj.wp P a w K Q)
  (h3 : ∀ K : Act → World → Prop, Hid (∀ a' w', (k ∉ Z → S w') → wpFz P md l.toArray Q S Z n (listed.setIfInBounds k true) a' w' → K a' w') → ok.wp P a w K Q) : wpFz P md l.toArray Q S Z (n + 1) listed a w := by
 have hi' := at_of_drop hi
 have hj' := at_of_drop hj
 have hk' := at_of_drop hk
 refine ⟨fun h0 => (by rw [hr] at h0; cases h0), fun q hq => ?_⟩
 rw [hr] at hq
 simp only [List.mem_cons, List.not_mem_nil, or_false] at hq
 rcases hq with rfl | rfl | rfl
 ·
  unfold wpOp
  simp only [hi']
  rw [if_pos (by simp [Region.wanted, hgi])]
  exact Or.inl (h1 _ (fun a' w' x y => ⟨x, y⟩))
 ·
  unfold wpOp
  simp only [hj']
  rw [if_pos (by simp [Region.wanted, hgj])]
  exact Or.inl (h2 _ (fun a' w' x y => ⟨x, y⟩))
 ·
  unfold wpOp
  simp only [hk']
  rw [if_pos (by simp [Region.wanted, hgk])]
  exact Or.inl (h3 _ (fun a' w' x y => ⟨x, y⟩))
theorem fz_done {n : Nat} {listed : Array Bool} {a : Act} {w : World} (hr : Region.ready md ops listed = []) (h : Q .normal a w) : wpFz P md ops Q S Z n listed a w := by
 cases n with
 | zero => exact ⟨hr, h⟩
 | succ n => exact ⟨fun _ => h, by rw [hr]; simp⟩
theorem region_fz (S : World → Prop) (Z : List Nat) (k : Nat) {l : List Oper} {id : Nat} {a : Act} {w : World} (hm : P.follows .mixedOrders = true) (hk : l.length = k)
  (h : wpFz P .any l.toArray (NoPanic Q) S Z k (Array.replicate k false) a w.drew) : (Code.region id l.toArray true).wp P Q a w := by
 subst hk
 exact wp_region_noPanic (wp_region_any hm (any_of_fz _ _ _ _ h))
end
end Go.Proofs.YtioiabfheeglgaaGreatDoor

namespace Go.Proofs.YtioiabfheeglgaaGreatDoor
open Go.RowKit

section
variable {P : Program} {ops : Array Oper} {Q : Exit → Act → World → Prop} {md : Region.Mode} {S : World → Prop} {Z : List Nat}

/-- Some of A marked. -/
def markL (d : Nat → Bool) : List Nat → Array Bool → Array Bool
 | [], l => l
 | i :: A, l => markL d A (if d i then l.setIfInBounds i true else l)
def allSub (f : Array Bool → Bool) : List Nat → Array Bool → Bool
 | [], l => f l
 | i :: A, l => allSub f A l && allSub f A (l.setIfInBounds i true)
theorem allSub_mark (f : Array Bool → Bool) (d : Nat → Bool) : ∀ (A : List Nat) (l : Array Bool), allSub f A l = true → f (markL d A l) = true
 | [], _, h => h
 | i :: A, l, h => by
  unfold allSub at h
  rw [Bool.and_eq_true] at h
  show f (markL d A (if d i then l.setIfInBounds i true else l)) = true
  cases d i with
  | true => exact allSub_mark f d A _ h.2
  | false => exact allSub_mark f d A _ h.1
theorem mark_comm (d : Nat → Bool) (i : Nat) : ∀ (A : List Nat) (l : Array Bool), i ∉ A → (markL d A l).setIfInBounds i true = markL d A (l.setIfInBounds i true)
 | [], _, _ => rfl
 | x :: A, l, h => by
  simp only [List.mem_cons, not_or] at h
  show (markL d A (if d x then l.setIfInBounds x true else l)).setIfInBounds i true = markL d A (if d x then (l.setIfInBounds i true).setIfInBounds x true else l.setIfInBounds i true)
  rw [mark_comm d i A _ h.2]
  cases d x with
  | true => simp only [if_true]; rw [Array.setIfInBounds_comm _ _ h.1]
  | false => rfl
theorem mark_off (d : Nat → Bool) (i : Nat) : ∀ (A : List Nat) (l : Array Bool), i ∉ A → markL (fun j => if j = i then true else d j) A l = markL d A l
 | [], _, _ => rfl
 | x :: A, l, h => by
  simp only [List.mem_cons, not_or] at h
  show markL _ A (if (if x = i then true else d x) then _ else l) = markL d A (if d x then _ else l)
  have e : (if x = i then true else d x) = d x := if_neg (fun e => h.1 e.symm)
  rw [mark_off d i A _ h.2, e]
theorem mark_set (d : Nat → Bool) (i : Nat) : ∀ (A : List Nat) (l : Array Bool), A.Nodup → i ∈ A → (markL d A l).setIfInBounds i true = markL (fun j => if j = i then true else d j) A l
 | [], _, _, h => by simp at h
 | x :: A, l, hn, h => by
  simp only [List.nodup_cons] at hn
  simp only [List.mem_cons] at h
  show (markL d A (if d x then l.setIfInBounds x true else l)).setIfInBounds i true = markL _ A (if (if x = i then true else d x) then l.setIfInBounds x true else l)
  rcases h with rfl | h
  ·
   rw [mark_comm d i A _ hn.1, mark_off d i A _ hn.1, if_pos rfl]
   cases d i with
   | true => simp
   | false => simp
  ·
   have hne : ¬ x = i := fun e => hn.1 (e ▸ h)
   have e : (if x = i then true else d x) = d x := if_neg hne
   rw [mark_set d i A _ hn.2 h, e]
/-- Where not all of A are done, just some of A may come next. -/
def openB (md : Region.Mode) (ops : Array Oper) (A : List Nat) (fin : Array Bool) (l : Array Bool) : Bool :=
 if A.all (fun i => l.getD i false) then decide (l = fin) else !(Region.ready md ops l).isEmpty && (Region.ready md ops l).all fun i => A.contains i
theorem count_set {i : Nat} {l : Array Bool} (hi : l.getD i true = false) : ∀ A : List Nat, A.Nodup → i ∈ A → (A.filter fun j => !((l.setIfInBounds i true).getD j false)).length + 1 = (A.filter fun j => !(l.getD j false)).length
 | [], _, h => by simp at h
 | x :: A, hn, h => by
  simp only [List.nodup_cons] at hn
  simp only [List.mem_cons] at h
  have hlt : i < l.size := by
   unfold Array.getD at hi
   split at hi
   ·
    assumption
   ·
    cases hi
  have hif : l.getD i false = false := by
   unfold Array.getD at hi ⊢
   rw [dif_pos hlt] at hi ⊢
   exact hi
  have hset : (l.setIfInBounds i true).getD i false = true := by simp [Array.getD_eq_getD_getElem?, hlt]
  have hoff : ∀ j, j ≠ i → (l.setIfInBounds i true).getD j false = l.getD j false := fun j hj => by simp [Array.getD_eq_getD_getElem?, Ne.symm hj]
  rcases h with rfl | h
  ·
   have e : A.filter (fun j => !((l.setIfInBounds i true).getD j false)) = A.filter (fun j => !(l.getD j false)) := List.filter_congr fun j hj => by rw [hoff j (fun e => hn.1 (e ▸ hj))]
   rw [List.filter_cons, List.filter_cons, hset, hif, e]
   simp
  ·
   have hne : x ≠ i := fun e => hn.1 (e ▸ h)
   have ih := count_set hi A hn.2 h
   rw [List.filter_cons, List.filter_cons, hoff x hne]
   cases l.getD x false with
   | true => simpa using ih
   | false =>
    show (x :: _).length + 1 = (x :: _).length
    rw [List.length_cons, List.length_cons, ih]
theorem fz_set (A : List Nat) (hA : A.Nodup) (fin l0 : Array Bool) (J : Array Bool → Act → World → Prop)
  (hstep : ∀ l a w i, i ∈ A → i ∈ Region.ready md ops l → J l a w → wpOp P ops Q i (fun a' w' => (i ∉ Z → S w') ∧ J (l.setIfInBounds i true) a' w') a w)
  (n : Nat) (hend : ∀ a w, J fin a w → wpFz P md ops Q S Z n fin a w) (hsub : allSub (openB md ops A fin) A l0 = true) :
  ∀ (k : Nat) (d : Nat → Bool) (a : Act) (w : World), (A.filter fun j => !((markL d A l0).getD j false)).length = k → J (markL d A l0) a w → wpFz P md ops Q S Z (n + k) (markL d A l0) a w
 | 0, d, a, w, hk, hj => by
  have ho := allSub_mark _ d A l0 hsub
  unfold openB at ho
  have hall : A.all (fun i => (markL d A l0).getD i false) = true := by
   rw [List.all_eq_true]
   intro i hi
   cases h : (markL d A l0).getD i false with
   | true => rfl
   | false =>
    have : i ∈ A.filter fun j => !((markL d A l0).getD j false) := List.mem_filter.2 ⟨hi, by rw [h]; rfl⟩
    rw [List.eq_nil_of_length_eq_zero hk] at this
    simp at this
  rw [if_pos hall] at ho
  have e : markL d A l0 = fin := by simpa using ho
  rw [e] at hj ⊢
  exact hend a w hj
 | k + 1, d, a, w, hk, hj => by
  have ho := allSub_mark _ d A l0 hsub
  unfold openB at ho
  have hnall : ¬ A.all (fun i => (markL d A l0).getD i false) = true := fun h => by
   have : A.filter (fun j => !((markL d A l0).getD j false)) = [] := List.filter_eq_nil_iff.2 fun i hi => by rw [List.all_eq_true.1 h i hi]; simp
   rw [this] at hk
   cases hk
  rw [if_neg hnall, Bool.and_eq_true, List.all_eq_true] at ho
  obtain ⟨hne, hall⟩ := ho
  refine ⟨fun h0 => ?_, fun i hi => ?_⟩
  ·
   rw [h0] at hne
   cases hne
  ·
   have h1 : i ∈ A := by simpa using hall i hi
   have hun := (mem_ready.1 hi).1
   have hc := count_set hun A hA h1
   have em := mark_set d i A l0 hA h1
   refine wpOp_mono (fun a' w' h' => ⟨h'.1, ?_⟩) (hstep _ a w i h1 hi hj)
   rw [em] at h' hc ⊢
   exact fz_set A hA fin l0 J hstep n hend hsub k _ a' w' (by omega) h'.2
end
/-- Slots that are put: each its operation's value, if that has been. -/
def putsD (D : Tmp → Value) (T : List (Nat × Tmp × Option Value)) (p : Nat → Option Value) (a : Act) : Act := T.foldl (fun a x => a.put (some x.2.1) ((p x.1).getD (D x.2.1))) a
def updP (p : Nat → Option Value) (i : Nat) (v : Value) : Nat → Option Value := fun j => if j = i then some v else p j
theorem put_put (a : Act) (d : Tmp) (u v : Value) : (a.put (some d) u).put (some d) v = a.put (some d) v := by
 simp [Act.put]
theorem put_comm (a : Act) {d e : Tmp} (h : d ≠ e) (u v : Value) : (a.put (some d) u).put (some e) v = (a.put (some e) v).put (some d) u := by
 simp only [Act.put]
 rw [Array.setIfInBounds_comm _ _ h]
theorem putsD_comm (D : Tmp → Value) (p : Nat → Option Value) (d : Tmp) (v : Value) : ∀ (T : List (Nat × Tmp × Option Value)) (a : Act), (∀ x ∈ T, x.2.1 ≠ d) → (putsD D T p a).put (some d) v = putsD D T p (a.put (some d) v)
 | [], _, _ => rfl
 | x :: T, a, h => by
  show (putsD D T p (a.put (some x.2.1) _)).put (some d) v = putsD D T p ((a.put (some d) v).put (some x.2.1) _)
  rw [putsD_comm D p d v T _ (fun y hy => h y (by simp [hy])), put_comm _ (h x (by simp))]
theorem putsD_off (D : Tmp → Value) (p : Nat → Option Value) (i : Nat) (v : Value) : ∀ (T : List (Nat × Tmp × Option Value)) (a : Act), (∀ x ∈ T, x.1 ≠ i) → putsD D T (updP p i v) a = putsD D T p a
 | [], _, _ => rfl
 | x :: T, a, h => by
  show putsD D T (updP p i v) (a.put (some x.2.1) _) = putsD D T p (a.put (some x.2.1) _)
  rw [putsD_off D p i v T _ (fun y hy => h y (by simp [hy]))]
  have : updP p i v x.1 = p x.1 := by unfold updP; rw [if_neg (h x (by simp))]
  rw [this]
theorem putsD_put (D : Tmp → Value) (p : Nat → Option Value) (i : Nat) (d : Tmp) (c : Option Value) (v : Value) : ∀ (T : List (Nat × Tmp × Option Value)) (a : Act), (T.map (·.1)).Nodup → (T.map (·.2.1)).Nodup → (i, d, c) ∈ T → (putsD D T p a).put (some d) v = putsD D T (updP p i v) a
 | [], _, _, _, h => by simp at h
 | x :: T, a, h1, h2, h => by
  simp only [List.map_cons, List.nodup_cons] at h1 h2
  show (putsD D T p (a.put (some x.2.1) _)).put (some d) v = putsD D T (updP p i v) (a.put (some x.2.1) _)
  simp only [List.mem_cons] at h
  rcases h with rfl | h
  ·
   rw [putsD_comm D p d v T _ (fun y hy e => h2.1 (List.mem_map.2 ⟨y, hy, e⟩)), put_put, putsD_off D p i v T _ (fun y hy e => h1.1 (List.mem_map.2 ⟨y, hy, e⟩))]
   have : updP p i v i = some v := by unfold updP; rw [if_pos rfl]
   show _ = putsD D T p (a.put (some d) ((updP p i v i).getD (D d)))
   rw [this]
   rfl
  ·
   rw [putsD_put D p i d c v T _ h1.2 h2.2 h]
   have hne : x.1 ≠ i := fun e => h1.1 (List.mem_map.2 ⟨_, h, e.symm⟩)
   have : updP p i v x.1 = p x.1 := by unfold updP; rw [if_neg hne]
   rw [this]
/-- Slots that got their values; the others stay. -/
def putsA (T : List (Nat × Tmp × Option Value)) (p : Nat → Option Value) (a : Act) : Act := putsD (fun d => a.tmps.getD d undef) T p a
theorem putsA_put (p : Nat → Option Value) (i : Nat) (d : Tmp) (c : Option Value) (v : Value) (T : List (Nat × Tmp × Option Value)) (a : Act) (h1 : (T.map (·.1)).Nodup) (h2 : (T.map (·.2.1)).Nodup) (h : (i, d, c) ∈ T) : (putsA T p a).put (some d) v = putsA T (updP p i v) a := putsD_put _ p i d c v T a h1 h2 h
section
variable {P : Program} {ops : Array Oper} {Q : Exit → Act → World → Prop} {md : Region.Mode} {S : World → Prop} {Z : List Nat}
theorem wp_alloc0 {o : Oper} {a : Act} {w : World} {K : Act → World → Prop} (ty : TypeId) (ho : o.op = .alloc ty) (z : Value) (hz : ∀ w, (zeroValue ty).run P w = .ok z w)
  (h : K (a.put o.dst (.pointer (some ⟨w.heap.size, 0, none⟩))) (w.alloc (.cells z.cells ty))) : o.wp P a w K Q := by
 unfold Oper.wp execOp
 simp only [ho]
 go_simp
 exact h
/-- What is known of the slots in between. -/
structure Mix (T : List (Nat × Tmp × Option Value)) (zc : Array Value) (w0 : World) (p : Nat → Option Value) (l : Array Bool) (w : World) : Prop where
 done : ∀ x ∈ T, l.getD x.1 false = true → (p x.1).isSome = true
 val : ∀ i d v u, (i, d, some v) ∈ T → p i = some u → u = v
 blk : ∀ i d u, (i, d, none) ∈ T → p i = some u → ∃ N, u = .pointer (some ⟨N, 0, none⟩) ∧ Bk w N zc ∧ w0.heap.size ≤ N
 apart : ∀ i d j e u, (i, d, none) ∈ T → (j, e, none) ∈ T → p i = some u → p j = some u → i = j
 on : On w0 w
theorem Mix.onW {T : List (Nat × Tmp × Option Value)} {zc : Array Value} {w0 : World} {p : Nat → Option Value} {l : Array Bool} {w w' : World} (h : Mix T zc w0 p l w) (k : On w w') : Mix T zc w0 p l w' :=
 ⟨h.done, h.val, fun i d u hi hp => by obtain ⟨N, h1, h2, h3⟩ := h.blk i d u hi hp; exact ⟨N, h1, h2.on k, h3⟩, h.apart, h.on.trans k⟩
theorem getD_self {l : Array Bool} {i j : Nat} (h : (l.setIfInBounds i true).getD j false = true) : j = i ∨ l.getD j false = true := by
 by_cases e : j = i
 ·
  exact Or.inl e
 ·
  refine Or.inr ?_
  rw [← h]
  simp [Array.getD_eq_getD_getElem?, Ne.symm e]
theorem fz_mixR (T : List (Nat × Tmp × Option Value)) (fin : Array Bool) (ty : TypeId) (zc : Array Value) (k n : Nat) {l : Array Bool} {a : Act} {w : World}
  (hz : ∀ w, (zeroValue ty).run P w = .ok (.agg zc) w) (h1 : (T.map (·.1)).Nodup) (h2 : (T.map (·.2.1)).Nodup)
  (hal : ∀ i d, (i, d, none) ∈ T → ∃ o, ops[i]? = some o ∧ o.op = .alloc ty ∧ o.dst = some d ∧ o.guard = none)
  (hl : ∀ x ∈ T, l.getD x.1 false = false) (ha : putsA T (fun _ => none) a = a)
  (hSon : ∀ w w', S w → On w w' → S w') (hS : S w)
  (hcl : allSub (openB md ops (T.map (·.1)) fin) (T.map (·.1)) l = true) (hk : ((T.map (·.1)).filter fun j => !(l.getD j false)).length = k)
  (hcall : ∀ i d v, (i, d, some v) ∈ T → ∃ o, ops[i]? = some o ∧ o.guard = none ∧ ∀ p w' (l' : Array Bool) (K : Act → World → Prop), i ∈ Region.ready md ops l' → Mix T zc w p l' w' → S w' → On w w' → (∀ w'', On w' w'' → K ((putsA T p a).put (some d) v) w'') → o.wp P (putsA T p a) w' K Q)
  (hend : ∀ p w', Mix T zc w p fin w' → S w' → wpFz P md ops Q S Z n fin (putsA T p a) w') : wpFz P md ops Q S Z (n + k) l a w := by
 have em : ∀ (A : List Nat) (l : Array Bool), markL (fun _ => false) A l = l := by
  intro A
  induction A with
  | nil => intro _; rfl
  | cons i A ih => intro l; exact ih l
 have main := fz_set (P := P) (ops := ops) (Q := Q) (md := md) (S := S) (Z := Z) (T.map (·.1)) h1 fin l (fun l' a' w' => ∃ p, a' = putsA T p a ∧ Mix T zc w p l' w' ∧ S w') ?_ n ?_ hcl k (fun _ => false) a w (by rw [em]; exact hk) (by rw [em]; exact ⟨fun _ => none, ha.symm, ⟨fun x hx h => (by rw [hl x hx] at h; cases h), fun _ _ _ _ _ h => (by cases h), fun _ _ _ _ h => (by cases h), fun _ _ _ _ _ _ _ _ h => (by cases h), On.refl w⟩, hS⟩)
 ·
  rw [em] at main
  exact main
 ·
  rintro l' a' w' i hi hready ⟨p, rfl, hm, hs⟩
  obtain ⟨⟨i', d, c⟩, hx, rfl⟩ := List.mem_map.1 hi
  have hpi : ∀ (v : Value), ∀ x ∈ T, (l'.setIfInBounds i' true).getD x.1 false = true → (updP p i' v x.1).isSome = true := fun v x hx' h => by
   unfold updP
   by_cases e : x.1 = i'
   ·
    rw [if_pos e]; rfl
   ·
    rw [if_neg e]
    rcases getD_self h with h | h
    ·
     exact absurd h e
    ·
     exact hm.done x hx' h
  have huniq : ∀ d' c', (i', d', c') ∈ T → d' = d ∧ c' = c := fun d' c' h => by
   have : ∀ (T : List (Nat × Tmp × Option Value)), (T.map (·.1)).Nodup → (i', d', c') ∈ T → (i', d, c) ∈ T → d' = d ∧ c' = c := by
    intro T
    induction T with
    | nil => intro _ h; simp at h
    | cons y T ih =>
     intro hn ha hb
     simp only [List.map_cons, List.nodup_cons] at hn
     simp only [List.mem_cons] at ha hb
     rcases ha with rfl | ha
     ·
      rcases hb with hb | hb
      ·
       simp only [Prod.mk.injEq, true_and] at hb
       exact ⟨hb.1.symm, hb.2.symm⟩
      ·
       exact absurd (List.mem_map.2 ⟨_, hb, rfl⟩) hn.1
     ·
      rcases hb with rfl | hb
      ·
       exact absurd (List.mem_map.2 ⟨_, ha, rfl⟩) hn.1
      ·
       exact ih hn.2 ha hb
   exact this T h1 h hx
  cases c with
  | none =>
   obtain ⟨o, ho1, ho2, ho3, ho4⟩ := hal i' d hx
   unfold wpOp
   simp only [ho1]
   rw [if_pos (by simp [Region.wanted, ho4])]
   refine Or.inl (wp_alloc0 ty ho2 (.agg zc) hz ?_)
   rw [ho3]
   have kA : On w' (w'.alloc (.cells (Value.agg zc).cells ty)) := (On.refl w').alloc _
   refine ⟨fun _ => hSon _ _ hs kA, updP p i' (.pointer (some ⟨w'.heap.size, 0, none⟩)), putsA_put p i' d none _ T a h1 h2 hx, ⟨hpi _, fun i d' v u hi' hp => ?_, fun i d' u hi' hp => ?_, fun i d1 j d2 u hi' hj' hp hq => ?_, hm.on.trans kA⟩, hSon _ _ hs kA⟩
   ·
    by_cases e : i = i'
    ·
     subst e
     have := (huniq _ _ hi').2
     cases this
    ·
     unfold updP at hp
     rw [if_neg e] at hp
     exact hm.val i d' v u hi' hp
   ·
    by_cases e : i = i'
    ·
     subst e
     unfold updP at hp
     rw [if_pos rfl] at hp
     obtain rfl := Option.some.inj hp
     exact ⟨w'.heap.size, rfl, Bk.new w' zc ty, hm.on.size⟩
    ·
     unfold updP at hp
     rw [if_neg e] at hp
     obtain ⟨N, hN, hB, hb⟩ := hm.blk i d' u hi' hp
     exact ⟨N, hN, hB.alloc _, hb⟩
   ·
    by_cases e : i = i'
    ·
     by_cases e2 : j = i'
     ·
      rw [e, e2]
     ·
      unfold updP at hp hq
      rw [if_pos e] at hp
      rw [if_neg e2] at hq
      obtain rfl := Option.some.inj hp
      obtain ⟨N, hN, hB, _⟩ := hm.blk j d2 _ hj' hq
      simp only [Value.pointer.injEq, Option.some.injEq, Addr.mk.injEq, and_true] at hN
      have := hB.lt
      omega
    ·
     by_cases e2 : j = i'
     ·
      unfold updP at hp hq
      rw [if_neg e] at hp
      rw [if_pos e2] at hq
      obtain rfl := Option.some.inj hq
      obtain ⟨N, hN, hB, _⟩ := hm.blk i d1 _ hi' hp
      simp only [Value.pointer.injEq, Option.some.injEq, Addr.mk.injEq, and_true] at hN
      have := hB.lt
      omega
     ·
      unfold updP at hp hq
      rw [if_neg e] at hp
      rw [if_neg e2] at hq
      exact hm.apart i d1 j d2 u hi' hj' hp hq
  | some v =>
   obtain ⟨o, ho1, ho4, ho⟩ := hcall i' d v hx
   unfold wpOp
   simp only [ho1]
   rw [if_pos (by simp [Region.wanted, ho4])]
   refine Or.inl (ho p w' l' _ hready hm hs hm.on fun w'' k => ?_)
   have hm2 := hm.onW k
   refine ⟨fun _ => hSon _ _ hs k, updP p i' v, putsA_put p i' d (some v) _ T a h1 h2 hx, ⟨hpi _, fun i d' v' u hi' hp => ?_, fun i d' u hi' hp => ?_, fun i d1 j d2 u hi' hj' hp hq => ?_, hm2.on⟩, hSon _ _ hs k⟩
   ·
    by_cases e : i = i'
    ·
     subst e
     have := (huniq _ _ hi').2
     simp only [Option.some.injEq] at this
     unfold updP at hp
     rw [if_pos rfl] at hp
     rw [this]
     exact (Option.some.inj hp).symm
    ·
     unfold updP at hp
     rw [if_neg e] at hp
     exact hm2.val i d' v' u hi' hp
   ·
    have e : i ≠ i' := fun e => by subst e; have := (huniq _ _ hi').2; cases this
    unfold updP at hp
    rw [if_neg e] at hp
    exact hm2.blk i d' u hi' hp
   ·
    have e : i ≠ i' := fun e => by subst e; have := (huniq _ _ hi').2; cases this
    have e2 : j ≠ i' := fun e => by subst e; have := (huniq _ _ hj').2; cases this
    unfold updP at hp hq
    rw [if_neg e] at hp
    rw [if_neg e2] at hq
    exact hm2.apart i d1 j d2 u hi' hj' hp hq
 ·
  rintro a' w' ⟨p, rfl, hm, hs⟩
  exact hend p w' hm hs
theorem fz_mix (T : List (Nat × Tmp × Option Value)) (fin : Array Bool) (ty : TypeId) (zc : Array Value) (k n : Nat) {l : Array Bool} {a : Act} {w : World}
  (hz : ∀ w, (zeroValue ty).run P w = .ok (.agg zc) w) (h1 : (T.map (·.1)).Nodup) (h2 : (T.map (·.2.1)).Nodup)
  (hal : ∀ i d, (i, d, none) ∈ T → ∃ o, ops[i]? = some o ∧ o.op = .alloc ty ∧ o.dst = some d ∧ o.guard = none)
  (hl : ∀ x ∈ T, l.getD x.1 false = false) (ha : putsA T (fun _ => none) a = a)
  (hSon : ∀ w w', S w → On w w' → S w') (hS : S w)
  (hcl : allSub (openB md ops (T.map (·.1)) fin) (T.map (·.1)) l = true) (hk : ((T.map (·.1)).filter fun j => !(l.getD j false)).length = k)
  (hcall : ∀ i d v, (i, d, some v) ∈ T → ∃ o, ops[i]? = some o ∧ o.guard = none ∧ ∀ p w' (K : Act → World → Prop), S w' → On w w' → (∀ w'', On w' w'' → K ((putsA T p a).put (some d) v) w'') → o.wp P (putsA T p a) w' K Q)
  (hend : ∀ p w', Mix T zc w p fin w' → S w' → wpFz P md ops Q S Z n fin (putsA T p a) w') : wpFz P md ops Q S Z (n + k) l a w :=
 fz_mixR T fin ty zc k n hz h1 h2 hal hl ha hSon hS hcl hk (fun i d v hi => by
  obtain ⟨o, ho1, ho2, ho3⟩ := hcall i d v hi
  exact ⟨o, ho1, ho2, fun p w' _ K _ _ hs hon hK => ho3 p w' K hs hon hK⟩) hend
/-- What an operation waits for has been done, where it may come. -/
theorem ready_dep {i : Nat} {l : Array Bool} {o : Oper} (h : i ∈ Region.ready md ops l) (ho : ops[i]? = some o) {e : Edge} (he : e ∈ o.after) (hb : Region.binds md e = true) : l.getD e.on false = true := by
 obtain ⟨_, o', ho', hall⟩ := mem_ready.1 h
 obtain rfl := Option.some.inj (ho.symm.trans ho')
 exact hall e he hb
end
end Go.Proofs.YtioiabfheeglgaaGreatDoor

namespace Go.Proofs.YtioiabfheeglgaaGreatDoor
open Go.RowKit

section
variable {P : Program} {ops : Array Oper} {Q : Exit → Act → World → Prop} {md : Region.Mode} {S : World → Prop} {Z : List Nat}
/-- Whatever of A is done, all that it waits for is done. -/
def closB (md : Region.Mode) (ops : Array Oper) (A : List Nat) (l : Array Bool) : Bool :=
 A.all fun i => !(l.getD i false) || (match ops[i]? with | some o => o.after.all fun e => !(Region.binds md e) || l.getD e.on false | none => true)
def openC (md : Region.Mode) (ops : Array Oper) (A : List Nat) (fin : Array Bool) (l : Array Bool) : Bool := !(closB md ops A l) || openB md ops A fin l
theorem getD_keep {l : Array Bool} {i j : Nat} (h : l.getD j false = true) : (l.setIfInBounds i true).getD j false = true := by
 by_cases e : j = i
 ·
  subst e
  have hlt : j < l.size := by
   unfold Array.getD at h
   split at h
   ·
    assumption
   ·
    cases h
  simp [Array.getD_eq_getD_getElem?, hlt]
 ·
  rw [← h]
  simp [Array.getD_eq_getD_getElem?, Ne.symm e]
theorem clos_set {A : List Nat} {l : Array Bool} {i : Nat} (h : closB md ops A l = true) (hi : i ∈ Region.ready md ops l) : closB md ops A (l.setIfInBounds i true) = true := by
 unfold closB at h ⊢
 rw [List.all_eq_true] at h ⊢
 intro j hj
 have hj' := h j hj
 obtain ⟨_, o, ho, hall⟩ := mem_ready.1 hi
 by_cases e : j = i
 ·
  subst e
  rw [ho]
  simp only [Bool.or_eq_true, Array.all_eq_true']
  refine Or.inr fun x hx => ?_
  cases hb : Region.binds md x with
  | true => exact Or.inr (getD_keep (hall x hx hb))
  | false => exact Or.inl rfl
 ·
  have e2 : (l.setIfInBounds i true).getD j false = l.getD j false := by simp [Array.getD_eq_getD_getElem?, Ne.symm e]
  rw [e2]
  simp only [Bool.or_eq_true] at hj' ⊢
  rcases hj' with h1 | h1
  ·
   exact Or.inl h1
  ·
   refine Or.inr ?_
   cases hq : ops[j]? with
   | none => rfl
   | some q =>
    rw [hq] at h1
    simp only [Array.all_eq_true', Bool.or_eq_true] at h1 ⊢
    exact fun x hx => (h1 x hx).imp id getD_keep
theorem fz_setC (A : List Nat) (hA : A.Nodup) (fin l0 : Array Bool) (J : Array Bool → Act → World → Prop)
  (hstep : ∀ l a w i, i ∈ A → i ∈ Region.ready md ops l → J l a w → wpOp P ops Q i (fun a' w' => (i ∉ Z → S w') ∧ J (l.setIfInBounds i true) a' w') a w)
  (n : Nat) (hend : ∀ a w, J fin a w → wpFz P md ops Q S Z n fin a w) (hsub : allSub (openC md ops A fin) A l0 = true) :
  ∀ (k : Nat) (d : Nat → Bool) (a : Act) (w : World), (A.filter fun j => !((markL d A l0).getD j false)).length = k → closB md ops A (markL d A l0) = true → J (markL d A l0) a w → wpFz P md ops Q S Z (n + k) (markL d A l0) a w
 | 0, d, a, w, hk, hcl, hj => by
  have ho := allSub_mark _ d A l0 hsub
  unfold openC at ho
  rw [hcl] at ho
  replace ho : openB md ops A fin (markL d A l0) = true := by simpa using ho
  unfold openB at ho
  have hall : A.all (fun i => (markL d A l0).getD i false) = true := by
   rw [List.all_eq_true]
   intro i hi
   cases h : (markL d A l0).getD i false with
   | true => rfl
   | false =>
    have : i ∈ A.filter fun j => !((markL d A l0).getD j false) := List.mem_filter.2 ⟨hi, by rw [h]; rfl⟩
    rw [List.eq_nil_of_length_eq_zero hk] at this
    simp at this
  rw [if_pos hall] at ho
  have e : markL d A l0 = fin := by simpa using ho
  rw [e] at hj ⊢
  exact hend a w hj
 | k + 1, d, a, w, hk, hcl, hj => by
  have ho := allSub_mark _ d A l0 hsub
  unfold openC at ho
  rw [hcl] at ho
  replace ho : openB md ops A fin (markL d A l0) = true := by simpa using ho
  unfold openB at ho
  have hnall : ¬ A.all (fun i => (markL d A l0).getD i false) = true := fun h => by
   have : A.filter (fun j => !((markL d A l0).getD j false)) = [] := List.filter_eq_nil_iff.2 fun i hi => by rw [List.all_eq_true.1 h i hi]; simp
   rw [this] at hk
   cases hk
  rw [if_neg hnall, Bool.and_eq_true, List.all_eq_true] at ho
  obtain ⟨hne, hall⟩ := ho
  refine ⟨fun h0 => ?_, fun i hi => ?_⟩
  ·
   rw [h0] at hne
   cases hne
  ·
   have h1 : i ∈ A := by simpa using hall i hi
   have hun := (mem_ready.1 hi).1
   have hc := count_set hun A hA h1
   have em := mark_set d i A l0 hA h1
   have hcl2 := clos_set hcl hi
   refine wpOp_mono (fun a' w' h' => ⟨h'.1, ?_⟩) (hstep _ a w i h1 hi hj)
   rw [em] at h' hc hcl2 ⊢
   exact fz_setC A hA fin l0 J hstep n hend hsub k _ a' w' (by omega) hcl2 h'.2
/-- What is known of the slots in between. -/
structure Gr (T : List (Nat × Tmp × Option Value)) (F : Nat → Value → World → Prop) (w0 : World) (p : Nat → Option Value) (l : Array Bool) (w : World) : Prop where
 done : ∀ x ∈ T, l.getD x.1 false = true → (p x.1).isSome = true
 fact : ∀ x ∈ T, ∀ u, p x.1 = some u → F x.1 u w
 on : On w0 w
theorem Gr.get {T : List (Nat × Tmp × Option Value)} {F : Nat → Value → World → Prop} {w0 : World} {p : Nat → Option Value} {l : Array Bool} {w : World} (h : Gr T F w0 p l w) {x : Nat × Tmp × Option Value} (hx : x ∈ T) (hl : l.getD x.1 false = true) : ∃ u, p x.1 = some u ∧ F x.1 u w := by
 obtain ⟨u, hu⟩ := Option.isSome_iff_exists.1 (h.done x hx hl)
 exact ⟨u, hu, h.fact x hx u hu⟩
theorem fz_grow (T : List (Nat × Tmp × Option Value)) (F : Nat → Value → World → Prop) (fin : Array Bool) (k n : Nat) {l : Array Bool} {a : Act} {w : World}
  (h1 : (T.map (·.1)).Nodup) (h2 : (T.map (·.2.1)).Nodup) (hl : ∀ x ∈ T, l.getD x.1 false = false) (ha : putsA T (fun _ => none) a = a)
  (hSon : ∀ w w', S w → On w w' → S w') (hS : S w) (hF : ∀ i v w w', F i v w → On w w' → F i v w')
  (hcl : allSub (openC md ops (T.map (·.1)) fin) (T.map (·.1)) l = true) (hk : ((T.map (·.1)).filter fun j => !(l.getD j false)).length = k)
  (hop : ∀ i d c, (i, d, c) ∈ T → ∃ o, ops[i]? = some o ∧ o.guard = none ∧ ∀ p w' (l' : Array Bool) (K : Act → World → Prop), i ∈ Region.ready md ops l' → Gr T F w p l' w' → S w' → (∀ v w'', On w' w'' → F i v w'' → K ((putsA T p a).put (some d) v) w'') → o.wp P (putsA T p a) w' K Q)
  (hend : ∀ p w', Gr T F w p fin w' → S w' → wpFz P md ops Q S Z n fin (putsA T p a) w') : wpFz P md ops Q S Z (n + k) l a w := by
 have em : ∀ (A : List Nat) (l : Array Bool), markL (fun _ => false) A l = l := by
  intro A
  induction A with
  | nil => intro _; rfl
  | cons i A ih => intro l; exact ih l
 have main := fz_setC (P := P) (ops := ops) (Q := Q) (md := md) (S := S) (Z := Z) (T.map (·.1)) h1 fin l (fun l' a' w' => ∃ p, a' = putsA T p a ∧ Gr T F w p l' w' ∧ S w') ?_ n ?_ hcl k (fun _ => false) a w (by rw [em]; exact hk) (by
  rw [em]
  unfold closB
  rw [List.all_eq_true]
  intro i hi
  obtain ⟨x, hx, rfl⟩ := List.mem_map.1 hi
  rw [hl x hx]
  rfl) (by rw [em]; exact ⟨fun _ => none, ha.symm, ⟨fun x hx h => (by rw [hl x hx] at h; cases h), fun _ _ _ h => (by cases h), On.refl w⟩, hS⟩)
 ·
  rw [em] at main
  exact main
 ·
  rintro l' a' w' i hi hready ⟨p, rfl, hm, hs⟩
  obtain ⟨⟨i', d, c⟩, hx, rfl⟩ := List.mem_map.1 hi
  obtain ⟨o, ho1, ho4, ho⟩ := hop i' d c hx
  unfold wpOp
  simp only [ho1]
  rw [if_pos (by simp [Region.wanted, ho4])]
  refine Or.inl (ho p w' l' _ hready hm hs fun v w'' k hv => ?_)
  refine ⟨fun _ => hSon _ _ hs k, updP p i' v, putsA_put p i' d c v T a h1 h2 hx, ⟨fun x hx' h => ?_, fun x hx' u hu => ?_, hm.on.trans k⟩, hSon _ _ hs k⟩
  ·
   unfold updP
   by_cases e : x.1 = i'
   ·
    rw [if_pos e]; rfl
   ·
    rw [if_neg e]
    rcases getD_self h with h | h
    ·
     exact absurd h e
    ·
     exact hm.done x hx' h
  ·
   unfold updP at hu
   by_cases e : x.1 = i'
   ·
    rw [if_pos e] at hu
    obtain rfl := Option.some.inj hu
    rw [e]
    exact hv
   ·
    rw [if_neg e] at hu
    exact hF _ _ _ _ (hm.fact x hx' u hu) k
 ·
  rintro a' w' ⟨p, rfl, hm, hs⟩
  exact hend p w' hm hs
end
end Go.Proofs.YtioiabfheeglgaaGreatDoor
