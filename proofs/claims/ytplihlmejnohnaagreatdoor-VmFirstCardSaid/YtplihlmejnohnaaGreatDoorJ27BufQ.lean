/- Stores that wait, in plain Lean: two rows or one, and what each call makes of them. Of no memory. -/
import Derived.Test.YtplihlmejnohnaaGreatDoorProg
namespace Go.Proofs.YtplihlmejnohnaaGreatDoor

/-- A number of 64 bits. -/
def InR (z : Int) : Prop := -9223372036854775808 ≤ z ∧ z ≤ 9223372036854775807
/-- A store: its location, its value, its number. -/
abbrev EnT := Int × Int × Int
def enL (e : EnT) : List Int := [e.1, e.2.1, e.2.2]
def enZ : EnT := (0, 0, 0)
def EnIn (e : EnT) : Prop := ∀ z ∈ enL e, InR z
theorem enL_len (e : EnT) : (enL e).length = 3 := rfl
/-- A model and what waits. -/
abbrev BufT := {b : Int × List EnT // b.2.length ≤ 24 ∧ InR b.1 ∧ ∀ e ∈ b.2, EnIn e}
def BufT.m (b : BufT) : Int := b.1.1
def BufT.l (b : BufT) : List EnT := b.1.2
theorem BufT.len (b : BufT) : b.l.length ≤ 24 := b.2.1
theorem BufT.mem (b : BufT) : ∀ e ∈ b.l, EnIn e := b.2.2.2
theorem BufT.ext {a b : BufT} (h1 : a.m = b.m) (h2 : a.l = b.l) : a = b := Subtype.ext (Prod.ext h1 h2)
def mkB (m : Int) (l : List EnT) (h : l.length ≤ 24) (hm : InR m) (hl : ∀ e ∈ l, EnIn e) : BufT := ⟨(m, l), h, hm, hl⟩

/-- How many stand at the front that have it. -/
def twN {α : Type} (p : α → Bool) (l : List α) : Nat := (l.takeWhile p).length
section
variable {α : Type} {p : α → Bool}
theorem twN_le : ∀ (l : List α), twN p l ≤ l.length
  | [] => Nat.le_refl _
  | x :: l => by
    unfold twN
    rw [List.takeWhile_cons]
    split
    · simpa [twN] using twN_le l
    · simp
theorem twN_go : ∀ (l : List α) (k : Nat) (x : α), k ≤ twN p l → l[k]? = some x → p x = true → k < twN p l
  | [], k, x, _, h, _ => by simp at h
  | y :: l, 0, x, _, h, hp => by
    obtain rfl : y = x := by simpa using h
    unfold twN
    rw [List.takeWhile_cons, if_pos hp]
    simp
  | y :: l, k + 1, x, hk, h, hp => by
    unfold twN at hk ⊢
    rw [List.takeWhile_cons] at hk ⊢
    split
    · rename_i hy
      rw [if_pos hy] at hk
      have := twN_go l k x (by simpa [twN] using hk) (by simpa using h) hp
      simp only [List.length_cons]
      unfold twN at this
      omega
    · rename_i hy
      rw [if_neg hy] at hk
      simp at hk
theorem twN_stop : ∀ (l : List α) (k : Nat) (x : α), k ≤ twN p l → l[k]? = some x → p x = false → k = twN p l
  | [], k, x, _, h, _ => by simp at h
  | y :: l, 0, x, _, h, hp => by
    obtain rfl : y = x := by simpa using h
    unfold twN
    rw [List.takeWhile_cons, if_neg (by simp [hp])]
    rfl
  | y :: l, k + 1, x, hk, h, hp => by
    unfold twN at hk ⊢
    rw [List.takeWhile_cons] at hk ⊢
    split
    · rename_i hy
      rw [if_pos hy] at hk
      have := twN_stop l k x (by simpa [twN] using hk) (by simpa using h) hp
      simp only [List.length_cons]
      unfold twN at this
      omega
    · rename_i hy
      rw [if_neg hy] at hk
      simp at hk
end
def lowN (l : List EnT) (c : Int) : Nat := twN (fun e => decide (e.1 < c)) l
def midN (l : List EnT) (c : Int) : Nat := twN (fun e => e.1 == c) (l.drop (lowN l c))
/-- Where those stand that wait for each other. -/
def spA (b : BufT) (c : Int) : Nat := if b.m = 3 then lowN b.l c else 0
def spB (b : BufT) (c : Int) : Nat := if b.m = 3 then lowN b.l c + midN b.l c else b.l.length
theorem low_le (l : List EnT) (c : Int) : lowN l c ≤ l.length := twN_le l
theorem mid_le (l : List EnT) (c : Int) : lowN l c + midN l c ≤ l.length := by
  have h := twN_le (p := fun e : EnT => e.1 == c) (l.drop (lowN l c))
  have := low_le l c
  rw [List.length_drop] at h
  unfold midN
  omega
theorem sp_le (b : BufT) (c : Int) : spA b c ≤ spB b c ∧ spB b c ≤ b.l.length := by
  have := mid_le b.l c
  unfold spA spB
  split
  · constructor <;> omega
  · constructor <;> omega
/-- What each call makes. -/
def newB (m : Int) (hm : InR m) : BufT := if m = 2 ∨ m = 3 then mkB m [] (by simp) hm (fun _ h => by simp at h) else mkB 0 [] (by simp) (by unfold InR; omega) (fun _ h => by simp at h)
def noB (b : BufT) (c : Int) : Prop := b.m = 0 ∨ b.l.length = 24 ∨ c < 0 ∨ 4 ≤ c
def putL (l : List EnT) (k : Nat) (e : EnT) : List EnT := l.take k ++ e :: l.drop k
theorem putL_len (l : List EnT) (k : Nat) (e : EnT) : (putL l k e).length = l.length + 1 := by
  unfold putL
  simp only [List.length_append, List.length_take, List.length_cons, List.length_drop]
  omega
theorem putL_mem {l : List EnT} {k : Nat} {e x : EnT} (h : x ∈ putL l k e) : x = e ∨ x ∈ l := by
  unfold putL at h
  rcases List.mem_append.1 h with h | h
  · exact Or.inr (List.mem_of_mem_take h)
  · rcases List.mem_cons.1 h with h | h
    · exact Or.inl h
    · exact Or.inr (List.mem_of_mem_drop h)
def putB (b : BufT) (e : EnT) (he : EnIn e) : BufT :=
  if h : b.m = 0 ∨ b.l.length = 24 ∨ e.1 < 0 ∨ 4 ≤ e.1 then b else
    mkB b.m (putL b.l (spB b e.1) e) (by rw [putL_len]; have := b.len; omega) b.2.2.1 (fun x hx => by
      rcases putL_mem hx with rfl | hx
      · exact he
      · exact b.mem x hx)
def cutL (l : List EnT) (k : Nat) : List EnT := l.take k ++ l.drop (k + 1)
theorem cutL_len {l : List EnT} {k : Nat} (h : k < l.length) : (cutL l k).length + 1 = l.length := by
  unfold cutL
  simp only [List.length_append, List.length_take, List.length_drop]
  omega
theorem cutL_mem {l : List EnT} {k : Nat} {x : EnT} (h : x ∈ cutL l k) : x ∈ l := by
  unfold cutL at h
  rcases List.mem_append.1 h with h | h
  · exact List.mem_of_mem_take h
  · exact List.mem_of_mem_drop h
def dropB (b : BufT) (c : Int) : BufT :=
  if h : spA b c = spB b c then b else
    mkB b.m (cutL b.l (spA b c)) (by have := b.len; have := cutL_len (l := b.l) (k := spA b c) (by have := sp_le b c; omega); omega) b.2.2.1 (fun x hx => b.mem x (cutL_mem hx))
/-- What the calls tell. -/
def rowB (b : BufT) (c : Int) : List EnT := (b.l.drop (spA b c)).take (spB b c - spA b c)
def oldB (b : BufT) (c : Int) : Option EnT := (rowB b c)[0]?
def newestL (c : Int) : List EnT → Option EnT
  | [] => none
  | e :: l => match newestL c l with
    | some x => some x
    | none => if e.1 = c then some e else none
def newestB (b : BufT) (c : Int) : Option EnT := newestL c (rowB b c)
theorem rowB_len (b : BufT) (c : Int) : (rowB b c).length = spB b c - spA b c := by
  unfold rowB
  have := sp_le b c
  rw [List.length_take, List.length_drop]
  omega
theorem newestL_append (c : Int) (l : List EnT) (e : EnT) : newestL c (l ++ [e]) = if e.1 = c then some e else newestL c l := by
  induction l with
  | nil => simp [newestL]
  | cons x l ih =>
    rw [List.cons_append]
    unfold newestL
    rw [ih]
    by_cases h : e.1 = c
    · simp [h]
    · simp [h]

/-- Twenty-four places. -/
def padR (l : List EnT) : List EnT := l ++ List.replicate (24 - l.length) enZ
theorem padR_len {l : List EnT} (h : l.length ≤ 24) : (padR l).length = 24 := by
  unfold padR
  rw [List.length_append, List.length_replicate]
  omega
theorem padR_at {l : List EnT} {k : Nat} {e : EnT} (h : l[k]? = some e) : (padR l)[k]? = some e := by
  unfold padR
  rw [List.getElem?_append_left (List.getElem?_eq_some_iff.1 h).1]
  exact h
theorem padR_inj {l l' : List EnT} (h1 : l.length = l'.length) (h2 : padR l = padR l') : l = l' := by
  unfold padR at h2
  exact (List.append_inj h2 h1).1
/-- What copy and the store behind it make of the places. -/
theorem pad_put {l : List EnT} {k : Nat} (hk : k ≤ l.length) (h : l.length < 24) (e : EnT) :
    ((padR l).take (k + 1) ++ ((padR l).drop k).take (l.length - k) ++ (padR l).drop (l.length + 1)).set k e = padR (putL l k e) := by
  have hl : (l.take k).length = k := by rw [List.length_take]; omega
  have e1 : (padR l).drop (l.length + 1) = List.replicate (24 - (l.length + 1)) enZ := by
    unfold padR
    rw [List.drop_append, List.drop_eq_nil_of_le (by omega), List.nil_append, List.drop_replicate]
    congr 1
    omega
  have e2 : ((padR l).drop k).take (l.length - k) = l.drop k := by
    unfold padR
    rw [List.drop_append_of_le_length hk, List.take_append_of_le_length (by rw [List.length_drop]; omega), List.take_of_length_le (by rw [List.length_drop]; omega)]
  have e3 : ∃ x, (padR l).take (k + 1) = l.take k ++ [x] := by
    have hlt : k < (padR l).length := by rw [padR_len (by omega)]; omega
    refine ⟨(padR l)[k], ?_⟩
    rw [List.take_add_one, List.getElem?_eq_getElem hlt]
    congr 1
    unfold padR
    rw [List.take_append_of_le_length hk]
  obtain ⟨x, e3⟩ := e3
  rw [e1, e2, e3, List.append_assoc, List.append_assoc, List.set_append_right _ _ (by omega), hl, Nat.sub_self]
  unfold padR
  rw [putL_len]
  unfold putL
  simp
theorem pad_cut {l : List EnT} {k : Nat} (hk : k < l.length) (h : l.length ≤ 24) :
    ((padR l).take k ++ ((padR l).drop (k + 1)).take (l.length - (k + 1)) ++ (padR l).drop (l.length - 1)).set (l.length - 1) enZ = padR (cutL l k) := by
  have hc := cutL_len hk
  have e2 : ((padR l).drop (k + 1)).take (l.length - (k + 1)) = l.drop (k + 1) := by
    unfold padR
    rw [List.drop_append_of_le_length (by omega), List.take_append_of_le_length (by rw [List.length_drop]; omega), List.take_of_length_le (by rw [List.length_drop]; omega)]
  have e3 : (padR l).take k = l.take k := by
    unfold padR
    rw [List.take_append_of_le_length (by omega)]
  have e1 : ∃ x, (padR l).drop (l.length - 1) = x :: List.replicate (24 - l.length) enZ := by
    refine ⟨l[l.length - 1], ?_⟩
    unfold padR
    rw [List.drop_append_of_le_length (by omega), List.drop_eq_getElem_cons (by omega), List.drop_eq_nil_of_le (by omega)]
    rfl
  obtain ⟨x, e1⟩ := e1
  have hl : (l.take k ++ l.drop (k + 1)).length = l.length - 1 := by
    rw [List.length_append, List.length_take, List.length_drop]
    omega
  rw [e1, e2, e3, List.set_append_right _ _ (by omega), hl, Nat.sub_self]
  unfold padR
  have : 24 - (cutL l k).length = (24 - l.length) + 1 := by omega
  rw [this, List.replicate_succ]
  rfl
end Go.Proofs.YtplihlmejnohnaaGreatDoor

namespace Go.Proofs.YtplihlmejnohnaaGreatDoor

def atC (c : Int) (e : EnT) : Bool := e.1 == c
def upE (l : List EnT) : Prop := l.Pairwise (fun a b => a.1 ≤ b.1)
theorem twN_false {α : Type} {p : α → Bool} {x : α} {l : List α} (h : p x = false) : twN p (x :: l) = 0 := by
  unfold twN
  rw [List.takeWhile_cons, if_neg (by simp [h])]
  rfl
theorem twN_true {α : Type} {p : α → Bool} {x : α} {l : List α} (h : p x = true) : twN p (x :: l) = twN p l + 1 := by
  unfold twN
  rw [List.takeWhile_cons, if_pos h]
  rfl
/-- A rising row: those before, those at it, those behind. -/
theorem up_parts (c : Int) : ∀ (l : List EnT), upE l → ∃ A M Z : List EnT, l = A ++ M ++ Z ∧ A.length = lowN l c ∧ M.length = midN l c ∧ (∀ e ∈ A, e.1 < c) ∧ (∀ e ∈ M, e.1 = c) ∧ (∀ e ∈ Z, c < e.1)
  | [], _ => ⟨[], [], [], rfl, rfl, rfl, fun _ h => by simp at h, fun _ h => by simp at h, fun _ h => by simp at h⟩
  | x :: l, h => by
    have hx := (List.pairwise_cons.1 h).1
    obtain ⟨A, M, Z, e, h1, h2, hA, hM, hZ⟩ := up_parts c l (List.pairwise_cons.1 h).2
    by_cases hlt : x.1 < c
    · have e1 : lowN (x :: l) c = lowN l c + 1 := twN_true (by simpa using hlt)
      have e2 : midN (x :: l) c = midN l c := by unfold midN; rw [e1, List.drop_succ_cons]
      refine ⟨x :: A, M, Z, by rw [e]; rfl, by rw [e1, List.length_cons, h1], by rw [e2, h2], ?_, hM, hZ⟩
      intro e he
      rcases List.mem_cons.1 he with rfl | he
      · exact hlt
      · exact hA e he
    · have e1 : lowN (x :: l) c = 0 := twN_false (by simpa using hlt)
      have hA0 : A = [] := by
        cases A with
        | nil => rfl
        | cons a A =>
          have := hA a List.mem_cons_self
          have := hx a (by rw [e]; simp)
          omega
      subst hA0
      have e0 : lowN l c = 0 := h1.symm
      by_cases hc : x.1 = c
      · have e2 : midN (x :: l) c = midN l c + 1 := by
          unfold midN
          rw [e1, e0, List.drop_zero, List.drop_zero]
          exact twN_true (by simpa using hc)
        refine ⟨[], x :: M, Z, by rw [e]; rfl, e1.symm, by rw [e2, List.length_cons, h2], fun _ h => by simp at h, ?_, hZ⟩
        intro e he
        rcases List.mem_cons.1 he with rfl | he
        · exact hc
        · exact hM e he
      · have e2 : midN (x :: l) c = 0 := by
          unfold midN
          rw [e1, List.drop_zero]
          exact twN_false (by simpa using hc)
        refine ⟨[], [], x :: l, rfl, e1.symm, e2.symm, fun _ h => by simp at h, fun _ h => by simp at h, ?_⟩
        intro e he
        rcases List.mem_cons.1 he with rfl | he
        · omega
        · have := hx e he
          omega
theorem filt_all {c : Int} {M : List EnT} (h : ∀ e ∈ M, e.1 = c) : M.filter (atC c) = M := List.filter_eq_self.2 (fun e he => by simp [atC, h e he])
theorem filt_none {c : Int} {M : List EnT} (h : ∀ e ∈ M, e.1 ≠ c) : M.filter (atC c) = [] := List.filter_eq_nil_iff.2 (fun e he => by simp [atC, h e he])
/-- A Buf of a row for each location. -/
def S3 (b : BufT) : Prop := b.m = 3 ∧ upE b.l ∧ ∀ e ∈ b.l, 0 ≤ e.1 ∧ e.1 < 4
section
variable {b : BufT}
theorem S3.parts (h : S3 b) (c : Int) : ∃ A M Z : List EnT, b.l = A ++ M ++ Z ∧ A.length = spA b c ∧ A.length + M.length = spB b c ∧ M = b.l.filter (atC c) ∧ (∀ e ∈ A, e.1 < c) ∧ (∀ e ∈ M, e.1 = c) ∧ (∀ e ∈ Z, c < e.1) := by
  obtain ⟨A, M, Z, e, h1, h2, hA, hM, hZ⟩ := up_parts c b.l h.2.1
  refine ⟨A, M, Z, e, ?_, ?_, ?_, hA, hM, hZ⟩
  · unfold spA; rw [if_pos h.1]; exact h1
  · unfold spB; rw [if_pos h.1, h1, h2]
  · rw [e, List.filter_append, List.filter_append, filt_all hM, filt_none (fun e he => by have := hA e he; omega), filt_none (fun e he => by have := hZ e he; omega), List.nil_append, List.append_nil]
theorem S3.row (h : S3 b) (c : Int) : rowB b c = b.l.filter (atC c) := by
  obtain ⟨A, M, Z, e, h1, h2, hM, _⟩ := h.parts c
  unfold rowB
  rw [← hM, e, ← h1, ← h2, List.append_assoc, List.drop_left, Nat.add_sub_cancel_left, List.take_left]
theorem up_ins {A M Z : List EnT} {e : EnT} (h : upE (A ++ M ++ Z)) (hA : ∀ x ∈ A, x.1 ≤ e.1) (hM : ∀ x ∈ M, x.1 ≤ e.1) (hZ : ∀ x ∈ Z, e.1 ≤ x.1) : upE (A ++ M ++ e :: Z) := by
  unfold upE at h ⊢
  rw [List.pairwise_append] at h ⊢
  refine ⟨h.1, List.pairwise_cons.2 ⟨hZ, h.2.1⟩, ?_⟩
  intro x hx y hy
  rcases List.mem_cons.1 hy with rfl | hy
  · rcases List.mem_append.1 hx with hx | hx
    · exact hA x hx
    · exact hM x hx
  · exact h.2.2 x hx y hy
theorem putL_filter (l : List EnT) (k : Nat) (e : EnT) (c : Int) (h : e.1 ≠ c) : (putL l k e).filter (atC c) = l.filter (atC c) := by
  unfold putL
  rw [List.filter_append, List.filter_cons, if_neg (by simpa [atC] using h), ← List.filter_append, List.take_append_drop]
theorem S3.put (h : S3 b) {e : EnT} (he : EnIn e) (h1 : b.l.length < 24) (h2 : 0 ≤ e.1) (h3 : e.1 < 4) :
    S3 (putB b e he) ∧ (putB b e he).l.length = b.l.length + 1 ∧ ∀ c, (putB b e he).l.filter (atC c) = b.l.filter (atC c) ++ if e.1 = c then [e] else [] := by
  have hb : ¬ (b.m = 0 ∨ b.l.length = 24 ∨ e.1 < 0 ∨ 4 ≤ e.1) := by rw [h.1]; omega
  have el : (putB b e he).l = putL b.l (spB b e.1) e := by unfold putB; rw [dif_neg hb]; rfl
  have em : (putB b e he).m = 3 := by unfold putB; rw [dif_neg hb]; exact h.1
  obtain ⟨A, M, Z, el2, hsA, hsB, hM, hA1, hM1, hZ1⟩ := h.parts e.1
  have ep : putL b.l (spB b e.1) e = A ++ M ++ e :: Z := by
    unfold putL
    rw [el2, ← hsB, ← List.length_append, List.take_left, List.drop_left]
  refine ⟨⟨em, ?_, ?_⟩, by rw [el, putL_len], ?_⟩
  · rw [el, ep]
    exact up_ins (by rw [← el2]; exact h.2.1) (fun x hx => by have := hA1 x hx; omega) (fun x hx => by have := hM1 x hx; omega) (fun x hx => by have := hZ1 x hx; omega)
  · intro x hx
    rw [el] at hx
    rcases putL_mem hx with rfl | hx
    · exact ⟨h2, h3⟩
    · exact h.2.2 x hx
  · intro c
    by_cases hc : e.1 = c
    · subst hc
      rw [el, ep, if_pos rfl, ← hM, List.filter_append, List.filter_append, filt_none (fun x hx => by have := hA1 x hx; omega), filt_all hM1, List.filter_cons, if_pos (by simp [atC]), filt_none (fun x hx => by have := hZ1 x hx; omega), List.nil_append]
    · rw [el, putL_filter _ _ _ _ hc, if_neg hc, List.append_nil]
theorem cutL_at {l A M Z : List EnT} {k : Nat} {x : EnT} (hl : l = A ++ (x :: M) ++ Z) (hk : A.length = k) : cutL l k = A ++ M ++ Z := by
  unfold cutL
  rw [hl, ← hk, List.append_assoc, List.take_left, List.drop_append, List.drop_eq_nil_of_le (by omega), List.nil_append, Nat.add_sub_cancel_left, List.cons_append, List.drop_succ_cons, List.drop_zero, List.append_assoc]
theorem up_cut {A M Z : List EnT} {x : EnT} (h : upE (A ++ (x :: M) ++ Z)) : upE (A ++ M ++ Z) := by
  unfold upE at h ⊢
  refine List.Pairwise.sublist ?_ h
  exact ((List.Sublist.refl A).append (List.sublist_cons_self x M)).append (List.Sublist.refl Z)
theorem S3.drop (h : S3 b) (c : Int) :
    S3 (dropB b c) ∧ (dropB b c).l.length = b.l.length - (if b.l.filter (atC c) = [] then 0 else 1) ∧ ∀ d, (dropB b c).l.filter (atC d) = if d = c then (b.l.filter (atC c)).tail else b.l.filter (atC d) := by
  obtain ⟨A, M, Z, el2, hsA, hsB, hM, hA1, hM1, hZ1⟩ := h.parts c
  cases M with
  | nil =>
    have hs : spA b c = spB b c := by simp at hsB; omega
    have e : dropB b c = b := by unfold dropB; rw [dif_pos hs]
    rw [e, ← hM, if_pos rfl]
    refine ⟨h, rfl, fun d => ?_⟩
    by_cases hd : d = c
    · subst hd; rw [if_pos rfl, ← hM]; rfl
    · rw [if_neg hd]
  | cons x M =>
    have hs : ¬ spA b c = spB b c := by simp at hsB; omega
    have el : (dropB b c).l = cutL b.l (spA b c) := by unfold dropB; rw [dif_neg hs]; rfl
    have em : (dropB b c).m = 3 := by unfold dropB; rw [dif_neg hs]; exact h.1
    have ec : cutL b.l (spA b c) = A ++ M ++ Z := cutL_at el2 hsA
    refine ⟨⟨em, ?_, ?_⟩, ?_, ?_⟩
    · rw [el, ec]
      exact up_cut (x := x) (by rw [← el2]; exact h.2.1)
    · intro y hy
      rw [el] at hy
      exact h.2.2 y (cutL_mem hy)
    · rw [el, ec, ← hM, el2, if_neg (by simp)]
      simp only [List.length_append, List.length_cons]
      omega
    · intro d
      have hxc := hM1 x List.mem_cons_self
      by_cases hd : d = c
      · subst hd
        rw [if_pos rfl, ← hM, el, ec, List.filter_append, List.filter_append, filt_none (fun y hy => by have := hA1 y hy; omega), filt_all (fun y hy => hM1 y (List.mem_cons_of_mem _ hy)), filt_none (fun y hy => by have := hZ1 y hy; omega), List.nil_append, List.append_nil]
        rfl
      · rw [if_neg hd, el, ec, el2]
        simp only [List.filter_append]
        rw [filt_none (c := d) (M := x :: M) (fun y hy => by have := hM1 y hy; omega), filt_none (c := d) (M := M) (fun y hy => by have := hM1 y (List.mem_cons_of_mem _ hy); omega)]
end

/-- The document's row: which of it wait for each other. -/
def seesW (m c : Int) (e : EnT) : Bool := m == 2 || e.1 == c
def filtW (m : Int) (w : List EnT) (c : Int) : List EnT := w.filter (seesW m c)
def fstN (m : Int) (w : List EnT) (c : Int) : Nat := twN (fun e => !(seesW m c e)) w
theorem seesW_two (c : Int) : seesW 2 c = fun _ => true := by funext e; rfl
theorem seesW_not {m : Int} (h : m ≠ 2) (c : Int) : seesW m c = atC c := by
  funext e
  unfold seesW atC
  rw [show (m == 2) = false by simpa using h]
  rfl
theorem filt_true (l : List EnT) : l.filter (fun _ => true) = l := List.filter_eq_self.2 (fun _ _ => rfl)
theorem filt_head {p : EnT → Bool} : ∀ (w : List EnT), (w.filter p)[0]? = w[twN (fun e => !(p e)) w]?
  | [] => rfl
  | x :: w => by
    rw [List.filter_cons]
    by_cases h : p x = true
    · rw [if_pos h, twN_false (by simp [h])]
      rfl
    · rw [if_neg h, twN_true (by simpa using h), List.getElem?_cons_succ]
      exact filt_head w
theorem filt_cut {p : EnT → Bool} : ∀ (w : List EnT), (cutL w (twN (fun e => !(p e)) w)).filter p = (w.filter p).tail
  | [] => rfl
  | x :: w => by
    rw [List.filter_cons]
    by_cases h : p x = true
    · rw [if_pos h, twN_false (by simp [h])]
      rfl
    · rw [if_neg h, twN_true (by simpa using h), ← filt_cut w]
      show (x :: cutL w _).filter p = _
      rw [List.filter_cons, if_neg h]
theorem filt_cut_ne {p q : EnT → Bool} (hpq : ∀ e, p e = true → q e = false) : ∀ (w : List EnT), (cutL w (twN (fun e => !(p e)) w)).filter q = w.filter q
  | [] => rfl
  | x :: w => by
    by_cases h : p x = true
    · rw [twN_false (by simp [h])]
      show (w).filter q = _
      rw [List.filter_cons, if_neg (by simp [hpq x h])]
    · rw [twN_true (by simpa using h)]
      show (x :: cutL w _).filter q = _
      rw [List.filter_cons, List.filter_cons, filt_cut_ne hpq w]
theorem fst_found (m : Int) (w : List EnT) (c : Int) : fstN m w c < w.length ↔ filtW m w c ≠ [] := by
  have h := filt_head (p := seesW m c) w
  constructor
  · intro hl e
    unfold filtW at e
    rw [e] at h
    unfold fstN at hl
    rw [List.getElem?_eq_getElem hl] at h
    simp at h
  · intro hne
    rcases Nat.lt_or_ge (fstN m w c) w.length with h1 | h1
    · exact h1
    · unfold fstN at h1
      rw [List.getElem?_eq_none h1] at h
      unfold filtW at hne
      cases hf : w.filter (seesW m c) with
      | nil => exact absurd hf hne
      | cons x l => rw [hf] at h; simp at h
theorem newestL_filter (c : Int) (w : List EnT) : newestL c (w.filter (atC c)) = newestL c w := by
  induction w with
  | nil => rfl
  | cons x w ih =>
    rw [List.filter_cons]
    by_cases h : x.1 = c
    · rw [if_pos (by simpa [atC] using h)]
      unfold newestL
      rw [ih]
    · rw [if_neg (by simpa [atC] using h), ih]
      conv => rhs; unfold newestL
      cases newestL c w with
      | none => simp [h]
      | some y => rfl
/-- A Buf and the document's row. -/
def BW (m : Int) (b : BufT) (w : List EnT) : Prop :=
  b.l.length = w.length ∧ ((m = 2 ∧ b.m = 2 ∧ b.l = w) ∨ (m = 3 ∧ S3 b ∧ ∀ c, b.l.filter (atC c) = w.filter (atC c)) ∨ (m ≠ 2 ∧ m ≠ 3 ∧ b.m = 0 ∧ b.l = [] ∧ w = []))
section
variable {m : Int} {b : BufT} {w : List EnT}
theorem BW.row (h : BW m b w) (c : Int) : rowB b c = filtW m w c := by
  obtain ⟨_, ⟨rfl, h2, h3⟩ | ⟨rfl, h2, h3⟩ | ⟨h1, h2, h3, h4, h5⟩⟩ := h
  · unfold filtW rowB spA spB
    rw [seesW_two, filt_true, if_neg (by omega), if_neg (by omega), List.drop_zero, Nat.sub_zero, List.take_length, h3]
  · unfold filtW
    rw [seesW_not (by decide), ← h3 c]
    exact h2.row c
  · unfold filtW rowB
    rw [h4, h5]
    simp
theorem BW.new (m : Int) (hm : InR m) : BW m (newB m hm) [] := by
  unfold BW newB
  by_cases h2 : m = 2
  · rw [if_pos (Or.inl h2)]
    exact ⟨rfl, Or.inl ⟨h2, h2, rfl⟩⟩
  · by_cases h3 : m = 3
    · rw [if_pos (Or.inr h3)]
      exact ⟨rfl, Or.inr (Or.inl ⟨h3, ⟨h3, List.Pairwise.nil, fun _ h => by cases h⟩, fun _ => rfl⟩)⟩
    · rw [if_neg (by omega)]
      exact ⟨rfl, Or.inr (Or.inr ⟨h2, h3, rfl, rfl, rfl⟩)⟩
theorem BW.old (h : BW m b w) (c : Int) : oldB b c = w[fstN m w c]? := by
  unfold oldB
  rw [h.row c]
  exact filt_head w
theorem BW.newest (h : BW m b w) (c : Int) : newestB b c = newestL c w := by
  unfold newestB
  rw [h.row c]
  by_cases hm : m = 2
  · subst hm
    unfold filtW
    rw [seesW_two, filt_true]
  · unfold filtW
    rw [seesW_not hm]
    exact newestL_filter c w
/-- What the law puts into its row. -/
def wput (m : Int) (w : List EnT) (e : EnT) : List EnT := if (m = 2 ∨ m = 3) ∧ 0 ≤ e.1 ∧ e.1 ≤ 3 ∧ w.length < 24 then w ++ [e] else w
def wcut (m : Int) (w : List EnT) (c : Int) : List EnT := if fstN m w c < w.length then cutL w (fstN m w c) else w
theorem putB_same {b : BufT} {e : EnT} (he : EnIn e) (h : b.m = 0 ∨ b.l.length = 24 ∨ e.1 < 0 ∨ 4 ≤ e.1) : putB b e he = b := by unfold putB; rw [dif_pos h]
theorem BW.put (h : BW m b w) {e : EnT} (he : EnIn e) : BW m (putB b e he) (wput m w e) := by
  obtain ⟨hl, hc⟩ := h
  have hb := b.len
  by_cases hp : (m = 2 ∨ m = 3) ∧ 0 ≤ e.1 ∧ e.1 ≤ 3 ∧ w.length < 24
  · have ew : wput m w e = w ++ [e] := if_pos hp
    rw [ew]
    rcases hc with ⟨h1, h2, h3⟩ | ⟨h1, h2, h3⟩ | ⟨h1, h2, _⟩
    · have hn : ¬ (b.m = 0 ∨ b.l.length = 24 ∨ e.1 < 0 ∨ 4 ≤ e.1) := by omega
      have el : (putB b e he).l = putL b.l (spB b e.1) e := by unfold putB; rw [dif_neg hn]; rfl
      have em : (putB b e he).m = 2 := by unfold putB; rw [dif_neg hn]; exact h2
      have es : spB b e.1 = b.l.length := by unfold spB; rw [if_neg (by omega)]
      have e3 : (putB b e he).l = w ++ [e] := by
        rw [el, es]
        unfold putL
        rw [List.take_length, List.drop_length, h3]
      exact ⟨by rw [e3], Or.inl ⟨h1, em, e3⟩⟩
    · obtain ⟨q1, q2, q3⟩ := h2.put he (by omega) hp.2.1 (by omega)
      refine ⟨by rw [q2, List.length_append, hl]; rfl, Or.inr (Or.inl ⟨h1, q1, fun c => ?_⟩)⟩
      rw [q3 c, h3 c, List.filter_append, List.filter_cons, List.filter_nil]
      unfold atC
      by_cases hc : e.1 = c <;> simp [hc]
    · omega
  · have ew : wput m w e = w := if_neg hp
    rw [ew, putB_same he (by
      rcases hc with ⟨h1, h2, h3⟩ | ⟨h1, h2, h3⟩ | ⟨h1, h2, h3, _⟩
      · omega
      · have := h2.1
        omega
      · exact Or.inl h3)]
    exact ⟨hl, hc⟩
theorem BW.drop (h : BW m b w) (c : Int) : BW m (dropB b c) (wcut m w c) := by
  obtain ⟨hl, hc⟩ := h
  rcases hc with ⟨h1, h2, h3⟩ | ⟨h1, h2, h3⟩ | ⟨h1, h2, h3, h4, h5⟩
  · have ef : fstN m w c = 0 := by
      unfold fstN
      rw [h1]
      cases w with
      | nil => rfl
      | cons x w => exact twN_false rfl
    have eA : spA b c = 0 := by unfold spA; rw [if_neg (by omega)]
    have eB : spB b c = b.l.length := by unfold spB; rw [if_neg (by omega)]
    by_cases hw : w.length = 0
    · have e : dropB b c = b := by unfold dropB; rw [dif_pos (by omega)]
      have e2 : wcut m w c = w := if_neg (by omega)
      rw [e, e2]
      exact ⟨hl, Or.inl ⟨h1, h2, h3⟩⟩
    · have hn : ¬ spA b c = spB b c := by omega
      have el : (dropB b c).l = cutL b.l (spA b c) := by unfold dropB; rw [dif_neg hn]; rfl
      have em : (dropB b c).m = 2 := by unfold dropB; rw [dif_neg hn]; exact h2
      have e2 : wcut m w c = cutL w 0 := by unfold wcut; rw [ef, if_pos (by omega)]
      have e3 : (dropB b c).l = cutL w 0 := by rw [el, eA, h3]
      rw [e2]
      exact ⟨by rw [e3], Or.inl ⟨h1, em, e3⟩⟩
  · obtain ⟨q1, q2, q3⟩ := h2.drop c
    have hf := fst_found m w c
    have es : seesW m c = atC c := seesW_not (by omega) c
    have ef : filtW m w c = w.filter (atC c) := by unfold filtW; rw [es]
    by_cases hw : w.filter (atC c) = []
    · have e2 : wcut m w c = w := if_neg (by rw [hf, ef]; simp [hw])
      rw [h3 c, if_pos hw] at q2
      rw [e2]
      refine ⟨by omega, Or.inr (Or.inl ⟨h1, q1, fun d => ?_⟩)⟩
      rw [q3 d, h3 c, hw]
      by_cases hd : d = c
      · subst hd; rw [if_pos rfl, hw]; rfl
      · rw [if_neg hd, h3 d]
    · have hlt : fstN m w c < w.length := by rw [hf, ef]; exact hw
      have e2 : wcut m w c = cutL w (fstN m w c) := if_pos hlt
      have e4 := cutL_len hlt
      rw [h3 c, if_neg hw] at q2
      rw [e2]
      refine ⟨by omega, Or.inr (Or.inl ⟨h1, q1, fun d => ?_⟩)⟩
      rw [q3 d, h3 c, h3 d]
      unfold fstN
      rw [es]
      by_cases hd : d = c
      · subst hd; rw [if_pos rfl, filt_cut]
      · rw [if_neg hd, filt_cut_ne]
        intro e he
        unfold atC at he ⊢
        simp at he ⊢
        omega
  · have ew : wcut m w c = [] := by unfold wcut; rw [h5]; rfl
    have e : dropB b c = b := by
      unfold dropB
      rw [dif_pos (by unfold spA spB; rw [h4, if_neg (by omega), if_neg (by omega)]; rfl)]
    rw [ew, e]
    exact ⟨by rw [h4], Or.inr (Or.inr ⟨h1, h2, h3, h4, rfl⟩)⟩
end
/-- What has a store is not empty, what has no store of any location is. -/
theorem S3.nil {b : BufT} (h : S3 b) (hn : ∀ c, 0 ≤ c → c < 4 → b.l.filter (atC c) = []) : b.l = [] := by
  cases hb : b.l with
  | nil => rfl
  | cons x l =>
    have hx := h.2.2 x (by rw [hb]; simp)
    have := hn x.1 hx.1 hx.2
    rw [hb, List.filter_cons, if_pos (by simp [atC])] at this
    cases this
end Go.Proofs.YtplihlmejnohnaaGreatDoor
