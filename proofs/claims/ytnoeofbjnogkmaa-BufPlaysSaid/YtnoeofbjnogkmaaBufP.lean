/- Stores that wait, in plain Lean: two rows or one, and what each call makes of them. Of no memory. -/
import Derived.Test.YtnoeofbjnogkmaaProg
namespace Go.Proofs.Ytnoeofbjnogkmaa

/-- A number of 64 bits. -/
def InR (z : Int) : Prop := -9223372036854775808 ≤ z ∧ z ≤ 9223372036854775807
/-- A store: its location, its value, its number. -/
abbrev EnT := Int × Int × Int
def enL (e : EnT) : List Int := [e.1, e.2.1, e.2.2]
def enZ : EnT := (0, 0, 0)
def EnIn (e : EnT) : Prop := ∀ z ∈ enL e, InR z
theorem enL_len (e : EnT) : (enL e).length = 3 := rfl
/-- A model and what waits. -/
abbrev BufT := {b : Int × List EnT // b.2.length ≤ 24 ∧ InR b.1 ∧ ∀ e ∈ b.2, EnIn e}
def BufT.m (b : BufT) : Int := b.1.1
def BufT.l (b : BufT) : List EnT := b.1.2
theorem BufT.len (b : BufT) : b.l.length ≤ 24 := b.2.1
theorem BufT.mem (b : BufT) : ∀ e ∈ b.l, EnIn e := b.2.2.2
theorem BufT.ext {a b : BufT} (h1 : a.m = b.m) (h2 : a.l = b.l) : a = b := Subtype.ext (Prod.ext h1 h2)
def mkB (m : Int) (l : List EnT) (h : l.length ≤ 24) (hm : InR m) (hl : ∀ e ∈ l, EnIn e) : BufT := ⟨(m, l), h, hm, hl⟩

/-- How many stand at the front that have it. -/
def twN {α : Type} (p : α → Bool) (l : List α) : Nat := (l.takeWhile p).length
section
variable {α : Type} {p : α → Bool}
theorem twN_le : ∀ (l : List α), twN p l ≤ l.length
  | [] => Nat.le_refl _
  | x :: l => by
    unfold twN
    rw [List.takeWhile_cons]
    split
    · simpa [twN] using twN_le l
    · simp
theorem twN_go : ∀ (l : List α) (k : Nat) (x : α), k ≤ twN p l → l[k]? = some x → p x = true → k < twN p l
  | [], k, x, _, h, _ => by simp at h
  | y :: l, 0, x, _, h, hp => by
    obtain rfl : y = x := by simpa using h
    unfold twN
    rw [List.takeWhile_cons, if_pos hp]
    simp
  | y :: l, k + 1, x, hk, h, hp => by
    unfold twN at hk ⊢
    rw [List.takeWhile_cons] at hk ⊢
    split
    · rename_i hy
      rw [if_pos hy] at hk
      have := twN_go l k x (by simpa [twN] using hk) (by simpa using h) hp
      simp only [List.length_cons]
      unfold twN at this
      omega
    · rename_i hy
      rw [if_neg hy] at hk
      simp at hk
theorem twN_stop : ∀ (l : List α) (k : Nat) (x : α), k ≤ twN p l → l[k]? = some x → p x = false → k = twN p l
  | [], k, x, _, h, _ => by simp at h
  | y :: l, 0, x, _, h, hp => by
    obtain rfl : y = x := by simpa using h
    unfold twN
    rw [List.takeWhile_cons, if_neg (by simp [hp])]
    rfl
  | y :: l, k + 1, x, hk, h, hp => by
    unfold twN at hk ⊢
    rw [List.takeWhile_cons] at hk ⊢
    split
    · rename_i hy
      rw [if_pos hy] at hk
      have := twN_stop l k x (by simpa [twN] using hk) (by simpa using h) hp
      simp only [List.length_cons]
      unfold twN at this
      omega
    · rename_i hy
      rw [if_neg hy] at hk
      simp at hk
end
def lowN (l : List EnT) (c : Int) : Nat := twN (fun e => decide (e.1 < c)) l
def midN (l : List EnT) (c : Int) : Nat := twN (fun e => e.1 == c) (l.drop (lowN l c))
/-- Where those stand that wait for each other. -/
def spA (b : BufT) (c : Int) : Nat := if b.m = 3 then lowN b.l c else 0
def spB (b : BufT) (c : Int) : Nat := if b.m = 3 then lowN b.l c + midN b.l c else b.l.length
theorem low_le (l : List EnT) (c : Int) : lowN l c ≤ l.length := twN_le l
theorem mid_le (l : List EnT) (c : Int) : lowN l c + midN l c ≤ l.length := by
  have h := twN_le (p := fun e : EnT => e.1 == c) (l.drop (lowN l c))
  have := low_le l c
  rw [List.length_drop] at h
  unfold midN
  omega
theorem sp_le (b : BufT) (c : Int) : spA b c ≤ spB b c ∧ spB b c ≤ b.l.length := by
  have := mid_le b.l c
  unfold spA spB
  split
  · constructor <;> omega
  · constructor <;> omega
/-- What each call makes. -/
def newB (m : Int) (hm : InR m) : BufT := if m = 2 ∨ m = 3 then mkB m [] (by simp) hm (fun _ h => by simp at h) else mkB 0 [] (by simp) (by unfold InR; omega) (fun _ h => by simp at h)
def noB (b : BufT) (c : Int) : Prop := b.m = 0 ∨ b.l.length = 24 ∨ c < 0 ∨ 4 ≤ c
def putL (l : List EnT) (k : Nat) (e : EnT) : List EnT := l.take k ++ e :: l.drop k
theorem putL_len (l : List EnT) (k : Nat) (e : EnT) : (putL l k e).length = l.length + 1 := by
  unfold putL
  simp only [List.length_append, List.length_take, List.length_cons, List.length_drop]
  omega
theorem putL_mem {l : List EnT} {k : Nat} {e x : EnT} (h : x ∈ putL l k e) : x = e ∨ x ∈ l := by
  unfold putL at h
  rcases List.mem_append.1 h with h | h
  · exact Or.inr (List.mem_of_mem_take h)
  · rcases List.mem_cons.1 h with h | h
    · exact Or.inl h
    · exact Or.inr (List.mem_of_mem_drop h)
def putB (b : BufT) (e : EnT) (he : EnIn e) : BufT :=
  if h : b.m = 0 ∨ b.l.length = 24 ∨ e.1 < 0 ∨ 4 ≤ e.1 then b else
    mkB b.m (putL b.l (spB b e.1) e) (by rw [putL_len]; have := b.len; omega) b.2.2.1 (fun x hx => by
      rcases putL_mem hx with rfl | hx
      · exact he
      · exact b.mem x hx)
def cutL (l : List EnT) (k : Nat) : List EnT := l.take k ++ l.drop (k + 1)
theorem cutL_len {l : List EnT} {k : Nat} (h : k < l.length) : (cutL l k).length + 1 = l.length := by
  unfold cutL
  simp only [List.length_append, List.length_take, List.length_drop]
  omega
theorem cutL_mem {l : List EnT} {k : Nat} {x : EnT} (h : x ∈ cutL l k) : x ∈ l := by
  unfold cutL at h
  rcases List.mem_append.1 h with h | h
  · exact List.mem_of_mem_take h
  · exact List.mem_of_mem_drop h
def dropB (b : BufT) (c : Int) : BufT :=
  if h : spA b c = spB b c then b else
    mkB b.m (cutL b.l (spA b c)) (by have := b.len; have := cutL_len (l := b.l) (k := spA b c) (by have := sp_le b c; omega); omega) b.2.2.1 (fun x hx => b.mem x (cutL_mem hx))
/-- What the calls tell. -/
def rowB (b : BufT) (c : Int) : List EnT := (b.l.drop (spA b c)).take (spB b c - spA b c)
def oldB (b : BufT) (c : Int) : Option EnT := (rowB b c)[0]?
def newestL (c : Int) : List EnT → Option EnT
  | [] => none
  | e :: l => match newestL c l with
    | some x => some x
    | none => if e.1 = c then some e else none
def newestB (b : BufT) (c : Int) : Option EnT := newestL c (rowB b c)
theorem rowB_len (b : BufT) (c : Int) : (rowB b c).length = spB b c - spA b c := by
  unfold rowB
  have := sp_le b c
  rw [List.length_take, List.length_drop]
  omega
theorem newestL_append (c : Int) (l : List EnT) (e : EnT) : newestL c (l ++ [e]) = if e.1 = c then some e else newestL c l := by
  induction l with
  | nil => simp [newestL]
  | cons x l ih =>
    rw [List.cons_append]
    unfold newestL
    rw [ih]
    by_cases h : e.1 = c
    · simp [h]
    · simp [h]

/-- Twenty-four places. -/
def padR (l : List EnT) : List EnT := l ++ List.replicate (24 - l.length) enZ
theorem padR_len {l : List EnT} (h : l.length ≤ 24) : (padR l).length = 24 := by
  unfold padR
  rw [List.length_append, List.length_replicate]
  omega
theorem padR_at {l : List EnT} {k : Nat} {e : EnT} (h : l[k]? = some e) : (padR l)[k]? = some e := by
  unfold padR
  rw [List.getElem?_append_left (List.getElem?_eq_some_iff.1 h).1]
  exact h
theorem padR_inj {l l' : List EnT} (h1 : l.length = l'.length) (h2 : padR l = padR l') : l = l' := by
  unfold padR at h2
  exact (List.append_inj h2 h1).1
/-- What copy and the store behind it make of the places. -/
theorem pad_put {l : List EnT} {k : Nat} (hk : k ≤ l.length) (h : l.length < 24) (e : EnT) :
    ((padR l).take (k + 1) ++ ((padR l).drop k).take (l.length - k) ++ (padR l).drop (l.length + 1)).set k e = padR (putL l k e) := by
  have hl : (l.take k).length = k := by rw [List.length_take]; omega
  have e1 : (padR l).drop (l.length + 1) = List.replicate (24 - (l.length + 1)) enZ := by
    unfold padR
    rw [List.drop_append, List.drop_eq_nil_of_le (by omega), List.nil_append, List.drop_replicate]
    congr 1
    omega
  have e2 : ((padR l).drop k).take (l.length - k) = l.drop k := by
    unfold padR
    rw [List.drop_append_of_le_length hk, List.take_append_of_le_length (by rw [List.length_drop]; omega), List.take_of_length_le (by rw [List.length_drop]; omega)]
  have e3 : ∃ x, (padR l).take (k + 1) = l.take k ++ [x] := by
    have hlt : k < (padR l).length := by rw [padR_len (by omega)]; omega
    refine ⟨(padR l)[k], ?_⟩
    rw [List.take_add_one, List.getElem?_eq_getElem hlt]
    congr 1
    unfold padR
    rw [List.take_append_of_le_length hk]
  obtain ⟨x, e3⟩ := e3
  rw [e1, e2, e3, List.append_assoc, List.append_assoc, List.set_append_right _ _ (by omega), hl, Nat.sub_self]
  unfold padR
  rw [putL_len]
  unfold putL
  simp
theorem pad_cut {l : List EnT} {k : Nat} (hk : k < l.length) (h : l.length ≤ 24) :
    ((padR l).take k ++ ((padR l).drop (k + 1)).take (l.length - (k + 1)) ++ (padR l).drop (l.length - 1)).set (l.length - 1) enZ = padR (cutL l k) := by
  have hc := cutL_len hk
  have e2 : ((padR l).drop (k + 1)).take (l.length - (k + 1)) = l.drop (k + 1) := by
    unfold padR
    rw [List.drop_append_of_le_length (by omega), List.take_append_of_le_length (by rw [List.length_drop]; omega), List.take_of_length_le (by rw [List.length_drop]; omega)]
  have e3 : (padR l).take k = l.take k := by
    unfold padR
    rw [List.take_append_of_le_length (by omega)]
  have e1 : ∃ x, (padR l).drop (l.length - 1) = x :: List.replicate (24 - l.length) enZ := by
    refine ⟨l[l.length - 1], ?_⟩
    unfold padR
    rw [List.drop_append_of_le_length (by omega), List.drop_eq_getElem_cons (by omega), List.drop_eq_nil_of_le (by omega)]
    rfl
  obtain ⟨x, e1⟩ := e1
  have hl : (l.take k ++ l.drop (k + 1)).length = l.length - 1 := by
    rw [List.length_append, List.length_take, List.length_drop]
    omega
  rw [e1, e2, e3, List.set_append_right _ _ (by omega), hl, Nat.sub_self]
  unfold padR
  have : 24 - (cutL l k).length = (24 - l.length) + 1 := by omega
  rw [this, List.replicate_succ]
  rfl
end Go.Proofs.Ytnoeofbjnogkmaa
