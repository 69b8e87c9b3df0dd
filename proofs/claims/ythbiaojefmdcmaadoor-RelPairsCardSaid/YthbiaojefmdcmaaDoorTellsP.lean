/- Few numbers in one word, in plain Lean: a word as 64 marks; its numbers one by one. -/
import Derived.Test.YthbiaojefmdcmaaDoorAlgP
import Derived.Test.YthbiaojefmdcmaaDoorPuts
namespace Go.Proofs.YthbiaojefmdcmaaDoor
open Go.RowKit

def marksL (s : Nat) : List Value := (List.range 64).map (fun i => Value.bool (s.testBit i))
def marksA (s : Nat) : Array Value := (marksL s).toArray
theorem marks_at (s : Nat) {i : Nat} (h : i < 64) : (marksA s)[i]? = some (.bool (s.testBit i)) := by
  unfold marksA marksL
  rw [List.getElem?_toArray, List.getElem?_map, List.getElem?_range h]
  rfl
theorem marks_set (s t i : Nat) (b : Bool) (hi : i < 64) (h : ∀ j, t.testBit j = if j = i then b else s.testBit j) : ((marksL s).set i (.bool b)).toArray = marksA t := by
  unfold marksA marksL
  congr 1
  apply List.ext_getElem?
  intro j
  rw [List.getElem?_set, List.getElem?_map, List.getElem?_map]
  by_cases hij : i = j
  · subst hij
    rw [if_pos rfl, if_pos (by simpa using hi), List.getElem?_range hi]
    simp [h]
  · rw [if_neg hij]
    by_cases hj : j < 64
    · rw [List.getElem?_range hj]
      have : ¬ j = i := fun h => hij h.symm
      simp [h, this]
    · rw [List.getElem?_eq_none (by simpa using hj)]
      rfl
theorem marks_with {w : World} {N s i : Nat} (h : Bk w N (marksA s)) (hi : i < 64) : Bk (w.setCell ⟨N, i, none⟩ (.bool true)) N (marksA (withI s i)) := by
  rw [← marks_set s (withI s i) i true hi (fun j => by
    rw [with_bit]
    by_cases hj : j = i
    · subst hj
      have : (j : Int) = (j : Int) ∧ j < 64 := ⟨rfl, hi⟩
      simp [this]
    · have : ¬ ((i : Int) = (j : Int) ∧ j < 64) := by omega
      simp [this, hj])]
  exact Bk.put h i _
theorem marks_less {w : World} {N s i : Nat} (hs : s < 18446744073709551616) (h : Bk w N (marksA s)) (hi : i < 64) : Bk (w.setCell ⟨N, i, none⟩ (.bool false)) N (marksA (lessI s i)) := by
  rw [← marks_set s (lessI s i) i false hi (fun j => by
    rw [less_bit _ _ _ hs]
    by_cases hj : j = i
    · subst hj
      have : (j : Int) = (j : Int) ∧ j < 64 := ⟨rfl, hi⟩
      simp [this]
    · have : ¬ ((i : Int) = (j : Int) ∧ j < 64) := by omega
      simp [this, hj])]
  exact Bk.put h i _
theorem with_none (s : Nat) (i : Int) (h : ¬ (0 ≤ i ∧ i < 64)) : withI s i = s := by
  unfold withI bitI
  rw [if_neg h, Nat.or_zero]
theorem less_none (s : Nat) (i : Int) (hs : s < 18446744073709551616) (h : ¬ (0 ≤ i ∧ i < 64)) : lessI s i = s := by
  apply Nat.eq_of_testBit_eq
  intro j
  rw [less_bit _ _ _ hs]
  have : ¬ (i = (j : Int) ∧ j < 64) := by omega
  simp [this]
/-- Those below i. -/
def pre (s i : Nat) : List Nat := (List.range i).filter (fun j => s.testBit j)
def hd1 : List Nat → Int
  | [] => -1
  | x :: _ => x
theorem pre_step (s i : Nat) : pre s (i + 1) = pre s i ++ (if s.testBit i then [i] else []) := by
  unfold pre
  rw [List.range_succ, List.filter_append]
  cases h : s.testBit i <;> simp [h]
theorem pre_all (s : Nat) : pre s 64 = bits64 s := rfl
theorem pre_len (s i : Nat) : (pre s i).length ≤ i := by
  unfold pre
  have := List.length_filter_le (fun j => s.testBit j) (List.range i)
  simpa using this
theorem pre_at (s i : Nat) (h : i < 64) (hb : s.testBit i = true) : (bits64 s)[(pre s i).length]? = some i := by
  obtain ⟨d, hd⟩ : ∃ d, 64 = i + 1 + d := ⟨63 - i, by omega⟩
  have e : bits64 s = pre s (i + 1) ++ ((List.range d).map (fun k => i + 1 + k)).filter (fun j => s.testBit j) := by
    unfold bits64 pre
    rw [hd, List.range_add, List.filter_append]
  rw [e, pre_step, hb, if_pos rfl, List.append_assoc, List.getElem?_append_right (Nat.le_refl _), Nat.sub_self]
  rfl
theorem hd1_step (s i : Nat) : hd1 (pre s (i + 1)) = if s.testBit i then (if hd1 (pre s i) < 0 then (i : Int) else hd1 (pre s i)) else hd1 (pre s i) := by
  rw [pre_step]
  cases h : s.testBit i
  · simp
  · cases hp : pre s i with
    | nil => simp [hd1]
    | cons x L =>
      have : ¬ ((x : Int) < 0) := by omega
      simp [hd1, this]
theorem hd1_first (s : Nat) (hs : s < 18446744073709551616) : hd1 (bits64 s) = firstN s := by
  unfold firstN
  split
  · rename_i h
    subst h
    rw [b64_zero]
    rfl
  · rename_i h
    rw [(rise64 s h hs).2.1]
    rfl
theorem hd1_ge (L : List Nat) : -1 ≤ hd1 L := by
  cases L with
  | nil => exact Int.le_refl _
  | cons x L => show -1 ≤ (x : Int); omega
theorem hd1_lt (s i : Nat) (h : i ≤ 64) : hd1 (pre s i) < 64 := by
  cases hp : pre s i with
  | nil => decide
  | cons x L =>
    have : x ∈ pre s i := by rw [hp]; exact List.mem_cons_self ..
    unfold pre at this
    have := (List.mem_filter.1 this).1
    have : x < i := by simpa using this
    show (x : Int) < 64
    omega
end Go.Proofs.YthbiaojefmdcmaaDoor
