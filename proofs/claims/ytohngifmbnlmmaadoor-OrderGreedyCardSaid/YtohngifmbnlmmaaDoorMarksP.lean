/- A word as 64 marks in memory. -/
import Derived.Test.YtohngifmbnlmmaaDoorSetQ
import Derived.Test.YtohngifmbnlmmaaDoorPuts
namespace Go.Proofs.YtohngifmbnlmmaaDoor
open Go.RowKit

def marksL (s : Nat) : List Value := (List.range 64).map (fun i => Value.bool (s.testBit i))
def marksA (s : Nat) : Array Value := (marksL s).toArray
theorem marks_at (s : Nat) {i : Nat} (h : i < 64) : (marksA s)[i]? = some (.bool (s.testBit i)) := by
  unfold marksA marksL
  rw [List.getElem?_toArray, List.getElem?_map, List.getElem?_range h]
  rfl
theorem marks_set (s t i : Nat) (b : Bool) (hi : i < 64) (h : ∀ j, t.testBit j = if j = i then b else s.testBit j) : ((marksL s).set i (.bool b)).toArray = marksA t := by
  unfold marksA marksL
  congr 1
  apply List.ext_getElem?
  intro j
  rw [List.getElem?_set, List.getElem?_map, List.getElem?_map]
  by_cases hij : i = j
  · subst hij
    rw [if_pos rfl, if_pos (by simpa using hi), List.getElem?_range hi]
    simp [h]
  · rw [if_neg hij]
    by_cases hj : j < 64
    · rw [List.getElem?_range hj]
      have : ¬ j = i := fun h => hij h.symm
      simp [h, this]
    · rw [List.getElem?_eq_none (by simpa using hj)]
      rfl
theorem marks_with {w : World} {N s i : Nat} (h : Bk w N (marksA s)) (hi : i < 64) : Bk (w.setCell ⟨N, i, none⟩ (.bool true)) N (marksA (withI s i)) := by
  rw [← marks_set s (withI s i) i true hi (fun j => by
    rw [with_bit]
    by_cases hj : j = i
    · subst hj
      have : (j : Int) = (j : Int) ∧ j < 64 := ⟨rfl, hi⟩
      simp [this]
    · have : ¬ ((i : Int) = (j : Int) ∧ j < 64) := by omega
      simp [this, hj])]
  exact Bk.put h i _
theorem marks_less {w : World} {N s i : Nat} (hs : s < 18446744073709551616) (h : Bk w N (marksA s)) (hi : i < 64) : Bk (w.setCell ⟨N, i, none⟩ (.bool false)) N (marksA (lessI s i)) := by
  rw [← marks_set s (lessI s i) i false hi (fun j => by
    rw [less_bit _ _ _ hs]
    by_cases hj : j = i
    · subst hj
      have : (j : Int) = (j : Int) ∧ j < 64 := ⟨rfl, hi⟩
      simp [this]
    · have : ¬ ((i : Int) = (j : Int) ∧ j < 64) := by omega
      simp [this, hj])]
  exact Bk.put h i _
end Go.Proofs.YtohngifmbnlmmaaDoor
