/- Ends as arguments. -/
import Derived.Test.YtmgjcgolebfjjaaDoorRowArg
import Derived.Test.YtmgjcgolebfjjaaDoorFinW
namespace Go.Proofs.YtmgjcgolebfjjaaDoor
open Go.RowKit

section
variable {H : Type} {enc : TypeId × Value → H} {w : World} {base : Nat} {sp : Nat → Bool} {held : Bool}
theorem arr4_of {n : Nat} {cs : List Value} {x : DataW H × List MemPlace} (h : DataW.trod enc Tryd.prog w base sp held n 23 cs = some x) : ∀ r, r < 4 → ∃ z : Int, I64 z ∧ cs[r]? = some (.int .i64 z) := by
  intro r hr
  obtain ⟨xs, m', rfl, _, _, hxl, hel⟩ := DataW.trod_array Tryd.underlying23 h
  have hf := hel r hr
  rw [cell64, Nat.mul_one, List.getElem?_eq_getElem (by omega)] at hf
  obtain ⟨p, hp, _, hw⟩ := DataW.trod_int Tryd.underlying2 hf
  refine ⟨p, i64_wf hw, ?_⟩
  have := congrArg (·[0]?) hp
  simpa [List.getElem?_take, List.getElem?_drop] using this
theorem arr16_of {n : Nat} {cs : List Value} {x : DataW H × List MemPlace} (h : DataW.trod enc Tryd.prog w base sp held n 24 cs = some x) : ∀ i, i < 16 → ∃ z : Int, I64 z ∧ cs[i]? = some (.int .i64 z) := by
  intro i hi
  obtain ⟨xs, m', rfl, _, _, hxl, hel⟩ := DataW.trod_array Tryd.underlying24 h
  have hf := hel (i / 4) (by omega)
  rw [cell4, List.getElem?_eq_getElem (by omega)] at hf
  obtain ⟨z, hz, he⟩ := arr4_of hf (i % 4) (by omega)
  refine ⟨z, hz, ?_⟩
  rw [List.getElem?_take, if_pos (by omega), List.getElem?_drop, show i / 4 * 4 + i % 4 = i by omega] at he
  exact he
theorem fin_of (n : Nat) (cs : List Value) (x : DataW H × List MemPlace) (h : DataW.trod enc Tryd.prog w base sp held n 26 cs = some x) : ∃ y : FinT, cs = finC y ∧ True := by
  have hl := trod_len fields_fin h
  rw [cell20] at hl
  obtain ⟨m1, y1, h1⟩ := trod_field fields_fin h 0 24 0 (by kernel_rfl)
  obtain ⟨m2, y2, h2⟩ := trod_field fields_fin h 1 23 16 (by kernel_rfl)
  rw [cell16] at h1
  rw [cell4] at h2
  have key : ∀ i, i < 20 → ∃ z : Int, I64 z ∧ cs[i]? = some (.int .i64 z) := by
    intro i hi
    by_cases h16 : i < 16
    · obtain ⟨z, hz, he⟩ := arr16_of h1 i h16
      rw [List.getElem?_take, if_pos h16, List.getElem?_drop, Nat.zero_add] at he
      exact ⟨z, hz, he⟩
    · obtain ⟨z, hz, he⟩ := arr4_of h2 (i - 16) (by omega)
      rw [List.getElem?_take, if_pos (by omega), List.getElem?_drop, show 16 + (i - 16) = i by omega] at he
      exact ⟨z, hz, he⟩
  obtain ⟨L, hL, hQ⟩ := list_of (fun i (z : Int) => I64 z ∧ cs[i]? = some (.int .i64 z)) 20 key
  refine ⟨⟨L, hL, fun z hz => ?_⟩, ?_, trivial⟩
  · obtain ⟨i, hi, he⟩ := List.mem_iff_getElem.1 hz
    exact (hQ i z (by rw [List.getElem?_eq_getElem hi, he])).1
  · apply List.ext_getElem?
    intro i
    show cs[i]? = (L.map (Value.int .i64))[i]?
    rw [List.getElem?_map]
    by_cases hi : i < 20
    · have e := List.getElem?_eq_getElem (l := L) (i := i) (by omega)
      rw [e, (hQ i _ e).2]
      rfl
    · rw [List.getElem?_eq_none (by omega), List.getElem?_eq_none (by show L.length ≤ i; omega)]
      rfl
end
theorem fin_arr {cs : Array Value} {y : FinT} (h : cs.toList = finC y) : cs = finA y := by
  unfold finA
  rw [← h]
end Go.Proofs.YtmgjcgolebfjjaaDoor
