/- Pairs of numbers as an argument. -/
import Derived.Test.YtohngifmbnlmmaaDoorRowArg
import Derived.Test.YtohngifmbnlmmaaDoorRelK
namespace Go.Proofs.YtohngifmbnlmmaaDoor
open Go.RowKit

theorem cIntP : Tryd.prog.cellsOf 3 = 1 := by kernel_rfl
theorem cPair : Tryd.prog.cellsOf 52 = 2 := by kernel_rfl
section
variable {H : Type} {enc : TypeId × Value → H} {w : World} {base : Nat} {sp : Nat → Bool} {held : Bool}
theorem pair_of (n : Nat) (cs : List Value) (x : DataW H × List MemPlace) (h : DataW.trod enc Tryd.prog w base sp held n 52 cs = some x) : ∃ p, cs = pairC p ∧ (I64 p.1 ∧ I64 p.2) := by
  obtain ⟨xs, m', rfl, _, hl, hxl, hel⟩ := DataW.trod_array Tryd.underlying52 h
  rw [cPair] at hl
  obtain ⟨c0, c1, rfl⟩ := two hl
  have key : ∀ i, i < 2 → ∃ p : Int, I64 p ∧ ([c0, c1].drop i).take 1 = [.int .i64 p] := by
    intro i hi
    have hf := hel i hi
    rw [cIntP, Nat.mul_one, List.getElem?_eq_getElem (by omega)] at hf
    obtain ⟨p, hp, _, hw⟩ := DataW.trod_int Tryd.underlying3 hf
    exact ⟨p, i64_wf hw, hp⟩
  obtain ⟨p0, h0, e0⟩ := key 0 (by decide)
  obtain ⟨p1, h1, e1⟩ := key 1 (by decide)
  simp at e0 e1
  subst e0; subst e1
  exact ⟨(p0, p1), rfl, h0, h1⟩
end
end Go.Proofs.YtohngifmbnlmmaaDoor
