/- Events as an argument. -/
import Derived.Test.YtkglmhclpgfngaaRowArg
import Derived.Test.YtkglmhclpgfngaaEvP
namespace Go.Proofs.Ytkglmhclpgfngaa
open Go.RowKit

theorem cEvA : Try.prog.cellsOf 23 = 6 := by kernel_rfl
theorem cEvI : Try.prog.cellsOf 3 = 1 := by kernel_rfl
theorem cEvL : Try.prog.cellsOf 2 = 1 := by kernel_rfl
theorem six {cs : List Value} (h : cs.length = 6) : ∃ c0 c1 c2 c3 c4 c5, cs = [c0, c1, c2, c3, c4, c5] := by
  match cs, h with
  | [c0, c1, c2, c3, c4, c5], _ => exact ⟨_, _, _, _, _, _, rfl⟩
section
variable {H : Type} {enc : TypeId × Value → H} {w : World} {base : Nat} {sp : Nat → Bool} {held : Bool}
theorem ev_of (n : Nat) (cs : List Value) (x : DataW H × List MemPlace) (h : DataW.trod enc Try.prog w base sp held n 23 cs = some x) : ∃ y : EvT, cs = evC y ∧ True := by
  have hl := trod_len Try.underlying23 h
  rw [cEvA] at hl
  obtain ⟨c0, c1, c2, c3, c4, c5, rfl⟩ := six hl
  obtain ⟨p0, _, e0⟩ := field_int Try.underlying23 h 0 3 0 rfl Try.underlying3 cEvI
  obtain ⟨p1, _, e1⟩ := field_int Try.underlying23 h 1 3 1 rfl Try.underlying3 cEvI
  obtain ⟨p2, _, e2⟩ := field_int Try.underlying23 h 2 3 2 rfl Try.underlying3 cEvI
  obtain ⟨p3, _, e3⟩ := field_int Try.underlying23 h 3 3 3 rfl Try.underlying3 cEvI
  obtain ⟨p4, _, e4⟩ := field_int Try.underlying23 h 4 2 4 rfl Try.underlying2 cEvL
  obtain ⟨p5, _, e5⟩ := field_int Try.underlying23 h 5 2 5 rfl Try.underlying2 cEvL
  simp at e0 e1 e2 e3 e4 e5
  subst e0; subst e1; subst e2; subst e3; subst e4; subst e5
  exact ⟨⟨p0, p1, p2, p3, p4, p5⟩, rfl, trivial⟩
end
end Go.Proofs.Ytkglmhclpgfngaa
