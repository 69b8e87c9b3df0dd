/- Layer 15's calls as arguments: a kind, a location, a value. -/
import Derived.Test.YtnoeofbjnogkmaaRowArg
import Derived.Test.YtnoeofbjnogkmaaBufP
namespace Go.Proofs.Ytnoeofbjnogkmaa
open Go.RowKit

abbrev OpT := {o : Int × Int × Int // InR o.1 ∧ InR o.2.1 ∧ InR o.2.2}
def opC (o : OpT) : List Value := [.int .i64 o.1.1, .int .i64 o.1.2.1, .int .i64 o.1.2.2]
theorem opC_len (o : OpT) : (opC o).length = 3 := rfl
theorem cellO : Try.prog.cellsOf 32 = 3 := by kernel_rfl
theorem cellOI : Try.prog.cellsOf 3 = 1 := by kernel_rfl
theorem cellOL : Try.prog.cellsOf 2 = 1 := by kernel_rfl
theorem three {α : Type} : ∀ {l : List α}, l.length = 3 → ∃ a b c, l = [a, b, c]
  | [a, b, c], _ => ⟨a, b, c, rfl⟩
theorem inr_of {a : Int} (h : (Lit.int .i64 a).wf = true) : InR a := i64_wf h
section
variable {H : Type} {enc : TypeId × Value → H} {w : World} {base : Nat} {sp : Nat → Bool} {held : Bool}
theorem op_of (n : Nat) (cs : List Value) (x : DataW H × List MemPlace) (h : DataW.trod enc Try.prog w base sp held n 32 cs = some x) : ∃ y : OpT, cs = opC y ∧ True := by
  have hl := trod_len Try.underlying32 h
  rw [cellO] at hl
  obtain ⟨c0, c1, c2, rfl⟩ := three hl
  obtain ⟨p0, b0, e0⟩ := field_int Try.underlying32 h 0 3 0 rfl Try.underlying3 cellOI
  obtain ⟨p1, b1, e1⟩ := field_int Try.underlying32 h 1 3 1 rfl Try.underlying3 cellOI
  obtain ⟨p2, b2, e2⟩ := field_int Try.underlying32 h 2 2 2 rfl Try.underlying2 cellOL
  simp at e0 e1 e2
  subst e0; subst e1; subst e2
  exact ⟨⟨(p0, p1, p2), b0, b1, b2⟩, rfl, trivial⟩
end
end Go.Proofs.Ytnoeofbjnogkmaa
