/-
  No cell of these rows narrows 'for every input' (looked for: loops, veiled, ifaces, maps, wideKeys, modest, calm, conditions, laid).
  DERIVED. THE GIVEN ROWS OF THIS SEAT. 4 by the template 'for every input the law returns true; each argument reads behind the call as it read before'; 0 by the template 'total and deterministic' (their statements: YthbiaojefmdcmaaTotals.lean).
  GIVEN WITH THE SEED: the statements are not yours to turn. If you find one false, say at which input.
  Laid BY PROGRAM, IN A SANDBOX (cutbox-rows.mjs): the forced cells as the released guide's own fill.sh prints them over the translation 0d4a0ba7310b071a… (all of the seat's roots in one cut). By AI agents, Wed Nov 11 2026. No macro, syntax, notation, axiom, sorry.
-/
import Derived.Test.YthbiaojefmdcmaaChecked
import GoSem.Claim
import GoSem.ClaimJoined
import GoSem.ClaimMapViews
import Derived.JoinedTies
import Derived.KernelRfl
namespace Go.Proofs.Ythbiaojefmdcmaa
/- THE CELL 'sum', in the pinned program and in every row, IS THE sha256 OF THE DUMP (.gsa) THAT YthbiaojefmdcmaaProg.lean LOADS. Nothing in Lean hashes anything: it is a label: what it is worth is what the hold of that sum in a sandbox is worth. -/
noncomputable def Try.pinned : Pinned := { name := "ythbiaojefmdcmaa", sum := "0d4a0ba7310b071aacb17a4f29ae37cdbe3925779cafd0f1fcb5d8edbe074ee2", checked := Try.checked }
namespace Rows
def none {H : Type} : Left H := { results := [], args := [] }

/-- 'jacquardlaw8.RelThen': WHATEVER THE INPUT: true; the input reads as it did. -/
def relThenSpec : ChangeSpec := { name := "relThen", fn := fun _ => fun
  | [d1, d2, d3, d4, d5, d6] => { results := [.lit (.bool true)], args := [d1, d2, d3, d4, d5, d6] }
  | _ => none }
def relThenRow : OpenClaim := { program := "ythbiaojefmdcmaa", sum := "0d4a0ba7310b071aacb17a4f29ae37cdbe3925779cafd0f1fcb5d8edbe074ee2", func := "jacquard/jacquardlaw8.RelThen", spec := "relThen", apart := false }
def RelThenSaid : Prop := relThenRow.holds Try.pinned (OpenSpec.ofChange relThenSpec)

/-- ITS FALSE NEIGHBOUR: 'it returns false'. Refute it at one input. -/
def relThenWrong : ChangeSpec := { name := "relThen", fn := fun _ => fun
  | [d1, d2, d3, d4, d5, d6] => { results := [.lit (.bool false)], args := [d1, d2, d3, d4, d5, d6] }
  | _ => none }
def RelThenWrongFalsely : Prop := relThenRow.holds Try.pinned (OpenSpec.ofChange relThenWrong)

/-- 'jacquardlaw8.RelClosed': WHATEVER THE INPUT: true; the input reads as it did. -/
def relClosedSpec : ChangeSpec := { name := "relClosed", fn := fun _ => fun
  | [d1, d2, d3] => { results := [.lit (.bool true)], args := [d1, d2, d3] }
  | _ => none }
def relClosedRow : OpenClaim := { program := "ythbiaojefmdcmaa", sum := "0d4a0ba7310b071aacb17a4f29ae37cdbe3925779cafd0f1fcb5d8edbe074ee2", func := "jacquard/jacquardlaw8.RelClosed", spec := "relClosed", apart := false }
def RelClosedSaid : Prop := relClosedRow.holds Try.pinned (OpenSpec.ofChange relClosedSpec)

/-- ITS FALSE NEIGHBOUR: 'it returns false'. Refute it at one input. -/
def relClosedWrong : ChangeSpec := { name := "relClosed", fn := fun _ => fun
  | [d1, d2, d3] => { results := [.lit (.bool false)], args := [d1, d2, d3] }
  | _ => none }
def RelClosedWrongFalsely : Prop := relClosedRow.holds Try.pinned (OpenSpec.ofChange relClosedWrong)

/-- 'jacquardlaw8.RelTells': WHATEVER THE INPUT: true; the input reads as it did. -/
def relTellsSpec : ChangeSpec := { name := "relTells", fn := fun _ => fun
  | [d1, d2, d3, d4, d5] => { results := [.lit (.bool true)], args := [d1, d2, d3, d4, d5] }
  | _ => none }
def relTellsRow : OpenClaim := { program := "ythbiaojefmdcmaa", sum := "0d4a0ba7310b071aacb17a4f29ae37cdbe3925779cafd0f1fcb5d8edbe074ee2", func := "jacquard/jacquardlaw8.RelTells", spec := "relTells", apart := false }
def RelTellsSaid : Prop := relTellsRow.holds Try.pinned (OpenSpec.ofChange relTellsSpec)

/-- ITS FALSE NEIGHBOUR: 'it returns false'. Refute it at one input. -/
def relTellsWrong : ChangeSpec := { name := "relTells", fn := fun _ => fun
  | [d1, d2, d3, d4, d5] => { results := [.lit (.bool false)], args := [d1, d2, d3, d4, d5] }
  | _ => none }
def RelTellsWrongFalsely : Prop := relTellsRow.holds Try.pinned (OpenSpec.ofChange relTellsWrong)

/-- 'jacquardlaw8.RelAlgebra': WHATEVER THE INPUT: true; the input reads as it did. -/
def relAlgebraSpec : ChangeSpec := { name := "relAlgebra", fn := fun _ => fun
  | [d1, d2, d3] => { results := [.lit (.bool true)], args := [d1, d2, d3] }
  | _ => none }
def relAlgebraRow : OpenClaim := { program := "ythbiaojefmdcmaa", sum := "0d4a0ba7310b071aacb17a4f29ae37cdbe3925779cafd0f1fcb5d8edbe074ee2", func := "jacquard/jacquardlaw8.RelAlgebra", spec := "relAlgebra", apart := false }
def RelAlgebraSaid : Prop := relAlgebraRow.holds Try.pinned (OpenSpec.ofChange relAlgebraSpec)

/-- ITS FALSE NEIGHBOUR: 'it returns false'. Refute it at one input. -/
def relAlgebraWrong : ChangeSpec := { name := "relAlgebra", fn := fun _ => fun
  | [d1, d2, d3] => { results := [.lit (.bool false)], args := [d1, d2, d3] }
  | _ => none }
def RelAlgebraWrongFalsely : Prop := relAlgebraRow.holds Try.pinned (OpenSpec.ofChange relAlgebraWrong)

/- THE SECOND FORM. 'bulk': how many values and letters a reading holds, each counted each time it is reached (what is shared counts as often as it is met; a slice's spare places count too). A statement '..UptoSaid' is the law's where the arguments, and the package variables that the reading takes, are together of bulk at most 1048576: NARROWER than '..Said'. Prove '..Said' where nothing that the law and all that it calls make is longer than what came in: it says more and counts as full. Else prove '..UptoSaid'. A law counts once. -/
mutual
def uptoBulk {H : Type} : DataW H → Nat
  | .lit (.string bytes) => bytes.length + 1
  | .lit _ => 1
  | .nil => 1
  | .ptr d => uptoBulk d + 1
  | .slice elems spare => uptoBulkAll elems + uptoBulkAll spare + 1
  | .agg parts => uptoBulkAll parts + 1
  | .iface _ d => uptoBulk d + 1
  | .map entries => uptoBulkEntries entries + 1
  | .held _ => 1
def uptoBulkAll {H : Type} : List (DataW H) → Nat
  | [] => 0
  | d :: r => uptoBulk d + uptoBulkAll r
def uptoBulkEntries {H : Type} : List (Lit × DataW H) → Nat
  | [] => 0
  | x :: r => uptoBulkEntry x + uptoBulkEntries r
def uptoBulkEntry {H : Type} : Lit × DataW H → Nat
  | (.string bytes, d) => bytes.length + uptoBulk d + 1
  | (_, d) => uptoBulk d + 1
 end
def uptoSmall : (H : Type) → List (DataW H) → Bool := fun _ ds => decide (uptoBulkAll ds ≤ 1048576)
def OpenSpec.upto (s : _root_.Go.ChangeSpec) : _root_.Go.OpenSpec := { _root_.Go.OpenSpec.ofChange s with cond := some uptoSmall }

/-- 'jacquardlaw8.RelThen', WHERE WHAT IT READS IS OF BULK AT MOST 1048576: true; the input reads as it did. -/
def relThenUptoRow : OpenClaim := { program := "ythbiaojefmdcmaa", sum := "0d4a0ba7310b071aacb17a4f29ae37cdbe3925779cafd0f1fcb5d8edbe074ee2", func := "jacquard/jacquardlaw8.RelThen", spec := "relThen", apart := false, narrowed := true }
def RelThenUptoSaid : Prop := relThenUptoRow.holds Try.pinned (OpenSpec.upto relThenSpec)

/-- 'jacquardlaw8.RelClosed', WHERE WHAT IT READS IS OF BULK AT MOST 1048576: true; the input reads as it did. -/
def relClosedUptoRow : OpenClaim := { program := "ythbiaojefmdcmaa", sum := "0d4a0ba7310b071aacb17a4f29ae37cdbe3925779cafd0f1fcb5d8edbe074ee2", func := "jacquard/jacquardlaw8.RelClosed", spec := "relClosed", apart := false, narrowed := true }
def RelClosedUptoSaid : Prop := relClosedUptoRow.holds Try.pinned (OpenSpec.upto relClosedSpec)

/-- 'jacquardlaw8.RelTells', WHERE WHAT IT READS IS OF BULK AT MOST 1048576: true; the input reads as it did. -/
def relTellsUptoRow : OpenClaim := { program := "ythbiaojefmdcmaa", sum := "0d4a0ba7310b071aacb17a4f29ae37cdbe3925779cafd0f1fcb5d8edbe074ee2", func := "jacquard/jacquardlaw8.RelTells", spec := "relTells", apart := false, narrowed := true }
def RelTellsUptoSaid : Prop := relTellsUptoRow.holds Try.pinned (OpenSpec.upto relTellsSpec)

/-- 'jacquardlaw8.RelAlgebra', WHERE WHAT IT READS IS OF BULK AT MOST 1048576: true; the input reads as it did. -/
def relAlgebraUptoRow : OpenClaim := { program := "ythbiaojefmdcmaa", sum := "0d4a0ba7310b071aacb17a4f29ae37cdbe3925779cafd0f1fcb5d8edbe074ee2", func := "jacquard/jacquardlaw8.RelAlgebra", spec := "relAlgebra", apart := false, narrowed := true }
def RelAlgebraUptoSaid : Prop := relAlgebraUptoRow.holds Try.pinned (OpenSpec.upto relAlgebraSpec)

end Rows
end Go.Proofs.Ythbiaojefmdcmaa
