/-
  NARROWER THAN 'FOR EVERY INPUT', by the rows' own cells (each row's printed sentence says how): PrintSame: laid · PrintTells: laid.
  DERIVED. THE GIVEN ROWS OF THIS SEAT. 2 by the template 'for every input the law returns true; each argument reads behind the call as it read before'; 0 by the template 'total and deterministic' (their statements: YtlfeihgemdicfaaDoorTotals.lean).
  GIVEN WITH THE SEED: the statements are not yours to turn. If you find one false, say at which input.
  Laid BY PROGRAM, IN A SANDBOX (cutbox-rows.mjs): the forced cells as the released guide's own fill.sh prints them over the translation 421a132bbc7aa1d8… (all of the seat's roots in one cut). By AI agents, Wed Nov 11 2026. No macro, syntax, notation, axiom, sorry.
-/
import Derived.Test.YtlfeihgemdicfaaDoorChecked
import GoSem.Claim
import GoSem.ClaimJoined
import GoSem.ClaimMapViews
import Derived.JoinedTies
import Derived.KernelRfl
namespace Go.Proofs.YtlfeihgemdicfaaDoor
/- THE CELL 'sum', in the pinned program and in every row, IS THE sha256 OF THE DUMP (.gsa) THAT YtlfeihgemdicfaaDoorProg.lean LOADS. Nothing in Lean hashes anything: it is a label: what it is worth is what the hold of that sum in a sandbox is worth. -/
noncomputable def Tryd.pinned : Pinned := { name := "ytlfeihgemdicfaadoor", sum := "421a132bbc7aa1d85ae98a9e589bbd2b4028433463a11151297793167c8ccbf6", checked := Tryd.checked }
namespace Rows
def none {H : Type} : Left H := { results := [], args := [] }

/- WHAT THE LISTED PACKAGE-LEVEL VARIABLES READ AS WHEN THE CALL BEGINS. Each datum BY PROGRAM (the guide's laid-datum.mjs) off the statement by which the dump's own 'gosem.cut.vars' lays the variable. In a bare row this is a premise. The card (YtlfeihgemdicfaaDoorCards.lean) ties it to the program's text. -/
def laid_jacquard_num_signs {H : Type} : DataW H := .agg [.lit (.string []), .lit (.string [43]), .lit (.string [45]), .lit (.string [42]), .lit (.string [38]), .lit (.string [124]), .lit (.string [94]), .lit (.string [60, 60]), .lit (.string [62, 62]), .lit (.string [61, 61]), .lit (.string [33, 61]), .lit (.string [60])]

/-- 'jacquardlaw4.PrintSame': WHATEVER THE INPUT: true; the input reads as it did. -/
def printSameSpec : ChangeSpec := { name := "printSame", fn := fun _ => fun
  | [d1, d2] => { results := [.lit (.bool true)], args := [d1, d2] }
  | _ => none }
def printSameRow : OpenClaim := { program := "ytlfeihgemdicfaadoor", sum := "421a132bbc7aa1d85ae98a9e589bbd2b4028433463a11151297793167c8ccbf6", func := "jacquard/jacquardlaw4.PrintSame", spec := "printSame", inPlace := ["internal/abi.NoEscape", "internal/bytealg.MakeNoZero"], unfollowed := true, recurses := true, named := ["jacquard/num.signs"], apart := false, laid := [("jacquard/num.signs", laid_jacquard_num_signs)] }
def PrintSameSaid : Prop := printSameRow.holds Tryd.pinned (OpenSpec.ofChange printSameSpec)

/-- ITS FALSE NEIGHBOUR: 'it returns false'. Refute it at one input. -/
def printSameWrong : ChangeSpec := { name := "printSame", fn := fun _ => fun
  | [d1, d2] => { results := [.lit (.bool false)], args := [d1, d2] }
  | _ => none }
def PrintSameWrongFalsely : Prop := printSameRow.holds Tryd.pinned (OpenSpec.ofChange printSameWrong)

/-- 'jacquardlaw4.PrintTells': WHATEVER THE INPUT: true; the input reads as it did. -/
def printTellsSpec : ChangeSpec := { name := "printTells", fn := fun _ => fun
  | [d1, d2, d3, d4] => { results := [.lit (.bool true)], args := [d1, d2, d3, d4] }
  | _ => none }
def printTellsRow : OpenClaim := { program := "ytlfeihgemdicfaadoor", sum := "421a132bbc7aa1d85ae98a9e589bbd2b4028433463a11151297793167c8ccbf6", func := "jacquard/jacquardlaw4.PrintTells", spec := "printTells", inPlace := ["internal/abi.NoEscape", "internal/bytealg.MakeNoZero"], unfollowed := true, recurses := true, named := ["jacquard/num.signs"], apart := false, laid := [("jacquard/num.signs", laid_jacquard_num_signs)] }
def PrintTellsSaid : Prop := printTellsRow.holds Tryd.pinned (OpenSpec.ofChange printTellsSpec)

/-- ITS FALSE NEIGHBOUR: 'it returns false'. Refute it at one input. -/
def printTellsWrong : ChangeSpec := { name := "printTells", fn := fun _ => fun
  | [d1, d2, d3, d4] => { results := [.lit (.bool false)], args := [d1, d2, d3, d4] }
  | _ => none }
def PrintTellsWrongFalsely : Prop := printTellsRow.holds Tryd.pinned (OpenSpec.ofChange printTellsWrong)

/- THE SECOND FORM. 'bulk': how many values and letters a reading holds, each counted each time it is reached (what is shared counts as often as it is met; a slice's spare places count too). A statement '..UptoSaid' is the law's where the arguments, and the package variables that the reading takes, are together of bulk at most 1048576: NARROWER than '..Said'. Prove '..Said' where nothing that the law and all that it calls make is longer than what came in: it says more and counts as full. Else prove '..UptoSaid'. A law counts once. -/
mutual
def uptoBulk {H : Type} : DataW H → Nat
  | .lit (.string bytes) => bytes.length + 1
  | .lit _ => 1
  | .nil => 1
  | .ptr d => uptoBulk d + 1
  | .slice elems spare => uptoBulkAll elems + uptoBulkAll spare + 1
  | .agg parts => uptoBulkAll parts + 1
  | .iface _ d => uptoBulk d + 1
  | .map entries => uptoBulkEntries entries + 1
  | .held _ => 1
def uptoBulkAll {H : Type} : List (DataW H) → Nat
  | [] => 0
  | d :: r => uptoBulk d + uptoBulkAll r
def uptoBulkEntries {H : Type} : List (Lit × DataW H) → Nat
  | [] => 0
  | x :: r => uptoBulkEntry x + uptoBulkEntries r
def uptoBulkEntry {H : Type} : Lit × DataW H → Nat
  | (.string bytes, d) => bytes.length + uptoBulk d + 1
  | (_, d) => uptoBulk d + 1
 end
def uptoSmall : (H : Type) → List (DataW H) → Bool := fun _ ds => decide (uptoBulkAll ds ≤ 1048576)
def OpenSpec.upto (s : _root_.Go.ChangeSpec) : _root_.Go.OpenSpec := { _root_.Go.OpenSpec.ofChange s with cond := some uptoSmall }

/-- 'jacquardlaw4.PrintSame', WHERE WHAT IT READS IS OF BULK AT MOST 1048576: true; the input reads as it did. -/
def printSameUptoRow : OpenClaim := { program := "ytlfeihgemdicfaadoor", sum := "421a132bbc7aa1d85ae98a9e589bbd2b4028433463a11151297793167c8ccbf6", func := "jacquard/jacquardlaw4.PrintSame", spec := "printSame", inPlace := ["internal/abi.NoEscape", "internal/bytealg.MakeNoZero"], unfollowed := true, recurses := true, named := ["jacquard/num.signs"], apart := false, laid := [("jacquard/num.signs", laid_jacquard_num_signs)], narrowed := true }
def PrintSameUptoSaid : Prop := printSameUptoRow.holds Tryd.pinned (OpenSpec.upto printSameSpec)

/-- 'jacquardlaw4.PrintTells', WHERE WHAT IT READS IS OF BULK AT MOST 1048576: true; the input reads as it did. -/
def printTellsUptoRow : OpenClaim := { program := "ytlfeihgemdicfaadoor", sum := "421a132bbc7aa1d85ae98a9e589bbd2b4028433463a11151297793167c8ccbf6", func := "jacquard/jacquardlaw4.PrintTells", spec := "printTells", inPlace := ["internal/abi.NoEscape", "internal/bytealg.MakeNoZero"], unfollowed := true, recurses := true, named := ["jacquard/num.signs"], apart := false, laid := [("jacquard/num.signs", laid_jacquard_num_signs)], narrowed := true }
def PrintTellsUptoSaid : Prop := printTellsUptoRow.holds Tryd.pinned (OpenSpec.upto printTellsSpec)

end Rows
end Go.Proofs.YtlfeihgemdicfaaDoor
