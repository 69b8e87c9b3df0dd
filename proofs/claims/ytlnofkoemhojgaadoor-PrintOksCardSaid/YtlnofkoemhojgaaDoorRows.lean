/-
  NARROWER THAN 'FOR EVERY INPUT', by the rows' own cells (each row's printed sentence says how): PrintOks: laid · WellLocs: laid · WellShort: laid · WellBounds: laid · WellJumps: laid.
  DERIVED. THE GIVEN ROWS OF THIS SEAT. 5 by the template 'for every input the law returns true; each argument reads behind the call as it read before'; 0 by the template 'total and deterministic' (their statements: YtlnofkoemhojgaaDoorTotals.lean).
  GIVEN WITH THE SEED: the statements are not yours to turn. If you find one false, say at which input.
  Laid BY PROGRAM, IN A SANDBOX (cutbox-rows.mjs): the forced cells as the released guide's own fill.sh prints them over the translation 8402620006446aea… (all of the seat's roots in one cut). By AI agents, Wed Nov 11 2026. No macro, syntax, notation, axiom, sorry.
-/
import Derived.Test.YtlnofkoemhojgaaDoorChecked
import GoSem.Claim
import GoSem.ClaimJoined
import GoSem.ClaimMapViews
import Derived.JoinedTies
import Derived.KernelRfl
namespace Go.Proofs.YtlnofkoemhojgaaDoor
/- THE CELL 'sum', in the pinned program and in every row, IS THE sha256 OF THE DUMP (.gsa) THAT YtlnofkoemhojgaaDoorProg.lean LOADS. Nothing in Lean hashes anything: it is a label: what it is worth is what the hold of that sum in a sandbox is worth. -/
noncomputable def Tryd.pinned : Pinned := { name := "ytlnofkoemhojgaadoor", sum := "8402620006446aea093f0c9742bc07b0a2c470600f31ded1e7b6b9357c9466e2", checked := Tryd.checked }
namespace Rows
def none {H : Type} : Left H := { results := [], args := [] }

/- WHAT THE LISTED PACKAGE-LEVEL VARIABLES READ AS WHEN THE CALL BEGINS. Each datum BY PROGRAM (the guide's laid-datum.mjs) off the statement by which the dump's own 'gosem.cut.vars' lays the variable. In a bare row this is a premise. The card (YtlnofkoemhojgaaDoorCards.lean) ties it to the program's text. -/
def laid_jacquard_num_signs {H : Type} : DataW H := .agg [.lit (.string []), .lit (.string [43]), .lit (.string [45]), .lit (.string [42]), .lit (.string [38]), .lit (.string [124]), .lit (.string [94]), .lit (.string [60, 60]), .lit (.string [62, 62]), .lit (.string [61, 61]), .lit (.string [33, 61]), .lit (.string [60])]
def laid_math_bits_deBruijn32tab {H : Type} : DataW H := .agg [.lit (.int .u8 0), .lit (.int .u8 1), .lit (.int .u8 28), .lit (.int .u8 2), .lit (.int .u8 29), .lit (.int .u8 14), .lit (.int .u8 24), .lit (.int .u8 3), .lit (.int .u8 30), .lit (.int .u8 22), .lit (.int .u8 20), .lit (.int .u8 15), .lit (.int .u8 25), .lit (.int .u8 17), .lit (.int .u8 4), .lit (.int .u8 8), .lit (.int .u8 31), .lit (.int .u8 27), .lit (.int .u8 13), .lit (.int .u8 23), .lit (.int .u8 21), .lit (.int .u8 19), .lit (.int .u8 16), .lit (.int .u8 7), .lit (.int .u8 26), .lit (.int .u8 12), .lit (.int .u8 18), .lit (.int .u8 6), .lit (.int .u8 11), .lit (.int .u8 5), .lit (.int .u8 10), .lit (.int .u8 9)]

/-- 'jacquardlaw4.PrintOks': WHATEVER THE INPUT: true; the input reads as it did. -/
def printOksSpec : ChangeSpec := { name := "printOks", fn := fun _ => fun
  | [d1, d2, d3] => { results := [.lit (.bool true)], args := [d1, d2, d3] }
  | _ => none }
def printOksRow : OpenClaim := { program := "ytlnofkoemhojgaadoor", sum := "8402620006446aea093f0c9742bc07b0a2c470600f31ded1e7b6b9357c9466e2", func := "jacquard/jacquardlaw4.PrintOks", spec := "printOks", inPlace := ["internal/abi.NoEscape", "internal/bytealg.MakeNoZero"], unfollowed := true, recurses := true, named := ["jacquard/num.signs"], apart := false, laid := [("jacquard/num.signs", laid_jacquard_num_signs)] }
def PrintOksSaid : Prop := printOksRow.holds Tryd.pinned (OpenSpec.ofChange printOksSpec)

/-- ITS FALSE NEIGHBOUR: 'it returns false'. Refute it at one input. -/
def printOksWrong : ChangeSpec := { name := "printOks", fn := fun _ => fun
  | [d1, d2, d3] => { results := [.lit (.bool false)], args := [d1, d2, d3] }
  | _ => none }
def PrintOksWrongFalsely : Prop := printOksRow.holds Tryd.pinned (OpenSpec.ofChange printOksWrong)

/-- 'jacquardlaw5.WellLocs': WHATEVER THE INPUT: true; the input reads as it did. -/
def wellLocsSpec : ChangeSpec := { name := "wellLocs", fn := fun _ => fun
  | [d1, d2, d3] => { results := [.lit (.bool true)], args := [d1, d2, d3] }
  | _ => none }
def wellLocsRow : OpenClaim := { program := "ytlnofkoemhojgaadoor", sum := "8402620006446aea093f0c9742bc07b0a2c470600f31ded1e7b6b9357c9466e2", func := "jacquard/jacquardlaw5.WellLocs", spec := "wellLocs", unfollowed := true, recurses := true, named := ["jacquard/num.signs", "math/bits.deBruijn32tab"], apart := false, laid := [("math/bits.deBruijn32tab", laid_math_bits_deBruijn32tab), ("jacquard/num.signs", laid_jacquard_num_signs)] }
def WellLocsSaid : Prop := wellLocsRow.holds Tryd.pinned (OpenSpec.ofChange wellLocsSpec)

/-- ITS FALSE NEIGHBOUR: 'it returns false'. Refute it at one input. -/
def wellLocsWrong : ChangeSpec := { name := "wellLocs", fn := fun _ => fun
  | [d1, d2, d3] => { results := [.lit (.bool false)], args := [d1, d2, d3] }
  | _ => none }
def WellLocsWrongFalsely : Prop := wellLocsRow.holds Tryd.pinned (OpenSpec.ofChange wellLocsWrong)

/-- 'jacquardlaw5.WellShort': WHATEVER THE INPUT: true; the input reads as it did. -/
def wellShortSpec : ChangeSpec := { name := "wellShort", fn := fun _ => fun
  | [d] => { results := [.lit (.bool true)], args := [d] }
  | _ => none }
def wellShortRow : OpenClaim := { program := "ytlnofkoemhojgaadoor", sum := "8402620006446aea093f0c9742bc07b0a2c470600f31ded1e7b6b9357c9466e2", func := "jacquard/jacquardlaw5.WellShort", spec := "wellShort", unfollowed := true, recurses := true, named := ["jacquard/num.signs", "math/bits.deBruijn32tab"], apart := false, laid := [("math/bits.deBruijn32tab", laid_math_bits_deBruijn32tab), ("jacquard/num.signs", laid_jacquard_num_signs)] }
def WellShortSaid : Prop := wellShortRow.holds Tryd.pinned (OpenSpec.ofChange wellShortSpec)

/-- ITS FALSE NEIGHBOUR: 'it returns false'. Refute it at one input. -/
def wellShortWrong : ChangeSpec := { name := "wellShort", fn := fun _ => fun
  | [d] => { results := [.lit (.bool false)], args := [d] }
  | _ => none }
def WellShortWrongFalsely : Prop := wellShortRow.holds Tryd.pinned (OpenSpec.ofChange wellShortWrong)

/-- 'jacquardlaw5.WellBounds': WHATEVER THE INPUT: true; the input reads as it did. -/
def wellBoundsSpec : ChangeSpec := { name := "wellBounds", fn := fun _ => fun
  | [d1, d2, d3, d4, d5, d6] => { results := [.lit (.bool true)], args := [d1, d2, d3, d4, d5, d6] }
  | _ => none }
def wellBoundsRow : OpenClaim := { program := "ytlnofkoemhojgaadoor", sum := "8402620006446aea093f0c9742bc07b0a2c470600f31ded1e7b6b9357c9466e2", func := "jacquard/jacquardlaw5.WellBounds", spec := "wellBounds", unfollowed := true, recurses := true, named := ["jacquard/num.signs", "math/bits.deBruijn32tab"], apart := false, laid := [("math/bits.deBruijn32tab", laid_math_bits_deBruijn32tab), ("jacquard/num.signs", laid_jacquard_num_signs)] }
def WellBoundsSaid : Prop := wellBoundsRow.holds Tryd.pinned (OpenSpec.ofChange wellBoundsSpec)

/-- ITS FALSE NEIGHBOUR: 'it returns false'. Refute it at one input. -/
def wellBoundsWrong : ChangeSpec := { name := "wellBounds", fn := fun _ => fun
  | [d1, d2, d3, d4, d5, d6] => { results := [.lit (.bool false)], args := [d1, d2, d3, d4, d5, d6] }
  | _ => none }
def WellBoundsWrongFalsely : Prop := wellBoundsRow.holds Tryd.pinned (OpenSpec.ofChange wellBoundsWrong)

/-- 'jacquardlaw5.WellJumps': WHATEVER THE INPUT: true; the input reads as it did. -/
def wellJumpsSpec : ChangeSpec := { name := "wellJumps", fn := fun _ => fun
  | [d1, d2, d3, d4, d5] => { results := [.lit (.bool true)], args := [d1, d2, d3, d4, d5] }
  | _ => none }
def wellJumpsRow : OpenClaim := { program := "ytlnofkoemhojgaadoor", sum := "8402620006446aea093f0c9742bc07b0a2c470600f31ded1e7b6b9357c9466e2", func := "jacquard/jacquardlaw5.WellJumps", spec := "wellJumps", unfollowed := true, recurses := true, named := ["jacquard/num.signs", "math/bits.deBruijn32tab"], apart := false, laid := [("math/bits.deBruijn32tab", laid_math_bits_deBruijn32tab), ("jacquard/num.signs", laid_jacquard_num_signs)] }
def WellJumpsSaid : Prop := wellJumpsRow.holds Tryd.pinned (OpenSpec.ofChange wellJumpsSpec)

/-- ITS FALSE NEIGHBOUR: 'it returns false'. Refute it at one input. -/
def wellJumpsWrong : ChangeSpec := { name := "wellJumps", fn := fun _ => fun
  | [d1, d2, d3, d4, d5] => { results := [.lit (.bool false)], args := [d1, d2, d3, d4, d5] }
  | _ => none }
def WellJumpsWrongFalsely : Prop := wellJumpsRow.holds Tryd.pinned (OpenSpec.ofChange wellJumpsWrong)

/- THE SECOND FORM. 'bulk': how many values and letters a reading holds, each counted each time it is reached (what is shared counts as often as it is met; a slice's spare places count too). A statement '..UptoSaid' is the law's where the arguments, and the package variables that the reading takes, are together of bulk at most 1048576: NARROWER than '..Said'. Prove '..Said' where nothing that the law and all that it calls make is longer than what came in: it says more and counts as full. Else prove '..UptoSaid'. A law counts once. -/
mutual
def uptoBulk {H : Type} : DataW H → Nat
  | .lit (.string bytes) => bytes.length + 1
  | .lit _ => 1
  | .nil => 1
  | .ptr d => uptoBulk d + 1
  | .slice elems spare => uptoBulkAll elems + uptoBulkAll spare + 1
  | .agg parts => uptoBulkAll parts + 1
  | .iface _ d => uptoBulk d + 1
  | .map entries => uptoBulkEntries entries + 1
  | .held _ => 1
def uptoBulkAll {H : Type} : List (DataW H) → Nat
  | [] => 0
  | d :: r => uptoBulk d + uptoBulkAll r
def uptoBulkEntries {H : Type} : List (Lit × DataW H) → Nat
  | [] => 0
  | x :: r => uptoBulkEntry x + uptoBulkEntries r
def uptoBulkEntry {H : Type} : Lit × DataW H → Nat
  | (.string bytes, d) => bytes.length + uptoBulk d + 1
  | (_, d) => uptoBulk d + 1
 end
def uptoSmall : (H : Type) → List (DataW H) → Bool := fun _ ds => decide (uptoBulkAll ds ≤ 1048576)
def OpenSpec.upto (s : _root_.Go.ChangeSpec) : _root_.Go.OpenSpec := { _root_.Go.OpenSpec.ofChange s with cond := some uptoSmall }

/-- 'jacquardlaw4.PrintOks', WHERE WHAT IT READS IS OF BULK AT MOST 1048576: true; the input reads as it did. -/
def printOksUptoRow : OpenClaim := { program := "ytlnofkoemhojgaadoor", sum := "8402620006446aea093f0c9742bc07b0a2c470600f31ded1e7b6b9357c9466e2", func := "jacquard/jacquardlaw4.PrintOks", spec := "printOks", inPlace := ["internal/abi.NoEscape", "internal/bytealg.MakeNoZero"], unfollowed := true, recurses := true, named := ["jacquard/num.signs"], apart := false, laid := [("jacquard/num.signs", laid_jacquard_num_signs)], narrowed := true }
def PrintOksUptoSaid : Prop := printOksUptoRow.holds Tryd.pinned (OpenSpec.upto printOksSpec)

/-- 'jacquardlaw5.WellLocs', WHERE WHAT IT READS IS OF BULK AT MOST 1048576: true; the input reads as it did. -/
def wellLocsUptoRow : OpenClaim := { program := "ytlnofkoemhojgaadoor", sum := "8402620006446aea093f0c9742bc07b0a2c470600f31ded1e7b6b9357c9466e2", func := "jacquard/jacquardlaw5.WellLocs", spec := "wellLocs", unfollowed := true, recurses := true, named := ["jacquard/num.signs", "math/bits.deBruijn32tab"], apart := false, laid := [("math/bits.deBruijn32tab", laid_math_bits_deBruijn32tab), ("jacquard/num.signs", laid_jacquard_num_signs)], narrowed := true }
def WellLocsUptoSaid : Prop := wellLocsUptoRow.holds Tryd.pinned (OpenSpec.upto wellLocsSpec)

/-- 'jacquardlaw5.WellShort', WHERE WHAT IT READS IS OF BULK AT MOST 1048576: true; the input reads as it did. -/
def wellShortUptoRow : OpenClaim := { program := "ytlnofkoemhojgaadoor", sum := "8402620006446aea093f0c9742bc07b0a2c470600f31ded1e7b6b9357c9466e2", func := "jacquard/jacquardlaw5.WellShort", spec := "wellShort", unfollowed := true, recurses := true, named := ["jacquard/num.signs", "math/bits.deBruijn32tab"], apart := false, laid := [("math/bits.deBruijn32tab", laid_math_bits_deBruijn32tab), ("jacquard/num.signs", laid_jacquard_num_signs)], narrowed := true }
def WellShortUptoSaid : Prop := wellShortUptoRow.holds Tryd.pinned (OpenSpec.upto wellShortSpec)

/-- 'jacquardlaw5.WellBounds', WHERE WHAT IT READS IS OF BULK AT MOST 1048576: true; the input reads as it did. -/
def wellBoundsUptoRow : OpenClaim := { program := "ytlnofkoemhojgaadoor", sum := "8402620006446aea093f0c9742bc07b0a2c470600f31ded1e7b6b9357c9466e2", func := "jacquard/jacquardlaw5.WellBounds", spec := "wellBounds", unfollowed := true, recurses := true, named := ["jacquard/num.signs", "math/bits.deBruijn32tab"], apart := false, laid := [("math/bits.deBruijn32tab", laid_math_bits_deBruijn32tab), ("jacquard/num.signs", laid_jacquard_num_signs)], narrowed := true }
def WellBoundsUptoSaid : Prop := wellBoundsUptoRow.holds Tryd.pinned (OpenSpec.upto wellBoundsSpec)

/-- 'jacquardlaw5.WellJumps', WHERE WHAT IT READS IS OF BULK AT MOST 1048576: true; the input reads as it did. -/
def wellJumpsUptoRow : OpenClaim := { program := "ytlnofkoemhojgaadoor", sum := "8402620006446aea093f0c9742bc07b0a2c470600f31ded1e7b6b9357c9466e2", func := "jacquard/jacquardlaw5.WellJumps", spec := "wellJumps", unfollowed := true, recurses := true, named := ["jacquard/num.signs", "math/bits.deBruijn32tab"], apart := false, laid := [("math/bits.deBruijn32tab", laid_math_bits_deBruijn32tab), ("jacquard/num.signs", laid_jacquard_num_signs)], narrowed := true }
def WellJumpsUptoSaid : Prop := wellJumpsUptoRow.holds Tryd.pinned (OpenSpec.upto wellJumpsSpec)

end Rows
end Go.Proofs.YtlnofkoemhojgaaDoor
