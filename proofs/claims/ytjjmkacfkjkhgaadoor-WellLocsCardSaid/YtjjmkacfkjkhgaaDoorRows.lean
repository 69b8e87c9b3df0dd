/-
  NARROWER THAN 'FOR EVERY INPUT', by the rows' own cells (each row's printed sentence says how): WellLocs: laid · WellBounds: laid · ProgSets: laid · ProgSkips: laid · ProgEnds: laid.
  DERIVED. THE GIVEN ROWS OF THIS SEAT. 5 by the template 'for every input the law returns true; each argument reads behind the call as it read before'; 0 by the template 'total and deterministic' (their statements: YtjjmkacfkjkhgaaDoorTotals.lean).
  GIVEN WITH THE SEED: the statements are not yours to turn. If you find one false, say at which input.
  Laid BY PROGRAM, IN A SANDBOX (cutbox-rows.mjs): the forced cells as the released guide's own fill.sh prints them over the translation 70f4a8cf6db4b6aa… (all of the seat's roots in one cut). By AI agents, Wed Nov 11 2026. No macro, syntax, notation, axiom, sorry.
-/
import Derived.Test.YtjjmkacfkjkhgaaDoorChecked
import GoSem.Claim
import GoSem.ClaimJoined
import GoSem.ClaimMapViews
import Derived.JoinedTies
import Derived.KernelRfl
namespace Go.Proofs.YtjjmkacfkjkhgaaDoor
/- THE CELL 'sum', in the pinned program and in every row, IS THE sha256 OF THE DUMP (.gsa) THAT YtjjmkacfkjkhgaaDoorProg.lean LOADS. Nothing in Lean hashes anything: it is a label: what it is worth is what the hold of that sum in a sandbox is worth. -/
noncomputable def Tryd.pinned : Pinned := { name := "ytjjmkacfkjkhgaadoor", sum := "70f4a8cf6db4b6aa1ff995221f07cabda208ff7d388bea33452b6a7970c625f7", checked := Tryd.checked }
namespace Rows
def none {H : Type} : Left H := { results := [], args := [] }

/- WHAT THE LISTED PACKAGE-LEVEL VARIABLES READ AS WHEN THE CALL BEGINS. Each datum BY PROGRAM (the guide's laid-datum.mjs) off the statement by which the dump's own 'gosem.cut.vars' lays the variable. In a bare row this is a premise. The card (YtjjmkacfkjkhgaaDoorCards.lean) ties it to the program's text. -/
def laid_math_bits_deBruijn32tab {H : Type} : DataW H := .agg [.lit (.int .u8 0), .lit (.int .u8 1), .lit (.int .u8 28), .lit (.int .u8 2), .lit (.int .u8 29), .lit (.int .u8 14), .lit (.int .u8 24), .lit (.int .u8 3), .lit (.int .u8 30), .lit (.int .u8 22), .lit (.int .u8 20), .lit (.int .u8 15), .lit (.int .u8 25), .lit (.int .u8 17), .lit (.int .u8 4), .lit (.int .u8 8), .lit (.int .u8 31), .lit (.int .u8 27), .lit (.int .u8 13), .lit (.int .u8 23), .lit (.int .u8 21), .lit (.int .u8 19), .lit (.int .u8 16), .lit (.int .u8 7), .lit (.int .u8 26), .lit (.int .u8 12), .lit (.int .u8 18), .lit (.int .u8 6), .lit (.int .u8 11), .lit (.int .u8 5), .lit (.int .u8 10), .lit (.int .u8 9)]
def laid_jacquard_num_signs {H : Type} : DataW H := .agg [.lit (.string []), .lit (.string [43]), .lit (.string [45]), .lit (.string [42]), .lit (.string [38]), .lit (.string [124]), .lit (.string [94]), .lit (.string [60, 60]), .lit (.string [62, 62]), .lit (.string [61, 61]), .lit (.string [33, 61]), .lit (.string [60])]

/-- 'jacquardlaw5.WellLocs': WHATEVER THE INPUT: true; the input reads as it did. -/
def wellLocsSpec : ChangeSpec := { name := "wellLocs", fn := fun _ => fun
  | [d1, d2, d3] => { results := [.lit (.bool true)], args := [d1, d2, d3] }
  | _ => none }
def wellLocsRow : OpenClaim := { program := "ytjjmkacfkjkhgaadoor", sum := "70f4a8cf6db4b6aa1ff995221f07cabda208ff7d388bea33452b6a7970c625f7", func := "jacquard/jacquardlaw5.WellLocs", spec := "wellLocs", unfollowed := true, recurses := true, named := ["jacquard/num.signs", "math/bits.deBruijn32tab"], apart := false, laid := [("math/bits.deBruijn32tab", laid_math_bits_deBruijn32tab), ("jacquard/num.signs", laid_jacquard_num_signs)] }
def WellLocsSaid : Prop := wellLocsRow.holds Tryd.pinned (OpenSpec.ofChange wellLocsSpec)

/-- ITS FALSE NEIGHBOUR: 'it returns false'. Refute it at one input. -/
def wellLocsWrong : ChangeSpec := { name := "wellLocs", fn := fun _ => fun
  | [d1, d2, d3] => { results := [.lit (.bool false)], args := [d1, d2, d3] }
  | _ => none }
def WellLocsWrongFalsely : Prop := wellLocsRow.holds Tryd.pinned (OpenSpec.ofChange wellLocsWrong)

/-- 'jacquardlaw5.WellBounds': WHATEVER THE INPUT: true; the input reads as it did. -/
def wellBoundsSpec : ChangeSpec := { name := "wellBounds", fn := fun _ => fun
  | [d1, d2, d3, d4, d5, d6] => { results := [.lit (.bool true)], args := [d1, d2, d3, d4, d5, d6] }
  | _ => none }
def wellBoundsRow : OpenClaim := { program := "ytjjmkacfkjkhgaadoor", sum := "70f4a8cf6db4b6aa1ff995221f07cabda208ff7d388bea33452b6a7970c625f7", func := "jacquard/jacquardlaw5.WellBounds", spec := "wellBounds", unfollowed := true, recurses := true, named := ["jacquard/num.signs", "math/bits.deBruijn32tab"], apart := false, laid := [("math/bits.deBruijn32tab", laid_math_bits_deBruijn32tab), ("jacquard/num.signs", laid_jacquard_num_signs)] }
def WellBoundsSaid : Prop := wellBoundsRow.holds Tryd.pinned (OpenSpec.ofChange wellBoundsSpec)

/-- ITS FALSE NEIGHBOUR: 'it returns false'. Refute it at one input. -/
def wellBoundsWrong : ChangeSpec := { name := "wellBounds", fn := fun _ => fun
  | [d1, d2, d3, d4, d5, d6] => { results := [.lit (.bool false)], args := [d1, d2, d3, d4, d5, d6] }
  | _ => none }
def WellBoundsWrongFalsely : Prop := wellBoundsRow.holds Tryd.pinned (OpenSpec.ofChange wellBoundsWrong)

/-- 'jacquardlaw6.ProgSets': WHATEVER THE INPUT: true; the input reads as it did. -/
def progSetsSpec : ChangeSpec := { name := "progSets", fn := fun _ => fun
  | [d1, d2, d3] => { results := [.lit (.bool true)], args := [d1, d2, d3] }
  | _ => none }
def progSetsRow : OpenClaim := { program := "ytjjmkacfkjkhgaadoor", sum := "70f4a8cf6db4b6aa1ff995221f07cabda208ff7d388bea33452b6a7970c625f7", func := "jacquard/jacquardlaw6.ProgSets", spec := "progSets", inPlace := ["internal/bytealg.IndexByte"], unfollowed := true, recurses := true, named := ["jacquard/num.signs", "math/bits.deBruijn32tab"], apart := false, laid := [("math/bits.deBruijn32tab", laid_math_bits_deBruijn32tab), ("jacquard/num.signs", laid_jacquard_num_signs)] }
def ProgSetsSaid : Prop := progSetsRow.holds Tryd.pinned (OpenSpec.ofChange progSetsSpec)

/-- ITS FALSE NEIGHBOUR: 'it returns false'. Refute it at one input. -/
def progSetsWrong : ChangeSpec := { name := "progSets", fn := fun _ => fun
  | [d1, d2, d3] => { results := [.lit (.bool false)], args := [d1, d2, d3] }
  | _ => none }
def ProgSetsWrongFalsely : Prop := progSetsRow.holds Tryd.pinned (OpenSpec.ofChange progSetsWrong)

/-- 'jacquardlaw6.ProgSkips': WHATEVER THE INPUT: true; the input reads as it did. -/
def progSkipsSpec : ChangeSpec := { name := "progSkips", fn := fun _ => fun
  | [d1, d2, d3] => { results := [.lit (.bool true)], args := [d1, d2, d3] }
  | _ => none }
def progSkipsRow : OpenClaim := { program := "ytjjmkacfkjkhgaadoor", sum := "70f4a8cf6db4b6aa1ff995221f07cabda208ff7d388bea33452b6a7970c625f7", func := "jacquard/jacquardlaw6.ProgSkips", spec := "progSkips", inPlace := ["internal/bytealg.IndexByte"], unfollowed := true, recurses := true, named := ["jacquard/num.signs", "math/bits.deBruijn32tab"], apart := false, laid := [("math/bits.deBruijn32tab", laid_math_bits_deBruijn32tab), ("jacquard/num.signs", laid_jacquard_num_signs)] }
def ProgSkipsSaid : Prop := progSkipsRow.holds Tryd.pinned (OpenSpec.ofChange progSkipsSpec)

/-- ITS FALSE NEIGHBOUR: 'it returns false'. Refute it at one input. -/
def progSkipsWrong : ChangeSpec := { name := "progSkips", fn := fun _ => fun
  | [d1, d2, d3] => { results := [.lit (.bool false)], args := [d1, d2, d3] }
  | _ => none }
def ProgSkipsWrongFalsely : Prop := progSkipsRow.holds Tryd.pinned (OpenSpec.ofChange progSkipsWrong)

/-- 'jacquardlaw6.ProgEnds': WHATEVER THE INPUT: true; the input reads as it did. -/
def progEndsSpec : ChangeSpec := { name := "progEnds", fn := fun _ => fun
  | [d1, d2] => { results := [.lit (.bool true)], args := [d1, d2] }
  | _ => none }
def progEndsRow : OpenClaim := { program := "ytjjmkacfkjkhgaadoor", sum := "70f4a8cf6db4b6aa1ff995221f07cabda208ff7d388bea33452b6a7970c625f7", func := "jacquard/jacquardlaw6.ProgEnds", spec := "progEnds", inPlace := ["internal/bytealg.IndexByte"], unfollowed := true, recurses := true, named := ["jacquard/num.signs", "math/bits.deBruijn32tab"], apart := false, laid := [("math/bits.deBruijn32tab", laid_math_bits_deBruijn32tab), ("jacquard/num.signs", laid_jacquard_num_signs)] }
def ProgEndsSaid : Prop := progEndsRow.holds Tryd.pinned (OpenSpec.ofChange progEndsSpec)

/-- ITS FALSE NEIGHBOUR: 'it returns false'. Refute it at one input. -/
def progEndsWrong : ChangeSpec := { name := "progEnds", fn := fun _ => fun
  | [d1, d2] => { results := [.lit (.bool false)], args := [d1, d2] }
  | _ => none }
def ProgEndsWrongFalsely : Prop := progEndsRow.holds Tryd.pinned (OpenSpec.ofChange progEndsWrong)

/- THE SECOND FORM. 'bulk': how many values and letters a reading holds, each counted each time it is reached (what is shared counts as often as it is met; a slice's spare places count too). A statement '..UptoSaid' is the law's where the arguments, and the package variables that the reading takes, are together of bulk at most 1048576: NARROWER than '..Said'. Prove '..Said' where nothing that the law and all that it calls make is longer than what came in: it says more and counts as full. Else prove '..UptoSaid'. A law counts once. -/
mutual
def uptoBulk {H : Type} : DataW H → Nat
  | .lit (.string bytes) => bytes.length + 1
  | .lit _ => 1
  | .nil => 1
  | .ptr d => uptoBulk d + 1
  | .slice elems spare => uptoBulkAll elems + uptoBulkAll spare + 1
  | .agg parts => uptoBulkAll parts + 1
  | .iface _ d => uptoBulk d + 1
  | .map entries => uptoBulkEntries entries + 1
  | .held _ => 1
def uptoBulkAll {H : Type} : List (DataW H) → Nat
  | [] => 0
  | d :: r => uptoBulk d + uptoBulkAll r
def uptoBulkEntries {H : Type} : List (Lit × DataW H) → Nat
  | [] => 0
  | x :: r => uptoBulkEntry x + uptoBulkEntries r
def uptoBulkEntry {H : Type} : Lit × DataW H → Nat
  | (.string bytes, d) => bytes.length + uptoBulk d + 1
  | (_, d) => uptoBulk d + 1
 end
def uptoSmall : (H : Type) → List (DataW H) → Bool := fun _ ds => decide (uptoBulkAll ds ≤ 1048576)
def OpenSpec.upto (s : _root_.Go.ChangeSpec) : _root_.Go.OpenSpec := { _root_.Go.OpenSpec.ofChange s with cond := some uptoSmall }

/-- 'jacquardlaw5.WellLocs', WHERE WHAT IT READS IS OF BULK AT MOST 1048576: true; the input reads as it did. -/
def wellLocsUptoRow : OpenClaim := { program := "ytjjmkacfkjkhgaadoor", sum := "70f4a8cf6db4b6aa1ff995221f07cabda208ff7d388bea33452b6a7970c625f7", func := "jacquard/jacquardlaw5.WellLocs", spec := "wellLocs", unfollowed := true, recurses := true, named := ["jacquard/num.signs", "math/bits.deBruijn32tab"], apart := false, laid := [("math/bits.deBruijn32tab", laid_math_bits_deBruijn32tab), ("jacquard/num.signs", laid_jacquard_num_signs)], narrowed := true }
def WellLocsUptoSaid : Prop := wellLocsUptoRow.holds Tryd.pinned (OpenSpec.upto wellLocsSpec)

/-- 'jacquardlaw5.WellBounds', WHERE WHAT IT READS IS OF BULK AT MOST 1048576: true; the input reads as it did. -/
def wellBoundsUptoRow : OpenClaim := { program := "ytjjmkacfkjkhgaadoor", sum := "70f4a8cf6db4b6aa1ff995221f07cabda208ff7d388bea33452b6a7970c625f7", func := "jacquard/jacquardlaw5.WellBounds", spec := "wellBounds", unfollowed := true, recurses := true, named := ["jacquard/num.signs", "math/bits.deBruijn32tab"], apart := false, laid := [("math/bits.deBruijn32tab", laid_math_bits_deBruijn32tab), ("jacquard/num.signs", laid_jacquard_num_signs)], narrowed := true }
def WellBoundsUptoSaid : Prop := wellBoundsUptoRow.holds Tryd.pinned (OpenSpec.upto wellBoundsSpec)

/-- 'jacquardlaw6.ProgSets', WHERE WHAT IT READS IS OF BULK AT MOST 1048576: true; the input reads as it did. -/
def progSetsUptoRow : OpenClaim := { program := "ytjjmkacfkjkhgaadoor", sum := "70f4a8cf6db4b6aa1ff995221f07cabda208ff7d388bea33452b6a7970c625f7", func := "jacquard/jacquardlaw6.ProgSets", spec := "progSets", inPlace := ["internal/bytealg.IndexByte"], unfollowed := true, recurses := true, named := ["jacquard/num.signs", "math/bits.deBruijn32tab"], apart := false, laid := [("math/bits.deBruijn32tab", laid_math_bits_deBruijn32tab), ("jacquard/num.signs", laid_jacquard_num_signs)], narrowed := true }
def ProgSetsUptoSaid : Prop := progSetsUptoRow.holds Tryd.pinned (OpenSpec.upto progSetsSpec)

/-- 'jacquardlaw6.ProgSkips', WHERE WHAT IT READS IS OF BULK AT MOST 1048576: true; the input reads as it did. -/
def progSkipsUptoRow : OpenClaim := { program := "ytjjmkacfkjkhgaadoor", sum := "70f4a8cf6db4b6aa1ff995221f07cabda208ff7d388bea33452b6a7970c625f7", func := "jacquard/jacquardlaw6.ProgSkips", spec := "progSkips", inPlace := ["internal/bytealg.IndexByte"], unfollowed := true, recurses := true, named := ["jacquard/num.signs", "math/bits.deBruijn32tab"], apart := false, laid := [("math/bits.deBruijn32tab", laid_math_bits_deBruijn32tab), ("jacquard/num.signs", laid_jacquard_num_signs)], narrowed := true }
def ProgSkipsUptoSaid : Prop := progSkipsUptoRow.holds Tryd.pinned (OpenSpec.upto progSkipsSpec)

/-- 'jacquardlaw6.ProgEnds', WHERE WHAT IT READS IS OF BULK AT MOST 1048576: true; the input reads as it did. -/
def progEndsUptoRow : OpenClaim := { program := "ytjjmkacfkjkhgaadoor", sum := "70f4a8cf6db4b6aa1ff995221f07cabda208ff7d388bea33452b6a7970c625f7", func := "jacquard/jacquardlaw6.ProgEnds", spec := "progEnds", inPlace := ["internal/bytealg.IndexByte"], unfollowed := true, recurses := true, named := ["jacquard/num.signs", "math/bits.deBruijn32tab"], apart := false, laid := [("math/bits.deBruijn32tab", laid_math_bits_deBruijn32tab), ("jacquard/num.signs", laid_jacquard_num_signs)], narrowed := true }
def ProgEndsUptoSaid : Prop := progEndsUptoRow.holds Tryd.pinned (OpenSpec.upto progEndsSpec)

end Rows
end Go.Proofs.YtjjmkacfkjkhgaaDoor
