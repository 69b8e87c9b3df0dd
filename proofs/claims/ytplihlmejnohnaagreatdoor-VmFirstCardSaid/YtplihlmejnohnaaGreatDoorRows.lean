/-
  NARROWER THAN 'FOR EVERY INPUT', by the rows' own cells (each row's printed sentence says how): VmForwards: laid · VmFirst: laid · VmPlain: laid · VmNames: laid · VmWaits: laid · VmPlays: laid.
  DERIVED. THE GIVEN ROWS OF THIS SEAT. 6 by the template 'for every input the law returns true; each argument reads behind the call as it read before'; 0 by the template 'total and deterministic' (their statements: YtplihlmejnohnaaGreatDoorTotals.lean).
  GIVEN WITH THE SEED: the statements are not yours to turn. If you find one false, say at which input.
  Laid BY PROGRAM, IN A SANDBOX (cutbox-rows.mjs): the forced cells as the released guide's own fill.sh prints them over the translation 3ea235e472b3dfe9… (all of the seat's roots in one cut). By AI agents, Wed Nov 11 2026. No macro, syntax, notation, axiom, sorry.
-/
import Derived.Test.YtplihlmejnohnaaGreatDoorChecked
import GoSem.Claim
import GoSem.ClaimJoined
import GoSem.ClaimMapViews
import Derived.JoinedTies
import Derived.KernelRfl
namespace Go.Proofs.YtplihlmejnohnaaGreatDoor
/- THE CELL 'sum', in the pinned program and in every row, IS THE sha256 OF THE DUMP (.gsa) THAT YtplihlmejnohnaaGreatDoorProg.lean LOADS. Nothing in Lean hashes anything: it is a label: what it is worth is what the hold of that sum in a sandbox is worth. -/
noncomputable def Tryz.pinned : Pinned := { name := "ytplihlmejnohnaagreatdoor", sum := "3ea235e472b3dfe965bb1f1ffde75e816a301bb0a69550e6f5a86ceeb9d93338", checked := Tryz.checked }
namespace Rows
def none {H : Type} : Left H := { results := [], args := [] }

/- WHAT THE LISTED PACKAGE-LEVEL VARIABLES READ AS WHEN THE CALL BEGINS. Each datum BY PROGRAM (the guide's laid-datum.mjs) off the statement by which the dump's own 'gosem.cut.vars' lays the variable. In a bare row this is a premise. The card (YtplihlmejnohnaaGreatDoorCards.lean) ties it to the program's text. -/
def laid_math_bits_deBruijn32tab {H : Type} : DataW H := .agg [.lit (.int .u8 0), .lit (.int .u8 1), .lit (.int .u8 28), .lit (.int .u8 2), .lit (.int .u8 29), .lit (.int .u8 14), .lit (.int .u8 24), .lit (.int .u8 3), .lit (.int .u8 30), .lit (.int .u8 22), .lit (.int .u8 20), .lit (.int .u8 15), .lit (.int .u8 25), .lit (.int .u8 17), .lit (.int .u8 4), .lit (.int .u8 8), .lit (.int .u8 31), .lit (.int .u8 27), .lit (.int .u8 13), .lit (.int .u8 23), .lit (.int .u8 21), .lit (.int .u8 19), .lit (.int .u8 16), .lit (.int .u8 7), .lit (.int .u8 26), .lit (.int .u8 12), .lit (.int .u8 18), .lit (.int .u8 6), .lit (.int .u8 11), .lit (.int .u8 5), .lit (.int .u8 10), .lit (.int .u8 9)]
def laid_math_bits_deBruijn64tab {H : Type} : DataW H := .agg [.lit (.int .u8 0), .lit (.int .u8 1), .lit (.int .u8 56), .lit (.int .u8 2), .lit (.int .u8 57), .lit (.int .u8 49), .lit (.int .u8 28), .lit (.int .u8 3), .lit (.int .u8 61), .lit (.int .u8 58), .lit (.int .u8 42), .lit (.int .u8 50), .lit (.int .u8 38), .lit (.int .u8 29), .lit (.int .u8 17), .lit (.int .u8 4), .lit (.int .u8 62), .lit (.int .u8 47), .lit (.int .u8 59), .lit (.int .u8 36), .lit (.int .u8 45), .lit (.int .u8 43), .lit (.int .u8 51), .lit (.int .u8 22), .lit (.int .u8 53), .lit (.int .u8 39), .lit (.int .u8 33), .lit (.int .u8 30), .lit (.int .u8 24), .lit (.int .u8 18), .lit (.int .u8 12), .lit (.int .u8 5), .lit (.int .u8 63), .lit (.int .u8 55), .lit (.int .u8 48), .lit (.int .u8 27), .lit (.int .u8 60), .lit (.int .u8 41), .lit (.int .u8 37), .lit (.int .u8 16), .lit (.int .u8 46), .lit (.int .u8 35), .lit (.int .u8 44), .lit (.int .u8 21), .lit (.int .u8 52), .lit (.int .u8 32), .lit (.int .u8 23), .lit (.int .u8 11), .lit (.int .u8 54), .lit (.int .u8 26), .lit (.int .u8 40), .lit (.int .u8 15), .lit (.int .u8 34), .lit (.int .u8 20), .lit (.int .u8 31), .lit (.int .u8 10), .lit (.int .u8 25), .lit (.int .u8 14), .lit (.int .u8 19), .lit (.int .u8 9), .lit (.int .u8 13), .lit (.int .u8 8), .lit (.int .u8 7), .lit (.int .u8 6)]
def laid_internal_strconv_uint64pow10 {H : Type} : DataW H := .agg [.lit (.int .u64 1), .lit (.int .u64 10), .lit (.int .u64 100), .lit (.int .u64 1000), .lit (.int .u64 10000), .lit (.int .u64 100000), .lit (.int .u64 1000000), .lit (.int .u64 10000000), .lit (.int .u64 100000000), .lit (.int .u64 1000000000), .lit (.int .u64 10000000000), .lit (.int .u64 100000000000), .lit (.int .u64 1000000000000), .lit (.int .u64 10000000000000), .lit (.int .u64 100000000000000), .lit (.int .u64 1000000000000000), .lit (.int .u64 10000000000000000), .lit (.int .u64 100000000000000000), .lit (.int .u64 1000000000000000000), .lit (.int .u64 10000000000000000000)]
def laid_jacquard_num_signs {H : Type} : DataW H := .agg [.lit (.string []), .lit (.string [43]), .lit (.string [45]), .lit (.string [42]), .lit (.string [38]), .lit (.string [124]), .lit (.string [94]), .lit (.string [60, 60]), .lit (.string [62, 62]), .lit (.string [61, 61]), .lit (.string [33, 61]), .lit (.string [60])]

/-- 'jacquardlaw16.VmForwards': WHATEVER THE INPUT: true; the input reads as it did. -/
def vmForwardsSpec : ChangeSpec := { name := "vmForwards", fn := fun _ => fun
  | [d1, d2, d3] => { results := [.lit (.bool true)], args := [d1, d2, d3] }
  | _ => none }
def vmForwardsRow : OpenClaim := { program := "ytplihlmejnohnaagreatdoor", sum := "3ea235e472b3dfe965bb1f1ffde75e816a301bb0a69550e6f5a86ceeb9d93338", func := "jacquard/jacquardlaw16.VmForwards", spec := "vmForwards", inPlace := ["internal/bytealg.IndexByte"], unfollowed := true, recurses := true, named := ["jacquard/num.signs", "math/bits.deBruijn32tab", "math/bits.deBruijn64tab", "internal/strconv.uint64pow10"], apart := false, laid := [("math/bits.deBruijn32tab", laid_math_bits_deBruijn32tab), ("math/bits.deBruijn64tab", laid_math_bits_deBruijn64tab), ("internal/strconv.uint64pow10", laid_internal_strconv_uint64pow10), ("jacquard/num.signs", laid_jacquard_num_signs)] }
def VmForwardsSaid : Prop := vmForwardsRow.holds Tryz.pinned (OpenSpec.ofChange vmForwardsSpec)

/-- ITS FALSE NEIGHBOUR: 'it returns false'. Refute it at one input. -/
def vmForwardsWrong : ChangeSpec := { name := "vmForwards", fn := fun _ => fun
  | [d1, d2, d3] => { results := [.lit (.bool false)], args := [d1, d2, d3] }
  | _ => none }
def VmForwardsWrongFalsely : Prop := vmForwardsRow.holds Tryz.pinned (OpenSpec.ofChange vmForwardsWrong)

/-- 'jacquardlaw16.VmFirst': WHATEVER THE INPUT: true; the input reads as it did. -/
def vmFirstSpec : ChangeSpec := { name := "vmFirst", fn := fun _ => fun
  | [d1, d2, d3] => { results := [.lit (.bool true)], args := [d1, d2, d3] }
  | _ => none }
def vmFirstRow : OpenClaim := { program := "ytplihlmejnohnaagreatdoor", sum := "3ea235e472b3dfe965bb1f1ffde75e816a301bb0a69550e6f5a86ceeb9d93338", func := "jacquard/jacquardlaw16.VmFirst", spec := "vmFirst", inPlace := ["internal/bytealg.IndexByte"], unfollowed := true, recurses := true, named := ["jacquard/num.signs", "math/bits.deBruijn32tab", "math/bits.deBruijn64tab", "internal/strconv.uint64pow10"], apart := false, laid := [("math/bits.deBruijn32tab", laid_math_bits_deBruijn32tab), ("math/bits.deBruijn64tab", laid_math_bits_deBruijn64tab), ("internal/strconv.uint64pow10", laid_internal_strconv_uint64pow10), ("jacquard/num.signs", laid_jacquard_num_signs)] }
def VmFirstSaid : Prop := vmFirstRow.holds Tryz.pinned (OpenSpec.ofChange vmFirstSpec)

/-- ITS FALSE NEIGHBOUR: 'it returns false'. Refute it at one input. -/
def vmFirstWrong : ChangeSpec := { name := "vmFirst", fn := fun _ => fun
  | [d1, d2, d3] => { results := [.lit (.bool false)], args := [d1, d2, d3] }
  | _ => none }
def VmFirstWrongFalsely : Prop := vmFirstRow.holds Tryz.pinned (OpenSpec.ofChange vmFirstWrong)

/-- 'jacquardlaw16.VmPlain': WHATEVER THE INPUT: true; the input reads as it did. -/
def vmPlainSpec : ChangeSpec := { name := "vmPlain", fn := fun _ => fun
  | [d1, d2, d3] => { results := [.lit (.bool true)], args := [d1, d2, d3] }
  | _ => none }
def vmPlainRow : OpenClaim := { program := "ytplihlmejnohnaagreatdoor", sum := "3ea235e472b3dfe965bb1f1ffde75e816a301bb0a69550e6f5a86ceeb9d93338", func := "jacquard/jacquardlaw16.VmPlain", spec := "vmPlain", inPlace := ["internal/bytealg.IndexByte"], unfollowed := true, recurses := true, named := ["jacquard/num.signs", "math/bits.deBruijn32tab", "math/bits.deBruijn64tab", "internal/strconv.uint64pow10"], apart := false, laid := [("math/bits.deBruijn32tab", laid_math_bits_deBruijn32tab), ("math/bits.deBruijn64tab", laid_math_bits_deBruijn64tab), ("internal/strconv.uint64pow10", laid_internal_strconv_uint64pow10), ("jacquard/num.signs", laid_jacquard_num_signs)] }
def VmPlainSaid : Prop := vmPlainRow.holds Tryz.pinned (OpenSpec.ofChange vmPlainSpec)

/-- ITS FALSE NEIGHBOUR: 'it returns false'. Refute it at one input. -/
def vmPlainWrong : ChangeSpec := { name := "vmPlain", fn := fun _ => fun
  | [d1, d2, d3] => { results := [.lit (.bool false)], args := [d1, d2, d3] }
  | _ => none }
def VmPlainWrongFalsely : Prop := vmPlainRow.holds Tryz.pinned (OpenSpec.ofChange vmPlainWrong)

/-- 'jacquardlaw16.VmNames': WHATEVER THE INPUT: true; the input reads as it did. -/
def vmNamesSpec : ChangeSpec := { name := "vmNames", fn := fun _ => fun
  | [d1, d2] => { results := [.lit (.bool true)], args := [d1, d2] }
  | _ => none }
def vmNamesRow : OpenClaim := { program := "ytplihlmejnohnaagreatdoor", sum := "3ea235e472b3dfe965bb1f1ffde75e816a301bb0a69550e6f5a86ceeb9d93338", func := "jacquard/jacquardlaw16.VmNames", spec := "vmNames", inPlace := ["internal/bytealg.IndexByte"], unfollowed := true, recurses := true, named := ["internal/strconv.uint64pow10", "math/bits.deBruijn32tab", "math/bits.deBruijn64tab", "jacquard/num.signs"], apart := false, laid := [("math/bits.deBruijn32tab", laid_math_bits_deBruijn32tab), ("math/bits.deBruijn64tab", laid_math_bits_deBruijn64tab), ("internal/strconv.uint64pow10", laid_internal_strconv_uint64pow10), ("jacquard/num.signs", laid_jacquard_num_signs)] }
def VmNamesSaid : Prop := vmNamesRow.holds Tryz.pinned (OpenSpec.ofChange vmNamesSpec)

/-- ITS FALSE NEIGHBOUR: 'it returns false'. Refute it at one input. -/
def vmNamesWrong : ChangeSpec := { name := "vmNames", fn := fun _ => fun
  | [d1, d2] => { results := [.lit (.bool false)], args := [d1, d2] }
  | _ => none }
def VmNamesWrongFalsely : Prop := vmNamesRow.holds Tryz.pinned (OpenSpec.ofChange vmNamesWrong)

/-- 'jacquardlaw16.VmWaits': WHATEVER THE INPUT: true; the input reads as it did. -/
def vmWaitsSpec : ChangeSpec := { name := "vmWaits", fn := fun _ => fun
  | [d1, d2, d3] => { results := [.lit (.bool true)], args := [d1, d2, d3] }
  | _ => none }
def vmWaitsRow : OpenClaim := { program := "ytplihlmejnohnaagreatdoor", sum := "3ea235e472b3dfe965bb1f1ffde75e816a301bb0a69550e6f5a86ceeb9d93338", func := "jacquard/jacquardlaw16.VmWaits", spec := "vmWaits", inPlace := ["internal/bytealg.IndexByte"], unfollowed := true, recurses := true, named := ["jacquard/num.signs", "math/bits.deBruijn32tab", "math/bits.deBruijn64tab", "internal/strconv.uint64pow10"], apart := false, laid := [("math/bits.deBruijn32tab", laid_math_bits_deBruijn32tab), ("math/bits.deBruijn64tab", laid_math_bits_deBruijn64tab), ("internal/strconv.uint64pow10", laid_internal_strconv_uint64pow10), ("jacquard/num.signs", laid_jacquard_num_signs)] }
def VmWaitsSaid : Prop := vmWaitsRow.holds Tryz.pinned (OpenSpec.ofChange vmWaitsSpec)

/-- ITS FALSE NEIGHBOUR: 'it returns false'. Refute it at one input. -/
def vmWaitsWrong : ChangeSpec := { name := "vmWaits", fn := fun _ => fun
  | [d1, d2, d3] => { results := [.lit (.bool false)], args := [d1, d2, d3] }
  | _ => none }
def VmWaitsWrongFalsely : Prop := vmWaitsRow.holds Tryz.pinned (OpenSpec.ofChange vmWaitsWrong)

/-- 'jacquardlaw16.VmPlays': WHATEVER THE INPUT: true; the input reads as it did. -/
def vmPlaysSpec : ChangeSpec := { name := "vmPlays", fn := fun _ => fun
  | [d1, d2, d3, d4] => { results := [.lit (.bool true)], args := [d1, d2, d3, d4] }
  | _ => none }
def vmPlaysRow : OpenClaim := { program := "ytplihlmejnohnaagreatdoor", sum := "3ea235e472b3dfe965bb1f1ffde75e816a301bb0a69550e6f5a86ceeb9d93338", func := "jacquard/jacquardlaw16.VmPlays", spec := "vmPlays", inPlace := ["internal/bytealg.IndexByte"], unfollowed := true, recurses := true, named := ["jacquard/num.signs", "math/bits.deBruijn32tab", "internal/strconv.uint64pow10", "math/bits.deBruijn64tab"], apart := false, laid := [("math/bits.deBruijn32tab", laid_math_bits_deBruijn32tab), ("math/bits.deBruijn64tab", laid_math_bits_deBruijn64tab), ("internal/strconv.uint64pow10", laid_internal_strconv_uint64pow10), ("jacquard/num.signs", laid_jacquard_num_signs)] }
def VmPlaysSaid : Prop := vmPlaysRow.holds Tryz.pinned (OpenSpec.ofChange vmPlaysSpec)

/-- ITS FALSE NEIGHBOUR: 'it returns false'. Refute it at one input. -/
def vmPlaysWrong : ChangeSpec := { name := "vmPlays", fn := fun _ => fun
  | [d1, d2, d3, d4] => { results := [.lit (.bool false)], args := [d1, d2, d3, d4] }
  | _ => none }
def VmPlaysWrongFalsely : Prop := vmPlaysRow.holds Tryz.pinned (OpenSpec.ofChange vmPlaysWrong)

/- THE SECOND FORM. 'bulk': how many values and letters a reading holds, each counted each time it is reached (what is shared counts as often as it is met; a slice's spare places count too). A statement '..UptoSaid' is the law's where the arguments, and the package variables that the reading takes, are together of bulk at most 1048576: NARROWER than '..Said'. Prove '..Said' where nothing that the law and all that it calls make is longer than what came in: it says more and counts as full. Else prove '..UptoSaid'. A law counts once. -/
mutual
def uptoBulk {H : Type} : DataW H → Nat
  | .lit (.string bytes) => bytes.length + 1
  | .lit _ => 1
  | .nil => 1
  | .ptr d => uptoBulk d + 1
  | .slice elems spare => uptoBulkAll elems + uptoBulkAll spare + 1
  | .agg parts => uptoBulkAll parts + 1
  | .iface _ d => uptoBulk d + 1
  | .map entries => uptoBulkEntries entries + 1
  | .held _ => 1
def uptoBulkAll {H : Type} : List (DataW H) → Nat
  | [] => 0
  | d :: r => uptoBulk d + uptoBulkAll r
def uptoBulkEntries {H : Type} : List (Lit × DataW H) → Nat
  | [] => 0
  | x :: r => uptoBulkEntry x + uptoBulkEntries r
def uptoBulkEntry {H : Type} : Lit × DataW H → Nat
  | (.string bytes, d) => bytes.length + uptoBulk d + 1
  | (_, d) => uptoBulk d + 1
 end
def uptoSmall : (H : Type) → List (DataW H) → Bool := fun _ ds => decide (uptoBulkAll ds ≤ 1048576)
def OpenSpec.upto (s : _root_.Go.ChangeSpec) : _root_.Go.OpenSpec := { _root_.Go.OpenSpec.ofChange s with cond := some uptoSmall }

/-- 'jacquardlaw16.VmForwards', WHERE WHAT IT READS IS OF BULK AT MOST 1048576: true; the input reads as it did. -/
def vmForwardsUptoRow : OpenClaim := { program := "ytplihlmejnohnaagreatdoor", sum := "3ea235e472b3dfe965bb1f1ffde75e816a301bb0a69550e6f5a86ceeb9d93338", func := "jacquard/jacquardlaw16.VmForwards", spec := "vmForwards", inPlace := ["internal/bytealg.IndexByte"], unfollowed := true, recurses := true, named := ["jacquard/num.signs", "math/bits.deBruijn32tab", "math/bits.deBruijn64tab", "internal/strconv.uint64pow10"], apart := false, laid := [("math/bits.deBruijn32tab", laid_math_bits_deBruijn32tab), ("math/bits.deBruijn64tab", laid_math_bits_deBruijn64tab), ("internal/strconv.uint64pow10", laid_internal_strconv_uint64pow10), ("jacquard/num.signs", laid_jacquard_num_signs)], narrowed := true }
def VmForwardsUptoSaid : Prop := vmForwardsUptoRow.holds Tryz.pinned (OpenSpec.upto vmForwardsSpec)

/-- 'jacquardlaw16.VmFirst', WHERE WHAT IT READS IS OF BULK AT MOST 1048576: true; the input reads as it did. -/
def vmFirstUptoRow : OpenClaim := { program := "ytplihlmejnohnaagreatdoor", sum := "3ea235e472b3dfe965bb1f1ffde75e816a301bb0a69550e6f5a86ceeb9d93338", func := "jacquard/jacquardlaw16.VmFirst", spec := "vmFirst", inPlace := ["internal/bytealg.IndexByte"], unfollowed := true, recurses := true, named := ["jacquard/num.signs", "math/bits.deBruijn32tab", "math/bits.deBruijn64tab", "internal/strconv.uint64pow10"], apart := false, laid := [("math/bits.deBruijn32tab", laid_math_bits_deBruijn32tab), ("math/bits.deBruijn64tab", laid_math_bits_deBruijn64tab), ("internal/strconv.uint64pow10", laid_internal_strconv_uint64pow10), ("jacquard/num.signs", laid_jacquard_num_signs)], narrowed := true }
def VmFirstUptoSaid : Prop := vmFirstUptoRow.holds Tryz.pinned (OpenSpec.upto vmFirstSpec)

/-- 'jacquardlaw16.VmPlain', WHERE WHAT IT READS IS OF BULK AT MOST 1048576: true; the input reads as it did. -/
def vmPlainUptoRow : OpenClaim := { program := "ytplihlmejnohnaagreatdoor", sum := "3ea235e472b3dfe965bb1f1ffde75e816a301bb0a69550e6f5a86ceeb9d93338", func := "jacquard/jacquardlaw16.VmPlain", spec := "vmPlain", inPlace := ["internal/bytealg.IndexByte"], unfollowed := true, recurses := true, named := ["jacquard/num.signs", "math/bits.deBruijn32tab", "math/bits.deBruijn64tab", "internal/strconv.uint64pow10"], apart := false, laid := [("math/bits.deBruijn32tab", laid_math_bits_deBruijn32tab), ("math/bits.deBruijn64tab", laid_math_bits_deBruijn64tab), ("internal/strconv.uint64pow10", laid_internal_strconv_uint64pow10), ("jacquard/num.signs", laid_jacquard_num_signs)], narrowed := true }
def VmPlainUptoSaid : Prop := vmPlainUptoRow.holds Tryz.pinned (OpenSpec.upto vmPlainSpec)

/-- 'jacquardlaw16.VmNames', WHERE WHAT IT READS IS OF BULK AT MOST 1048576: true; the input reads as it did. -/
def vmNamesUptoRow : OpenClaim := { program := "ytplihlmejnohnaagreatdoor", sum := "3ea235e472b3dfe965bb1f1ffde75e816a301bb0a69550e6f5a86ceeb9d93338", func := "jacquard/jacquardlaw16.VmNames", spec := "vmNames", inPlace := ["internal/bytealg.IndexByte"], unfollowed := true, recurses := true, named := ["internal/strconv.uint64pow10", "math/bits.deBruijn32tab", "math/bits.deBruijn64tab", "jacquard/num.signs"], apart := false, laid := [("math/bits.deBruijn32tab", laid_math_bits_deBruijn32tab), ("math/bits.deBruijn64tab", laid_math_bits_deBruijn64tab), ("internal/strconv.uint64pow10", laid_internal_strconv_uint64pow10), ("jacquard/num.signs", laid_jacquard_num_signs)], narrowed := true }
def VmNamesUptoSaid : Prop := vmNamesUptoRow.holds Tryz.pinned (OpenSpec.upto vmNamesSpec)

/-- 'jacquardlaw16.VmWaits', WHERE WHAT IT READS IS OF BULK AT MOST 1048576: true; the input reads as it did. -/
def vmWaitsUptoRow : OpenClaim := { program := "ytplihlmejnohnaagreatdoor", sum := "3ea235e472b3dfe965bb1f1ffde75e816a301bb0a69550e6f5a86ceeb9d93338", func := "jacquard/jacquardlaw16.VmWaits", spec := "vmWaits", inPlace := ["internal/bytealg.IndexByte"], unfollowed := true, recurses := true, named := ["jacquard/num.signs", "math/bits.deBruijn32tab", "math/bits.deBruijn64tab", "internal/strconv.uint64pow10"], apart := false, laid := [("math/bits.deBruijn32tab", laid_math_bits_deBruijn32tab), ("math/bits.deBruijn64tab", laid_math_bits_deBruijn64tab), ("internal/strconv.uint64pow10", laid_internal_strconv_uint64pow10), ("jacquard/num.signs", laid_jacquard_num_signs)], narrowed := true }
def VmWaitsUptoSaid : Prop := vmWaitsUptoRow.holds Tryz.pinned (OpenSpec.upto vmWaitsSpec)

/-- 'jacquardlaw16.VmPlays', WHERE WHAT IT READS IS OF BULK AT MOST 1048576: true; the input reads as it did. -/
def vmPlaysUptoRow : OpenClaim := { program := "ytplihlmejnohnaagreatdoor", sum := "3ea235e472b3dfe965bb1f1ffde75e816a301bb0a69550e6f5a86ceeb9d93338", func := "jacquard/jacquardlaw16.VmPlays", spec := "vmPlays", inPlace := ["internal/bytealg.IndexByte"], unfollowed := true, recurses := true, named := ["jacquard/num.signs", "math/bits.deBruijn32tab", "internal/strconv.uint64pow10", "math/bits.deBruijn64tab"], apart := false, laid := [("math/bits.deBruijn32tab", laid_math_bits_deBruijn32tab), ("math/bits.deBruijn64tab", laid_math_bits_deBruijn64tab), ("internal/strconv.uint64pow10", laid_internal_strconv_uint64pow10), ("jacquard/num.signs", laid_jacquard_num_signs)], narrowed := true }
def VmPlaysUptoSaid : Prop := vmPlaysUptoRow.holds Tryz.pinned (OpenSpec.upto vmPlaysSpec)

end Rows
end Go.Proofs.YtplihlmejnohnaaGreatDoor
