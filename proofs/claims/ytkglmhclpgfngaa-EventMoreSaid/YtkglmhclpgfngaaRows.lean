/-
  No cell of these rows narrows 'for every input' (looked for: loops, veiled, ifaces, maps, wideKeys, modest, calm, conditions, laid).
  DERIVED. THE GIVEN ROWS OF THIS SEAT. 5 by the template 'for every input the law returns true; each argument reads behind the call as it read before'; 0 by the template 'total and deterministic' (their statements: YtkglmhclpgfngaaTotals.lean).
  GIVEN WITH THE SEED: the statements are not yours to turn. If you find one false, say at which input.
  Laid BY PROGRAM, IN A SANDBOX (cutbox-rows.mjs): the forced cells as the released guide's own fill.sh prints them over the translation 5aae4d54ceac16d5… (all of the seat's roots in one cut). By AI agents, Wed Nov 11 2026. No macro, syntax, notation, axiom, sorry.
-/
import Derived.Test.YtkglmhclpgfngaaChecked
import GoSem.Claim
import GoSem.ClaimJoined
import GoSem.ClaimMapViews
import Derived.JoinedTies
import Derived.KernelRfl
namespace Go.Proofs.Ytkglmhclpgfngaa
/- THE CELL 'sum', in the pinned program and in every row, IS THE sha256 OF THE DUMP (.gsa) THAT YtkglmhclpgfngaaProg.lean LOADS. Nothing in Lean hashes anything: it is a label: what it is worth is what the hold of that sum in a sandbox is worth. -/
noncomputable def Try.pinned : Pinned := { name := "ytkglmhclpgfngaa", sum := "5aae4d54ceac16d5f7d590cd256ede4948b8ea9a4b7bf8ae1349370c74ddae0e", checked := Try.checked }
namespace Rows
def none {H : Type} : Left H := { results := [], args := [] }

/-- 'jacquardlaw10.EventKinds': WHATEVER THE INPUT: true; the input reads as it did. -/
def eventKindsSpec : ChangeSpec := { name := "eventKinds", fn := fun _ => fun
  | [d] => { results := [.lit (.bool true)], args := [d] }
  | _ => none }
def eventKindsRow : OpenClaim := { program := "ytkglmhclpgfngaa", sum := "5aae4d54ceac16d5f7d590cd256ede4948b8ea9a4b7bf8ae1349370c74ddae0e", func := "jacquard/jacquardlaw10.EventKinds", spec := "eventKinds", apart := false }
def EventKindsSaid : Prop := eventKindsRow.holds Try.pinned (OpenSpec.ofChange eventKindsSpec)

/-- ITS FALSE NEIGHBOUR: 'it returns false'. Refute it at one input. -/
def eventKindsWrong : ChangeSpec := { name := "eventKinds", fn := fun _ => fun
  | [d] => { results := [.lit (.bool false)], args := [d] }
  | _ => none }
def EventKindsWrongFalsely : Prop := eventKindsRow.holds Try.pinned (OpenSpec.ofChange eventKindsWrong)

/-- 'jacquardlaw10.EventCounts': WHATEVER THE INPUT: true; the input reads as it did. -/
def eventCountsSpec : ChangeSpec := { name := "eventCounts", fn := fun _ => fun
  | [d1, d2, d3] => { results := [.lit (.bool true)], args := [d1, d2, d3] }
  | _ => none }
def eventCountsRow : OpenClaim := { program := "ytkglmhclpgfngaa", sum := "5aae4d54ceac16d5f7d590cd256ede4948b8ea9a4b7bf8ae1349370c74ddae0e", func := "jacquard/jacquardlaw10.EventCounts", spec := "eventCounts", unfollowed := true, recurses := true, apart := false }
def EventCountsSaid : Prop := eventCountsRow.holds Try.pinned (OpenSpec.ofChange eventCountsSpec)

/-- ITS FALSE NEIGHBOUR: 'it returns false'. Refute it at one input. -/
def eventCountsWrong : ChangeSpec := { name := "eventCounts", fn := fun _ => fun
  | [d1, d2, d3] => { results := [.lit (.bool false)], args := [d1, d2, d3] }
  | _ => none }
def EventCountsWrongFalsely : Prop := eventCountsRow.holds Try.pinned (OpenSpec.ofChange eventCountsWrong)

/-- 'jacquardlaw10.EventUnfolds': WHATEVER THE INPUT: true; the input reads as it did. -/
def eventUnfoldsSpec : ChangeSpec := { name := "eventUnfolds", fn := fun _ => fun
  | [d1, d2, d3] => { results := [.lit (.bool true)], args := [d1, d2, d3] }
  | _ => none }
def eventUnfoldsRow : OpenClaim := { program := "ytkglmhclpgfngaa", sum := "5aae4d54ceac16d5f7d590cd256ede4948b8ea9a4b7bf8ae1349370c74ddae0e", func := "jacquard/jacquardlaw10.EventUnfolds", spec := "eventUnfolds", unfollowed := true, recurses := true, apart := false }
def EventUnfoldsSaid : Prop := eventUnfoldsRow.holds Try.pinned (OpenSpec.ofChange eventUnfoldsSpec)

/-- ITS FALSE NEIGHBOUR: 'it returns false'. Refute it at one input. -/
def eventUnfoldsWrong : ChangeSpec := { name := "eventUnfolds", fn := fun _ => fun
  | [d1, d2, d3] => { results := [.lit (.bool false)], args := [d1, d2, d3] }
  | _ => none }
def EventUnfoldsWrongFalsely : Prop := eventUnfoldsRow.holds Try.pinned (OpenSpec.ofChange eventUnfoldsWrong)

/-- 'jacquardlaw10.EventOrders': WHATEVER THE INPUT: true; the input reads as it did. -/
def eventOrdersSpec : ChangeSpec := { name := "eventOrders", fn := fun _ => fun
  | [d] => { results := [.lit (.bool true)], args := [d] }
  | _ => none }
def eventOrdersRow : OpenClaim := { program := "ytkglmhclpgfngaa", sum := "5aae4d54ceac16d5f7d590cd256ede4948b8ea9a4b7bf8ae1349370c74ddae0e", func := "jacquard/jacquardlaw10.EventOrders", spec := "eventOrders", apart := false }
def EventOrdersSaid : Prop := eventOrdersRow.holds Try.pinned (OpenSpec.ofChange eventOrdersSpec)

/-- ITS FALSE NEIGHBOUR: 'it returns false'. Refute it at one input. -/
def eventOrdersWrong : ChangeSpec := { name := "eventOrders", fn := fun _ => fun
  | [d] => { results := [.lit (.bool false)], args := [d] }
  | _ => none }
def EventOrdersWrongFalsely : Prop := eventOrdersRow.holds Try.pinned (OpenSpec.ofChange eventOrdersWrong)

/-- 'jacquardlaw10.EventMore': WHATEVER THE INPUT: true; the input reads as it did. -/
def eventMoreSpec : ChangeSpec := { name := "eventMore", fn := fun _ => fun
  | [d1, d2, d3, d4] => { results := [.lit (.bool true)], args := [d1, d2, d3, d4] }
  | _ => none }
def eventMoreRow : OpenClaim := { program := "ytkglmhclpgfngaa", sum := "5aae4d54ceac16d5f7d590cd256ede4948b8ea9a4b7bf8ae1349370c74ddae0e", func := "jacquard/jacquardlaw10.EventMore", spec := "eventMore", unfollowed := true, recurses := true, apart := false }
def EventMoreSaid : Prop := eventMoreRow.holds Try.pinned (OpenSpec.ofChange eventMoreSpec)

/-- ITS FALSE NEIGHBOUR: 'it returns false'. Refute it at one input. -/
def eventMoreWrong : ChangeSpec := { name := "eventMore", fn := fun _ => fun
  | [d1, d2, d3, d4] => { results := [.lit (.bool false)], args := [d1, d2, d3, d4] }
  | _ => none }
def EventMoreWrongFalsely : Prop := eventMoreRow.holds Try.pinned (OpenSpec.ofChange eventMoreWrong)

/- THE SECOND FORM. 'bulk': how many values and letters a reading holds, each counted each time it is reached (what is shared counts as often as it is met; a slice's spare places count too). A statement '..UptoSaid' is the law's where the arguments, and the package variables that the reading takes, are together of bulk at most 1048576: NARROWER than '..Said'. Prove '..Said' where nothing that the law and all that it calls make is longer than what came in: it says more and counts as full. Else prove '..UptoSaid'. A law counts once. -/
mutual
def uptoBulk {H : Type} : DataW H → Nat
  | .lit (.string bytes) => bytes.length + 1
  | .lit _ => 1
  | .nil => 1
  | .ptr d => uptoBulk d + 1
  | .slice elems spare => uptoBulkAll elems + uptoBulkAll spare + 1
  | .agg parts => uptoBulkAll parts + 1
  | .iface _ d => uptoBulk d + 1
  | .map entries => uptoBulkEntries entries + 1
  | .held _ => 1
def uptoBulkAll {H : Type} : List (DataW H) → Nat
  | [] => 0
  | d :: r => uptoBulk d + uptoBulkAll r
def uptoBulkEntries {H : Type} : List (Lit × DataW H) → Nat
  | [] => 0
  | x :: r => uptoBulkEntry x + uptoBulkEntries r
def uptoBulkEntry {H : Type} : Lit × DataW H → Nat
  | (.string bytes, d) => bytes.length + uptoBulk d + 1
  | (_, d) => uptoBulk d + 1
 end
def uptoSmall : (H : Type) → List (DataW H) → Bool := fun _ ds => decide (uptoBulkAll ds ≤ 1048576)
def OpenSpec.upto (s : _root_.Go.ChangeSpec) : _root_.Go.OpenSpec := { _root_.Go.OpenSpec.ofChange s with cond := some uptoSmall }

/-- 'jacquardlaw10.EventKinds', WHERE WHAT IT READS IS OF BULK AT MOST 1048576: true; the input reads as it did. -/
def eventKindsUptoRow : OpenClaim := { program := "ytkglmhclpgfngaa", sum := "5aae4d54ceac16d5f7d590cd256ede4948b8ea9a4b7bf8ae1349370c74ddae0e", func := "jacquard/jacquardlaw10.EventKinds", spec := "eventKinds", apart := false, narrowed := true }
def EventKindsUptoSaid : Prop := eventKindsUptoRow.holds Try.pinned (OpenSpec.upto eventKindsSpec)

/-- 'jacquardlaw10.EventCounts', WHERE WHAT IT READS IS OF BULK AT MOST 1048576: true; the input reads as it did. -/
def eventCountsUptoRow : OpenClaim := { program := "ytkglmhclpgfngaa", sum := "5aae4d54ceac16d5f7d590cd256ede4948b8ea9a4b7bf8ae1349370c74ddae0e", func := "jacquard/jacquardlaw10.EventCounts", spec := "eventCounts", unfollowed := true, recurses := true, apart := false, narrowed := true }
def EventCountsUptoSaid : Prop := eventCountsUptoRow.holds Try.pinned (OpenSpec.upto eventCountsSpec)

/-- 'jacquardlaw10.EventUnfolds', WHERE WHAT IT READS IS OF BULK AT MOST 1048576: true; the input reads as it did. -/
def eventUnfoldsUptoRow : OpenClaim := { program := "ytkglmhclpgfngaa", sum := "5aae4d54ceac16d5f7d590cd256ede4948b8ea9a4b7bf8ae1349370c74ddae0e", func := "jacquard/jacquardlaw10.EventUnfolds", spec := "eventUnfolds", unfollowed := true, recurses := true, apart := false, narrowed := true }
def EventUnfoldsUptoSaid : Prop := eventUnfoldsUptoRow.holds Try.pinned (OpenSpec.upto eventUnfoldsSpec)

/-- 'jacquardlaw10.EventOrders', WHERE WHAT IT READS IS OF BULK AT MOST 1048576: true; the input reads as it did. -/
def eventOrdersUptoRow : OpenClaim := { program := "ytkglmhclpgfngaa", sum := "5aae4d54ceac16d5f7d590cd256ede4948b8ea9a4b7bf8ae1349370c74ddae0e", func := "jacquard/jacquardlaw10.EventOrders", spec := "eventOrders", apart := false, narrowed := true }
def EventOrdersUptoSaid : Prop := eventOrdersUptoRow.holds Try.pinned (OpenSpec.upto eventOrdersSpec)

/-- 'jacquardlaw10.EventMore', WHERE WHAT IT READS IS OF BULK AT MOST 1048576: true; the input reads as it did. -/
def eventMoreUptoRow : OpenClaim := { program := "ytkglmhclpgfngaa", sum := "5aae4d54ceac16d5f7d590cd256ede4948b8ea9a4b7bf8ae1349370c74ddae0e", func := "jacquard/jacquardlaw10.EventMore", spec := "eventMore", unfollowed := true, recurses := true, apart := false, narrowed := true }
def EventMoreUptoSaid : Prop := eventMoreUptoRow.holds Try.pinned (OpenSpec.upto eventMoreSpec)

end Rows
end Go.Proofs.Ytkglmhclpgfngaa
