/-
  DERIVED. GIVEN WITH THE SEED: THE CARDS: each row of YtjgdodcjneldkaaDoorRows.lean that lists a variable, with what it lists TIED to the program's text (the seventh form; the later family's looks); each row that meets fmt, with fmt's text TOLD by the authors' own Lean function (tested against real Go, not proved from fmt's source: count such statements apart). THE CARD IS WHAT COUNTS. Prove the row's statement (the work); the ties are given (YtjgdodcjneldkaaDoorTie.lean); close each card by the builder's one call (the guide's Derived/Test/ToyasCard.lean, 'card_holds'). Laid BY PROGRAM, IN A SANDBOX (cutbox-door.mjs). By AI agents, Wed Nov 11 2026. No macro, syntax, notation, axiom, sorry.
-/
import Derived.Test.YtjgdodcjneldkaaDoorRows
import GoSem.ClaimSeven
namespace Go.Proofs.YtjgdodcjneldkaaDoor
namespace Rows

/-- THE TIED CARD OF 'jacquardlaw3.ParseNames'. -/
def parseNamesCard : Claim7 := { stood := { row := parseNamesRow, standIns := [], harness := (true, "d2575fab53ac6279a61a111d1a369824273a5ef11e4be0e900c6a871a358fd09"), looks := true }, kinds := [], alts := [], laidByText := true, laidKinds := [.data, .data, .data, .sentinel, .sentinel, .data], laidTests := true, laidLooks := .later }
def ParseNamesCardSaid : Prop := Claim7.holds Tryd.pinned (.plain (OpenSpec.ofChange parseNamesSpec)) parseNamesCard

/-- THE TIED CARD OF 'jacquardlaw3.ParseConds'. -/
def parseCondsCard : Claim7 := { stood := { row := parseCondsRow, standIns := [], harness := (true, "d2575fab53ac6279a61a111d1a369824273a5ef11e4be0e900c6a871a358fd09"), looks := true }, kinds := [], alts := [], laidByText := true, laidKinds := [.data, .data, .data, .sentinel, .sentinel, .data], laidTests := true, laidLooks := .later }
def ParseCondsCardSaid : Prop := Claim7.holds Tryd.pinned (.plain (OpenSpec.ofChange parseCondsSpec)) parseCondsCard

/-- THE SECOND FORM's CARD OF 'jacquardlaw3.ParseNames'. -/
def parseNamesUptoCard : Claim7 := { stood := { row := parseNamesUptoRow, standIns := [], harness := (true, "d2575fab53ac6279a61a111d1a369824273a5ef11e4be0e900c6a871a358fd09"), looks := true }, kinds := [], alts := [], laidByText := true, laidKinds := [.data, .data, .data, .sentinel, .sentinel, .data], laidTests := true, laidLooks := .later }
def ParseNamesUptoCardSaid : Prop := Claim7.holds Tryd.pinned (.plain (OpenSpec.upto parseNamesSpec)) parseNamesUptoCard

/-- THE SECOND FORM's CARD OF 'jacquardlaw3.ParseConds'. -/
def parseCondsUptoCard : Claim7 := { stood := { row := parseCondsUptoRow, standIns := [], harness := (true, "d2575fab53ac6279a61a111d1a369824273a5ef11e4be0e900c6a871a358fd09"), looks := true }, kinds := [], alts := [], laidByText := true, laidKinds := [.data, .data, .data, .sentinel, .sentinel, .data], laidTests := true, laidLooks := .later }
def ParseCondsUptoCardSaid : Prop := Claim7.holds Tryd.pinned (.plain (OpenSpec.upto parseCondsSpec)) parseCondsUptoCard
end Rows
end Go.Proofs.YtjgdodcjneldkaaDoor
