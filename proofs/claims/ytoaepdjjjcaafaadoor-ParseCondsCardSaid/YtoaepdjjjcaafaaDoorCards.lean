/-
  DERIVED. GIVEN WITH THE SEED: THE CARDS: each row of YtoaepdjjjcaafaaDoorRows.lean that lists a variable, with what it lists TIED to the program's text (the seventh form; the later family's looks); each row that meets fmt, with fmt's text TOLD by the authors' own Lean function (tested against real Go, not proved from fmt's source: count such statements apart). THE CARD IS WHAT COUNTS. Prove the row's statement (the work); the ties are given (YtoaepdjjjcaafaaDoorTie.lean); close each card by the builder's one call (the guide's Derived/Test/ToyasCard.lean, 'card_holds'). Laid BY PROGRAM, IN A SANDBOX (cutbox-door.mjs). By AI agents, Wed Nov 11 2026. No macro, syntax, notation, axiom, sorry.
-/
import Derived.Test.YtoaepdjjjcaafaaDoorRows
import GoSem.ClaimSeven
namespace Go.Proofs.YtoaepdjjjcaafaaDoor
namespace Rows

/-- THE TIED CARD OF 'jacquardlaw3.ParseConds'. -/
def parseCondsCard : Claim7 := { stood := { row := parseCondsRow, standIns := [], harness := (true, "06901e403e1f2d56ba4afc917fd5db197e99e5f77a9f1f0e7260d8d9775bd5cf"), looks := true }, kinds := [], alts := [], laidByText := true, laidKinds := [.data, .data, .data, .sentinel, .sentinel, .data], laidTests := true, laidLooks := .later }
def ParseCondsCardSaid : Prop := Claim7.holds Tryd.pinned (.plain (OpenSpec.ofChange parseCondsSpec)) parseCondsCard

/-- THE TIED CARD OF 'jacquardlaw3.ParseFirst'. -/
def parseFirstCard : Claim7 := { stood := { row := parseFirstRow, standIns := [], harness := (true, "06901e403e1f2d56ba4afc917fd5db197e99e5f77a9f1f0e7260d8d9775bd5cf"), looks := true }, kinds := [], alts := [], laidByText := true, laidKinds := [.data, .data, .data, .sentinel, .sentinel, .data], laidTests := true, laidLooks := .later }
def ParseFirstCardSaid : Prop := Claim7.holds Tryd.pinned (.plain (OpenSpec.ofChange parseFirstSpec)) parseFirstCard

/-- THE SECOND FORM's CARD OF 'jacquardlaw3.ParseConds'. -/
def parseCondsUptoCard : Claim7 := { stood := { row := parseCondsUptoRow, standIns := [], harness := (true, "06901e403e1f2d56ba4afc917fd5db197e99e5f77a9f1f0e7260d8d9775bd5cf"), looks := true }, kinds := [], alts := [], laidByText := true, laidKinds := [.data, .data, .data, .sentinel, .sentinel, .data], laidTests := true, laidLooks := .later }
def ParseCondsUptoCardSaid : Prop := Claim7.holds Tryd.pinned (.plain (OpenSpec.upto parseCondsSpec)) parseCondsUptoCard

/-- THE SECOND FORM's CARD OF 'jacquardlaw3.ParseFirst'. -/
def parseFirstUptoCard : Claim7 := { stood := { row := parseFirstUptoRow, standIns := [], harness := (true, "06901e403e1f2d56ba4afc917fd5db197e99e5f77a9f1f0e7260d8d9775bd5cf"), looks := true }, kinds := [], alts := [], laidByText := true, laidKinds := [.data, .data, .data, .sentinel, .sentinel, .data], laidTests := true, laidLooks := .later }
def ParseFirstUptoCardSaid : Prop := Claim7.holds Tryd.pinned (.plain (OpenSpec.upto parseFirstSpec)) parseFirstUptoCard
end Rows
end Go.Proofs.YtoaepdjjjcaafaaDoor
