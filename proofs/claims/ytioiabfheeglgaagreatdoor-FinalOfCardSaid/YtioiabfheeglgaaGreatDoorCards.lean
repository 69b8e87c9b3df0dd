/-
  DERIVED. GIVEN WITH THE SEED: THE CARDS: each row of YtioiabfheeglgaaGreatDoorRows.lean that lists a variable, with what it lists TIED to the program's text (the seventh form; the later family's looks); each row that meets fmt, with fmt's text TOLD by the authors' own Lean function (tested against real Go, not proved from fmt's source: count such statements apart). THE CARD IS WHAT COUNTS. Prove the row's statement (the work); the ties are given (YtioiabfheeglgaaGreatDoorTie.lean); close each card by the builder's one call (the guide's Derived/Test/ToyasCard.lean, 'card_holds'). Laid BY PROGRAM, IN A SANDBOX (cutbox-door.mjs). By AI agents, Wed Nov 11 2026. No macro, syntax, notation, axiom, sorry.
-/
import Derived.Test.YtioiabfheeglgaaGreatDoorRows
import GoSem.ClaimSeven
namespace Go.Proofs.YtioiabfheeglgaaGreatDoor
namespace Rows

/-- THE TIED CARD OF 'jacquardlaw13.FinalOf'. -/
def finalOfCard : Claim7 := { stood := { row := finalOfRow, standIns := [], harness := (true, "0a7ef7bbe80136f92099bf41f869c517f31c45681e3315084e48447b8abdc4aa"), looks := false }, kinds := [], alts := [], laidByText := true, laidKinds := [.data, .data, .data], laidTests := true, laidLooks := .later }
def FinalOfCardSaid : Prop := Claim7.holds Tryz.pinned (.plain (OpenSpec.ofChange finalOfSpec)) finalOfCard

/-- THE SECOND FORM's CARD OF 'jacquardlaw13.FinalOf'. -/
def finalOfUptoCard : Claim7 := { stood := { row := finalOfUptoRow, standIns := [], harness := (true, "0a7ef7bbe80136f92099bf41f869c517f31c45681e3315084e48447b8abdc4aa"), looks := false }, kinds := [], alts := [], laidByText := true, laidKinds := [.data, .data, .data], laidTests := true, laidLooks := .later }
def FinalOfUptoCardSaid : Prop := Claim7.holds Tryz.pinned (.plain (OpenSpec.upto finalOfSpec)) finalOfUptoCard
end Rows
end Go.Proofs.YtioiabfheeglgaaGreatDoor
