/-
  DERIVED. GIVEN WITH THE SEED: THE CARDS: each row of YtmnpcbcnjnklnaaGreatDoorRows.lean that lists a variable, with what it lists TIED to the program's text (the seventh form; the later family's looks); each row that meets fmt, with fmt's text TOLD by the authors' own Lean function (tested against real Go, not proved from fmt's source: count such statements apart). THE CARD IS WHAT COUNTS. Prove the row's statement (the work); the ties are given (YtmnpcbcnjnklnaaGreatDoorTie.lean); close each card by the builder's one call (the guide's Derived/Test/ToyasCard.lean, 'card_holds'). Laid BY PROGRAM, IN A SANDBOX (cutbox-door.mjs). By AI agents, Wed Nov 11 2026. No macro, syntax, notation, axiom, sorry.
-/
import Derived.Test.YtmnpcbcnjnklnaaGreatDoorRows
import GoSem.ClaimSeven
namespace Go.Proofs.YtmnpcbcnjnklnaaGreatDoor
namespace Rows

/-- THE TIED CARD OF 'jacquardlaw5.WellReads'. -/
def wellReadsCard : Claim7 := { stood := { row := wellReadsRow, standIns := [], harness := (true, "631eb1889b7d2607c7e44fc07da2e54c496e5f3be6d620279533a1506ce7f318"), looks := true }, kinds := [], alts := [], laidByText := true, laidKinds := [.data, .data, .data, .sentinel, .sentinel, .data], laidTests := true, laidLooks := .later }
def WellReadsCardSaid : Prop := Claim7.holds Tryz.pinned (.plain (OpenSpec.ofChange wellReadsSpec)) wellReadsCard

/-- THE SECOND FORM's CARD OF 'jacquardlaw5.WellReads'. -/
def wellReadsUptoCard : Claim7 := { stood := { row := wellReadsUptoRow, standIns := [], harness := (true, "631eb1889b7d2607c7e44fc07da2e54c496e5f3be6d620279533a1506ce7f318"), looks := true }, kinds := [], alts := [], laidByText := true, laidKinds := [.data, .data, .data, .sentinel, .sentinel, .data], laidTests := true, laidLooks := .later }
def WellReadsUptoCardSaid : Prop := Claim7.holds Tryz.pinned (.plain (OpenSpec.upto wellReadsSpec)) wellReadsUptoCard
end Rows
end Go.Proofs.YtmnpcbcnjnklnaaGreatDoor
