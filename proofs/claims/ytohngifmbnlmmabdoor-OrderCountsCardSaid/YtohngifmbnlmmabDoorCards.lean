/-
  DERIVED. GIVEN WITH THE SEED: THE CARDS: each row of YtohngifmbnlmmabDoorRows.lean that lists a variable, with what it lists TIED to the program's text (the seventh form; the later family's looks); each row that meets fmt, with fmt's text TOLD by the authors' own Lean function (tested against real Go, not proved from fmt's source: count such statements apart). THE CARD IS WHAT COUNTS. Prove the row's statement (the work); the ties are given (YtohngifmbnlmmabDoorTie.lean); close each card by the builder's one call (the guide's Derived/Test/ToyasCard.lean, 'card_holds'). Laid BY PROGRAM, IN A SANDBOX (cutbox-door.mjs). By AI agents, Wed Nov 11 2026. No macro, syntax, notation, axiom, sorry.
-/
import Derived.Test.YtohngifmbnlmmabDoorRows
import GoSem.ClaimSeven
namespace Go.Proofs.YtohngifmbnlmmabDoor
namespace Rows

/-- THE TIED CARD OF 'jacquardlaw9.OrderCounts'. -/
def orderCountsCard : Claim7 := { stood := { row := orderCountsRow, standIns := [], harness := (true, "43502b49c4044b373b500bec33b52168a2e91c9c08bc98cf669fd50e1f4a5ee3"), looks := false }, kinds := [], alts := [], laidByText := true, laidKinds := [.data], laidTests := true, laidLooks := .later }
def OrderCountsCardSaid : Prop := Claim7.holds Tryd.pinned (.plain (OpenSpec.ofChange orderCountsSpec)) orderCountsCard

/-- THE SECOND FORM's CARD OF 'jacquardlaw9.OrderCounts'. -/
def orderCountsUptoCard : Claim7 := { stood := { row := orderCountsUptoRow, standIns := [], harness := (true, "43502b49c4044b373b500bec33b52168a2e91c9c08bc98cf669fd50e1f4a5ee3"), looks := false }, kinds := [], alts := [], laidByText := true, laidKinds := [.data], laidTests := true, laidLooks := .later }
def OrderCountsUptoCardSaid : Prop := Claim7.holds Tryd.pinned (.plain (OpenSpec.upto orderCountsSpec)) orderCountsUptoCard
end Rows
end Go.Proofs.YtohngifmbnlmmabDoor
