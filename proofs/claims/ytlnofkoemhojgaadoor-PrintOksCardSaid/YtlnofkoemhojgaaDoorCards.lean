/-
  DERIVED. GIVEN WITH THE SEED: THE CARDS: each row of YtlnofkoemhojgaaDoorRows.lean that lists a variable, with what it lists TIED to the program's text (the seventh form; the later family's looks); each row that meets fmt, with fmt's text TOLD by the authors' own Lean function (tested against real Go, not proved from fmt's source: count such statements apart). THE CARD IS WHAT COUNTS. Prove the row's statement (the work); the ties are given (YtlnofkoemhojgaaDoorTie.lean); close each card by the builder's one call (the guide's Derived/Test/ToyasCard.lean, 'card_holds'). Laid BY PROGRAM, IN A SANDBOX (cutbox-door.mjs). By AI agents, Wed Nov 11 2026. No macro, syntax, notation, axiom, sorry.
-/
import Derived.Test.YtlnofkoemhojgaaDoorRows
import GoSem.ClaimSeven
namespace Go.Proofs.YtlnofkoemhojgaaDoor
namespace Rows

/-- THE TIED CARD OF 'jacquardlaw4.PrintOks'. -/
def printOksCard : Claim7 := { stood := { row := printOksRow, standIns := [], harness := (true, "a442c18c726083932d0157d94896748888352e19202b4e492a87a82ab67b8acb"), looks := false }, kinds := [], alts := [], laidByText := true, laidKinds := [.data], laidTests := true, laidLooks := .later }
def PrintOksCardSaid : Prop := Claim7.holds Tryd.pinned (.plain (OpenSpec.ofChange printOksSpec)) printOksCard

/-- THE TIED CARD OF 'jacquardlaw5.WellLocs'. -/
def wellLocsCard : Claim7 := { stood := { row := wellLocsRow, standIns := [], harness := (true, "a442c18c726083932d0157d94896748888352e19202b4e492a87a82ab67b8acb"), looks := false }, kinds := [], alts := [], laidByText := true, laidKinds := [.data, .data], laidTests := true, laidLooks := .later }
def WellLocsCardSaid : Prop := Claim7.holds Tryd.pinned (.plain (OpenSpec.ofChange wellLocsSpec)) wellLocsCard

/-- THE TIED CARD OF 'jacquardlaw5.WellShort'. -/
def wellShortCard : Claim7 := { stood := { row := wellShortRow, standIns := [], harness := (true, "a442c18c726083932d0157d94896748888352e19202b4e492a87a82ab67b8acb"), looks := false }, kinds := [], alts := [], laidByText := true, laidKinds := [.data, .data], laidTests := true, laidLooks := .later }
def WellShortCardSaid : Prop := Claim7.holds Tryd.pinned (.plain (OpenSpec.ofChange wellShortSpec)) wellShortCard

/-- THE TIED CARD OF 'jacquardlaw5.WellBounds'. -/
def wellBoundsCard : Claim7 := { stood := { row := wellBoundsRow, standIns := [], harness := (true, "a442c18c726083932d0157d94896748888352e19202b4e492a87a82ab67b8acb"), looks := false }, kinds := [], alts := [], laidByText := true, laidKinds := [.data, .data], laidTests := true, laidLooks := .later }
def WellBoundsCardSaid : Prop := Claim7.holds Tryd.pinned (.plain (OpenSpec.ofChange wellBoundsSpec)) wellBoundsCard

/-- THE TIED CARD OF 'jacquardlaw5.WellJumps'. -/
def wellJumpsCard : Claim7 := { stood := { row := wellJumpsRow, standIns := [], harness := (true, "a442c18c726083932d0157d94896748888352e19202b4e492a87a82ab67b8acb"), looks := false }, kinds := [], alts := [], laidByText := true, laidKinds := [.data, .data], laidTests := true, laidLooks := .later }
def WellJumpsCardSaid : Prop := Claim7.holds Tryd.pinned (.plain (OpenSpec.ofChange wellJumpsSpec)) wellJumpsCard

/-- THE SECOND FORM's CARD OF 'jacquardlaw4.PrintOks'. -/
def printOksUptoCard : Claim7 := { stood := { row := printOksUptoRow, standIns := [], harness := (true, "a442c18c726083932d0157d94896748888352e19202b4e492a87a82ab67b8acb"), looks := false }, kinds := [], alts := [], laidByText := true, laidKinds := [.data], laidTests := true, laidLooks := .later }
def PrintOksUptoCardSaid : Prop := Claim7.holds Tryd.pinned (.plain (OpenSpec.upto printOksSpec)) printOksUptoCard

/-- THE SECOND FORM's CARD OF 'jacquardlaw5.WellLocs'. -/
def wellLocsUptoCard : Claim7 := { stood := { row := wellLocsUptoRow, standIns := [], harness := (true, "a442c18c726083932d0157d94896748888352e19202b4e492a87a82ab67b8acb"), looks := false }, kinds := [], alts := [], laidByText := true, laidKinds := [.data, .data], laidTests := true, laidLooks := .later }
def WellLocsUptoCardSaid : Prop := Claim7.holds Tryd.pinned (.plain (OpenSpec.upto wellLocsSpec)) wellLocsUptoCard

/-- THE SECOND FORM's CARD OF 'jacquardlaw5.WellShort'. -/
def wellShortUptoCard : Claim7 := { stood := { row := wellShortUptoRow, standIns := [], harness := (true, "a442c18c726083932d0157d94896748888352e19202b4e492a87a82ab67b8acb"), looks := false }, kinds := [], alts := [], laidByText := true, laidKinds := [.data, .data], laidTests := true, laidLooks := .later }
def WellShortUptoCardSaid : Prop := Claim7.holds Tryd.pinned (.plain (OpenSpec.upto wellShortSpec)) wellShortUptoCard

/-- THE SECOND FORM's CARD OF 'jacquardlaw5.WellBounds'. -/
def wellBoundsUptoCard : Claim7 := { stood := { row := wellBoundsUptoRow, standIns := [], harness := (true, "a442c18c726083932d0157d94896748888352e19202b4e492a87a82ab67b8acb"), looks := false }, kinds := [], alts := [], laidByText := true, laidKinds := [.data, .data], laidTests := true, laidLooks := .later }
def WellBoundsUptoCardSaid : Prop := Claim7.holds Tryd.pinned (.plain (OpenSpec.upto wellBoundsSpec)) wellBoundsUptoCard

/-- THE SECOND FORM's CARD OF 'jacquardlaw5.WellJumps'. -/
def wellJumpsUptoCard : Claim7 := { stood := { row := wellJumpsUptoRow, standIns := [], harness := (true, "a442c18c726083932d0157d94896748888352e19202b4e492a87a82ab67b8acb"), looks := false }, kinds := [], alts := [], laidByText := true, laidKinds := [.data, .data], laidTests := true, laidLooks := .later }
def WellJumpsUptoCardSaid : Prop := Claim7.holds Tryd.pinned (.plain (OpenSpec.upto wellJumpsSpec)) wellJumpsUptoCard
end Rows
end Go.Proofs.YtlnofkoemhojgaaDoor
