/-
  DERIVED. GIVEN WITH THE SEED: THE CARDS: each row of YtmgjcgolebfjjaaDoorRows.lean that lists a variable, with what it lists TIED to the program's text (the seventh form; the later family's looks); each row that meets fmt, with fmt's text TOLD by the authors' own Lean function (tested against real Go, not proved from fmt's source: count such statements apart). THE CARD IS WHAT COUNTS. Prove the row's statement (the work); the ties are given (YtmgjcgolebfjjaaDoorTie.lean); close each card by the builder's one call (the guide's Derived/Test/ToyasCard.lean, 'card_holds'). Laid BY PROGRAM, IN A SANDBOX (cutbox-door.mjs). By AI agents, Wed Nov 11 2026. No macro, syntax, notation, axiom, sorry.
-/
import Derived.Test.YtmgjcgolebfjjaaDoorRows
import GoSem.ClaimSeven
namespace Go.Proofs.YtmgjcgolebfjjaaDoor
namespace Rows

/-- THE TIED CARD OF 'jacquardlaw13.FinalTexts'. -/
def finalTextsCard : Claim7 := { stood := { row := finalTextsRow, standIns := [], harness := (true, "4126257c583fec8378c14c47a9d994c4fe0512b50522bd3abf7b8480cb8876b4"), looks := false }, kinds := [], alts := [], laidByText := true, laidKinds := [.data, .data, .data], laidTests := true, laidLooks := .later }
def FinalTextsCardSaid : Prop := Claim7.holds Tryd.pinned (.plain (OpenSpec.ofChange finalTextsSpec)) finalTextsCard

/-- THE TIED CARD OF 'jacquardlaw13.FinalSets'. -/
def finalSetsCard : Claim7 := { stood := { row := finalSetsRow, standIns := [], harness := (true, "4126257c583fec8378c14c47a9d994c4fe0512b50522bd3abf7b8480cb8876b4"), looks := false }, kinds := [], alts := [], laidByText := true, laidKinds := [.data, .data, .data], laidTests := true, laidLooks := .later }
def FinalSetsCardSaid : Prop := Claim7.holds Tryd.pinned (.plain (OpenSpec.ofChange finalSetsSpec)) finalSetsCard

/-- THE TIED CARD OF 'jacquardlaw13.FinalSorts'. -/
def finalSortsCard : Claim7 := { stood := { row := finalSortsRow, standIns := [], harness := (true, "4126257c583fec8378c14c47a9d994c4fe0512b50522bd3abf7b8480cb8876b4"), looks := false }, kinds := [], alts := [], laidByText := true, laidKinds := [.data, .data, .data], laidTests := true, laidLooks := .later }
def FinalSortsCardSaid : Prop := Claim7.holds Tryd.pinned (.plain (OpenSpec.ofChange finalSortsSpec)) finalSortsCard

/-- THE TIED CARD OF 'jacquardlaw13.FinalOrders'. -/
def finalOrdersCard : Claim7 := { stood := { row := finalOrdersRow, standIns := [], harness := (true, "4126257c583fec8378c14c47a9d994c4fe0512b50522bd3abf7b8480cb8876b4"), looks := false }, kinds := [], alts := [], laidByText := true, laidKinds := [.data, .data, .data], laidTests := true, laidLooks := .later }
def FinalOrdersCardSaid : Prop := Claim7.holds Tryd.pinned (.plain (OpenSpec.ofChange finalOrdersSpec)) finalOrdersCard

/-- THE SECOND FORM's CARD OF 'jacquardlaw13.FinalTexts'. -/
def finalTextsUptoCard : Claim7 := { stood := { row := finalTextsUptoRow, standIns := [], harness := (true, "4126257c583fec8378c14c47a9d994c4fe0512b50522bd3abf7b8480cb8876b4"), looks := false }, kinds := [], alts := [], laidByText := true, laidKinds := [.data, .data, .data], laidTests := true, laidLooks := .later }
def FinalTextsUptoCardSaid : Prop := Claim7.holds Tryd.pinned (.plain (OpenSpec.upto finalTextsSpec)) finalTextsUptoCard

/-- THE SECOND FORM's CARD OF 'jacquardlaw13.FinalSets'. -/
def finalSetsUptoCard : Claim7 := { stood := { row := finalSetsUptoRow, standIns := [], harness := (true, "4126257c583fec8378c14c47a9d994c4fe0512b50522bd3abf7b8480cb8876b4"), looks := false }, kinds := [], alts := [], laidByText := true, laidKinds := [.data, .data, .data], laidTests := true, laidLooks := .later }
def FinalSetsUptoCardSaid : Prop := Claim7.holds Tryd.pinned (.plain (OpenSpec.upto finalSetsSpec)) finalSetsUptoCard

/-- THE SECOND FORM's CARD OF 'jacquardlaw13.FinalSorts'. -/
def finalSortsUptoCard : Claim7 := { stood := { row := finalSortsUptoRow, standIns := [], harness := (true, "4126257c583fec8378c14c47a9d994c4fe0512b50522bd3abf7b8480cb8876b4"), looks := false }, kinds := [], alts := [], laidByText := true, laidKinds := [.data, .data, .data], laidTests := true, laidLooks := .later }
def FinalSortsUptoCardSaid : Prop := Claim7.holds Tryd.pinned (.plain (OpenSpec.upto finalSortsSpec)) finalSortsUptoCard

/-- THE SECOND FORM's CARD OF 'jacquardlaw13.FinalOrders'. -/
def finalOrdersUptoCard : Claim7 := { stood := { row := finalOrdersUptoRow, standIns := [], harness := (true, "4126257c583fec8378c14c47a9d994c4fe0512b50522bd3abf7b8480cb8876b4"), looks := false }, kinds := [], alts := [], laidByText := true, laidKinds := [.data, .data, .data], laidTests := true, laidLooks := .later }
def FinalOrdersUptoCardSaid : Prop := Claim7.holds Tryd.pinned (.plain (OpenSpec.upto finalOrdersSpec)) finalOrdersUptoCard
end Rows
end Go.Proofs.YtmgjcgolebfjjaaDoor
