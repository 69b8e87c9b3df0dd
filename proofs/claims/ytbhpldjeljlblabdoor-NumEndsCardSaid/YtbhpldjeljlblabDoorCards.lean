/-
  DERIVED. GIVEN WITH THE SEED: THE CARDS: each row of YtbhpldjeljlblabDoorRows.lean that lists a variable, with what it lists TIED to the program's text (the seventh form; the later family's looks); each row that meets fmt, with fmt's text TOLD by the authors' own Lean function (tested against real Go, not proved from fmt's source: count such statements apart). THE CARD IS WHAT COUNTS. Prove the row's statement (the work); the ties are given (YtbhpldjeljlblabDoorTie.lean); close each card by the builder's one call (the guide's Derived/Test/ToyasCard.lean, 'card_holds'). Laid BY PROGRAM, IN A SANDBOX (cutbox-door.mjs). By AI agents, Wed Nov 11 2026. No macro, syntax, notation, axiom, sorry.
-/
import Derived.Test.YtbhpldjeljlblabDoorRows
import GoSem.ClaimSeven
namespace Go.Proofs.YtbhpldjeljlblabDoor
namespace Rows

/-- THE TIED CARD OF 'jacquardlaw1.NumNarrow'. -/
def numNarrowCard : Claim7 := { stood := { row := numNarrowRow, standIns := [], harness := (true, "f4083bbe8384d0f50206a0ce7b1f6f973aeaf029823d5be0fcc276c7493fe9c7"), looks := true }, kinds := [], alts := [], laidByText := true, laidKinds := [.data, .data, .data, .sentinel, .sentinel, .data], laidTests := true, laidLooks := .later }
def NumNarrowCardSaid : Prop := Claim7.holds Tryd.pinned (.plain (OpenSpec.ofChange numNarrowSpec)) numNarrowCard

/-- THE TIED CARD OF 'jacquardlaw1.NumWraps'. -/
def numWrapsCard : Claim7 := { stood := { row := numWrapsRow, standIns := [], harness := (true, "f4083bbe8384d0f50206a0ce7b1f6f973aeaf029823d5be0fcc276c7493fe9c7"), looks := true }, kinds := [], alts := [], laidByText := true, laidKinds := [.data, .data, .data, .sentinel, .sentinel, .data], laidTests := true, laidLooks := .later }
def NumWrapsCardSaid : Prop := Claim7.holds Tryd.pinned (.plain (OpenSpec.ofChange numWrapsSpec)) numWrapsCard

/-- THE TIED CARD OF 'jacquardlaw1.NumEnds'. -/
def numEndsCard : Claim7 := { stood := { row := numEndsRow, standIns := [], harness := (true, "f4083bbe8384d0f50206a0ce7b1f6f973aeaf029823d5be0fcc276c7493fe9c7"), looks := true }, kinds := [], alts := [], laidByText := true, laidKinds := [.data, .data, .data, .sentinel, .sentinel, .data], laidTests := true, laidLooks := .later }
def NumEndsCardSaid : Prop := Claim7.holds Tryd.pinned (.plain (OpenSpec.ofChange numEndsSpec)) numEndsCard

/-- THE SECOND FORM's CARD OF 'jacquardlaw1.NumNarrow'. -/
def numNarrowUptoCard : Claim7 := { stood := { row := numNarrowUptoRow, standIns := [], harness := (true, "f4083bbe8384d0f50206a0ce7b1f6f973aeaf029823d5be0fcc276c7493fe9c7"), looks := true }, kinds := [], alts := [], laidByText := true, laidKinds := [.data, .data, .data, .sentinel, .sentinel, .data], laidTests := true, laidLooks := .later }
def NumNarrowUptoCardSaid : Prop := Claim7.holds Tryd.pinned (.plain (OpenSpec.upto numNarrowSpec)) numNarrowUptoCard

/-- THE SECOND FORM's CARD OF 'jacquardlaw1.NumWraps'. -/
def numWrapsUptoCard : Claim7 := { stood := { row := numWrapsUptoRow, standIns := [], harness := (true, "f4083bbe8384d0f50206a0ce7b1f6f973aeaf029823d5be0fcc276c7493fe9c7"), looks := true }, kinds := [], alts := [], laidByText := true, laidKinds := [.data, .data, .data, .sentinel, .sentinel, .data], laidTests := true, laidLooks := .later }
def NumWrapsUptoCardSaid : Prop := Claim7.holds Tryd.pinned (.plain (OpenSpec.upto numWrapsSpec)) numWrapsUptoCard

/-- THE SECOND FORM's CARD OF 'jacquardlaw1.NumEnds'. -/
def numEndsUptoCard : Claim7 := { stood := { row := numEndsUptoRow, standIns := [], harness := (true, "f4083bbe8384d0f50206a0ce7b1f6f973aeaf029823d5be0fcc276c7493fe9c7"), looks := true }, kinds := [], alts := [], laidByText := true, laidKinds := [.data, .data, .data, .sentinel, .sentinel, .data], laidTests := true, laidLooks := .later }
def NumEndsUptoCardSaid : Prop := Claim7.holds Tryd.pinned (.plain (OpenSpec.upto numEndsSpec)) numEndsUptoCard
end Rows
end Go.Proofs.YtbhpldjeljlblabDoor
