/-
  DERIVED. GIVEN WITH THE SEED: THE CARDS: each row of YtplihlmejnohnaaGreatDoorRows.lean that lists a variable, with what it lists TIED to the program's text (the seventh form; the later family's looks); each row that meets fmt, with fmt's text TOLD by the authors' own Lean function (tested against real Go, not proved from fmt's source: count such statements apart). THE CARD IS WHAT COUNTS. Prove the row's statement (the work); the ties are given (YtplihlmejnohnaaGreatDoorTie.lean); close each card by the builder's one call (the guide's Derived/Test/ToyasCard.lean, 'card_holds'). Laid BY PROGRAM, IN A SANDBOX (cutbox-door.mjs). By AI agents, Wed Nov 11 2026. No macro, syntax, notation, axiom, sorry.
-/
import Derived.Test.YtplihlmejnohnaaGreatDoorRows
import GoSem.ClaimSeven
namespace Go.Proofs.YtplihlmejnohnaaGreatDoor
namespace Rows

/-- THE TIED CARD OF 'jacquardlaw16.VmForwards'. -/
def vmForwardsCard : Claim7 := { stood := { row := vmForwardsRow, standIns := [], harness := (true, "ad6f9247b8e83913357bf0a4732097fdd44d1949e6575d41b197a4783b950a9c"), looks := false }, kinds := [], alts := [], laidByText := true, laidKinds := [.data, .data, .data, .data], laidTests := true, laidLooks := .later }
def VmForwardsCardSaid : Prop := Claim7.holds Tryz.pinned (.plain (OpenSpec.ofChange vmForwardsSpec)) vmForwardsCard

/-- THE TIED CARD OF 'jacquardlaw16.VmFirst'. -/
def vmFirstCard : Claim7 := { stood := { row := vmFirstRow, standIns := [], harness := (true, "ad6f9247b8e83913357bf0a4732097fdd44d1949e6575d41b197a4783b950a9c"), looks := false }, kinds := [], alts := [], laidByText := true, laidKinds := [.data, .data, .data, .data], laidTests := true, laidLooks := .later }
def VmFirstCardSaid : Prop := Claim7.holds Tryz.pinned (.plain (OpenSpec.ofChange vmFirstSpec)) vmFirstCard

/-- THE TIED CARD OF 'jacquardlaw16.VmPlain'. -/
def vmPlainCard : Claim7 := { stood := { row := vmPlainRow, standIns := [], harness := (true, "ad6f9247b8e83913357bf0a4732097fdd44d1949e6575d41b197a4783b950a9c"), looks := false }, kinds := [], alts := [], laidByText := true, laidKinds := [.data, .data, .data, .data], laidTests := true, laidLooks := .later }
def VmPlainCardSaid : Prop := Claim7.holds Tryz.pinned (.plain (OpenSpec.ofChange vmPlainSpec)) vmPlainCard

/-- THE TIED CARD OF 'jacquardlaw16.VmNames'. -/
def vmNamesCard : Claim7 := { stood := { row := vmNamesRow, standIns := [], harness := (true, "ad6f9247b8e83913357bf0a4732097fdd44d1949e6575d41b197a4783b950a9c"), looks := false }, kinds := [], alts := [], laidByText := true, laidKinds := [.data, .data, .data, .data], laidTests := true, laidLooks := .later }
def VmNamesCardSaid : Prop := Claim7.holds Tryz.pinned (.plain (OpenSpec.ofChange vmNamesSpec)) vmNamesCard

/-- THE TIED CARD OF 'jacquardlaw16.VmWaits'. -/
def vmWaitsCard : Claim7 := { stood := { row := vmWaitsRow, standIns := [], harness := (true, "ad6f9247b8e83913357bf0a4732097fdd44d1949e6575d41b197a4783b950a9c"), looks := false }, kinds := [], alts := [], laidByText := true, laidKinds := [.data, .data, .data, .data], laidTests := true, laidLooks := .later }
def VmWaitsCardSaid : Prop := Claim7.holds Tryz.pinned (.plain (OpenSpec.ofChange vmWaitsSpec)) vmWaitsCard

/-- THE TIED CARD OF 'jacquardlaw16.VmPlays'. -/
def vmPlaysCard : Claim7 := { stood := { row := vmPlaysRow, standIns := [], harness := (true, "ad6f9247b8e83913357bf0a4732097fdd44d1949e6575d41b197a4783b950a9c"), looks := false }, kinds := [], alts := [], laidByText := true, laidKinds := [.data, .data, .data, .data], laidTests := true, laidLooks := .later }
def VmPlaysCardSaid : Prop := Claim7.holds Tryz.pinned (.plain (OpenSpec.ofChange vmPlaysSpec)) vmPlaysCard

/-- THE SECOND FORM's CARD OF 'jacquardlaw16.VmForwards'. -/
def vmForwardsUptoCard : Claim7 := { stood := { row := vmForwardsUptoRow, standIns := [], harness := (true, "ad6f9247b8e83913357bf0a4732097fdd44d1949e6575d41b197a4783b950a9c"), looks := false }, kinds := [], alts := [], laidByText := true, laidKinds := [.data, .data, .data, .data], laidTests := true, laidLooks := .later }
def VmForwardsUptoCardSaid : Prop := Claim7.holds Tryz.pinned (.plain (OpenSpec.upto vmForwardsSpec)) vmForwardsUptoCard

/-- THE SECOND FORM's CARD OF 'jacquardlaw16.VmFirst'. -/
def vmFirstUptoCard : Claim7 := { stood := { row := vmFirstUptoRow, standIns := [], harness := (true, "ad6f9247b8e83913357bf0a4732097fdd44d1949e6575d41b197a4783b950a9c"), looks := false }, kinds := [], alts := [], laidByText := true, laidKinds := [.data, .data, .data, .data], laidTests := true, laidLooks := .later }
def VmFirstUptoCardSaid : Prop := Claim7.holds Tryz.pinned (.plain (OpenSpec.upto vmFirstSpec)) vmFirstUptoCard

/-- THE SECOND FORM's CARD OF 'jacquardlaw16.VmPlain'. -/
def vmPlainUptoCard : Claim7 := { stood := { row := vmPlainUptoRow, standIns := [], harness := (true, "ad6f9247b8e83913357bf0a4732097fdd44d1949e6575d41b197a4783b950a9c"), looks := false }, kinds := [], alts := [], laidByText := true, laidKinds := [.data, .data, .data, .data], laidTests := true, laidLooks := .later }
def VmPlainUptoCardSaid : Prop := Claim7.holds Tryz.pinned (.plain (OpenSpec.upto vmPlainSpec)) vmPlainUptoCard

/-- THE SECOND FORM's CARD OF 'jacquardlaw16.VmNames'. -/
def vmNamesUptoCard : Claim7 := { stood := { row := vmNamesUptoRow, standIns := [], harness := (true, "ad6f9247b8e83913357bf0a4732097fdd44d1949e6575d41b197a4783b950a9c"), looks := false }, kinds := [], alts := [], laidByText := true, laidKinds := [.data, .data, .data, .data], laidTests := true, laidLooks := .later }
def VmNamesUptoCardSaid : Prop := Claim7.holds Tryz.pinned (.plain (OpenSpec.upto vmNamesSpec)) vmNamesUptoCard

/-- THE SECOND FORM's CARD OF 'jacquardlaw16.VmWaits'. -/
def vmWaitsUptoCard : Claim7 := { stood := { row := vmWaitsUptoRow, standIns := [], harness := (true, "ad6f9247b8e83913357bf0a4732097fdd44d1949e6575d41b197a4783b950a9c"), looks := false }, kinds := [], alts := [], laidByText := true, laidKinds := [.data, .data, .data, .data], laidTests := true, laidLooks := .later }
def VmWaitsUptoCardSaid : Prop := Claim7.holds Tryz.pinned (.plain (OpenSpec.upto vmWaitsSpec)) vmWaitsUptoCard

/-- THE SECOND FORM's CARD OF 'jacquardlaw16.VmPlays'. -/
def vmPlaysUptoCard : Claim7 := { stood := { row := vmPlaysUptoRow, standIns := [], harness := (true, "ad6f9247b8e83913357bf0a4732097fdd44d1949e6575d41b197a4783b950a9c"), looks := false }, kinds := [], alts := [], laidByText := true, laidKinds := [.data, .data, .data, .data], laidTests := true, laidLooks := .later }
def VmPlaysUptoCardSaid : Prop := Claim7.holds Tryz.pinned (.plain (OpenSpec.upto vmPlaysSpec)) vmPlaysUptoCard
end Rows
end Go.Proofs.YtplihlmejnohnaaGreatDoor
