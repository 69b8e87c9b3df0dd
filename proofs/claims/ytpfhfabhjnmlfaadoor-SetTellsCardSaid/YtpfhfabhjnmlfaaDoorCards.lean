/-
  DERIVED. GIVEN WITH THE SEED: THE CARDS: each row of YtpfhfabhjnmlfaaDoorRows.lean that lists a variable, with what it lists TIED to the program's text (the seventh form; the later family's looks); each row that meets fmt, with fmt's text TOLD by the authors' own Lean function (tested against real Go, not proved from fmt's source: count such statements apart). THE CARD IS WHAT COUNTS. Prove the row's statement (the work); the ties are given (YtpfhfabhjnmlfaaDoorTie.lean); close each card by the builder's one call (the guide's Derived/Test/ToyasCard.lean, 'card_holds'). Laid BY PROGRAM, IN A SANDBOX (cutbox-door.mjs). By AI agents, Wed Nov 11 2026. No macro, syntax, notation, axiom, sorry.
-/
import Derived.Test.YtpfhfabhjnmlfaaDoorRows
import GoSem.ClaimSeven
namespace Go.Proofs.YtpfhfabhjnmlfaaDoor
namespace Rows

/-- THE TIED CARD OF 'jacquardlaw7.SetAlgebra'. -/
def setAlgebraCard : Claim7 := { stood := { row := setAlgebraRow, standIns := [], harness := (true, "0bac96352b2770b054dbb18fd58c060981ff3684b5e8d0e4b5e103c51809788d"), looks := false }, kinds := [], alts := [], laidByText := true, laidKinds := [.data], laidTests := true, laidLooks := .later }
def SetAlgebraCardSaid : Prop := Claim7.holds Tryd.pinned (.plain (OpenSpec.ofChange setAlgebraSpec)) setAlgebraCard

/-- THE TIED CARD OF 'jacquardlaw7.SetTells'. -/
def setTellsCard : Claim7 := { stood := { row := setTellsRow, standIns := [], harness := (true, "0bac96352b2770b054dbb18fd58c060981ff3684b5e8d0e4b5e103c51809788d"), looks := false }, kinds := [], alts := [], laidByText := true, laidKinds := [.data], laidTests := true, laidLooks := .later }
def SetTellsCardSaid : Prop := Claim7.holds Tryd.pinned (.plain (OpenSpec.ofChange setTellsSpec)) setTellsCard

/-- THE TIED CARD OF 'jacquardlaw7.SetNexts'. -/
def setNextsCard : Claim7 := { stood := { row := setNextsRow, standIns := [], harness := (true, "0bac96352b2770b054dbb18fd58c060981ff3684b5e8d0e4b5e103c51809788d"), looks := false }, kinds := [], alts := [], laidByText := true, laidKinds := [.data], laidTests := true, laidLooks := .later }
def SetNextsCardSaid : Prop := Claim7.holds Tryd.pinned (.plain (OpenSpec.ofChange setNextsSpec)) setNextsCard

/-- THE TIED CARD OF 'jacquardlaw7.SetUptos'. -/
def setUptosCard : Claim7 := { stood := { row := setUptosRow, standIns := [], harness := (true, "0bac96352b2770b054dbb18fd58c060981ff3684b5e8d0e4b5e103c51809788d"), looks := false }, kinds := [], alts := [], laidByText := true, laidKinds := [.data], laidTests := true, laidLooks := .later }
def SetUptosCardSaid : Prop := Claim7.holds Tryd.pinned (.plain (OpenSpec.ofChange setUptosSpec)) setUptosCard

/-- THE SECOND FORM's CARD OF 'jacquardlaw7.SetAlgebra'. -/
def setAlgebraUptoCard : Claim7 := { stood := { row := setAlgebraUptoRow, standIns := [], harness := (true, "0bac96352b2770b054dbb18fd58c060981ff3684b5e8d0e4b5e103c51809788d"), looks := false }, kinds := [], alts := [], laidByText := true, laidKinds := [.data], laidTests := true, laidLooks := .later }
def SetAlgebraUptoCardSaid : Prop := Claim7.holds Tryd.pinned (.plain (OpenSpec.upto setAlgebraSpec)) setAlgebraUptoCard

/-- THE SECOND FORM's CARD OF 'jacquardlaw7.SetTells'. -/
def setTellsUptoCard : Claim7 := { stood := { row := setTellsUptoRow, standIns := [], harness := (true, "0bac96352b2770b054dbb18fd58c060981ff3684b5e8d0e4b5e103c51809788d"), looks := false }, kinds := [], alts := [], laidByText := true, laidKinds := [.data], laidTests := true, laidLooks := .later }
def SetTellsUptoCardSaid : Prop := Claim7.holds Tryd.pinned (.plain (OpenSpec.upto setTellsSpec)) setTellsUptoCard

/-- THE SECOND FORM's CARD OF 'jacquardlaw7.SetNexts'. -/
def setNextsUptoCard : Claim7 := { stood := { row := setNextsUptoRow, standIns := [], harness := (true, "0bac96352b2770b054dbb18fd58c060981ff3684b5e8d0e4b5e103c51809788d"), looks := false }, kinds := [], alts := [], laidByText := true, laidKinds := [.data], laidTests := true, laidLooks := .later }
def SetNextsUptoCardSaid : Prop := Claim7.holds Tryd.pinned (.plain (OpenSpec.upto setNextsSpec)) setNextsUptoCard

/-- THE SECOND FORM's CARD OF 'jacquardlaw7.SetUptos'. -/
def setUptosUptoCard : Claim7 := { stood := { row := setUptosUptoRow, standIns := [], harness := (true, "0bac96352b2770b054dbb18fd58c060981ff3684b5e8d0e4b5e103c51809788d"), looks := false }, kinds := [], alts := [], laidByText := true, laidKinds := [.data], laidTests := true, laidLooks := .later }
def SetUptosUptoCardSaid : Prop := Claim7.holds Tryd.pinned (.plain (OpenSpec.upto setUptosSpec)) setUptosUptoCard
end Rows
end Go.Proofs.YtpfhfabhjnmlfaaDoor
