/-
  DERIVED. GIVEN WITH THE SEED: THE CARDS: each row of YtengdlchglkkjaaDoorRows.lean that lists a variable, with what it lists TIED to the program's text (the seventh form; the later family's looks); each row that meets fmt, with fmt's text TOLD by the authors' own Lean function (tested against real Go, not proved from fmt's source: count such statements apart). THE CARD IS WHAT COUNTS. Prove the row's statement (the work); the ties are given (YtengdlchglkkjaaDoorTie.lean); close each card by the builder's one call (the guide's Derived/Test/ToyasCard.lean, 'card_holds'). Laid BY PROGRAM, IN A SANDBOX (cutbox-door.mjs). By AI agents, Wed Nov 11 2026. No macro, syntax, notation, axiom, sorry.
-/
import Derived.Test.YtengdlchglkkjaaDoorRows
import GoSem.ClaimSeven
namespace Go.Proofs.YtengdlchglkkjaaDoor
namespace Rows

/-- THE TIED CARD OF 'jacquardlaw5.WellChecks'. -/
def wellChecksCard : Claim7 := { stood := { row := wellChecksRow, standIns := [], harness := (true, "a8dc24de4f356846f0e53c41a43c0929d2c6f123d338e976d8c01dbc49a794ba"), looks := false }, kinds := [], alts := [], laidByText := true, laidKinds := [.data, .data], laidTests := true, laidLooks := .later }
def WellChecksCardSaid : Prop := Claim7.holds Tryd.pinned (.plain (OpenSpec.ofChange wellChecksSpec)) wellChecksCard

/-- THE TIED CARD OF 'jacquardlaw6.ProgCompiles'. -/
def progCompilesCard : Claim7 := { stood := { row := progCompilesRow, standIns := [], harness := (true, "a8dc24de4f356846f0e53c41a43c0929d2c6f123d338e976d8c01dbc49a794ba"), looks := false }, kinds := [], alts := [], laidByText := true, laidKinds := [.data, .data], laidTests := true, laidLooks := .later }
def ProgCompilesCardSaid : Prop := Claim7.holds Tryd.pinned (.plain (OpenSpec.ofChange progCompilesSpec)) progCompilesCard

/-- THE TIED CARD OF 'jacquardlaw6.ProgSteps'. -/
def progStepsCard : Claim7 := { stood := { row := progStepsRow, standIns := [], harness := (true, "a8dc24de4f356846f0e53c41a43c0929d2c6f123d338e976d8c01dbc49a794ba"), looks := false }, kinds := [], alts := [], laidByText := true, laidKinds := [.data, .data], laidTests := true, laidLooks := .later }
def ProgStepsCardSaid : Prop := Claim7.holds Tryd.pinned (.plain (OpenSpec.ofChange progStepsSpec)) progStepsCard

/-- THE SECOND FORM's CARD OF 'jacquardlaw5.WellChecks'. -/
def wellChecksUptoCard : Claim7 := { stood := { row := wellChecksUptoRow, standIns := [], harness := (true, "a8dc24de4f356846f0e53c41a43c0929d2c6f123d338e976d8c01dbc49a794ba"), looks := false }, kinds := [], alts := [], laidByText := true, laidKinds := [.data, .data], laidTests := true, laidLooks := .later }
def WellChecksUptoCardSaid : Prop := Claim7.holds Tryd.pinned (.plain (OpenSpec.upto wellChecksSpec)) wellChecksUptoCard

/-- THE SECOND FORM's CARD OF 'jacquardlaw6.ProgCompiles'. -/
def progCompilesUptoCard : Claim7 := { stood := { row := progCompilesUptoRow, standIns := [], harness := (true, "a8dc24de4f356846f0e53c41a43c0929d2c6f123d338e976d8c01dbc49a794ba"), looks := false }, kinds := [], alts := [], laidByText := true, laidKinds := [.data, .data], laidTests := true, laidLooks := .later }
def ProgCompilesUptoCardSaid : Prop := Claim7.holds Tryd.pinned (.plain (OpenSpec.upto progCompilesSpec)) progCompilesUptoCard

/-- THE SECOND FORM's CARD OF 'jacquardlaw6.ProgSteps'. -/
def progStepsUptoCard : Claim7 := { stood := { row := progStepsUptoRow, standIns := [], harness := (true, "a8dc24de4f356846f0e53c41a43c0929d2c6f123d338e976d8c01dbc49a794ba"), looks := false }, kinds := [], alts := [], laidByText := true, laidKinds := [.data, .data], laidTests := true, laidLooks := .later }
def ProgStepsUptoCardSaid : Prop := Claim7.holds Tryd.pinned (.plain (OpenSpec.upto progStepsSpec)) progStepsUptoCard
end Rows
end Go.Proofs.YtengdlchglkkjaaDoor
