/-
  DERIVED. GIVEN WITH THE SEED: THE CARDS: each row of YtjjmkacfkjkhgaaDoorRows.lean that lists a variable, with what it lists TIED to the program's text (the seventh form; the later family's looks); each row that meets fmt, with fmt's text TOLD by the authors' own Lean function (tested against real Go, not proved from fmt's source: count such statements apart). THE CARD IS WHAT COUNTS. Prove the row's statement (the work); the ties are given (YtjjmkacfkjkhgaaDoorTie.lean); close each card by the builder's one call (the guide's Derived/Test/ToyasCard.lean, 'card_holds'). Laid BY PROGRAM, IN A SANDBOX (cutbox-door.mjs). By AI agents, Wed Nov 11 2026. No macro, syntax, notation, axiom, sorry.
-/
import Derived.Test.YtjjmkacfkjkhgaaDoorRows
import GoSem.ClaimSeven
namespace Go.Proofs.YtjjmkacfkjkhgaaDoor
namespace Rows

/-- THE TIED CARD OF 'jacquardlaw5.WellLocs'. -/
def wellLocsCard : Claim7 := { stood := { row := wellLocsRow, standIns := [], harness := (true, "15daf3f27cc01b1bc654a28736ff185b7fb7e1b588efd0a50958fa6ea56743a3"), looks := false }, kinds := [], alts := [], laidByText := true, laidKinds := [.data, .data], laidTests := true, laidLooks := .later }
def WellLocsCardSaid : Prop := Claim7.holds Tryd.pinned (.plain (OpenSpec.ofChange wellLocsSpec)) wellLocsCard

/-- THE TIED CARD OF 'jacquardlaw5.WellBounds'. -/
def wellBoundsCard : Claim7 := { stood := { row := wellBoundsRow, standIns := [], harness := (true, "15daf3f27cc01b1bc654a28736ff185b7fb7e1b588efd0a50958fa6ea56743a3"), looks := false }, kinds := [], alts := [], laidByText := true, laidKinds := [.data, .data], laidTests := true, laidLooks := .later }
def WellBoundsCardSaid : Prop := Claim7.holds Tryd.pinned (.plain (OpenSpec.ofChange wellBoundsSpec)) wellBoundsCard

/-- THE TIED CARD OF 'jacquardlaw6.ProgSets'. -/
def progSetsCard : Claim7 := { stood := { row := progSetsRow, standIns := [], harness := (true, "15daf3f27cc01b1bc654a28736ff185b7fb7e1b588efd0a50958fa6ea56743a3"), looks := false }, kinds := [], alts := [], laidByText := true, laidKinds := [.data, .data], laidTests := true, laidLooks := .later }
def ProgSetsCardSaid : Prop := Claim7.holds Tryd.pinned (.plain (OpenSpec.ofChange progSetsSpec)) progSetsCard

/-- THE TIED CARD OF 'jacquardlaw6.ProgSkips'. -/
def progSkipsCard : Claim7 := { stood := { row := progSkipsRow, standIns := [], harness := (true, "15daf3f27cc01b1bc654a28736ff185b7fb7e1b588efd0a50958fa6ea56743a3"), looks := false }, kinds := [], alts := [], laidByText := true, laidKinds := [.data, .data], laidTests := true, laidLooks := .later }
def ProgSkipsCardSaid : Prop := Claim7.holds Tryd.pinned (.plain (OpenSpec.ofChange progSkipsSpec)) progSkipsCard

/-- THE TIED CARD OF 'jacquardlaw6.ProgEnds'. -/
def progEndsCard : Claim7 := { stood := { row := progEndsRow, standIns := [], harness := (true, "15daf3f27cc01b1bc654a28736ff185b7fb7e1b588efd0a50958fa6ea56743a3"), looks := false }, kinds := [], alts := [], laidByText := true, laidKinds := [.data, .data], laidTests := true, laidLooks := .later }
def ProgEndsCardSaid : Prop := Claim7.holds Tryd.pinned (.plain (OpenSpec.ofChange progEndsSpec)) progEndsCard

/-- THE SECOND FORM's CARD OF 'jacquardlaw5.WellLocs'. -/
def wellLocsUptoCard : Claim7 := { stood := { row := wellLocsUptoRow, standIns := [], harness := (true, "15daf3f27cc01b1bc654a28736ff185b7fb7e1b588efd0a50958fa6ea56743a3"), looks := false }, kinds := [], alts := [], laidByText := true, laidKinds := [.data, .data], laidTests := true, laidLooks := .later }
def WellLocsUptoCardSaid : Prop := Claim7.holds Tryd.pinned (.plain (OpenSpec.upto wellLocsSpec)) wellLocsUptoCard

/-- THE SECOND FORM's CARD OF 'jacquardlaw5.WellBounds'. -/
def wellBoundsUptoCard : Claim7 := { stood := { row := wellBoundsUptoRow, standIns := [], harness := (true, "15daf3f27cc01b1bc654a28736ff185b7fb7e1b588efd0a50958fa6ea56743a3"), looks := false }, kinds := [], alts := [], laidByText := true, laidKinds := [.data, .data], laidTests := true, laidLooks := .later }
def WellBoundsUptoCardSaid : Prop := Claim7.holds Tryd.pinned (.plain (OpenSpec.upto wellBoundsSpec)) wellBoundsUptoCard

/-- THE SECOND FORM's CARD OF 'jacquardlaw6.ProgSets'. -/
def progSetsUptoCard : Claim7 := { stood := { row := progSetsUptoRow, standIns := [], harness := (true, "15daf3f27cc01b1bc654a28736ff185b7fb7e1b588efd0a50958fa6ea56743a3"), looks := false }, kinds := [], alts := [], laidByText := true, laidKinds := [.data, .data], laidTests := true, laidLooks := .later }
def ProgSetsUptoCardSaid : Prop := Claim7.holds Tryd.pinned (.plain (OpenSpec.upto progSetsSpec)) progSetsUptoCard

/-- THE SECOND FORM's CARD OF 'jacquardlaw6.ProgSkips'. -/
def progSkipsUptoCard : Claim7 := { stood := { row := progSkipsUptoRow, standIns := [], harness := (true, "15daf3f27cc01b1bc654a28736ff185b7fb7e1b588efd0a50958fa6ea56743a3"), looks := false }, kinds := [], alts := [], laidByText := true, laidKinds := [.data, .data], laidTests := true, laidLooks := .later }
def ProgSkipsUptoCardSaid : Prop := Claim7.holds Tryd.pinned (.plain (OpenSpec.upto progSkipsSpec)) progSkipsUptoCard

/-- THE SECOND FORM's CARD OF 'jacquardlaw6.ProgEnds'. -/
def progEndsUptoCard : Claim7 := { stood := { row := progEndsUptoRow, standIns := [], harness := (true, "15daf3f27cc01b1bc654a28736ff185b7fb7e1b588efd0a50958fa6ea56743a3"), looks := false }, kinds := [], alts := [], laidByText := true, laidKinds := [.data, .data], laidTests := true, laidLooks := .later }
def ProgEndsUptoCardSaid : Prop := Claim7.holds Tryd.pinned (.plain (OpenSpec.upto progEndsSpec)) progEndsUptoCard
end Rows
end Go.Proofs.YtjjmkacfkjkhgaaDoor
