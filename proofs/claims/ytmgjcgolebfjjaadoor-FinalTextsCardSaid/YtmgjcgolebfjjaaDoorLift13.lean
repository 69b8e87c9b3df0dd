/- From the row's condition on the listed variables to what the walks of layer 13 ask; one start that fits. -/
import Derived.Test.YtmgjcgolebfjjaaDoorRows
import Derived.Test.YtmgjcgolebfjjaaDoorTie
import Derived.Test.YtmgjcgolebfjjaaDoorCards
import Derived.Test.YtmgjcgolebfjjaaDoorNumT
import Derived.ProofKit
import Derived.LaidMore
import Derived.OpenShut
import Derived.Stop.Joined
import Derived.Stop.LaidErr
import Derived.Lib.LaidTab
import Derived.SevenTiedAt
import Derived.Carry
namespace Go.Proofs.YtmgjcgolebfjjaaDoor
open Go.ChangeShapes Go.WideShapes Go.ChangeAt Go.WideMaps Go.WideElems Go.RowKit

theorem own : ownKnob Tryd.prog.godebug = none := by kernel_rfl
/-- The rows' list. -/
def laidL : List (String × DataW Unit) := [("math/bits.deBruijn32tab", Rows.laid_math_bits_deBruijn32tab), ("math/bits.deBruijn64tab", Rows.laid_math_bits_deBruijn64tab), ("internal/strconv.uint64pow10", Rows.laid_internal_strconv_uint64pow10)]
/-- The door's own heap meets the condition. -/
theorem door_met (os : Os) (args : Array Value) : laidMetH Tryd.prog laidL ((World.doorLaid Tryd.prog 400 os).forCall (fun _ _ => 0) ⟨#[], args, []⟩).memory :=
  laidMetH_of_parts3 (fuel := 8) (laidMet_of_run' 8 (by kernel_rfl) (by kernel_rfl)) (by kernel_rfl) (by kernel_rfl)
theorem tPw : (Tryd.prog.globals[0]?).map (·.type) = some 107 := by kernel_rfl
theorem cPw : Tryd.prog.cellsOf 107 = 20 := by kernel_rfl
theorem cU64 : Tryd.prog.cellsOf 75 = 1 := by kernel_rfl
theorem of_laid {W : World} (h : laidMetH Tryd.prog laidL W) : Pw W := by
  rw [MakeChecks.laidMetH_plain _ _ _ (by kernel_rfl)] at h
  exact Lib.tabIs_of_head gPw tPw Tryd.underlying107 Tryd.underlying75 cU64 cPw h.tail.tail
end Go.Proofs.YtmgjcgolebfjjaaDoor
