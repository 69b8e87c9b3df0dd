/- From the row's condition on the listed variables to what the walks ask; one start that fits. -/
import Derived.Test.YtoipapbdepobjaaDoorRows
import Derived.Test.YtoipapbdepobjaaDoorTie
import Derived.Test.YtoipapbdepobjaaDoorCards
import Derived.Test.YtoipapbdepobjaaDoorNumBase
import Derived.Test.YtoipapbdepobjaaDoorMath
import Derived.ProofKit
import Derived.LaidMore
import Derived.OpenShut
import Derived.Stop.Joined
import Derived.Stop.LaidErr
import Derived.Lib.LaidTab
import Derived.SevenTiedAt
namespace Go.Proofs.YtoipapbdepobjaaDoor
open Go.ChangeShapes Go.WideShapes Go.ChangeAt Go.WideMaps Go.WideElems Go.RowKit

theorem own : ownKnob Tryd.prog.godebug = none := by kernel_rfl

theorem bd {a : Int} (h : (Lit.int .i64 a).wf = true) : -9223372036854775808 ≤ a ∧ a ≤ 9223372036854775807 := by
  have e1 : IntKind.i64.min = -9223372036854775808 := rfl
  have e2 : IntKind.i64.max = 9223372036854775807 := rfl
  simp [Lit.wf, e1, e2] at h
  omega

theorem bd8 {a : Int} (h : (Lit.int .u8 a).wf = true) : 0 ≤ a ∧ a ≤ 255 := by
  have e1 : IntKind.u8.min = 0 := rfl
  have e2 : IntKind.u8.max = 255 := rfl
  simp [Lit.wf, e1, e2] at h
  omega

/-- The rows' list. -/
def laidL : List (String × DataW Unit) := [("math/bits.deBruijn32tab", Rows.laid_math_bits_deBruijn32tab), ("math/bits.deBruijn64tab", Rows.laid_math_bits_deBruijn64tab), ("internal/strconv.uint64pow10", Rows.laid_internal_strconv_uint64pow10), ("strconv.ErrRange", Rows.laid_strconv_ErrRange), ("strconv.ErrSyntax", Rows.laid_strconv_ErrSyntax)]

/-- The door's own heap meets the condition. -/
theorem door_met (os : Os) (args : Array Value) : laidMetH Tryd.prog laidL ((World.doorLaid Tryd.prog 400 os).forCall (fun _ _ => 0) ⟨#[], args, []⟩).memory :=
  laidMetH_of_parts3 (fuel := 8) (laidMet_of_run' 8 (by kernel_rfl) (by kernel_rfl)) (by kernel_rfl) (by kernel_rfl)

theorem tTab : (Tryd.prog.globals[2]?).map (·.type) = some 87 := by kernel_rfl
theorem tSyn : (Tryd.prog.globals[0]?).map (·.type) = some 59 := by kernel_rfl
theorem tRng : (Tryd.prog.globals[1]?).map (·.type) = some 59 := by kernel_rfl
theorem cU64 : Tryd.prog.cellsOf 46 = 1 := by kernel_rfl
theorem cTab : Tryd.prog.cellsOf 87 = 20 := by kernel_rfl
theorem cStr : Tryd.prog.cellsOf 9 = 1 := by kernel_rfl
theorem cErr : Tryd.prog.cellsOf 85 = 1 := by kernel_rfl
theorem star : "*errors.errorString" = "*" ++ "errors.errorString" := by decide
theorem rowErr (u : TypeId) (h : Tryd.prog.typeName? 3 u = some "*errors.errorString") : u = 83 :=
  typeName_ptr_named (nm := "errors.errorString") (by rw [← star]; kernel_rfl) (by kernel_rfl) (by decide) u (by rw [← star]; exact h)

theorem of_laid {W : World} (h : laidMetH Tryd.prog laidL W) : Lw W := by
  rw [MakeChecks.laidMetH_plain _ _ _ (by kernel_rfl)] at h
  have h3 := h.tail.tail
  have hT : Lib.TabIs Tryd.prog W "internal/strconv.uint64pow10" .u64 Lib.pow10Tab := Lib.tabIs_of_head gTab tTab Tryd.underlying87 Tryd.underlying46 cU64 cTab h3
  obtain ⟨a1, s1, r1, _⟩ := laid_sentinel h3.tail gRng tRng Tryd.underlying59 rowErr Tryd.underlying83 Tryd.underlying85 rfl rfl Tryd.underlying9 cErr cStr
  obtain ⟨a2, s2, r2, _⟩ := laid_sentinel h3.tail.tail gSyn tSyn Tryd.underlying59 rowErr Tryd.underlying83 Tryd.underlying85 rfl rfl Tryd.underlying9 cErr cStr
  exact ⟨hT, ⟨_, _, r2⟩, ⟨_, _, r1⟩⟩
end Go.Proofs.YtoipapbdepobjaaDoor
