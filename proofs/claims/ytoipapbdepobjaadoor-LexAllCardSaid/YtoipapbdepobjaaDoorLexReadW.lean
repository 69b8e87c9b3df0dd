/- Read: how many bytes were looked at. -/
import Derived.Test.YtoipapbdepobjaaDoorLexNext
namespace Go.Proofs.YtoipapbdepobjaaDoor
open Go.RowKit

theorem read_is (w : World) (b : Nat) (s : ByteArray) (a r : Nat) (hl : Lx w b s a r) :
    Calls Tryd.prog 14 #[.pointer (some ⟨b, 0, none⟩)] w fun e w' => e = .returned (.int .i64 r) ∧ w' = w := by
  have c2 := hl.c2
  clear hl
  go_enter Tryd.func14, Tryd.ntmps14
  go_wp2
  go_ret
  exact ⟨rfl, rfl⟩

end Go.Proofs.YtoipapbdepobjaaDoor
