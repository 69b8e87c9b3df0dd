/- Relations: Row, Has, Add. -/
import Derived.Test.YtioiabfheeglgaaGreatDoorJ26CopyK
import Derived.Deep.LoopGhost
namespace Go.Proofs.YtioiabfheeglgaaGreatDoor
open Go.RowKit

structure Wr (r : RelT) : Prop where
 n : r.n ≤ 64
 w : ∀ a, r.f a < 18446744073709551616
def rowR (r : RelT) (a : Int) : Nat := if overR r a then r.f a.toNat else 0
def hasR (r : RelT) (a b : Int) : Bool := hasI (rowR r a) b
theorem row_lt {r : RelT} (h : Wr r) (a : Int) : rowR r a < 18446744073709551616 := by unfold rowR; split; exact h.w _; decide
def addR (r : RelT) (a b : Int) : RelT := if overR r a && overR r b then ⟨r.n, fun j => if j = a.toNat then withI (r.f a.toNat) b else r.f j⟩ else r
theorem add_n (r : RelT) (a b : Int) : (addR r a b).n = r.n := by unfold addR; split <;> rfl
theorem add_wr {r : RelT} (h : Wr r) (a b : Int) : Wr (addR r a b) := by
 refine ⟨by rw [add_n]; exact h.n, fun j => ?_⟩
 unfold addR
 split
 ·
  show (if j = a.toNat then withI (r.f a.toNat) b else r.f j) < _
  split
  ·
   exact with_lt _ _ (h.w _)
  ·
   exact h.w _
 ·
  exact h.w _
end Go.Proofs.YtioiabfheeglgaaGreatDoor

namespace Go.Proofs.YtioiabfheeglgaaGreatDoor
open Go.RowKit

def keepG (r : RelT) (s : Nat) (j : Nat) : Nat := if hasI s j then r.f j &&& s else 0
def keepR (r : RelT) (s : Nat) : RelT := uptoR (newR r.n) (keepG r s) r.n
theorem size2 (w : World) (A B : Obj) : ((w.alloc A).alloc B).heap.size = w.heap.size + 2 := by rw [World.size_alloc, World.size_alloc]
end Go.Proofs.YtioiabfheeglgaaGreatDoor
