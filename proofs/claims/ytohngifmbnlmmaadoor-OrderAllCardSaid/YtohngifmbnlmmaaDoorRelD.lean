/- Relations: Keep, and two over the lesser N. -/
import Derived.Test.YtohngifmbnlmmaaDoorRelC
import Derived.Deep.LoopGhost
namespace Go.Proofs.YtohngifmbnlmmaaDoor
open Go.RowKit

def keepG (r : RelT) (s : Nat) (j : Nat) : Nat := if hasI s j then r.f j &&& s else 0
def keepR (r : RelT) (s : Nat) : RelT := uptoR (newR r.n) (keepG r s) r.n
theorem size2 (w : World) (A B : Obj) : ((w.alloc A).alloc B).heap.size = w.heap.size + 2 := by rw [World.size_alloc, World.size_alloc]
end Go.Proofs.YtohngifmbnlmmaaDoor
