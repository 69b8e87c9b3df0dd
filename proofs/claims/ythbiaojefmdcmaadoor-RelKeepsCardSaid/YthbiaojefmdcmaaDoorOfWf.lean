/- A relation made of pairs leads among its numbers alone. -/
import Derived.Test.YthbiaojefmdcmaaDoorRelK
import Derived.Test.YthbiaojefmdcmaaDoorRelP
namespace Go.Proofs.YthbiaojefmdcmaaDoor
open Go.RowKit

theorem ofL_wf : ∀ (L : List (Int × Int)) (r : RelT), Wf r → Wf (ofL r L)
  | [], _, h => h
  | p :: L, _, h => ofL_wf L _ (add_wf h p.1 p.2)
theorem of_wf (n : Int) (L : List (Int × Int)) : Wf (ofR n L) := ofL_wf _ _ (new_wf n)
end Go.Proofs.YthbiaojefmdcmaaDoor
