/- Relations: Inverse, Closure, Acyclic. -/
import Derived.Test.YthbiaojefmdcmaaDoorRelG
namespace Go.Proofs.YthbiaojefmdcmaaDoor
open Go.RowKit

theorem uptoR_over (z : RelT) (g h : Nat → Nat) (n : Nat) : uptoR (uptoR z g n) h n = uptoR z h n := by
  unfold uptoR
  congr 1
  funext j
  by_cases hj : j < n <;> simp [hj]
/-- Who leads to j, of those below a. -/
def invN (r : RelT) (j : Nat) : Nat → Nat
  | 0 => 0
  | a + 1 => if hasI (r.f a) j then withI (invN r j a) a else invN r j a
theorem inv_lt (r : RelT) (j : Nat) : ∀ a, invN r j a < 18446744073709551616
  | 0 => by unfold invN; decide
  | a + 1 => by
    unfold invN
    split
    · exact with_lt _ _ (inv_lt r j a)
    · exact inv_lt r j a
def invR (r : RelT) : RelT := uptoR (newR r.n) (fun j => invN r j r.n) r.n
theorem inv_wr {r : RelT} (_ : Wr r) : Wr (invR r) := by
  refine ⟨Nat.min_le_right _ _, fun j => ?_⟩
  show (if j < r.n then invN r j r.n else 0) < _
  split
  · exact inv_lt r j _
  · decide
end Go.Proofs.YthbiaojefmdcmaaDoor
