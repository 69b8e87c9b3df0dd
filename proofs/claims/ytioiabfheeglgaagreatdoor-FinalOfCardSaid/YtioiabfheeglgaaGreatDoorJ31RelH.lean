/- Relations: from, Then. -/
import Derived.Test.YtioiabfheeglgaaGreatDoorJ30RelF
import Derived.Test.YtioiabfheeglgaaGreatDoorJ03RegGrow
namespace Go.Proofs.YtioiabfheeglgaaGreatDoor
open Go.RowKit

def fromN (r : RelT) (s : Nat) : Nat → Nat
 | 0 => 0
 | i + 1 => if hasI s i then fromN r s i ||| r.f i else fromN r s i
theorem from_lt {r : RelT} (h : Wr r) (s : Nat) : ∀ i, fromN r s i < 18446744073709551616
 | 0 => by unfold fromN; decide
 | i + 1 => by
  unfold fromN
  split
  ·
   exact Nat.or_lt_two_pow (n := 64) (from_lt h s i) (h.w i)
  ·
   exact from_lt h s i
def thenG (a b : RelT) (j : Nat) : Nat := fromN b (a.f j) b.n
def thenR (r o : RelT) : RelT := uptoR (belowR r (min r.n o.n)) (thenG (belowR r (min r.n o.n)) (belowR o (min r.n o.n))) (min r.n o.n)
theorem then_wr {r o : RelT} (hr : Wr r) (ho : Wr o) : Wr (thenR r o) := by
 have hm : min r.n o.n ≤ 64 := by have := hr.n; omega
 have ha := below_wr hr hm
 have hb := below_wr ho hm
 refine ⟨hm, fun j => ?_⟩
 unfold thenR
 generalize belowR r (min r.n o.n) = a at *
 generalize belowR o (min r.n o.n) = b at *
 show (if j < min r.n o.n then thenG a b j else a.f j) < _
 split
 ·
  exact from_lt hb _ _
 ·
  exact ha.w j
end Go.Proofs.YtioiabfheeglgaaGreatDoor

namespace Go.Proofs.YtioiabfheeglgaaGreatDoor
open Go.RowKit

theorem uptoR_over (z : RelT) (g h : Nat → Nat) (n : Nat) : uptoR (uptoR z g n) h n = uptoR z h n := by
 unfold uptoR
 congr 1
 funext j
 by_cases hj : j < n <;> simp [hj]
/-- Who leads to j, of those below a. -/
def invN (r : RelT) (j : Nat) : Nat → Nat
 | 0 => 0
 | a + 1 => if hasI (r.f a) j then withI (invN r j a) a else invN r j a
theorem inv_none (r : RelT) {Z : RelT} {n : Nat} (h : Z = newR n) : uptoR Z (fun j => invN r j 0) n = Z := by
 subst h
 have e : (fun j => if j < n then invN r j 0 else (newR n).f j) = (newR n).f := by
  funext j
  split <;> rfl
 unfold uptoR
 rw [e]
theorem inv_lt (r : RelT) (j : Nat) : ∀ a, invN r j a < 18446744073709551616
 | 0 => by unfold invN; decide
 | a + 1 => by
  unfold invN
  split
  ·
   exact with_lt _ _ (inv_lt r j a)
  ·
   exact inv_lt r j a
def invR (r : RelT) : RelT := uptoR (newR r.n) (fun j => invN r j r.n) r.n
theorem inv_wr {r : RelT} (_ : Wr r) : Wr (invR r) := by
 refine ⟨Nat.min_le_right _ _, fun j => ?_⟩
 show (if j < r.n then invN r j r.n else 0) < _
 split
 ·
  exact inv_lt r j _
 ·
  decide
end Go.Proofs.YtioiabfheeglgaaGreatDoor
