/- Relations: Inverse, Closure, Acyclic. -/
import Derived.Test.YtkglmhclpgfngaaJ46RelG
namespace Go.Proofs.Ytkglmhclpgfngaa
open Go.RowKit

theorem uptoR_over (z : RelT) (g h : Nat → Nat) (n : Nat) : uptoR (uptoR z g n) h n = uptoR z h n := by
  unfold uptoR
  congr 1
  funext j
  by_cases hj : j < n <;> simp [hj]
/-- Who leads to j, of those below a. -/
def invN (r : RelT) (j : Nat) : Nat → Nat
  | 0 => 0
  | a + 1 => if hasI (r.f a) j then withI (invN r j a) a else invN r j a
theorem inv_lt (r : RelT) (j : Nat) : ∀ a, invN r j a < 18446744073709551616
  | 0 => by unfold invN; decide
  | a + 1 => by
    unfold invN
    split
    · exact with_lt _ _ (inv_lt r j a)
    · exact inv_lt r j a
def invR (r : RelT) : RelT := uptoR (newR r.n) (fun j => invN r j r.n) r.n
theorem inv_wr {r : RelT} (_ : Wr r) : Wr (invR r) := by
  refine ⟨Nat.min_le_right _ _, fun j => ?_⟩
  show (if j < r.n then invN r j r.n else 0) < _
  split
  · exact inv_lt r j _
  · decide
end Go.Proofs.Ytkglmhclpgfngaa

namespace Go.Proofs.Ytkglmhclpgfngaa
open Go.RowKit

def cloG (r : RelT) (b a : Nat) : Nat := if hasI (r.f a) b then r.f a ||| r.f b else r.f a
/-- b turns of the closure's outer loop. -/
def cloN (r : RelT) : Nat → RelT
  | 0 => r
  | b + 1 => uptoR (cloN r b) (cloG (cloN r b) b) r.n
theorem cloN_n (r : RelT) : ∀ b, (cloN r b).n = r.n
  | 0 => rfl
  | b + 1 => cloN_n r b
theorem cloG_lt {r : RelT} (h : ∀ a, r.f a < 18446744073709551616) (b a : Nat) : cloG r b a < 18446744073709551616 := by
  unfold cloG
  split
  · exact Nat.or_lt_two_pow (n := 64) (h a) (h b)
  · exact h a
theorem cloN_lt {r : RelT} (h : Wr r) : ∀ b a, (cloN r b).f a < 18446744073709551616
  | 0, a => h.w a
  | b + 1, a => by
    show (if a < r.n then cloG (cloN r b) b a else (cloN r b).f a) < _
    split
    · exact cloG_lt (cloN_lt h b) b a
    · exact cloN_lt h b a
def closeR (r : RelT) : RelT := cloN r r.n
theorem close_n (r : RelT) : (closeR r).n = r.n := cloN_n r _
theorem close_wr {r : RelT} (h : Wr r) : Wr (closeR r) := ⟨by rw [close_n]; exact h.n, cloN_lt h _⟩
theorem cloG_self (r : RelT) (b : Nat) : cloG r b b = r.f b := by
  unfold cloG
  split
  · rw [Nat.or_self]
  · rfl
/-- No number below n leads to itself. -/
def noSelf (r : RelT) : Nat → Bool
  | 0 => true
  | n + 1 => noSelf r n && !hasI (r.f n) n
def acycR (r : RelT) : Bool := noSelf (closeR r) r.n
theorem noSelf_mono (r : RelT) (i : Nat) : ∀ n, i < n → hasI (r.f i) i = true → noSelf r n = false
  | 0, h, _ => by omega
  | n + 1, h, hb => by
    unfold noSelf
    by_cases he : i = n
    · subst he; rw [hb]; simp
    · rw [noSelf_mono r i n (by omega) hb]; rfl
end Go.Proofs.Ytkglmhclpgfngaa
