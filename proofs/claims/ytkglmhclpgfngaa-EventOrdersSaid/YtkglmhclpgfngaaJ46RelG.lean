/- Relations: Union, Minus, Meet. -/
import Derived.Test.YtkglmhclpgfngaaJ45RelE
import Derived.Test.YtkglmhclpgfngaaRegFin3
namespace Go.Proofs.Ytkglmhclpgfngaa
open Go.RowKit

theorem and_lt64 {a : Nat} (b : Nat) (h : a < 18446744073709551616) : a &&& b < 18446744073709551616 := Nat.lt_of_le_of_lt Nat.and_le_left h
theorem keep_wr {r : RelT} (h : Wr r) (s : Nat) : Wr (keepR r s) := by
  refine ⟨Nat.min_le_right _ _, fun j => ?_⟩
  show (if j < r.n then keepG r s j else 0) < _
  split
  · unfold keepG
    split
    · exact and_lt64 _ (h.w j)
    · decide
  · decide
theorem below_wr {r : RelT} (h : Wr r) {n : Nat} (hn : n ≤ 64) : Wr (belowR r n) := ⟨hn, (keep_wr h _).w⟩
end Go.Proofs.Ytkglmhclpgfngaa

namespace Go.Proofs.Ytkglmhclpgfngaa
open Go.RowKit

def fromN (r : RelT) (s : Nat) : Nat → Nat
  | 0 => 0
  | i + 1 => if hasI s i then fromN r s i ||| r.f i else fromN r s i
theorem from_lt {r : RelT} (h : Wr r) (s : Nat) : ∀ i, fromN r s i < 18446744073709551616
  | 0 => by unfold fromN; decide
  | i + 1 => by
    unfold fromN
    split
    · exact Nat.or_lt_two_pow (n := 64) (from_lt h s i) (h.w i)
    · exact from_lt h s i
def thenG (a b : RelT) (j : Nat) : Nat := fromN b (a.f j) b.n
def thenR (r o : RelT) : RelT := uptoR (belowR r (min r.n o.n)) (thenG (belowR r (min r.n o.n)) (belowR o (min r.n o.n))) (min r.n o.n)
theorem then_wr {r o : RelT} (hr : Wr r) (ho : Wr o) : Wr (thenR r o) := by
  have hm : min r.n o.n ≤ 64 := by have := hr.n; omega
  have ha := below_wr hr hm
  have hb := below_wr ho hm
  refine ⟨hm, fun j => ?_⟩
  unfold thenR
  generalize belowR r (min r.n o.n) = a at *
  generalize belowR o (min r.n o.n) = b at *
  show (if j < min r.n o.n then thenG a b j else a.f j) < _
  split
  · exact from_lt hb _ _
  · exact ha.w j
end Go.Proofs.Ytkglmhclpgfngaa
