/- Relations: Closure, Acyclic. -/
import Derived.Test.YtohngifmbnlmmabDoorRelH
namespace Go.Proofs.YtohngifmbnlmmabDoor
open Go.RowKit

def cloG (r : RelT) (b a : Nat) : Nat := if hasI (r.f a) b then r.f a ||| r.f b else r.f a
/-- b turns of the closure's outer loop. -/
def cloN (r : RelT) : Nat → RelT
  | 0 => r
  | b + 1 => uptoR (cloN r b) (cloG (cloN r b) b) r.n
theorem cloN_n (r : RelT) : ∀ b, (cloN r b).n = r.n
  | 0 => rfl
  | b + 1 => cloN_n r b
theorem cloG_lt {r : RelT} (h : ∀ a, r.f a < 18446744073709551616) (b a : Nat) : cloG r b a < 18446744073709551616 := by
  unfold cloG
  split
  · exact Nat.or_lt_two_pow (n := 64) (h a) (h b)
  · exact h a
theorem cloN_lt {r : RelT} (h : Wr r) : ∀ b a, (cloN r b).f a < 18446744073709551616
  | 0, a => h.w a
  | b + 1, a => by
    show (if a < r.n then cloG (cloN r b) b a else (cloN r b).f a) < _
    split
    · exact cloG_lt (cloN_lt h b) b a
    · exact cloN_lt h b a
def closeR (r : RelT) : RelT := cloN r r.n
theorem close_n (r : RelT) : (closeR r).n = r.n := cloN_n r _
theorem close_wr {r : RelT} (h : Wr r) : Wr (closeR r) := ⟨by rw [close_n]; exact h.n, cloN_lt h _⟩
theorem cloG_self (r : RelT) (b : Nat) : cloG r b b = r.f b := by
  unfold cloG
  split
  · rw [Nat.or_self]
  · rfl
/-- No number below n leads to itself. -/
def noSelf (r : RelT) : Nat → Bool
  | 0 => true
  | n + 1 => noSelf r n && !hasI (r.f n) n
def acycR (r : RelT) : Bool := noSelf (closeR r) r.n
theorem noSelf_mono (r : RelT) (i : Nat) : ∀ n, i < n → hasI (r.f i) i = true → noSelf r n = false
  | 0, h, _ => by omega
  | n + 1, h, hb => by
    unfold noSelf
    by_cases he : i = n
    · subst he; rw [hb]; simp
    · rw [noSelf_mono r i n (by omega) hb]; rfl
end Go.Proofs.YtohngifmbnlmmabDoor
