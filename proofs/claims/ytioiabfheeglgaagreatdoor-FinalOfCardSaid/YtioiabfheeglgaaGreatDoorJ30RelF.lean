/- Relations: two over the lesser N. -/
import Derived.Test.YtioiabfheeglgaaGreatDoorJ29RelD
namespace Go.Proofs.YtioiabfheeglgaaGreatDoor
open Go.RowKit

def belowR (r : RelT) (n : Nat) : RelT := ⟨n, (keepR r (uptoI n)).f⟩
theorem upto_lt (n : Int) : uptoI n < 18446744073709551616 := by
 unfold uptoI
 split
 ·
  decide
 ·
  split
  ·
   decide
  ·
   have : 2 ^ n.toNat ≤ 2 ^ 63 := Nat.pow_le_pow_right (by decide) (by omega)
   have e : (2 : Nat) ^ 63 = 9223372036854775808 := by decide
   omega
end Go.Proofs.YtioiabfheeglgaaGreatDoor

namespace Go.Proofs.YtioiabfheeglgaaGreatDoor
open Go.RowKit

theorem and_lt64 {a : Nat} (b : Nat) (h : a < 18446744073709551616) : a &&& b < 18446744073709551616 := Nat.lt_of_le_of_lt Nat.and_le_left h
theorem keep_wr {r : RelT} (h : Wr r) (s : Nat) : Wr (keepR r s) := by
 refine ⟨Nat.min_le_right _ _, fun j => ?_⟩
 show (if j < r.n then keepG r s j else 0) < _
 split
 ·
  unfold keepG
  split
  ·
   exact and_lt64 _ (h.w j)
  ·
   decide
 ·
  decide
theorem below_wr {r : RelT} (h : Wr r) {n : Nat} (hn : n ≤ 64) : Wr (belowR r n) := ⟨hn, (keep_wr h _).w⟩
end Go.Proofs.YtioiabfheeglgaaGreatDoor
