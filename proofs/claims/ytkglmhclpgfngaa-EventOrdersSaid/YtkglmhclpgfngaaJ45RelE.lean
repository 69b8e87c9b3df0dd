/- Relations: Keep, and two over the lesser N. -/
import Derived.Test.YtkglmhclpgfngaaRelC
import Derived.Deep.LoopGhost
namespace Go.Proofs.Ytkglmhclpgfngaa
open Go.RowKit

def keepG (r : RelT) (s : Nat) (j : Nat) : Nat := if hasI s j then r.f j &&& s else 0
def keepR (r : RelT) (s : Nat) : RelT := uptoR (newR r.n) (keepG r s) r.n
theorem size2 (w : World) (A B : Obj) : ((w.alloc A).alloc B).heap.size = w.heap.size + 2 := by rw [World.size_alloc, World.size_alloc]
end Go.Proofs.Ytkglmhclpgfngaa

namespace Go.Proofs.Ytkglmhclpgfngaa
open Go.RowKit

def belowR (r : RelT) (n : Nat) : RelT := ⟨n, (keepR r (uptoI n)).f⟩
theorem upto_lt (n : Int) : uptoI n < 18446744073709551616 := by
  unfold uptoI
  split
  · decide
  · split
    · decide
    · have : 2 ^ n.toNat ≤ 2 ^ 63 := Nat.pow_le_pow_right (by decide) (by omega)
      have e : (2 : Nat) ^ 63 = 9223372036854775808 := by decide
      omega
theorem two65 {fn : Func} {q p : Tmp} {tmps : Array Value} {w : World} {N M : Nat} {r o : RelT} (hf : fn.results = #[.cell q 54, .cell p 54]) (hp : tmps.getD q undef = .pointer (some ⟨N, 0, none⟩)) (hq : tmps.getD p undef = .pointer (some ⟨M, 0, none⟩)) (h : Bk w N (relA r)) (k : Bk w M (relA o)) :
    (results fn tmps).run Try.prog w = .ok (.tuple #[.agg (relA r), .agg (relA o)]) w := by
  obtain ⟨T, e⟩ := h
  obtain ⟨T', e'⟩ := k
  obtain ⟨_, hi⟩ := zero_of_info rel_info
  have l1 := run_loadVar_row (P := Try.prog) w N T 54 (relA r) (0, 0) _ e Try.underlying54 rfl (by rw [hi, relA_size])
  have l2 := run_loadVar_row (P := Try.prog) w M T' 54 (relA o) (0, 0) _ e' Try.underlying54 rfl (by rw [hi, relA_size])
  have hp' : tmps[q]?.getD undef = .pointer (some ⟨N, 0, none⟩) := by simpa using hp
  have hq' : tmps[p]?.getD undef = .pointer (some ⟨M, 0, none⟩) := by simpa using hq
  simp [results, hf, hp', hq', asAddr, l1, l2]
end Go.Proofs.Ytkglmhclpgfngaa
