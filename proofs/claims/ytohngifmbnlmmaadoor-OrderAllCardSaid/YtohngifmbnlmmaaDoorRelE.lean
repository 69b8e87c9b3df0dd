/- Relations: two over the lesser N. -/
import Derived.Test.YtohngifmbnlmmaaDoorRelD
namespace Go.Proofs.YtohngifmbnlmmaaDoor
open Go.RowKit

def belowR (r : RelT) (n : Nat) : RelT := ⟨n, (keepR r (uptoI n)).f⟩
theorem upto_lt (n : Int) : uptoI n < 18446744073709551616 := by
  unfold uptoI
  split
  · decide
  · split
    · decide
    · have : 2 ^ n.toNat ≤ 2 ^ 63 := Nat.pow_le_pow_right (by decide) (by omega)
      have e : (2 : Nat) ^ 63 = 9223372036854775808 := by decide
      omega
theorem two65 {fn : Func} {q p : Tmp} {tmps : Array Value} {w : World} {N M : Nat} {r o : RelT} (hf : fn.results = #[.cell q 27, .cell p 27]) (hp : tmps.getD q undef = .pointer (some ⟨N, 0, none⟩)) (hq : tmps.getD p undef = .pointer (some ⟨M, 0, none⟩)) (h : Bk w N (relA r)) (k : Bk w M (relA o)) :
    (results fn tmps).run Tryd.prog w = .ok (.tuple #[.agg (relA r), .agg (relA o)]) w := by
  obtain ⟨T, e⟩ := h
  obtain ⟨T', e'⟩ := k
  obtain ⟨_, hi⟩ := zero_of_info rel_info
  have l1 := run_loadVar_row (P := Tryd.prog) w N T 27 (relA r) (0, 0) _ e Tryd.underlying27 rfl (by rw [hi, relA_size])
  have l2 := run_loadVar_row (P := Tryd.prog) w M T' 27 (relA o) (0, 0) _ e' Tryd.underlying27 rfl (by rw [hi, relA_size])
  have hp' : tmps[q]?.getD undef = .pointer (some ⟨N, 0, none⟩) := by simpa using hp
  have hq' : tmps[p]?.getD undef = .pointer (some ⟨M, 0, none⟩) := by simpa using hq
  simp [results, hf, hp', hq', asAddr, l1, l2]
end Go.Proofs.YtohngifmbnlmmaaDoor
