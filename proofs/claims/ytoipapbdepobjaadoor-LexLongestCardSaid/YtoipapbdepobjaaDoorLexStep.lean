/- All's answer, token by token. -/
import Derived.Test.YtoipapbdepobjaaDoorLexAwake
import Derived.Test.YtoipapbdepobjaaDoorLexFacts
namespace Go.Proofs.YtoipapbdepobjaaDoor
open Go.RowKit

theorem Tks.len {w : World} {v : Value} {ts : List Tk} (h : Tks w v ts) : ∃ ao cap, v = .slice ao ts.length cap := by
  rcases h with ⟨rfl, rfl⟩ | ⟨g, cap, rfl, _⟩
  · exact ⟨none, 0, rfl⟩
  · exact ⟨_, cap, rfl⟩
theorem ep_le (s : ByteArray) : epA s ≤ s.size := by
  unfold epA epS
  split
  · omega
  · exact (al_place pB s (s.size - 0) 0 (Nat.le_refl _) (Nat.zero_le _)).1
theorem ts_err {s : ByteArray} (h : ecA s ≠ 0) : tsA s = [] := by
  unfold tsA tsS ecA ecS at *
  split
  · rfl
  · rename_i hs
    rw [if_neg hs] at h
    rw [if_neg h]
theorem ts_ok {s : ByteArray} (h : ecA s = 0) : s.size ≤ 4000 ∧ al pB s 0 = (tsA s, 0, 0) ∧ epA s = 0 := by
  unfold tsA tsS epA epS ecA ecS at *
  by_cases hs : 4000 < s.size
  · rw [if_pos hs] at h; omega
  · simp only [hs, if_false] at h ⊢
    simp only [h, if_true]
    have := (al_place pB s (s.size - 0) 0 (Nat.le_refl _) (Nat.zero_le _)).2 h
    exact ⟨by omega, Prod.ext rfl (Prod.ext h this), this⟩

theorem cells_at {w w1 : World} {g n : Nat} {ts : List Tk} {t : Tk} (h : ∀ i u, (tksC ts)[i]? = some u → w1.cell? ⟨g, i, none⟩ = some u) (hg : g < w1.heap.size) (k : On w1 w) (ht : ts[n]? = some t) :
    w.cell? ⟨g, n * 3, none⟩ = some (.int .i64 t.k) ∧ w.cell? ⟨g, n * 3 + 1, none⟩ = some (.string t.x) ∧ w.cell? ⟨g, n * 3 + 2, none⟩ = some (.int .i64 t.p) := by
  obtain ⟨a, b, c⟩ := tksC_get ts n t ht
  rw [Nat.mul_comm 3 n] at a b c
  exact ⟨(k.cell (p := ⟨g, n * 3, none⟩) hg).trans (h _ _ a), (k.cell (p := ⟨g, n * 3 + 1, none⟩) hg).trans (h _ _ b), (k.cell (p := ⟨g, n * 3 + 2, none⟩) hg).trans (h _ _ c)⟩

end Go.Proofs.YtoipapbdepobjaaDoor
