/- A whole block's cells set at once. -/
import Derived.Test.YtnoeofbjnogkmaaHeap
import Derived.Laws.Tables
import Derived.Laws.Cells
namespace Go.Proofs.Ytnoeofbjnogkmaa
open Go.RowKit

theorem Bk.row {W : World} {N : Nat} {old : Array Value} (h : Bk W N old) (cs : Array Value) : Bk (W.setRow N cs) N cs := by
  obtain ⟨T, e⟩ := h
  exact ⟨T, setRow_heap W N old cs T _ e⟩
theorem Bk.rowFar {W : World} {N M : Nat} {cs : Array Value} (h : Bk W M cs) (hne : N ≠ M) (c : Array Value) : Bk (W.setRow N c) M cs := by
  obtain ⟨T, e⟩ := h
  exact ⟨T, (setRow_other W N M c (fun h => hne h.symm)).trans e⟩
theorem On.row {w x : World} {N : Nat} (h : On w x) (hN : w.heap.size ≤ N) (cs : Array Value) : On w (x.setRow N cs) :=
  ⟨h.os, h.tape, h.output, by rw [size_setRow]; exact h.size, fun k hk => (setRow_other x N k cs (by omega)).trans (h.block k hk)⟩
theorem Bk.drew' {W : World} {N : Nat} {cs : Array Value} (h : Bk W N cs) : Bk W.drew N cs := h
end Go.Proofs.Ytnoeofbjnogkmaa
