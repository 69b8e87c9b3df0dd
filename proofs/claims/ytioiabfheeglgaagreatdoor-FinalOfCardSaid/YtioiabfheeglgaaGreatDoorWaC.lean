/- A world that has grown, one block aside; cells of numbers. -/
import Derived.Test.YtioiabfheeglgaaGreatDoorPuts
namespace Go.Proofs.YtioiabfheeglgaaGreatDoor
open Go.RowKit

/-- The world has grown; of what was there, block B alone may have turned. -/
def Wa (B : Nat) (w w' : World) : Prop := w.grownBy w' (some B)
section
variable {B : Nat} {w w' w'' x : World}
theorem Wa.refl (B : Nat) (w : World) : Wa B w w := World.grownBy.refl _ _
theorem Wa.trans (h : Wa B w w') (k : Wa B w' w'') : Wa B w w'' := World.grownBy.trans h k
theorem Wa.alloc (h : Wa B w w') (o : Obj) : Wa B w (w'.alloc o) := h.trans (World.grownBy_alloc _ _ _)
theorem Wa.on (h : On w w') : Wa B w w' := ⟨h.os, h.tape, h.output, h.size, fun k hk _ => h.block k hk⟩
theorem Wa.setAt (h : Wa B w w') (i : Nat) (u : Value) : Wa B w (w'.setCell ⟨B, i, none⟩ u) := by
  refine ⟨h.os, h.tape, h.output, by rw [size_set]; exact h.size, fun k hk hne => ?_⟩
  exact (Below.heap_setCell _ _ _ _ (fun e => hne (by rw [e]))).trans (h.block k hk hne)
theorem Wa.setNew (h : Wa B w w') {N : Nat} (hN : w.heap.size ≤ N) (i : Nat) (u : Value) : Wa B w (w'.setCell ⟨N, i, none⟩ u) := by
  refine ⟨h.os, h.tape, h.output, by rw [size_set]; exact h.size, fun k hk hne => ?_⟩
  exact (Below.heap_setCell _ _ _ _ (fun e => by have e' : k = N := e; omega)).trans (h.block k hk hne)
theorem Wa.grown {v : Value} (h : Wa B w w') (hg : w'.grownBy w'' v.ownBlock) (hv : ∀ g, v.ownBlock = some g → w.heap.size ≤ g) : Wa B w w'' :=
  ⟨hg.os.trans h.os, hg.tape.trans h.tape, hg.output.trans h.output, Nat.le_trans h.size hg.size, fun k hk hne => (hg.block k (Nat.lt_of_lt_of_le hk h.size) (fun e => by have := hv k e.symm; omega)).trans (h.block k hk hne)⟩
theorem Wa.drew (h : Wa B w w') : Wa B w w'.drew := ⟨h.os, h.tape, h.output, h.size, h.block⟩
theorem Bk.wa {N : Nat} {cs : Array Value} (h : Bk w N cs) (k : Wa B w w') (hne : N ≠ B) : Bk w' N cs := by
  obtain ⟨T, e⟩ := h
  exact ⟨T, (k.block N (lt_of_block e) (fun h => hne (Option.some.inj h))).trans e⟩
theorem own_wa {base k n : Nat} {e : TypeId} {v : Value} {xs : List Value} (h : w.ownsRow base e k v n xs) (kk : Wa B w w') (hB : B < base) : w'.ownsRow base e k v n xs := by
  refine ⟨h.1, ?_⟩
  rcases h.2 with h2 | ⟨g, cap, cur, hv, hb, hh, r⟩
  · exact Or.inl h2
  · exact Or.inr ⟨g, cap, cur, hv, hb, (kk.block g (lt_of_block hh) (fun h => by have := Option.some.inj h; omega)).trans hh, r⟩
theorem Own2.wa {α : Type} {C : α → List Value} {k : Nat} {eo ei : TypeId} {base : Nat} {v : Value} {LL : List (List α)} (h : Own2 C k eo ei w base v LL) (kk : Wa B w w') (hB : B < base) : Own2 C k eo ei w' base v LL := by
  obtain ⟨vs, h1, h2, h3⟩ := h
  exact ⟨vs, h1, own_wa h2 kk hB, fun i u L a b => own_wa (h3 i u L a b) kk hB⟩
theorem On.wa (h : On x w) (k : Wa B w w') (hB : x.heap.size ≤ B) : On x w' :=
  ⟨k.os.trans h.os, k.tape.trans h.tape, k.output.trans h.output, Nat.le_trans h.size k.size, fun i hi => (k.block i (Nat.lt_of_lt_of_le hi h.size) (fun e => by have := Option.some.inj e; omega)).trans (h.block i hi)⟩
end
def intC (z : Int) : List Value := [.int .i64 z]
end Go.Proofs.YtioiabfheeglgaaGreatDoor
