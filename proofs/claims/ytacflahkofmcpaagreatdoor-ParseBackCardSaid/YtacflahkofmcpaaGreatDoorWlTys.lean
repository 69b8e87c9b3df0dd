/- Blocks told apart by their types. -/
import Derived.Test.YtacflahkofmcpaaGreatDoorJ23WlSmallH
import Derived.Test.YtacflahkofmcpaaGreatDoorWlRowPut
namespace Go.Proofs.YtacflahkofmcpaaGreatDoor.Wl
open Go.RowKit

section
variable {w w' : World} {N base k n : Nat} {cs : Array Value} {T e : TypeId} {v : Value} {xs : List Value}
theorem Ty.on (h : w.heap[N]? = some (.cells cs T (0, 0))) (o : On w w') : w'.heap[N]? = some (.cells cs T (0, 0)) := (o.block N (lt_of_block h)).trans h
theorem Ty.grown (h : w.heap[N]? = some (.cells cs T (0, 0))) (ho : w.ownsRow base e k v n xs) (hne : e ≠ T) (hg : w.grownBy w' v.ownBlock) : w'.heap[N]? = some (.cells cs T (0, 0)) := by
  refine (hg.block N (lt_of_block h) (fun eq => ?_)).trans h
  rcases ho.2 with ⟨hv, _⟩ | ⟨g, cap, cur, hv, hb, hh, _⟩
  · rw [hv] at eq; cases eq
  · rw [hv] at eq
    simp only [Value.ownBlock, Option.some.injEq] at eq
    subst eq
    rw [h] at hh
    simp only [Option.some.injEq, Obj.cells.injEq] at hh
    exact hne hh.2.1.symm
theorem own_drew (h : w.ownsRow base e k v n xs) : w.drew.ownsRow base e k v n xs := h
theorem own_setT (ho : w.ownsRow base e k v n xs) (h : w.heap[N]? = some (.cells cs T (0, 0))) (hne : e ≠ T) (i : Nat) (u : Value) : (w.setCell ⟨N, i, none⟩ u).ownsRow base e k v n xs := by
  refine ⟨ho.1, ?_⟩
  rcases ho.2 with h2 | ⟨g, cap, cur, hv, hb, hh, r⟩
  · exact Or.inl h2
  · refine Or.inr ⟨g, cap, cur, hv, hb, (Below.heap_setCell _ _ _ _ ?_).trans hh, r⟩
    show g ≠ N
    rintro rfl
    rw [h] at hh
    simp only [Option.some.injEq, Obj.cells.injEq] at hh
    exact hne hh.2.1.symm
theorem own_putsT {N : Nat} {T : TypeId} (hne : e ≠ T) : ∀ (vs : List Value) (w : World) (cs : List Value) (o : Nat), w.ownsRow base e k v n xs → w.heap[N]? = some (.cells cs.toArray T (0, 0)) → (putCells w N o vs).ownsRow base e k v n xs
  | [], _, _, _, h, _ => h
  | u :: vs, _, _, o, h, ht => own_putsT hne vs _ _ _ (own_setT h ht hne o u) (heap_put ht o u)
theorem news_eq {W : World} {n : Nat} (hn : W.heap.size = n) (cs : Array Value) (e : TypeId) : ∀ (j : Nat) (u : Value), cs.toList[j]? = some u → (W.alloc (.cells cs e)).cell? ((⟨n, 0, none⟩ : Addr).add j) = some u := by
  subst hn
  exact news_at W cs e
end
theorem heap_new_eq {W : World} {n : Nat} (hn : W.heap.size = n) (o : Obj) : (W.alloc o).heap[n]? = some o := by
  subst hn
  exact heap_alloc_new W o
end Go.Proofs.YtacflahkofmcpaaGreatDoor.Wl
