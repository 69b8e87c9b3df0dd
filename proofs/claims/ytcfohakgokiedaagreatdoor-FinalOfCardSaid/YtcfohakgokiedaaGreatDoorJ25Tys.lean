/- A thing of a row that the call owns is written anew. -/
import Derived.Test.YtcfohakgokiedaaGreatDoorJ23SmallA
import Derived.Test.YtcfohakgokiedaaGreatDoorJ24SmallH
namespace Go.Proofs.YtcfohakgokiedaaGreatDoor
open Go.RowKit

theorem putAt_left : ∀ (vs a s : List Value) (o : Nat), o + vs.length ≤ a.length → putAt (a ++ s) o vs = putAt a o vs ++ s
 | [], _, _, _, _ => rfl
 | v :: vs, a, s, o, h => by
  simp only [List.length_cons] at h
  rw [putAt, putAt, List.set_append_left _ _ (by omega)]
  exact putAt_left vs _ _ _ (by simp; omega)
theorem heap_put {w : World} {N : Nat} {cs : List Value} {T : TypeId} (h : w.heap[N]? = some (.cells cs.toArray T (0, 0))) (o : Nat) (v : Value) : (w.setCell ⟨N, o, none⟩ v).heap[N]? = some (.cells (cs.set o v).toArray T (0, 0)) := by
 have hs : (cs.set o v).toArray = cs.toArray.setIfInBounds o v := by simp
 rw [hs]
 simp [World.setCell, Array.getElem?_modify, h]
theorem heap_puts {N : Nat} {T : TypeId} : ∀ (vs : List Value) (w : World) (cs : List Value) (o : Nat), w.heap[N]? = some (.cells cs.toArray T (0, 0)) → (putCells w N o vs).heap[N]? = some (.cells (putAt cs o vs).toArray T (0, 0))
 | [], _, _, _, h => h
 | v :: vs, _, _, o, h => heap_puts vs _ _ _ (heap_put h o v)
theorem len_puts : ∀ (vs cs : List Value) (o : Nat), (putAt cs o vs).length = cs.length
 | [], _, _ => rfl
 | v :: vs, cs, o => (len_puts vs _ _).trans (by simp)
theorem Wa.puts {w x : World} {N : Nat} : ∀ (vs : List Value) (w : World) (o : Nat), Wa N x w → Wa N x (putCells w N o vs)
 | [], _, _, h => h
 | v :: vs, _, o, h => Wa.puts (w := w) vs _ _ (h.setAt o v)
theorem row_put {w : World} {base c g k : Nat} {e : TypeId} {L : List InsT} (h : w.ownsRow base e 9 (.slice (some ⟨g, 0, none⟩) L.length c) L.length (L.flatMap insC)) (hk : k < L.length) (x : InsT) :
  (putCells w g (k * 9) (insC x)).ownsRow base e 9 (.slice (some ⟨g, 0, none⟩) L.length c) L.length ((L.set k x).flatMap insC) := by
 rcases h.2 with ⟨_, h0⟩ | ⟨g', cap, cur, hv, hb, hh, hc, hm, hs, ht⟩
 ·
  omega
 ·
  simp only [Value.slice.injEq, Option.some.injEq, Addr.mk.injEq] at hv
  obtain ⟨⟨rfl, _, _⟩, _, rfl⟩ := hv
  have hl : (L.flatMap insC).length = L.length * 9 := h.1
  have e1 : cur.toList = L.flatMap insC ++ cur.toList.drop (L.length * 9) := by rw [← ht, List.take_append_drop]
  have hh' : w.heap[g]? = some (.cells cur.toList.toArray e (0, 0)) := by simpa using hh
  have hp := heap_puts (insC x) w _ (k * 9) hh'
  have h9 : (insC x).length = 9 := rfl
  have hkk : k * 9 + 9 ≤ L.length * 9 := by omega
  rw [e1, putAt_left _ _ _ _ (by rw [h9, hl]; exact hkk), putAt_flat insC 9 (fun _ => rfl) L k x hk] at hp
  have hl2 : ((L.set k x).flatMap insC).length = L.length * 9 := by
   rw [← putAt_flat insC 9 (fun _ => rfl) L k x hk, len_puts]; exact hl
  refine ⟨hl2, Or.inr ⟨g, c, _, rfl, hb, hp, hc, hm, ?_, ?_⟩⟩
  ·
   have hz : cur.toList.length = c * 9 := by simpa using hs
   rw [e1, List.length_append, hl] at hz
   simp only [List.size_toArray, List.length_append, hl2]
   exact hz
  ·
   simp only []
   rw [List.take_left' hl2]
end Go.Proofs.YtcfohakgokiedaaGreatDoor

namespace Go.Proofs.YtcfohakgokiedaaGreatDoor
open Go.RowKit

section
variable {w w' : World} {N base k n : Nat} {cs : Array Value} {T e : TypeId} {v : Value} {xs : List Value}
theorem Ty.on (h : w.heap[N]? = some (.cells cs T (0, 0))) (o : On w w') : w'.heap[N]? = some (.cells cs T (0, 0)) := (o.block N (lt_of_block h)).trans h
theorem Ty.grown (h : w.heap[N]? = some (.cells cs T (0, 0))) (ho : w.ownsRow base e k v n xs) (hne : e ≠ T) (hg : w.grownBy w' v.ownBlock) : w'.heap[N]? = some (.cells cs T (0, 0)) := by
 refine (hg.block N (lt_of_block h) (fun eq => ?_)).trans h
 rcases ho.2 with ⟨hv, _⟩ | ⟨g, cap, cur, hv, hb, hh, _⟩
 ·
  rw [hv] at eq; cases eq
 ·
  rw [hv] at eq
  simp only [Value.ownBlock, Option.some.injEq] at eq
  subst eq
  rw [h] at hh
  simp only [Option.some.injEq, Obj.cells.injEq] at hh
  exact hne hh.2.1.symm
theorem own_drew (h : w.ownsRow base e k v n xs) : w.drew.ownsRow base e k v n xs := h
theorem own_setT (ho : w.ownsRow base e k v n xs) (h : w.heap[N]? = some (.cells cs T (0, 0))) (hne : e ≠ T) (i : Nat) (u : Value) : (w.setCell ⟨N, i, none⟩ u).ownsRow base e k v n xs := by
 refine ⟨ho.1, ?_⟩
 rcases ho.2 with h2 | ⟨g, cap, cur, hv, hb, hh, r⟩
 ·
  exact Or.inl h2
 ·
  refine Or.inr ⟨g, cap, cur, hv, hb, (Below.heap_setCell _ _ _ _ ?_).trans hh, r⟩
  show g ≠ N
  rintro rfl
  rw [h] at hh
  simp only [Option.some.injEq, Obj.cells.injEq] at hh
  exact hne hh.2.1.symm
theorem own_putsT {N : Nat} {T : TypeId} (hne : e ≠ T) : ∀ (vs : List Value) (w : World) (cs : List Value) (o : Nat), w.ownsRow base e k v n xs → w.heap[N]? = some (.cells cs.toArray T (0, 0)) → (putCells w N o vs).ownsRow base e k v n xs
 | [], _, _, _, h, _ => h
 | u :: vs, _, _, o, h, ht => own_putsT hne vs _ _ _ (own_setT h ht hne o u) (heap_put ht o u)
theorem news_eq {W : World} {n : Nat} (hn : W.heap.size = n) (cs : Array Value) (e : TypeId) : ∀ (j : Nat) (u : Value), cs.toList[j]? = some u → (W.alloc (.cells cs e)).cell? ((⟨n, 0, none⟩ : Addr).add j) = some u := by
 subst hn
 exact news_at W cs e
end
theorem heap_new_eq {W : World} {n : Nat} (hn : W.heap.size = n) (o : Obj) : (W.alloc o).heap[n]? = some o := by
 subst hn
 exact heap_alloc_new W o
end Go.Proofs.YtcfohakgokiedaaGreatDoor
