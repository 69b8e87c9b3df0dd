/- A thing of a row that the call owns is written anew. -/
import Derived.Test.YtengdlchglkkjaaDoorSmallA
import Derived.Test.YtengdlchglkkjaaDoorReads
namespace Go.Proofs.YtengdlchglkkjaaDoor
open Go.RowKit

theorem putAt_left : ∀ (vs a s : List Value) (o : Nat), o + vs.length ≤ a.length → putAt (a ++ s) o vs = putAt a o vs ++ s
  | [], _, _, _, _ => rfl
  | v :: vs, a, s, o, h => by
    simp only [List.length_cons] at h
    rw [putAt, putAt, List.set_append_left _ _ (by omega)]
    exact putAt_left vs _ _ _ (by simp; omega)
theorem heap_put {w : World} {N : Nat} {cs : List Value} {T : TypeId} (h : w.heap[N]? = some (.cells cs.toArray T (0, 0))) (o : Nat) (v : Value) : (w.setCell ⟨N, o, none⟩ v).heap[N]? = some (.cells (cs.set o v).toArray T (0, 0)) := by
  have hs : (cs.set o v).toArray = cs.toArray.setIfInBounds o v := by simp
  rw [hs]
  simp [World.setCell, Array.getElem?_modify, h]
theorem heap_puts {N : Nat} {T : TypeId} : ∀ (vs : List Value) (w : World) (cs : List Value) (o : Nat), w.heap[N]? = some (.cells cs.toArray T (0, 0)) → (putCells w N o vs).heap[N]? = some (.cells (putAt cs o vs).toArray T (0, 0))
  | [], _, _, _, h => h
  | v :: vs, _, _, o, h => heap_puts vs _ _ _ (heap_put h o v)
theorem len_puts : ∀ (vs cs : List Value) (o : Nat), (putAt cs o vs).length = cs.length
  | [], _, _ => rfl
  | v :: vs, cs, o => (len_puts vs _ _).trans (by simp)
theorem Wa.puts {w x : World} {N : Nat} : ∀ (vs : List Value) (w : World) (o : Nat), Wa N x w → Wa N x (putCells w N o vs)
  | [], _, _, h => h
  | v :: vs, _, o, h => Wa.puts (w := w) vs _ _ (h.setAt o v)
theorem row_put {w : World} {base c g k : Nat} {e : TypeId} {L : List InsT} (h : w.ownsRow base e 9 (.slice (some ⟨g, 0, none⟩) L.length c) L.length (L.flatMap insC)) (hk : k < L.length) (x : InsT) :
    (putCells w g (k * 9) (insC x)).ownsRow base e 9 (.slice (some ⟨g, 0, none⟩) L.length c) L.length ((L.set k x).flatMap insC) := by
  rcases h.2 with ⟨_, h0⟩ | ⟨g', cap, cur, hv, hb, hh, hc, hm, hs, ht⟩
  · omega
  · simp only [Value.slice.injEq, Option.some.injEq, Addr.mk.injEq] at hv
    obtain ⟨⟨rfl, _, _⟩, _, rfl⟩ := hv
    have hl : (L.flatMap insC).length = L.length * 9 := h.1
    have e1 : cur.toList = L.flatMap insC ++ cur.toList.drop (L.length * 9) := by rw [← ht, List.take_append_drop]
    have hh' : w.heap[g]? = some (.cells cur.toList.toArray e (0, 0)) := by simpa using hh
    have hp := heap_puts (insC x) w _ (k * 9) hh'
    have h9 : (insC x).length = 9 := rfl
    have hkk : k * 9 + 9 ≤ L.length * 9 := by omega
    rw [e1, putAt_left _ _ _ _ (by rw [h9, hl]; exact hkk), putAt_flat insC 9 (fun _ => rfl) L k x hk] at hp
    have hl2 : ((L.set k x).flatMap insC).length = L.length * 9 := by
      rw [← putAt_flat insC 9 (fun _ => rfl) L k x hk, len_puts]; exact hl
    refine ⟨hl2, Or.inr ⟨g, c, _, rfl, hb, hp, hc, hm, ?_, ?_⟩⟩
    · have hz : cur.toList.length = c * 9 := by simpa using hs
      rw [e1, List.length_append, hl] at hz
      simp only [List.size_toArray, List.length_append, hl2]
      exact hz
    · simp only []
      rw [List.take_left' hl2]
end Go.Proofs.YtengdlchglkkjaaDoor

namespace Go.Proofs.YtengdlchglkkjaaDoor
open Go.RowKit

theorem Rd.bk {α : Type} {C : α → List Value} {k : Nat} (hC : ∀ x, (C x).length = k) {w : World} {N : Nat} {L : List α} (h : Bk w N (L.flatMap C).toArray) (c : Nat) (hc : L.length ≤ c) (hm : L.length ≤ 9223372036854775807) : Rd C k w (.slice (some ⟨N, 0, none⟩) L.length c) L := by
  refine ⟨_, c, rfl, hc, hm, fun _ => ⟨N, 0, rfl, h.lt, fun i x j u hi hj => h.at ?_⟩⟩
  have hj' : j < k := by have := (List.getElem?_eq_some_iff.1 hj).1; rwa [hC] at this
  rw [Nat.zero_add, List.getElem?_toArray, flat_at C k hC L i j x hi hj', hj]
theorem Rd2.one {α : Type} {C : α → List Value} {k n : Nat} {w : World} {N : Nat} {L : List α} {a : Option Addr} {c : Nat} (hn : L.length = n) (h : Bk w N #[.slice a n c]) (hr : Rd C k w (.slice a L.length c) L) : Rd2 C k w (.slice (some ⟨N, 0, none⟩) 1 1) [L] := by
  subst hn
  refine ⟨[.slice a L.length c], rfl, Rd.bk (C := oneC) (fun _ => rfl) (L := [.slice a L.length c]) h 1 (Nat.le_refl _) (by simp), fun i u M hi hM => ?_⟩
  match i, hi, hM with
  | 0, hi, hM =>
    simp only [List.getElem?_cons_zero, Option.some.injEq] at hi hM
    subst hi; subst hM
    exact hr
  | i + 1, hi, _ => simp at hi
end Go.Proofs.YtengdlchglkkjaaDoor
