/- Rows of things that have some cells each: where a thing's cells lie. -/
import Derived.Test.YtoaepdjjjcaafaaDoorParseAwake
namespace Go.Proofs.YtoaepdjjjcaafaaDoor
open Go.RowKit

theorem flat_at {α : Type} (C : α → List Value) (n : Nat) (hC : ∀ x, (C x).length = n) : ∀ (L : List α) (k j : Nat) (x : α), L[k]? = some x → j < n → (L.flatMap C)[k * n + j]? = (C x)[j]?
  | [], k, j, x, h, _ => by simp at h
  | y :: L, 0, j, x, h, hj => by
    simp only [List.getElem?_cons_zero, Option.some.injEq] at h
    subst h
    rw [List.flatMap_cons, Nat.zero_mul, Nat.zero_add, List.getElem?_append_left (by rw [hC]; exact hj)]
  | y :: L, k + 1, j, x, h, hj => by
    rw [List.getElem?_cons_succ] at h
    rw [List.flatMap_cons, List.getElem?_append_right (by rw [hC, Nat.succ_mul]; omega), hC]
    have e : (k + 1) * n + j - n = k * n + j := by rw [Nat.succ_mul]; omega
    rw [e]
    exact flat_at C n hC L k j x h hj
theorem own_flat {α : Type} {C : α → List Value} {n : Nat} (hC : ∀ x, (C x).length = n) {w : World} {base : Nat} {e : TypeId} {a : Option Addr} {m c : Nat} {L : List α} (h : w.ownsRow base e n (.slice a m c) L.length (L.flatMap C)) (hL : 0 < L.length) :
    ∃ g, a = some ⟨g, 0, none⟩ ∧ m = L.length ∧ L.length ≤ c ∧ base ≤ g ∧ g < w.heap.size ∧ ∀ (k j : Nat) (x : α) (u : Value), L[k]? = some x → (C x)[j]? = some u → w.cell? ⟨g, k * n + j, none⟩ = some u := by
  obtain ⟨g, cap, hv, hc, hb, hg, hcell⟩ := own_cells h hL
  simp only [Value.slice.injEq] at hv
  obtain ⟨rfl, rfl, rfl⟩ := hv
  refine ⟨g, rfl, rfl, hc, hb, hg, fun k j x u hk hu => hcell _ _ ?_⟩
  have hj : j < n := by
    have := (List.getElem?_eq_some_iff.1 hu).1
    rw [hC] at this
    exact this
  rw [flat_at C n hC L k j x hk hj, hu]
theorem own_len {w : World} {base k n : Nat} {e : TypeId} {a : Option Addr} {m c : Nat} {xs : List Value} (h : w.ownsRow base e k (.slice a m c) n xs) : m = n := by
  rcases h.2 with ⟨hv, h0⟩ | ⟨g, cap, cur, hv, _⟩
  · simp only [Value.slice.injEq] at hv
    rw [hv.2.1, h0]
  · simp only [Value.slice.injEq] at hv
    exact hv.2.1
end Go.Proofs.YtoaepdjjjcaafaaDoor
