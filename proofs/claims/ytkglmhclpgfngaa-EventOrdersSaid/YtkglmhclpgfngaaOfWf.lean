/- A relation made of pairs leads among its numbers alone. -/
import Derived.Test.YtkglmhclpgfngaaJ49RelP
namespace Go.Proofs.Ytkglmhclpgfngaa
open Go.RowKit

theorem ofL_wf : ∀ (L : List (Int × Int)) (r : RelT), Wf r → Wf (ofL r L)
  | [], _, h => h
  | p :: L, _, h => ofL_wf L _ (add_wf h p.1 p.2)
theorem of_wf (n : Int) (L : List (Int × Int)) : Wf (ofR n L) := ofL_wf _ _ (new_wf n)
theorem ofL_H : ∀ (U : List (Int × Int)) (r : RelT), Wf r → ∀ x y : Nat, H (ofL r U) x y = true ↔ H r x y = true ∨ (((x : Int), (y : Int)) ∈ U ∧ x < r.n ∧ y < r.n)
  | [], r, _, x, y => by show H r x y = true ↔ _; simp
  | p :: U, r, hw, x, y => by
    have ih := ofL_H U (addR r p.1 p.2) (add_wf hw _ _) x y
    show H (ofL (addR r p.1 p.2) U) x y = true ↔ _
    rw [ih, add_H hw, add_n]
    simp only [Bool.or_eq_true, Bool.and_eq_true, decide_eq_true_eq, List.mem_cons]
    constructor
    · rintro ((h | ⟨⟨⟨h1, h2⟩, h3⟩, h4⟩) | ⟨h1, h2⟩)
      · exact Or.inl h
      · obtain ⟨k, hk, hkn⟩ := over_spec h1
        obtain ⟨l, hl, hln⟩ := over_spec h2
        exact Or.inr ⟨Or.inl (by cases p; simp only [Prod.mk.injEq]; exact ⟨h3, h4⟩), by omega, by omega⟩
      · exact Or.inr ⟨Or.inr h1, h2⟩
    · rintro (h | ⟨rfl | h1, h2, h3⟩)
      · exact Or.inl (Or.inl h)
      · exact Or.inl (Or.inr ⟨⟨⟨by unfold overR; simp; omega, by unfold overR; simp; omega⟩, rfl⟩, rfl⟩)
      · exact Or.inr ⟨h1, h2, h3⟩
end Go.Proofs.Ytkglmhclpgfngaa
