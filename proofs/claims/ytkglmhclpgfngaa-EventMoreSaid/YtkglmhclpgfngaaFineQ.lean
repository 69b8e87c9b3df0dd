/- What an instruction that may be is like. -/
import Derived.Test.YtkglmhclpgfngaaStepG
namespace Go.Proofs.Ytkglmhclpgfngaa
open Go.RowKit

theorem skip_at : ∀ (L : List InsT) (i : Nat) (x : InsT), skipBad L = false → L[i]? = some x → x.k = 6 → x.n ≤ (L.length : Int) - i - 1
  | [], _, _, _, h, _ => by simp at h
  | y :: L, 0, x, hs, h, hk => by
    simp only [List.getElem?_cons_zero, Option.some.injEq] at h
    subst h
    unfold skipBad at hs
    simp only [Bool.or_eq_false_iff, Bool.and_eq_false_iff] at hs
    rcases hs.1 with h1 | h1
    · rw [hk] at h1; simp at h1
    · have := h1.2
      simp only [decide_eq_false_iff_not] at this
      simp only [List.length_cons]
      omega
  | y :: L, i + 1, x, hs, h, hk => by
    simp only [List.getElem?_cons_succ] at h
    unfold skipBad at hs
    simp only [Bool.or_eq_false_iff] at hs
    have := skip_at L i x hs.2 h hk
    simp only [List.length_cons]
    omega
theorem ins_fine (x : InsT) (h : insOk x = true) : (x.k = 5 → regOk x.r = true) ∧ (x.k = 6 → 0 ≤ x.n) ∧ ((x.k == 5 || x.k == 6) = !seenB x.k) ∧ ((x.k = 2 ∨ x.k = 4) → regOk x.r = true) := by
  unfold insOk at h
  split at h
  · rename_i hk
    have hk : x.k = 1 := by simpa using hk
    refine ⟨by omega, by omega, by rw [hk]; rfl, by omega⟩
  · split at h
    · rename_i hk
      have hk : x.k = 2 := by simpa using hk
      simp only [Bool.and_eq_true] at h
      exact ⟨by omega, by omega, by rw [hk]; rfl, fun _ => h.1.2⟩
    · split at h
      · rename_i hk
        have hk : x.k = 3 := by simpa using hk
        refine ⟨by omega, by omega, by rw [hk]; rfl, by omega⟩
      · split at h
        · rename_i hk
          have hk : x.k = 4 := by simpa using hk
          simp only [Bool.and_eq_true] at h
          exact ⟨by omega, by omega, by rw [hk]; rfl, fun _ => h.1.1.1.2⟩
        · split at h
          · rename_i hk
            have hk : x.k = 5 := by simpa using hk
            simp only [Bool.and_eq_true] at h
            exact ⟨fun _ => h.1.1.2, by omega, by rw [hk]; rfl, by omega⟩
          · split at h
            · rename_i hk
              have hk : x.k = 6 := by simpa using hk
              simp only [Bool.and_eq_true, decide_eq_true_eq] at h
              exact ⟨by omega, fun _ => h.1.1.2, by rw [hk]; rfl, by omega⟩
            · cases h
end Go.Proofs.Ytkglmhclpgfngaa
