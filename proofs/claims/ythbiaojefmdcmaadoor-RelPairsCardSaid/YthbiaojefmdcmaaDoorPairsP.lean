/- The pairs of a relation, in plain Lean: where each stands; made of them again it is the same. -/
import Derived.Test.YthbiaojefmdcmaaDoorRelR
import Derived.Test.YthbiaojefmdcmaaDoorTellsP
namespace Go.Proofs.YthbiaojefmdcmaaDoor

theorem prs_more (r : RelT) (a : Nat) : ∀ d, ∃ X, prsN r (a + d) = prsN r a ++ X
  | 0 => ⟨[], by simp⟩
  | d + 1 => by
    obtain ⟨X, h⟩ := prs_more r a d
    exact ⟨X ++ rowP r (a + d), by rw [← Nat.add_assoc, prs_step, h, List.append_assoc]⟩
theorem prs_at {r : RelT} (a b : Nat) (ha : a < r.n) (hb : b < 64) (h : H r a b = true) : (prsR r)[(prsN r a).length + (pre (r.f a) b).length]? = some ((a : Int), (b : Int)) := by
  obtain ⟨X, hX⟩ := prs_more r (a + 1) (r.n - (a + 1))
  have e : prsR r = prsN r a ++ (rowP r a ++ X) := by
    unfold prsR
    rw [show r.n = a + 1 + (r.n - (a + 1)) by omega, hX, prs_step, List.append_assoc]
  have h1 := pre_at (r.f a) b hb h
  have hl : (pre (r.f a) b).length < (bits64 (r.f a)).length := (List.getElem?_eq_some_iff.1 h1).1
  rw [e, List.getElem?_append_right (by omega), Nat.add_sub_cancel_left, List.getElem?_append_left (by unfold rowP; rw [List.length_map]; exact hl)]
  unfold rowP
  rw [List.getElem?_map, h1]
  rfl
theorem pre_row (r : RelT) (hr : Wf r) (a : Nat) : (prsN r a).length + (pre (r.f a) r.n).length = (prsN r (a + 1)).length := by
  rw [prs_step, List.length_append]
  congr 1
  unfold rowP
  rw [List.length_map]
  have key : ∀ d, r.n + d ≤ 64 → pre (r.f a) (r.n + d) = pre (r.f a) r.n := by
    intro d
    induction d with
    | zero => intro _; rfl
    | succ d ih =>
      intro hd
      rw [← Nat.add_assoc, pre_step, ih (by omega), show (r.f a).testBit (r.n + d) = H r a (r.n + d) from rfl, hr.off (Or.inr (by omega))]
      simp
  have e := key (64 - r.n) (by have := hr.n; omega)
  rw [show r.n + (64 - r.n) = 64 by have := hr.n; omega, pre_all] at e
  rw [e]
theorem prs_iff (r : RelT) (x y : Nat) : ((x : Int), (y : Int)) ∈ prsR r ↔ x < r.n ∧ y < 64 ∧ H r x y = true := by
  unfold prsR prsN
  constructor
  · intro h
    obtain ⟨a, ha, h⟩ := List.mem_flatMap.1 h
    unfold rowP at h
    obtain ⟨b, hb, e⟩ := List.mem_map.1 h
    simp only [Prod.mk.injEq] at e
    obtain rfl : a = x := by omega
    obtain rfl : b = y := by omega
    obtain ⟨h1, h2⟩ := (mem64 _ _).1 hb
    exact ⟨by simpa using ha, h1, h2⟩
  · rintro ⟨h1, h2, h3⟩
    refine List.mem_flatMap.2 ⟨x, by simpa using h1, ?_⟩
    unfold rowP
    exact List.mem_map.2 ⟨y, (mem64 _ _).2 ⟨h2, h3⟩, rfl⟩
theorem prs_again {r : RelT} (hr : Wf r) (m : Nat) (hm : r.n = m) (hl : (prsR r).length ≤ 200) : ofR m (prsR r) = r := by
  unfold ofR
  rw [List.take_of_length_le hl]
  have := hr.n
  refine rel_ext (by rw [ofL_n, new_n]; omega) fun a b => ?_
  rw [Bool.eq_iff_iff, ofL_H _ _ (new_wf _), prs_iff, new_H, new_n]
  constructor
  · rintro (h | ⟨⟨_, _, h⟩, _⟩)
    · cases h
    · exact h
  · intro h
    have := hr.b a b h
    exact Or.inr ⟨⟨this.1, by omega, h⟩, by omega, by omega⟩
end Go.Proofs.YthbiaojefmdcmaaDoor
