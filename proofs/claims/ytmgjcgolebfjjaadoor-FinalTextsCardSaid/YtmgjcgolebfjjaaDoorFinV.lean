/- What ends' texts tell, in plain Lean: of unlike ends of one program they are unlike; how many blanks they have. -/
import Derived.Test.YtmgjcgolebfjjaaDoorFinX
namespace Go.Proofs.YtmgjcgolebfjjaaDoor

theorem dec_dig : ∀ (n u : Nat), u ≤ n → ∀ c ∈ Lib.decDigits u, 48 ≤ c.toNat
  | n, u, h, c, hc => by
    rw [Lib.decDigits] at hc
    split at hc
    · simp only [List.mem_cons, List.not_mem_nil, or_false] at hc
      rw [hc, dig_toNat u (by omega)]
      omega
    · rcases List.mem_append.1 hc with h1 | h1
      · match n, h with
        | 0, h => exact absurd h (by omega)
        | n + 1, h => exact dec_dig n (u / 10) (by omega) c h1
      · simp only [List.mem_cons, List.not_mem_nil, or_false] at h1
        rw [h1, dig_toNat (u % 10) (by omega)]
        omega
theorem itoa_no (a : Int) : (32 : UInt8) ∉ Lib.itoa a := by
  intro h
  unfold Lib.itoa at h
  split at h
  · rcases List.mem_cons.1 h with h1 | h1
    · exact absurd h1 (by decide)
    · have := dec_dig _ _ (Nat.le_refl _) _ h1
      exact absurd this (by decide)
  · have := dec_dig _ _ (Nat.le_refl _) _ h
    exact absurd this (by decide)
theorem itoa_inj {a b : Int} (a0 : -9223372036854775808 ≤ a) (a1 : a ≤ 9223372036854775807) (b0 : -9223372036854775808 ≤ b) (b1 : b ≤ 9223372036854775807) (h : Lib.itoa a = Lib.itoa b) : a = b := by
  have h1 := parse_itoa a a0 a1
  rw [h, parse_itoa b b0 b1] at h1
  injection h1 with h2
  exact h2.symm
theorem part_no {name : List UInt8} (hn : (32 : UInt8) ∉ name) (a : Int) : (32 : UInt8) ∉ name ++ [61] ++ Lib.itoa a := by
  intro h
  rcases List.mem_append.1 h with h | h
  · rcases List.mem_append.1 h with h | h
    · exact hn h
    · exact absurd h (by decide)
  · exact itoa_no a h
theorem last_split {s s' p p' : List UInt8} (h1 : (32 : UInt8) ∉ p) (h2 : (32 : UInt8) ∉ p') (h : s ++ 32 :: p = s' ++ 32 :: p') : s = s' ∧ p = p' := by
  rcases List.append_eq_append_iff.1 h with ⟨a, e1, e2⟩ | ⟨a, e1, e2⟩
  · cases a with
    | nil => exact ⟨by rw [e1, List.append_nil], (List.cons.inj e2).2⟩
    | cons x xs =>
      have := (List.cons.inj e2).2
      exact absurd (by rw [this]; simp) h1
  · cases a with
    | nil => exact ⟨by rw [e1, List.append_nil], (List.cons.inj e2).2.symm⟩
    | cons x xs =>
      have := (List.cons.inj e2).2
      exact absurd (by rw [this]; simp) h2
theorem partT_first (name : List UInt8) (n : Int) {s : List UInt8} (h : s.length = 0) : partT s name n = name ++ [61] ++ Lib.itoa n := by
  unfold partT
  rw [if_pos h, List.eq_nil_of_length_eq_zero h, List.nil_append]
theorem partT_more (name : List UInt8) (n : Int) {s : List UInt8} (h : ¬ s.length = 0) : partT s name n = s ++ 32 :: (name ++ [61] ++ Lib.itoa n) := by
  unfold partT
  rw [if_neg h]
  simp
theorem foldT_count (f : FinT) : ∀ (n : Nat) (ps : List (List UInt8 × Nat)), ps.length = n → (∀ p ∈ ps, (32 : UInt8) ∉ p.1) → (foldT f ps).count 32 = n - 1 ∧ ((foldT f ps).length = 0 ↔ n = 0)
  | 0, ps, hl, _ => by
    obtain rfl := List.length_eq_zero_iff.1 hl
    exact ⟨rfl, by simp [foldT]⟩
  | n + 1, ps, hl, hp => by
    rcases List.eq_nil_or_concat ps with rfl | ⟨qs, q, rfl⟩
    · simp at hl
    · rw [List.concat_eq_append] at hl hp ⊢
      rw [List.length_append, List.length_singleton] at hl
      obtain ⟨h1, h2⟩ := foldT_count f n qs (by omega) (fun p h => hp p (List.mem_append_left _ h))
      have hq := part_no (hp q (by simp)) (f.l.getD q.2 0)
      rw [foldT_snoc]
      by_cases h0 : (foldT f qs).length = 0
      · rw [partT_first _ _ h0, List.count_eq_zero.2 hq]
        have := h2.1 h0
        exact ⟨by omega, by simp⟩
      · rw [partT_more _ _ h0, List.count_append, List.count_cons_self, List.count_eq_zero.2 hq, h1]
        have : ¬ n = 0 := fun e => h0 (h2.2 e)
        exact ⟨by omega, by simp⟩
theorem foldT_inj (f g : FinT) : ∀ (n : Nat) (ps : List (List UInt8 × Nat)), ps.length = n → (∀ p ∈ ps, (32 : UInt8) ∉ p.1) → foldT f ps = foldT g ps → ∀ p ∈ ps, f.l.getD p.2 0 = g.l.getD p.2 0
  | 0, ps, hl, _, _ => by
    obtain rfl := List.length_eq_zero_iff.1 hl
    intro p hp
    exact absurd hp (List.not_mem_nil)
  | n + 1, ps, hl, hp, he => by
    rcases List.eq_nil_or_concat ps with rfl | ⟨qs, q, rfl⟩
    · simp at hl
    · rw [List.concat_eq_append] at hl hp he ⊢
      rw [List.length_append, List.length_singleton] at hl
      have hq := hp q (by simp)
      have hqs : ∀ p ∈ qs, (32 : UInt8) ∉ p.1 := fun p h => hp p (List.mem_append_left _ h)
      have c1 := (foldT_count f n qs (by omega) hqs).2
      have c2 := (foldT_count g n qs (by omega) hqs).2
      rw [foldT_snoc, foldT_snoc] at he
      have key : foldT f qs = foldT g qs ∧ q.1 ++ [61] ++ Lib.itoa (f.l.getD q.2 0) = q.1 ++ [61] ++ Lib.itoa (g.l.getD q.2 0) := by
        by_cases h0 : n = 0
        · rw [partT_first _ _ (c1.2 h0), partT_first _ _ (c2.2 h0)] at he
          exact ⟨by rw [List.eq_nil_of_length_eq_zero (c1.2 h0), List.eq_nil_of_length_eq_zero (c2.2 h0)], he⟩
        · rw [partT_more _ _ (fun e => h0 (c1.1 e)), partT_more _ _ (fun e => h0 (c2.1 e))] at he
          exact last_split (part_no hq _) (part_no hq _) he
      intro p hpm
      rcases List.mem_append.1 hpm with h | h
      · exact foldT_inj f g n qs (by omega) hqs key.1 p h
      · simp only [List.mem_cons, List.not_mem_nil, or_false] at h
        rw [h]
        exact itoa_inj (getD_in f _).1 (getD_in f _).2 (getD_in g _).1 (getD_in g _).2 (List.append_cancel_left key.2)
theorem nameT_no (t r : Nat) : (32 : UInt8) ∉ nameT t r := by
  intro h
  unfold nameT at h
  rcases List.mem_append.1 h with h | h
  · rcases List.mem_append.1 h with h | h
    · exact itoa_no _ h
    · exact absurd h (by decide)
  · exact itoa_no _ h
theorem parts_no (T : Nat) {L : List UInt8} (hL : (32 : UInt8) ∉ L) : ∀ p ∈ partsT T L, (32 : UInt8) ∉ p.1 := by
  intro p hp
  unfold partsT at hp
  rcases List.mem_append.1 hp with h | h
  · obtain ⟨k, _, rfl⟩ := List.mem_map.1 h
    exact nameT_no _ _
  · obtain ⟨x, hx, rfl⟩ := List.mem_map.1 h
    have hm : x.1 ∈ L := by
      rcases x with ⟨a, i⟩
      have := List.mem_zipIdx' hx
      rw [this.2]
      exact List.getElem_mem _
    simp only [List.mem_cons, List.not_mem_nil, or_false]
    intro e
    exact hL (e ▸ hm)
theorem fintx_count (f : FinT) (T : Nat) {L : List UInt8} (hL : (32 : UInt8) ∉ L) : (finTx T L f).count 32 = T * 4 + L.length - 1 := by
  have := (foldT_count f _ _ (partsT_len T L) (parts_no T hL)).1
  exact this
/-- An end without the registers from thread T on and the locations from M to m. -/
def cutF (T n M m : Nat) (f : FinT) : FinT := ⟨(List.range 20).map (fun k => if (T * 4 ≤ k ∧ k < n * 4) ∨ (16 + M ≤ k ∧ k < 16 + m) then 0 else f.l.getD k 0), by simp, by
  intro z hz
  obtain ⟨k, _, rfl⟩ := List.mem_map.1 hz
  split
  · omega
  · exact getD_in f k⟩
theorem cutF_l (T n M m : Nat) (f : FinT) : (cutF T n M m f).l = (List.range 20).map (fun k => if (T * 4 ≤ k ∧ k < n * 4) ∨ (16 + M ≤ k ∧ k < 16 + m) then 0 else f.l.getD k 0) := rfl
theorem cutF_at (T n M m : Nat) (f : FinT) {k : Nat} (hk : k < 20) : (cutF T n M m f).l.getD k 0 = if (T * 4 ≤ k ∧ k < n * 4) ∨ (16 + M ≤ k ∧ k < 16 + m) then 0 else f.l.getD k 0 := by
  rw [cutF_l, List.getD_eq_getElem?_getD, List.getElem?_map, List.getElem?_range hk]
  rfl
theorem fin_ext {f g : FinT} (h : ∀ k, k < 20 → f.l.getD k 0 = g.l.getD k 0) : f = g := by
  refine FinT.ext (List.ext_getElem (by rw [f.h, g.h]) (fun k h1 h2 => ?_))
  have := h k (by rw [f.h] at h1; exact h1)
  rw [List.getD_eq_getElem?_getD, List.getD_eq_getElem?_getD, List.getElem?_eq_getElem h1, List.getElem?_eq_getElem h2] at this
  exact this
theorem cutF_none (T M : Nat) (f : FinT) : cutF T T M M f = f := by
  refine fin_ext (fun k hk => ?_)
  rw [cutF_at T T M M f hk, if_neg (by omega)]
theorem cutF_eq {T M : Nat} {L : List UInt8} (hM : M = L.length) (hL : (32 : UInt8) ∉ L) (f g : FinT) : (finTx T L (cutF T 4 M 4 f) = finTx T L (cutF T 4 M 4 g)) ↔ cutF T 4 M 4 f = cutF T 4 M 4 g := by
  refine ⟨fun h => ?_, fun h => by rw [h]⟩
  have key := foldT_inj (cutF T 4 M 4 f) (cutF T 4 M 4 g) _ _ (partsT_len T L) (parts_no T hL) h
  refine fin_ext (fun k hk => ?_)
  by_cases h1 : k < T * 4
  · have := key (nameT (k / 4) (k % 4), k) (by
      unfold partsT
      exact List.mem_append_left _ (List.mem_map.2 ⟨k, List.mem_range.2 h1, rfl⟩))
    exact this
  · by_cases h2 : 16 ≤ k ∧ k < 16 + M
    · obtain ⟨x, hx⟩ : ∃ x, L[k - 16]? = some x := ⟨_, List.getElem?_eq_getElem (by omega)⟩
      have := key ([x], k) (by
        have h3 := List.mem_of_getElem? (partsT_loc T L hx)
        rw [show 16 + (k - 16) = k by omega] at h3
        exact h3)
      exact this
    · rw [cutF_at _ _ _ _ _ hk, cutF_at _ _ _ _ _ hk, if_pos (by omega), if_pos (by omega)]
end Go.Proofs.YtmgjcgolebfjjaaDoor
