/- What the tokens of a whole text are, place by place. Of no program. -/
import Derived.Test.YtoipapbdepobjaaDoorLexCut
namespace Go.Proofs.YtoipapbdepobjaaDoor

theorem al_ne {good : ByteArray → Bool} {s : ByteArray} {a : Nat} {ts : List Tk} (ha : a ≤ s.size) (h : al good s a = (ts, 0, 0)) : ts ≠ [] ∧ eC good s a = 0 := by
  have he : eC good s a = 0 := by
    rcases Nat.eq_zero_or_pos (eC good s a) with h' | h'
    · exact h'
    · rw [al_err ha (by omega)] at h; simp at h; omega
  refine ⟨?_, he⟩
  by_cases h4 : kd s a = 4
  · rw [al_end ha he h4] at h
    obtain rfl : [tk s a] = ts := congrArg Prod.fst h
    simp
  · rw [al_step ha he h4] at h
    obtain rfl : tk s a :: _ = ts := congrArg Prod.fst h
    simp

/-- The error, if any, is told at a place of the text. -/
theorem al_place (good : ByteArray → Bool) (s : ByteArray) : ∀ (n a : Nat), s.size - a ≤ n → a ≤ s.size → (al good s a).2.2 ≤ s.size ∧ ((al good s a).2.1 = 0 → (al good s a).2.2 = 0) := by
  intro n
  induction n with
  | zero =>
    intro a hn ha
    by_cases he : eC good s a = 0
    · by_cases h4 : kd s a = 4
      · rw [al_end ha he h4]; simp
      · have h1 := to_gt (eC_kd he) h4
        have h2 := to_le ha
        omega
    · rw [al_err ha he]
      exact ⟨pl_le ha, fun h => absurd h he⟩
  | succ n ih =>
    intro a hn ha
    by_cases he : eC good s a = 0
    · by_cases h4 : kd s a = 4
      · rw [al_end ha he h4]; simp
      · have h1 := to_gt (eC_kd he) h4
        have h2 := to_le ha
        rw [al_step ha he h4]
        exact ih (to s a) (by omega) h2
    · rw [al_err ha he]
      exact ⟨pl_le ha, fun h => absurd h he⟩

/-- There are no more tokens than bytes, and one. -/
theorem al_count (good : ByteArray → Bool) (s : ByteArray) : ∀ (n a : Nat), s.size - a ≤ n → a ≤ s.size → (al good s a).1.length ≤ s.size - a + 1 := by
  intro n
  induction n with
  | zero =>
    intro a hn ha
    by_cases he : eC good s a = 0
    · by_cases h4 : kd s a = 4
      · rw [al_end ha he h4]; simp
      · have h1 := to_gt (eC_kd he) h4
        have h2 := to_le ha
        omega
    · rw [al_err ha he]; simp
  | succ n ih =>
    intro a hn ha
    by_cases he : eC good s a = 0
    · by_cases h4 : kd s a = 4
      · rw [al_end ha he h4]; simp
      · have h1 := to_gt (eC_kd he) h4
        have h2 := to_le ha
        have h3 := ih (to s a) (by omega) h2
        rw [al_step ha he h4]
        simp only [List.length_cons]
        omega
    · rw [al_err ha he]; simp

/-- One step through the tokens: the n-th is that of place a; it is the last just if it is the end. -/
theorem walk_step {good : ByteArray → Bool} {s : ByteArray} {ts : List Tk} {n a : Nat} (hn : n < ts.length) (ha : a ≤ s.size) (h : al good s a = (ts.drop n, 0, 0)) :
    eC good s a = 0 ∧ ts[n]? = some (tk s a) ∧ (kd s a = 4 ↔ n + 1 = ts.length) ∧ (n + 1 < ts.length → al good s (to s a) = (ts.drop (n + 1), 0, 0)) ∧ (n + 1 = ts.length → to s a = s.size) := by
  obtain ⟨_, he⟩ := al_ne ha h
  have e0 : ts.drop n = ts[n] :: ts.drop (n + 1) := List.drop_eq_getElem_cons hn
  by_cases h4 : kd s a = 4
  · rw [al_end ha he h4, e0] at h
    obtain ⟨h1, h2⟩ := List.cons.inj (congrArg Prod.fst h)
    have hl : n + 1 = ts.length := by
      have := congrArg List.length h2
      simp at this
      omega
    refine ⟨he, by rw [List.getElem?_eq_getElem hn, ← h1], ⟨fun _ => hl, fun _ => h4⟩, fun h => by omega, fun _ => ?_⟩
    have e : suf s (pl s a) = [] := kind_end.1 h4
    have p1 := pl_le ha
    have p2 : (suf s (pl s a)).length = 0 := by rw [e]; rfl
    rw [suf_length] at p2
    have p3 : sz s a = 0 := by unfold sz; rw [e]; rfl
    unfold to
    omega
  · rw [al_step ha he h4, e0] at h
    obtain ⟨h1, h2⟩ := List.cons.inj (congrArg Prod.fst h)
    have h3 : al good s (to s a) = (ts.drop (n + 1), 0, 0) := by
      rw [← h2]
      exact Prod.ext rfl (show (al good s (to s a)).2 = (0, 0) from congrArg Prod.snd h)
    obtain ⟨hne, _⟩ := al_ne (to_le ha) h3
    have hl : ¬ n + 1 = ts.length := by
      intro hl
      apply hne
      rw [hl]
      simp
    exact ⟨he, by rw [List.getElem?_eq_getElem hn, ← h1], ⟨fun h => absurd h h4, fun h => absurd h hl⟩, fun _ => h3, fun h => absurd h hl⟩

/-- One byte of what stands between tokens. -/
theorem gap_step {s : ByteArray} {k p : Nat} {b : Bool} (hk : k < s.size) (hp : k < p) (h : k + gap b (suf s k) = p) :
    (b = true ∨ bN s k = 35 ∨ blN (bN s k) = true) ∧ (k + 1) + gap ((b && bN s k != 10) || bN s k == 35) (suf s (k + 1)) = p := by
  rw [suf_lt hk] at h
  rw [bN_lt hk]
  cases b with
  | true =>
    refine ⟨Or.inl rfl, ?_⟩
    rw [gap_t] at h
    have e : ((true && (s[k]).toNat != 10) || (s[k]).toNat == 35) = ((s[k]).toNat != 10) := by
      generalize (s[k]).toNat = c
      by_cases h1 : c = 35
      · subst h1; rfl
      · have : (c == 35) = false := by rw [beq_eq_false_iff_ne]; exact h1
        rw [this]; simp
    rw [e]
    omega
  | false =>
    rw [gap_f] at h
    by_cases h1 : (s[k]).toNat = 35
    · rw [if_pos h1] at h
      refine ⟨Or.inr (Or.inl h1), ?_⟩
      have e : ((false && (s[k]).toNat != 10) || (s[k]).toNat == 35) = true := by rw [h1]; rfl
      rw [e]
      omega
    · rw [if_neg h1] at h
      by_cases h2 : blN (s[k]).toNat = true
      · rw [if_pos h2] at h
        refine ⟨Or.inr (Or.inr h2), ?_⟩
        have e : ((false && (s[k]).toNat != 10) || (s[k]).toNat == 35) = false := by
          have : ((s[k]).toNat == 35) = false := by rw [beq_eq_false_iff_ne]; exact h1
          rw [this]; rfl
        rw [e]
        omega
      · rw [if_neg h2] at h
        omega
end Go.Proofs.YtoipapbdepobjaaDoor
