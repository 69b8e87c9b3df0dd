/- What the tokens of a whole text are, place by place. Of no program. -/
import Derived.Test.YtoaepdjjjcaafaaGreatDoorLexCut
import Derived.Test.YtoaepdjjjcaafaaGreatDoorRead
namespace Go.Proofs.YtoaepdjjjcaafaaGreatDoor

theorem al_ne {good : ByteArray → Bool} {s : ByteArray} {a : Nat} {ts : List Tk} (ha : a ≤ s.size) (h : al good s a = (ts, 0, 0)) : ts ≠ [] ∧ eC good s a = 0 := by
  have he : eC good s a = 0 := by
    rcases Nat.eq_zero_or_pos (eC good s a) with h' | h'
    · exact h'
    · rw [al_err ha (by omega)] at h; simp at h; omega
  refine ⟨?_, he⟩
  by_cases h4 : kd s a = 4
  · rw [al_end ha he h4] at h
    obtain rfl : [tk s a] = ts := congrArg Prod.fst h
    simp
  · rw [al_step ha he h4] at h
    obtain rfl : tk s a :: _ = ts := congrArg Prod.fst h
    simp

/-- The error, if any, is told at a place of the text. -/
theorem al_place (good : ByteArray → Bool) (s : ByteArray) : ∀ (n a : Nat), s.size - a ≤ n → a ≤ s.size → (al good s a).2.2 ≤ s.size ∧ ((al good s a).2.1 = 0 → (al good s a).2.2 = 0) := by
  intro n
  induction n with
  | zero =>
    intro a hn ha
    by_cases he : eC good s a = 0
    · by_cases h4 : kd s a = 4
      · rw [al_end ha he h4]; simp
      · have h1 := to_gt (eC_kd he) h4
        have h2 := to_le ha
        omega
    · rw [al_err ha he]
      exact ⟨pl_le ha, fun h => absurd h he⟩
  | succ n ih =>
    intro a hn ha
    by_cases he : eC good s a = 0
    · by_cases h4 : kd s a = 4
      · rw [al_end ha he h4]; simp
      · have h1 := to_gt (eC_kd he) h4
        have h2 := to_le ha
        rw [al_step ha he h4]
        exact ih (to s a) (by omega) h2
    · rw [al_err ha he]
      exact ⟨pl_le ha, fun h => absurd h he⟩

/-- There are no more tokens than bytes, and one. -/
theorem al_count (good : ByteArray → Bool) (s : ByteArray) : ∀ (n a : Nat), s.size - a ≤ n → a ≤ s.size → (al good s a).1.length ≤ s.size - a + 1 := by
  intro n
  induction n with
  | zero =>
    intro a hn ha
    by_cases he : eC good s a = 0
    · by_cases h4 : kd s a = 4
      · rw [al_end ha he h4]; simp
      · have h1 := to_gt (eC_kd he) h4
        have h2 := to_le ha
        omega
    · rw [al_err ha he]; simp
  | succ n ih =>
    intro a hn ha
    by_cases he : eC good s a = 0
    · by_cases h4 : kd s a = 4
      · rw [al_end ha he h4]; simp
      · have h1 := to_gt (eC_kd he) h4
        have h2 := to_le ha
        have h3 := ih (to s a) (by omega) h2
        rw [al_step ha he h4]
        simp only [List.length_cons]
        omega
    · rw [al_err ha he]; simp

/-- One step through the tokens: the n-th is that of place a; it is the last just if it is the end. -/
theorem walk_step {good : ByteArray → Bool} {s : ByteArray} {ts : List Tk} {n a : Nat} (hn : n < ts.length) (ha : a ≤ s.size) (h : al good s a = (ts.drop n, 0, 0)) :
    eC good s a = 0 ∧ ts[n]? = some (tk s a) ∧ (kd s a = 4 ↔ n + 1 = ts.length) ∧ (n + 1 < ts.length → al good s (to s a) = (ts.drop (n + 1), 0, 0)) ∧ (n + 1 = ts.length → to s a = s.size) := by
  obtain ⟨_, he⟩ := al_ne ha h
  have e0 : ts.drop n = ts[n] :: ts.drop (n + 1) := List.drop_eq_getElem_cons hn
  by_cases h4 : kd s a = 4
  · rw [al_end ha he h4, e0] at h
    obtain ⟨h1, h2⟩ := List.cons.inj (congrArg Prod.fst h)
    have hl : n + 1 = ts.length := by
      have := congrArg List.length h2
      simp at this
      omega
    refine ⟨he, by rw [List.getElem?_eq_getElem hn, ← h1], ⟨fun _ => hl, fun _ => h4⟩, fun h => by omega, fun _ => ?_⟩
    have e : suf s (pl s a) = [] := kind_end.1 h4
    have p1 := pl_le ha
    have p2 : (suf s (pl s a)).length = 0 := by rw [e]; rfl
    rw [suf_length] at p2
    have p3 : sz s a = 0 := by unfold sz; rw [e]; rfl
    unfold to
    omega
  · rw [al_step ha he h4, e0] at h
    obtain ⟨h1, h2⟩ := List.cons.inj (congrArg Prod.fst h)
    have h3 : al good s (to s a) = (ts.drop (n + 1), 0, 0) := by
      rw [← h2]
      exact Prod.ext rfl (show (al good s (to s a)).2 = (0, 0) from congrArg Prod.snd h)
    obtain ⟨hne, _⟩ := al_ne (to_le ha) h3
    have hl : ¬ n + 1 = ts.length := by
      intro hl
      apply hne
      rw [hl]
      simp
    exact ⟨he, by rw [List.getElem?_eq_getElem hn, ← h1], ⟨fun h => absurd h h4, fun h => absurd h hl⟩, fun _ => h3, fun h => absurd h hl⟩

/-- One byte of what stands between tokens. -/
theorem gap_step {s : ByteArray} {k p : Nat} {b : Bool} (hk : k < s.size) (hp : k < p) (h : k + gap b (suf s k) = p) :
    (b = true ∨ bN s k = 35 ∨ blN (bN s k) = true) ∧ (k + 1) + gap ((b && bN s k != 10) || bN s k == 35) (suf s (k + 1)) = p := by
  rw [suf_lt hk] at h
  rw [bN_lt hk]
  cases b with
  | true =>
    refine ⟨Or.inl rfl, ?_⟩
    rw [gap_t] at h
    have e : ((true && (s[k]).toNat != 10) || (s[k]).toNat == 35) = ((s[k]).toNat != 10) := by
      generalize (s[k]).toNat = c
      by_cases h1 : c = 35
      · subst h1; rfl
      · have : (c == 35) = false := by rw [beq_eq_false_iff_ne]; exact h1
        rw [this]; simp
    rw [e]
    omega
  | false =>
    rw [gap_f] at h
    by_cases h1 : (s[k]).toNat = 35
    · rw [if_pos h1] at h
      refine ⟨Or.inr (Or.inl h1), ?_⟩
      have e : ((false && (s[k]).toNat != 10) || (s[k]).toNat == 35) = true := by rw [h1]; rfl
      rw [e]
      omega
    · rw [if_neg h1] at h
      by_cases h2 : blN (s[k]).toNat = true
      · rw [if_pos h2] at h
        refine ⟨Or.inr (Or.inr h2), ?_⟩
        have e : ((false && (s[k]).toNat != 10) || (s[k]).toNat == 35) = false := by
          have : ((s[k]).toNat == 35) = false := by rw [beq_eq_false_iff_ne]; exact h1
          rw [this]; rfl
        rw [e]
        omega
      · rw [if_neg h2] at h
        omega
end Go.Proofs.YtoaepdjjjcaafaaGreatDoor

namespace Go.Proofs.YtoaepdjjjcaafaaGreatDoor

theorem all_blank {good : ByteArray → Bool} {S : ByteArray} (h : gap false (suf S 0) = S.size) : al good S 0 = ([⟨4, ⟨#[]⟩, S.size⟩], 0, 0) := by
  have hp : pl S 0 = S.size := by unfold pl; omega
  have hs : suf S (pl S 0) = [] := suf_ge (by omega)
  have hk : kd S 0 = 4 := by unfold kd; rw [hs]; rfl
  have he : eC good S 0 = 0 := by unfold eC; rw [hk]; simp
  have hx : tx S 0 = ⟨#[]⟩ := by
    apply bytes_ext
    rw [tx_list, hs, List.take_nil]
  rw [al_end (Nat.zero_le _) he hk]
  unfold tk
  rw [hk, hx, hp]

theorem gap_hashes : ∀ n : Nat, gap true (List.replicate n (35 : UInt8)) = n
  | 0 => rfl
  | n + 1 => by rw [List.replicate_succ, gap_t]; show 1 + gap true _ = _; rw [gap_hashes n]; omega
theorem gap_blanks (c : UInt8) (h : c.toNat ≠ 35) (hb : blN c.toNat = true) : ∀ n : Nat, gap false (List.replicate n c) = n
  | 0 => rfl
  | n + 1 => by rw [List.replicate_succ, gap_f, if_neg h, if_pos hb, gap_blanks c h hb n]; omega
theorem gap_same (c : UInt8) (h : c.toNat = 35 ∨ blN c.toNat = true) (n : Nat) : gap false (List.replicate n c) = n := by
  by_cases h35 : c.toNat = 35
  · have e : c = 35 := UInt8.toNat_inj.1 h35
    subst e
    cases n with
    | zero => rfl
    | succ n => rw [List.replicate_succ, gap_f, if_pos h35, gap_hashes]; omega
  · exact gap_blanks c h35 (h.resolve_left h35) n

/-- n bytes c. -/
def rep (n : Nat) (c : UInt8) : ByteArray := ⟨(List.replicate n c).toArray⟩
theorem rep_size (n : Nat) (c : UInt8) : (rep n c).size = n := by unfold rep; rw [size_list]; simp
theorem rep_al {good : ByteArray → Bool} (n : Nat) (c : UInt8) (h : c.toNat = 35 ∨ blN c.toNat = true) : al good (rep n c) 0 = ([⟨4, ⟨#[]⟩, n⟩], 0, 0) := by
  have e := all_blank (good := good) (S := rep n c) (by
    rw [rep_size]
    have : suf (rep n c) 0 = List.replicate n c := by unfold suf rep; simp
    rw [this, gap_same c h n])
  rw [rep_size] at e
  exact e
end Go.Proofs.YtoaepdjjjcaafaaGreatDoor

namespace Go.Proofs.YtoaepdjjjcaafaaGreatDoor

theorem digits_all (u : Nat) : ∀ c ∈ Lib.decDigits u, digN c.toNat = true := by
  intro c hc
  obtain ⟨k, hk⟩ := List.getElem?_of_mem hc
  obtain ⟨x, hx⟩ := Lib.digit_of_decFrom _ _ _ (decFrom_digits u) k _ hk
  unfold Lib.digitVal at hx
  by_cases h : 48 ≤ c.toNat ∧ c.toNat ≤ 57
  · unfold digN; simp [h.1, h.2]
  · rw [if_neg h] at hx; cases hx

/-- A numeral: digits, a minus ahead or none. -/
def Numeral (l : List UInt8) : Prop := ∃ ds, ds ≠ [] ∧ (∀ c ∈ ds, digN c.toNat = true) ∧ (l = ds ∨ l = 45 :: ds)
theorem digits_ne (u : Nat) : Lib.decDigits u ≠ [] := by
  have h := Lib.decDigits_length u
  have p := Lib.nDigits_pos u
  intro e
  rw [e] at h
  simp at h
  omega
theorem itoa_numeral (v : Int) : Numeral (Lib.itoa v) := by
  refine ⟨Lib.decDigits v.natAbs, digits_ne _, digits_all _, ?_⟩
  by_cases h : v < 0
  · exact Or.inr (by unfold Lib.itoa; rw [if_pos h])
  · exact Or.inl (by unfold Lib.itoa; rw [if_neg h, show v.toNat = v.natAbs by omega])

theorem dig_word {n : Nat} (h : digN n = true) : wordN n = true := by unfold wordN; rw [h]; simp
theorem dig_let {n : Nat} (h : digN n = true) : letN n = false := by
  simp only [digN, Bool.and_eq_true, decide_eq_true_eq] at h
  simp only [letN, Bool.and_eq_false_iff, decide_eq_false_iff_not]
  omega
theorem runL_digits (m : List UInt8) : ∀ ds : List UInt8, (∀ c ∈ ds, digN c.toNat = true) → runL (ds ++ m) = ds.length + runL m
  | [], _ => by simp
  | c :: ds, h => by
    rw [List.cons_append]
    simp only [runL, dig_word (h c (by simp)), if_true, List.length_cons]
    rw [runL_digits m ds (fun x hx => h x (by simp [hx]))]
    omega

theorem num_tok {l : List UInt8} (h : Numeral l) (m : List UInt8) : kind (l ++ m) = 2 ∧ tsize (l ++ m) = l.length + runL m := by
  obtain ⟨ds, hne, hd, hl⟩ := h
  cases ds with
  | nil => exact absurd rfl hne
  | cons c ds =>
    have hc := hd c (by simp)
    have hr := runL_digits m ds (fun x hx => hd x (by simp [hx]))
    rcases hl with rfl | rfl
    · rw [List.cons_append, kind_cons, tsize_cons]
      simp only [dig_let hc, hc, if_true, Bool.false_eq_true, if_false, hr, List.length_cons]
      exact ⟨trivial, by omega⟩
    · rw [List.cons_append, List.cons_append, kind_cons, tsize_cons, hd_cons]
      have e1 : letN (45 : UInt8).toNat = false := by decide
      have e2 : digN (45 : UInt8).toNat = false := by decide
      have e3 : ((45 : UInt8).toNat == 45 && digN c.toNat) = true := by rw [hc]; decide
      have hr' : runL (c :: (ds ++ m)) = ds.length + runL m + 1 := by
        simp only [runL, dig_word hc, if_true, hr]; omega
      simp only [e1, e2, e3, if_true, Bool.false_eq_true, if_false, hr', List.length_cons]
      exact ⟨trivial, by omega⟩


/-- A token's text is a number's if and only if its kind says so. -/
theorem num_kind {s : ByteArray} {a : Nat} (h : pB (tx s a) = true) : kd s a = 2 := by
  unfold pB at h
  obtain ⟨v, hv⟩ := Option.isSome_iff_exists.1 h
  have hi := parseV_of hv
  rw [tx_list] at hi
  have e : suf s (pl s a) = Lib.itoa v ++ (suf s (pl s a)).drop (sz s a) := by rw [hi, List.take_append_drop]
  show kind (suf s (pl s a)) = 2
  rw [e]
  exact (num_tok (itoa_numeral v) _).1
theorem kind_num {s : ByteArray} {a : Nat} (he : eC pB s a = 0) (h : kd s a = 2) : pB (tx s a) = true := by
  unfold eC at he
  rw [if_neg (by omega)] at he
  cases hp : pB (tx s a) with
  | true => rfl
  | false => rw [if_pos ⟨h, hp⟩] at he; cases he
end Go.Proofs.YtoaepdjjjcaafaaGreatDoor
