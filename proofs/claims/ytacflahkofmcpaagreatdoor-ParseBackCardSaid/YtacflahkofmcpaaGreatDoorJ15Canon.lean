/- What the tokens of a whole text are, place by place. Of no program. -/
import Derived.Test.YtacflahkofmcpaaGreatDoorJ14LexCut
import Derived.Lib.ItoaNum
import Derived.Lib.ParseIntB
import Derived.Lib.Atoi
namespace Go.Proofs.YtacflahkofmcpaaGreatDoor

theorem al_ne {good : ByteArray → Bool} {s : ByteArray} {a : Nat} {ts : List Tk} (ha : a ≤ s.size) (h : al good s a = (ts, 0, 0)) : ts ≠ [] ∧ eC good s a = 0 := by
  have he : eC good s a = 0 := by
    rcases Nat.eq_zero_or_pos (eC good s a) with h' | h'
    · exact h'
    · rw [al_err ha (by omega)] at h; simp at h; omega
  refine ⟨?_, he⟩
  by_cases h4 : kd s a = 4
  · rw [al_end ha he h4] at h
    obtain rfl : [tk s a] = ts := congrArg Prod.fst h
    simp
  · rw [al_step ha he h4] at h
    obtain rfl : tk s a :: _ = ts := congrArg Prod.fst h
    simp

/-- The error, if any, is told at a place of the text. -/
theorem al_place (good : ByteArray → Bool) (s : ByteArray) : ∀ (n a : Nat), s.size - a ≤ n → a ≤ s.size → (al good s a).2.2 ≤ s.size ∧ ((al good s a).2.1 = 0 → (al good s a).2.2 = 0) := by
  intro n
  induction n with
  | zero =>
    intro a hn ha
    by_cases he : eC good s a = 0
    · by_cases h4 : kd s a = 4
      · rw [al_end ha he h4]; simp
      · have h1 := to_gt (eC_kd he) h4
        have h2 := to_le ha
        omega
    · rw [al_err ha he]
      exact ⟨pl_le ha, fun h => absurd h he⟩
  | succ n ih =>
    intro a hn ha
    by_cases he : eC good s a = 0
    · by_cases h4 : kd s a = 4
      · rw [al_end ha he h4]; simp
      · have h1 := to_gt (eC_kd he) h4
        have h2 := to_le ha
        rw [al_step ha he h4]
        exact ih (to s a) (by omega) h2
    · rw [al_err ha he]
      exact ⟨pl_le ha, fun h => absurd h he⟩

/-- There are no more tokens than bytes, and one. -/
theorem al_count (good : ByteArray → Bool) (s : ByteArray) : ∀ (n a : Nat), s.size - a ≤ n → a ≤ s.size → (al good s a).1.length ≤ s.size - a + 1 := by
  intro n
  induction n with
  | zero =>
    intro a hn ha
    by_cases he : eC good s a = 0
    · by_cases h4 : kd s a = 4
      · rw [al_end ha he h4]; simp
      · have h1 := to_gt (eC_kd he) h4
        have h2 := to_le ha
        omega
    · rw [al_err ha he]; simp
  | succ n ih =>
    intro a hn ha
    by_cases he : eC good s a = 0
    · by_cases h4 : kd s a = 4
      · rw [al_end ha he h4]; simp
      · have h1 := to_gt (eC_kd he) h4
        have h2 := to_le ha
        have h3 := ih (to s a) (by omega) h2
        rw [al_step ha he h4]
        simp only [List.length_cons]
        omega
    · rw [al_err ha he]; simp

/-- One step through the tokens: the n-th is that of place a; it is the last just if it is the end. -/
theorem walk_step {good : ByteArray → Bool} {s : ByteArray} {ts : List Tk} {n a : Nat} (hn : n < ts.length) (ha : a ≤ s.size) (h : al good s a = (ts.drop n, 0, 0)) :
    eC good s a = 0 ∧ ts[n]? = some (tk s a) ∧ (kd s a = 4 ↔ n + 1 = ts.length) ∧ (n + 1 < ts.length → al good s (to s a) = (ts.drop (n + 1), 0, 0)) ∧ (n + 1 = ts.length → to s a = s.size) := by
  obtain ⟨_, he⟩ := al_ne ha h
  have e0 : ts.drop n = ts[n] :: ts.drop (n + 1) := List.drop_eq_getElem_cons hn
  by_cases h4 : kd s a = 4
  · rw [al_end ha he h4, e0] at h
    obtain ⟨h1, h2⟩ := List.cons.inj (congrArg Prod.fst h)
    have hl : n + 1 = ts.length := by
      have := congrArg List.length h2
      simp at this
      omega
    refine ⟨he, by rw [List.getElem?_eq_getElem hn, ← h1], ⟨fun _ => hl, fun _ => h4⟩, fun h => by omega, fun _ => ?_⟩
    have e : suf s (pl s a) = [] := kind_end.1 h4
    have p1 := pl_le ha
    have p2 : (suf s (pl s a)).length = 0 := by rw [e]; rfl
    rw [suf_length] at p2
    have p3 : sz s a = 0 := by unfold sz; rw [e]; rfl
    unfold to
    omega
  · rw [al_step ha he h4, e0] at h
    obtain ⟨h1, h2⟩ := List.cons.inj (congrArg Prod.fst h)
    have h3 : al good s (to s a) = (ts.drop (n + 1), 0, 0) := by
      rw [← h2]
      exact Prod.ext rfl (show (al good s (to s a)).2 = (0, 0) from congrArg Prod.snd h)
    obtain ⟨hne, _⟩ := al_ne (to_le ha) h3
    have hl : ¬ n + 1 = ts.length := by
      intro hl
      apply hne
      rw [hl]
      simp
    exact ⟨he, by rw [List.getElem?_eq_getElem hn, ← h1], ⟨fun h => absurd h h4, fun h => absurd h hl⟩, fun _ => h3, fun h => absurd h hl⟩

/-- One byte of what stands between tokens. -/
theorem gap_step {s : ByteArray} {k p : Nat} {b : Bool} (hk : k < s.size) (hp : k < p) (h : k + gap b (suf s k) = p) :
    (b = true ∨ bN s k = 35 ∨ blN (bN s k) = true) ∧ (k + 1) + gap ((b && bN s k != 10) || bN s k == 35) (suf s (k + 1)) = p := by
  rw [suf_lt hk] at h
  rw [bN_lt hk]
  cases b with
  | true =>
    refine ⟨Or.inl rfl, ?_⟩
    rw [gap_t] at h
    have e : ((true && (s[k]).toNat != 10) || (s[k]).toNat == 35) = ((s[k]).toNat != 10) := by
      generalize (s[k]).toNat = c
      by_cases h1 : c = 35
      · subst h1; rfl
      · have : (c == 35) = false := by rw [beq_eq_false_iff_ne]; exact h1
        rw [this]; simp
    rw [e]
    omega
  | false =>
    rw [gap_f] at h
    by_cases h1 : (s[k]).toNat = 35
    · rw [if_pos h1] at h
      refine ⟨Or.inr (Or.inl h1), ?_⟩
      have e : ((false && (s[k]).toNat != 10) || (s[k]).toNat == 35) = true := by rw [h1]; rfl
      rw [e]
      omega
    · rw [if_neg h1] at h
      by_cases h2 : blN (s[k]).toNat = true
      · rw [if_pos h2] at h
        refine ⟨Or.inr (Or.inr h2), ?_⟩
        have e : ((false && (s[k]).toNat != 10) || (s[k]).toNat == 35) = false := by
          have : ((s[k]).toNat == 35) = false := by rw [beq_eq_false_iff_ne]; exact h1
          rw [this]; rfl
        rw [e]
        omega
      · rw [if_neg h2] at h
        omega
end Go.Proofs.YtacflahkofmcpaaGreatDoor

namespace Go.Proofs.YtacflahkofmcpaaGreatDoor

theorem all_blank {good : ByteArray → Bool} {S : ByteArray} (h : gap false (suf S 0) = S.size) : al good S 0 = ([⟨4, ⟨#[]⟩, S.size⟩], 0, 0) := by
  have hp : pl S 0 = S.size := by unfold pl; omega
  have hs : suf S (pl S 0) = [] := suf_ge (by omega)
  have hk : kd S 0 = 4 := by unfold kd; rw [hs]; rfl
  have he : eC good S 0 = 0 := by unfold eC; rw [hk]; simp
  have hx : tx S 0 = ⟨#[]⟩ := by
    apply bytes_ext
    rw [tx_list, hs, List.take_nil]
  rw [al_end (Nat.zero_le _) he hk]
  unfold tk
  rw [hk, hx, hp]

theorem gap_hashes : ∀ n : Nat, gap true (List.replicate n (35 : UInt8)) = n
  | 0 => rfl
  | n + 1 => by rw [List.replicate_succ, gap_t]; show 1 + gap true _ = _; rw [gap_hashes n]; omega
theorem gap_blanks (c : UInt8) (h : c.toNat ≠ 35) (hb : blN c.toNat = true) : ∀ n : Nat, gap false (List.replicate n c) = n
  | 0 => rfl
  | n + 1 => by rw [List.replicate_succ, gap_f, if_neg h, if_pos hb, gap_blanks c h hb n]; omega
theorem gap_same (c : UInt8) (h : c.toNat = 35 ∨ blN c.toNat = true) (n : Nat) : gap false (List.replicate n c) = n := by
  by_cases h35 : c.toNat = 35
  · have e : c = 35 := UInt8.toNat_inj.1 h35
    subst e
    cases n with
    | zero => rfl
    | succ n => rw [List.replicate_succ, gap_f, if_pos h35, gap_hashes]; omega
  · exact gap_blanks c h35 (h.resolve_left h35) n

/-- n bytes c. -/
def rep (n : Nat) (c : UInt8) : ByteArray := ⟨(List.replicate n c).toArray⟩
theorem rep_size (n : Nat) (c : UInt8) : (rep n c).size = n := by unfold rep; rw [size_list]; simp
theorem rep_al {good : ByteArray → Bool} (n : Nat) (c : UInt8) (h : c.toNat = 35 ∨ blN c.toNat = true) : al good (rep n c) 0 = ([⟨4, ⟨#[]⟩, n⟩], 0, 0) := by
  have e := all_blank (good := good) (S := rep n c) (by
    rw [rep_size]
    have : suf (rep n c) 0 = List.replicate n c := by unfold suf rep; simp
    rw [this, gap_same c h n])
  rw [rep_size] at e
  exact e
end Go.Proofs.YtacflahkofmcpaaGreatDoor

namespace Go.Proofs.YtacflahkofmcpaaGreatDoor

theorem nDigits_le : ∀ (k u : Nat), u < 10 ^ (k + 1) → Lib.nDigits u ≤ k + 1
  | 0, u, h => by rw [Lib.nDigits_small (by simpa using h)]; exact Nat.le_refl _
  | k + 1, u, h => by
    by_cases hs : u < 10
    · rw [Lib.nDigits_small hs]; omega
    · rw [Lib.nDigits_big hs]
      have := nDigits_le k (u / 10) (by rw [Nat.pow_succ] at h; omega)
      omega

theorem digits_head (u : Nat) : ∃ d r, Lib.decDigits u = d :: r ∧ 48 ≤ d.toNat ∧ d.toNat ≤ 57 ∧ (10 ≤ u → r ≠ []) := by
  induction u using Nat.strongRecOn with
  | _ u ih =>
    by_cases h : u < 10
    · refine ⟨_, [], Lib.decDigits_one h, ?_, ?_, fun h' => by omega⟩
      · rw [UInt8.toNat_ofNat']; omega
      · rw [UInt8.toNat_ofNat']; omega
    · obtain ⟨d, r, e, h1, h2, _⟩ := ih (u / 10) (by omega)
      refine ⟨d, r ++ [UInt8.ofNat (48 + u % 10)], ?_, h1, h2, fun _ => by simp⟩
      rw [Lib.decDigits, dif_neg h, e]; rfl

/-- What NumLess asks of a number's text. -/
theorem itoa_shape (a : Int) (h0 : -9223372036854775808 ≤ a) (h1 : a ≤ 9223372036854775807) :
    1 ≤ (Lib.itoa a).length ∧ (Lib.itoa a).length ≤ 20 ∧ (a < 0 → (Lib.itoa a).head? = some 45 ∧ (Lib.itoa a).length ≠ 1)
      ∧ (0 ≤ a → ∃ d, (Lib.itoa a).head? = some d ∧ 48 ≤ d.toNat ∧ d.toNat ≤ 57) ∧ (0 ≤ a → a < 10 → (Lib.itoa a).length = 1) ∧ (10 ≤ a → (Lib.itoa a).length ≠ 1) ∧ (a = 0 → Lib.itoa a = [48]) := by
  by_cases hn : a < 0
  · have e : Lib.itoa a = 45 :: Lib.decDigits a.natAbs := by unfold Lib.itoa; rw [if_pos hn]
    have hl := Lib.decDigits_length a.natAbs
    have hp := Lib.nDigits_pos a.natAbs
    have hle := nDigits_le 18 a.natAbs (by omega)
    rw [e]
    refine ⟨by simp, by rw [List.length_cons]; omega, fun _ => ⟨rfl, by rw [List.length_cons]; omega⟩, by omega, by omega, by omega, by omega⟩
  · have e : Lib.itoa a = Lib.decDigits a.toNat := by unfold Lib.itoa; rw [if_neg hn]
    have hl := Lib.decDigits_length a.toNat
    have hp := Lib.nDigits_pos a.toNat
    have hle := nDigits_le 18 a.toNat (by omega)
    obtain ⟨d, r, ed, b1, b2, _⟩ := digits_head a.toNat
    rw [e]
    refine ⟨by omega, by omega, by omega, fun _ => ⟨d, by rw [ed]; rfl, b1, b2⟩, fun _ h => ?_, fun h => ?_, fun h => ?_⟩
    · rw [hl, Lib.nDigits_small (by omega)]
    · rw [hl, Lib.nDigits_big (by omega)]
      have := Lib.nDigits_pos (a.toNat / 10)
      omega
    · subst h; simp [Lib.decDigits]
end Go.Proofs.YtacflahkofmcpaaGreatDoor

namespace Go.Proofs.YtacflahkofmcpaaGreatDoor

theorem dig_toNat (u : Nat) (h : u < 10) : (UInt8.ofNat (48 + u)).toNat = 48 + u := by rw [UInt8.toNat_ofNat']; omega
theorem dig_of {c : UInt8} (h1 : 48 ≤ c.toNat) (h2 : c.toNat ≤ 57) : UInt8.ofNat (48 + (c.toNat - 48)) = c := by
  apply UInt8.toNat_inj.1
  rw [dig_toNat _ (by omega)]
  omega
theorem digitVal_dig (u : Nat) (h : u < 10) : Lib.digitVal (UInt8.ofNat (48 + u)) = some u := by
  unfold Lib.digitVal
  rw [dig_toNat u h, if_pos (by omega)]
  congr 1
  omega

theorem decFrom_snoc (l : List UInt8) (c : UInt8) : ∀ acc, Lib.decFrom acc (l ++ [c]) = (Lib.decFrom acc l).bind fun n => (Lib.digitVal c).map fun d => n * 10 + d := by
  induction l with
  | nil =>
    intro acc
    simp only [List.nil_append, Lib.decFrom, Option.bind_some]
    cases Lib.digitVal c <;> rfl
  | cons a r ih =>
    intro acc
    simp only [List.cons_append, Lib.decFrom]
    cases Lib.digitVal a with
    | none => rfl
    | some d => exact ih _

theorem parseUintM_snoc (M : Nat) (l : List UInt8) (c : UInt8) : ∀ acc, Lib.parseUintM M acc (l ++ [c]) = match Lib.parseUintM M acc l with
    | .ok a => Lib.parseUintM M a [c]
    | e => e := by
  induction l with
  | nil => intro acc; simp only [List.nil_append, Lib.parseUintM]
  | cons a r ih =>
    intro acc
    simp only [List.cons_append]
    rw [Lib.parseUintM, Lib.parseUintM]
    by_cases h1 : 48 ≤ a.toNat ∧ a.toNat ≤ 57
    · simp only [h1, and_self, if_true]
      by_cases h2 : 1844674407370955162 ≤ acc
      · simp only [h2, if_true]
      · simp only [h2, if_false]
        by_cases h3 : M < acc * 10 + (a.toNat - 48)
        · simp only [h3, if_true]
        · simp only [h3, if_false]
          exact ih _
    · simp only [h1, if_false]

/-- A number's digits spell it. -/
theorem decFrom_digits (u : Nat) : Lib.decFrom 0 (Lib.decDigits u) = some u := by
  induction u using Nat.strongRecOn with
  | _ u ih =>
    by_cases h : u < 10
    · rw [Lib.decDigits_one h]
      simp only [Lib.decFrom, digitVal_dig u h, Nat.zero_mul, Nat.zero_add]
    · rw [Lib.decDigits, dif_neg h, decFrom_snoc, ih (u / 10) (by omega), digitVal_dig _ (by omega)]
      simp only [Option.map_some, Option.bind_some, Option.some.injEq]
      omega

theorem parseUintM_digits (M : Nat) (hM : M < 18446744073709551616) (u : Nat) (hu : u ≤ M) : Lib.parseUintM M 0 (Lib.decDigits u) = .ok u := by
  induction u using Nat.strongRecOn with
  | _ u ih =>
    by_cases h : u < 10
    · rw [Lib.decDigits_one h, Lib.parseUintM, dig_toNat u h]
      simp only [Lib.parseUintM]
      rw [if_pos (by omega), if_neg (by omega), if_neg (by omega)]
      congr 1
      omega
    · rw [Lib.decDigits, dif_neg h, parseUintM_snoc, ih (u / 10) (by omega) (by omega)]
      simp only [Lib.parseUintM]
      rw [dig_toNat _ (by omega), if_pos (by omega), if_neg (by omega), if_neg (by omega)]
      congr 1
      omega

/-- A number's numeral is read back. -/
theorem parse_itoa (v : Int) (h0 : -9223372036854775808 ≤ v) (h1 : v ≤ 9223372036854775807) : Lib.parseIntB 64 (Lib.itoa v) = .ok v := by
  by_cases hn : v < 0
  · have e : Lib.itoa v = 45 :: Lib.decDigits v.natAbs := by unfold Lib.itoa; rw [if_pos hn]
    obtain ⟨d, r, ed, _⟩ := digits_head v.natAbs
    have hp := parseUintM_digits 18446744073709551615 (by omega) v.natAbs (by omega)
    have hB : Lib.parseUintB 64 (Lib.decDigits v.natAbs) = .ok v.natAbs := by
      unfold Lib.parseUintB
      rw [if_neg (by rw [ed]; simp)]
      exact hp
    rw [e]
    unfold Lib.parseIntB
    simp only [show ((45 : UInt8).toNat = 45) = True from by decide, or_true, if_true, hB, not_true, false_and, if_false, true_and]
    rw [if_neg (by omega)]
    congr 1
    omega
  · have e : Lib.itoa v = Lib.decDigits v.toNat := by unfold Lib.itoa; rw [if_neg hn]
    obtain ⟨d, r, ed, b1, b2, _⟩ := digits_head v.toNat
    have hp := parseUintM_digits 18446744073709551615 (by omega) v.toNat (by omega)
    have hB : Lib.parseUintB 64 (d :: r) = .ok v.toNat := by
      unfold Lib.parseUintB
      rw [if_neg (by simp), ← ed]
      exact hp
    rw [e, ed]
    unfold Lib.parseIntB
    have g1 : ¬ d.toNat = 43 := by omega
    have g2 : ¬ d.toNat = 45 := by omega
    simp only [g1, g2, or_self, if_false, hB, not_false_eq_true, true_and, false_and]
    rw [if_neg (by omega)]
    congr 1
    omega

/-- The leading digit of a number that is not nought is not nought. -/
theorem digits_lead (u : Nat) (h : 1 ≤ u) : ∃ d r, Lib.decDigits u = d :: r ∧ 49 ≤ d.toNat ∧ d.toNat ≤ 57 := by
  induction u using Nat.strongRecOn with
  | _ u ih =>
    by_cases hs : u < 10
    · exact ⟨_, [], Lib.decDigits_one hs, by rw [dig_toNat u hs]; omega, by rw [dig_toNat u hs]; omega⟩
    · obtain ⟨d, r, e, b1, b2⟩ := ih (u / 10) (by omega) (by omega)
      exact ⟨d, r ++ [UInt8.ofNat (48 + u % 10)], by rw [Lib.decDigits, dif_neg hs, e]; rfl, b1, b2⟩

/-- Digits without a nought ahead are their number's numeral, and it is not nought. -/
theorem digits_of (n : Nat) : ∀ (l : List UInt8) (u : Nat), l.length = n + 1 → Lib.decFrom 0 l = some u → (∀ c r, l = c :: r → c.toNat ≠ 48) → Lib.decDigits u = l ∧ 1 ≤ u := by
  induction n with
  | zero =>
    intro l u hl h hc
    match l, hl with
    | [c], _ =>
      have h48 := hc c [] rfl
      simp only [Lib.decFrom] at h
      cases hd : Lib.digitVal c with
      | none => rw [hd] at h; cases h
      | some d =>
        rw [hd] at h
        simp only [Option.some.injEq, Nat.zero_mul, Nat.zero_add] at h
        unfold Lib.digitVal at hd
        split at hd
        · rename_i hb
          obtain rfl := Option.some.inj hd
          subst h
          refine ⟨?_, by omega⟩
          rw [Lib.decDigits_one (by omega), dig_of hb.1 hb.2]
        · cases hd
  | succ n ih =>
    intro l u hl h hc
    obtain ⟨l', c, rfl⟩ : ∃ l' c, l = l' ++ [c] := ⟨l.dropLast, l.getLast (by intro e; simp [e] at hl), (List.dropLast_concat_getLast _).symm⟩
    have hl' : l'.length = n + 1 := by simpa using hl
    rw [decFrom_snoc] at h
    cases h' : Lib.decFrom 0 l' with
    | none => rw [h'] at h; cases h
    | some m =>
      rw [h'] at h
      simp only [Option.bind_some] at h
      obtain ⟨e, hm⟩ := ih l' m hl' h' (fun a r hh => hc a (r ++ [c]) (by rw [hh]; rfl))
      cases hd : Lib.digitVal c with
      | none => rw [hd] at h; cases h
      | some d =>
        rw [hd] at h
        simp only [Option.map_some, Option.some.injEq] at h
        unfold Lib.digitVal at hd
        split at hd
        · rename_i hb
          obtain rfl := Option.some.inj hd
          subst h
          refine ⟨?_, by omega⟩
          rw [Lib.decDigits, dif_neg (by omega), show (m * 10 + (c.toNat - 48)) / 10 = m by omega, show (m * 10 + (c.toNat - 48)) % 10 = c.toNat - 48 by omega, e, dig_of hb.1 hb.2]
        · cases hd

/-- No numeral has a nought ahead. -/
theorem itoa_lead (v : Int) (r : List UInt8) (h : Lib.itoa v = 48 :: r) : r = [] := by
  by_cases hn : v < 0
  · unfold Lib.itoa at h
    rw [if_pos hn] at h
    simp at h
  · unfold Lib.itoa at h
    rw [if_neg hn] at h
    by_cases h0 : v.toNat = 0
    · rw [h0, Lib.decDigits_one (by omega)] at h
      simpa using h.symm
    · obtain ⟨d, r', e, b1, _⟩ := digits_lead v.toNat (by omega)
      rw [e] at h
      obtain ⟨rfl, _⟩ := List.cons.inj h
      simp at b1
theorem itoa_minus (v : Int) (r : List UInt8) : Lib.itoa v ≠ 45 :: 48 :: r := by
  intro h
  by_cases hn : v < 0
  · unfold Lib.itoa at h
    rw [if_pos hn] at h
    obtain ⟨d, r', e, b1, _⟩ := digits_lead v.natAbs (by omega)
    rw [e] at h
    simp only [List.cons.injEq, true_and] at h
    rw [h.1] at b1
    simp at b1
  · unfold Lib.itoa at h
    rw [if_neg hn] at h
    obtain ⟨d, r', e, b1, b2, _⟩ := digits_head v.toNat
    rw [e] at h
    obtain ⟨rfl, _⟩ := List.cons.inj h
    simp at b1
end Go.Proofs.YtacflahkofmcpaaGreatDoor
