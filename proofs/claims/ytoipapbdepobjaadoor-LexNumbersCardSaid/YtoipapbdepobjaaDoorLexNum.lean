/- Numerals as tokens. Of no program but for what num.Parse takes. -/
import Derived.Test.YtoipapbdepobjaaDoorLexBlank
import Derived.Test.YtoipapbdepobjaaDoorRead
import Derived.Test.YtoipapbdepobjaaDoorLexStep
namespace Go.Proofs.YtoipapbdepobjaaDoor

theorem digits_all (u : Nat) : ∀ c ∈ Lib.decDigits u, digN c.toNat = true := by
  intro c hc
  obtain ⟨k, hk⟩ := List.getElem?_of_mem hc
  obtain ⟨x, hx⟩ := Lib.digit_of_decFrom _ _ _ (decFrom_digits u) k _ hk
  unfold Lib.digitVal at hx
  by_cases h : 48 ≤ c.toNat ∧ c.toNat ≤ 57
  · unfold digN; simp [h.1, h.2]
  · rw [if_neg h] at hx; cases hx

/-- A numeral: digits, a minus ahead or none. -/
def Numeral (l : List UInt8) : Prop := ∃ ds, ds ≠ [] ∧ (∀ c ∈ ds, digN c.toNat = true) ∧ (l = ds ∨ l = 45 :: ds)
theorem digits_ne (u : Nat) : Lib.decDigits u ≠ [] := by
  have h := Lib.decDigits_length u
  have p := Lib.nDigits_pos u
  intro e
  rw [e] at h
  simp at h
  omega
theorem itoa_numeral (v : Int) : Numeral (Lib.itoa v) := by
  refine ⟨Lib.decDigits v.natAbs, digits_ne _, digits_all _, ?_⟩
  by_cases h : v < 0
  · exact Or.inr (by unfold Lib.itoa; rw [if_pos h])
  · exact Or.inl (by unfold Lib.itoa; rw [if_neg h, show v.toNat = v.natAbs by omega])

theorem dig_word {n : Nat} (h : digN n = true) : wordN n = true := by unfold wordN; rw [h]; simp
theorem dig_let {n : Nat} (h : digN n = true) : letN n = false := by
  simp only [digN, Bool.and_eq_true, decide_eq_true_eq] at h
  simp only [letN, Bool.and_eq_false_iff, decide_eq_false_iff_not]
  omega
theorem runL_digits (m : List UInt8) : ∀ ds : List UInt8, (∀ c ∈ ds, digN c.toNat = true) → runL (ds ++ m) = ds.length + runL m
  | [], _ => by simp
  | c :: ds, h => by
    rw [List.cons_append]
    simp only [runL, dig_word (h c (by simp)), if_true, List.length_cons]
    rw [runL_digits m ds (fun x hx => h x (by simp [hx]))]
    omega

theorem num_tok {l : List UInt8} (h : Numeral l) (m : List UInt8) : kind (l ++ m) = 2 ∧ tsize (l ++ m) = l.length + runL m := by
  obtain ⟨ds, hne, hd, hl⟩ := h
  cases ds with
  | nil => exact absurd rfl hne
  | cons c ds =>
    have hc := hd c (by simp)
    have hr := runL_digits m ds (fun x hx => hd x (by simp [hx]))
    rcases hl with rfl | rfl
    · rw [List.cons_append, kind_cons, tsize_cons]
      simp only [dig_let hc, hc, if_true, Bool.false_eq_true, if_false, hr, List.length_cons]
      exact ⟨trivial, by omega⟩
    · rw [List.cons_append, List.cons_append, kind_cons, tsize_cons, hd_cons]
      have e1 : letN (45 : UInt8).toNat = false := by decide
      have e2 : digN (45 : UInt8).toNat = false := by decide
      have e3 : ((45 : UInt8).toNat == 45 && digN c.toNat) = true := by rw [hc]; decide
      have hr' : runL (c :: (ds ++ m)) = ds.length + runL m + 1 := by
        simp only [runL, dig_word hc, if_true, hr]; omega
      simp only [e1, e2, e3, if_true, Bool.false_eq_true, if_false, hr', List.length_cons]
      exact ⟨trivial, by omega⟩

/-- A text that is one number from a on. -/
theorem num_from {A : ByteArray} {a : Nat} {q l m : List UInt8} (hA : suf A a = q ++ (l ++ m)) (hq : q = [] ∨ Sep q) (hl : Numeral l) (hm : runL m = m.length) :
    pl A a = a + q.length ∧ kd A a = 2 ∧ sz A a = l.length + m.length ∧ (tx A a).data.toList = l ++ m := by
  obtain ⟨k1, k2⟩ := num_tok hl m
  have hg : gap false (l ++ m) = 0 := gap_tok (by rw [k1]; decide)
  have hp : pl A a = a + q.length := by unfold pl; rw [hA, gap_pre hq, hg]; rfl
  have hs : suf A (pl A a) = l ++ m := by rw [hp, suf_add, hA, List.drop_left]
  have hz : sz A a = l.length + m.length := by unfold sz; rw [hs, k2, hm]
  refine ⟨hp, by unfold kd; rw [hs, k1], hz, ?_⟩
  rw [tx_list, hs, hz, ← List.length_append, List.take_length]

/-- The end alone. -/
theorem al_over {good : ByteArray → Bool} {A : ByteArray} : al good A A.size = ([⟨4, ⟨#[]⟩, A.size⟩], 0, 0) := by
  have hs : suf A A.size = [] := suf_ge (Nat.le_refl _)
  have hp : pl A A.size = A.size := by unfold pl; rw [hs]; rfl
  have hk : kd A A.size = 4 := by unfold kd; rw [hp, hs]; rfl
  have he : eC good A A.size = 0 := by unfold eC; rw [hk]; simp
  have hx : tx A A.size = ⟨#[]⟩ := by
    apply bytes_ext
    rw [tx_list, hp, hs, List.take_nil]
  rw [al_end (Nat.le_refl _) he hk]
  unfold tk
  rw [hk, hx, hp]

/-- A numeral is a number. -/
theorem good_itoa (v : Int) (h0 : -9223372036854775808 ≤ v) (h1 : v ≤ 9223372036854775807) (x : ByteArray) (hx : x.data.toList = Lib.itoa v) : pB x = true := by
  unfold pB
  rw [parseV_itoa v h0 h1 hx.symm]
  rfl
theorem num_one (v : Int) (h0 : -9223372036854775808 ≤ v) (h1 : v ≤ 9223372036854775807) (A : ByteArray) (hA : A.data.toList = Lib.itoa v) : al pB A 0 = ([⟨2, A, 0⟩, ⟨4, ⟨#[]⟩, A.size⟩], 0, 0) := by
  have hs : suf A 0 = [] ++ (Lib.itoa v ++ []) := by unfold suf; simp [hA]
  obtain ⟨p, k, z, x⟩ := num_from hs (Or.inl rfl) (itoa_numeral v) rfl
  have hx : tx A 0 = A := by apply bytes_ext; rw [x, hA]; simp
  have hsz : A.size = (Lib.itoa v).length := by rw [size_list, hA]
  have ht : to A 0 = A.size := by unfold to; rw [p, z, hsz]; simp
  have he : eC pB A 0 = 0 := by unfold eC; rw [k, hx, good_itoa v h0 h1 A hA]; simp
  rw [al_step (Nat.zero_le _) he (by rw [k]; decide), ht, al_over]
  unfold tk
  rw [k, hx, p]
  rfl
/-- A text that is no number though it begins as one. -/
theorem num_bad {A : ByteArray} {l m : List UInt8} (hA : A.data.toList = l ++ m) (hl : Numeral l) (hm : runL m = m.length) (hb : ∀ v, Lib.itoa v ≠ l ++ m) : al pB A 0 = ([], 5, 0) := by
  have hs : suf A 0 = [] ++ (l ++ m) := by unfold suf; simp [hA]
  obtain ⟨p, k, z, x⟩ := num_from hs (Or.inl rfl) hl hm
  have hx : tx A 0 = A := by apply bytes_ext; rw [x, hA]
  have hpB : pB A = false := by
    unfold pB
    cases e : parseV A.data.toList with
    | none => rfl
    | some v => exact absurd ((parseV_of e).trans hA) (hb v)
  have he : eC pB A 0 = 5 := by unfold eC; rw [k, hx, hpB]; simp
  rw [al_err (Nat.zero_le _) (by rw [he]; decide), he, p]
  rfl
theorem bad_letter (v w : Int) (c : UInt8) (hc : letN c.toNat = true) : Lib.itoa w ≠ Lib.itoa v ++ [c] := by
  intro h
  obtain ⟨ds, _, hd, hl⟩ := itoa_numeral w
  have hm : c ∈ Lib.itoa w := by rw [h]; simp
  have hcd : digN c.toNat = true ∨ c = 45 := by
    rcases hl with e | e
    · rw [e] at hm; exact Or.inl (hd c hm)
    · rw [e] at hm
      rcases List.mem_cons.1 hm with rfl | hm
      · exact Or.inr rfl
      · exact Or.inl (hd c hm)
  rcases hcd with h' | h'
  · rw [dig_let h'] at hc; cases hc
  · subst h'; revert hc; decide
theorem bad_nought (v w : Int) : Lib.itoa w ≠ [48] ++ Lib.itoa v := by
  intro h
  have e := itoa_lead w (Lib.itoa v) (by simpa using h)
  obtain ⟨ds, hne, _, hl⟩ := itoa_numeral v
  rw [e] at hl
  rcases hl with h' | h'
  · exact hne h'.symm
  · cases h'
theorem nought_numeral (v : Int) (h0 : 0 ≤ v) : Numeral ([48] ++ Lib.itoa v) := by
  refine ⟨48 :: Lib.decDigits v.natAbs, by simp, ?_, Or.inl (by unfold Lib.itoa; rw [if_neg (by omega), show v.toNat = v.natAbs by omega]; rfl)⟩
  intro c hc
  rcases List.mem_cons.1 hc with rfl | hc
  · decide
  · exact digits_all _ c hc
/-- A minus, a blank, a number. -/
theorem num_apart (v : Int) (h0 : -9223372036854775808 ≤ v) (h1 : v ≤ 9223372036854775807) (A x : ByteArray) (hA : A.data.toList = [45, 32] ++ Lib.itoa v) (hx : x.data.toList = Lib.itoa v) :
    al pB A 0 = ([⟨3, ⟨#[45]⟩, 0⟩, ⟨2, x, 2⟩, ⟨4, ⟨#[]⟩, A.size⟩], 0, 0) := by
  have hs : suf A 0 = 45 :: 32 :: Lib.itoa v := by unfold suf; simp [hA]
  have hp : pl A 0 = 0 := by unfold pl; rw [hs]; rfl
  have hk : kd A 0 = 3 := by unfold kd; rw [hp, hs]; rfl
  have hz : sz A 0 = 1 := by unfold sz; rw [hp, hs]; rfl
  have hx0 : tx A 0 = ⟨#[45]⟩ := by apply bytes_ext; rw [tx_list, hp, hs, hz]; rfl
  have ht : to A 0 = 1 := by unfold to; rw [hp, hz]
  have he : eC pB A 0 = 0 := by unfold eC; rw [hk]; simp
  have hsz : A.size = 2 + (Lib.itoa v).length := by rw [size_list, hA]; simp; omega
  have hs1 : suf A 1 = [32] ++ (Lib.itoa v ++ []) := by
    have := suf_add A 0 1
    rw [hs] at this
    simpa using this
  obtain ⟨p, k, z, x1⟩ := num_from hs1 (Or.inr (Or.inl rfl)) (itoa_numeral v) rfl
  have hx1 : tx A 1 = x := by apply bytes_ext; rw [x1, hx]; simp
  have ht1 : to A 1 = A.size := by unfold to; rw [p, z, hsz]; simp
  have he1 : eC pB A 1 = 0 := by unfold eC; rw [k, hx1, good_itoa v h0 h1 x hx]; simp
  rw [al_step (Nat.zero_le _) he (by rw [hk]; decide), ht, al_step (by omega) he1 (by rw [k]; decide), ht1, al_over]
  unfold tk
  rw [hk, hx0, hp, k, hx1, p]
  rfl

/-- .. as All answers it. -/
theorem all_of {A : ByteArray} {ts : List Tk} {c p : Nat} (hs : A.size ≤ 4000) (h : al pB A 0 = (ts, c, p)) : tsA A = (if c = 0 then ts else []) ∧ ecA A = c ∧ epA A = p := by
  have h4 : ¬ 4000 < A.size := by omega
  unfold tsA ecA epA tsS ecS epS
  simp only [h4, if_false, h, and_self]
end Go.Proofs.YtoipapbdepobjaaDoor
