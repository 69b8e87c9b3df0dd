/- Decimal numerals, of no program: the numeral of a number is read back to it; a row of digits without noughts ahead is its number's numeral. -/
import Derived.Test.YtcfohakgokiedaaGreatDoorJ10Digits
import Derived.Lib.Atoi
import Derived.Test.YtcfohakgokiedaaGreatDoorJ00FinP
namespace Go.Proofs.YtcfohakgokiedaaGreatDoor

theorem dig_toNat (u : Nat) (h : u < 10) : (UInt8.ofNat (48 + u)).toNat = 48 + u := by rw [UInt8.toNat_ofNat']; omega
theorem dig_of {c : UInt8} (h1 : 48 ≤ c.toNat) (h2 : c.toNat ≤ 57) : UInt8.ofNat (48 + (c.toNat - 48)) = c := by
 apply UInt8.toNat_inj.1
 rw [dig_toNat _ (by omega)]
 omega
theorem digitVal_dig (u : Nat) (h : u < 10) : Lib.digitVal (UInt8.ofNat (48 + u)) = some u := by
 unfold Lib.digitVal
 rw [dig_toNat u h, if_pos (by omega)]
 congr 1
 omega

theorem decFrom_snoc (l : List UInt8) (c : UInt8) : ∀ acc, Lib.decFrom acc (l ++ [c]) = (Lib.decFrom acc l).bind fun n => (Lib.digitVal c).map fun d => n * 10 + d := by
 induction l with
 | nil =>
  intro acc
  simp only [List.nil_append, Lib.decFrom, Option.bind_some]
  cases Lib.digitVal c <;> rfl
 | cons a r ih =>
  intro acc
  simp only [List.cons_append, Lib.decFrom]
  cases Lib.digitVal a with
  | none => rfl
  | some d => exact ih _

theorem parseUintM_snoc (M : Nat) (l : List UInt8) (c : UInt8) : ∀ acc, Lib.parseUintM M acc (l ++ [c]) = match Lib.parseUintM M acc l with
  | .ok a => Lib.parseUintM M a [c]
  | e => e := by
 induction l with
 | nil => intro acc; simp only [List.nil_append, Lib.parseUintM]
 | cons a r ih =>
  intro acc
  simp only [List.cons_append]
  rw [Lib.parseUintM, Lib.parseUintM]
  by_cases h1 : 48 ≤ a.toNat ∧ a.toNat ≤ 57
  ·
   simp only [h1, and_self, if_true]
   by_cases h2 : 1844674407370955162 ≤ acc
   ·
    simp only [h2, if_true]
   ·
    simp only [h2, if_false]
    by_cases h3 : M < acc * 10 + (a.toNat - 48)
    ·
     simp only [h3, if_true]
    ·
     simp only [h3, if_false]
     exact ih _
  ·
   simp only [h1, if_false]

/-- A number's digits spell it. -/
theorem decFrom_digits (u : Nat) : Lib.decFrom 0 (Lib.decDigits u) = some u := by
 induction u using Nat.strongRecOn with
 | _ u ih =>
  by_cases h : u < 10
  ·
   rw [Lib.decDigits_one h]
   simp only [Lib.decFrom, digitVal_dig u h, Nat.zero_mul, Nat.zero_add]
  ·
   rw [Lib.decDigits, dif_neg h, decFrom_snoc, ih (u / 10) (by omega), digitVal_dig _ (by omega)]
   simp only [Option.map_some, Option.bind_some, Option.some.injEq]
   omega

theorem parseUintM_digits (M : Nat) (hM : M < 18446744073709551616) (u : Nat) (hu : u ≤ M) : Lib.parseUintM M 0 (Lib.decDigits u) = .ok u := by
 induction u using Nat.strongRecOn with
 | _ u ih =>
  by_cases h : u < 10
  ·
   rw [Lib.decDigits_one h, Lib.parseUintM, dig_toNat u h]
   simp only [Lib.parseUintM]
   rw [if_pos (by omega), if_neg (by omega), if_neg (by omega)]
   congr 1
   omega
  ·
   rw [Lib.decDigits, dif_neg h, parseUintM_snoc, ih (u / 10) (by omega) (by omega)]
   simp only [Lib.parseUintM]
   rw [dig_toNat _ (by omega), if_pos (by omega), if_neg (by omega), if_neg (by omega)]
   congr 1
   omega

/-- A number's numeral is read back. -/
theorem parse_itoa (v : Int) (h0 : -9223372036854775808 ≤ v) (h1 : v ≤ 9223372036854775807) : Lib.parseIntB 64 (Lib.itoa v) = .ok v := by
 by_cases hn : v < 0
 ·
  have e : Lib.itoa v = 45 :: Lib.decDigits v.natAbs := by unfold Lib.itoa; rw [if_pos hn]
  obtain ⟨d, r, ed, _⟩ := digits_head v.natAbs
  have hp := parseUintM_digits 18446744073709551615 (by omega) v.natAbs (by omega)
  have hB : Lib.parseUintB 64 (Lib.decDigits v.natAbs) = .ok v.natAbs := by
   unfold Lib.parseUintB
   rw [if_neg (by rw [ed]; simp)]
   exact hp
  rw [e]
  unfold Lib.parseIntB
  simp only [show ((45 : UInt8).toNat = 45) = True from by decide, or_true, if_true, hB, not_true, false_and, if_false, true_and]
  rw [if_neg (by omega)]
  congr 1
  omega
 ·
  have e : Lib.itoa v = Lib.decDigits v.toNat := by unfold Lib.itoa; rw [if_neg hn]
  obtain ⟨d, r, ed, b1, b2, _⟩ := digits_head v.toNat
  have hp := parseUintM_digits 18446744073709551615 (by omega) v.toNat (by omega)
  have hB : Lib.parseUintB 64 (d :: r) = .ok v.toNat := by
   unfold Lib.parseUintB
   rw [if_neg (by simp), ← ed]
   exact hp
  rw [e, ed]
  unfold Lib.parseIntB
  have g1 : ¬ d.toNat = 43 := by omega
  have g2 : ¬ d.toNat = 45 := by omega
  simp only [g1, g2, or_self, if_false, hB, not_false_eq_true, true_and, false_and]
  rw [if_neg (by omega)]
  congr 1
  omega

/-- The leading digit of a number that is not nought is not nought. -/
theorem digits_lead (u : Nat) (h : 1 ≤ u) : ∃ d r, Lib.decDigits u = d :: r ∧ 49 ≤ d.toNat ∧ d.toNat ≤ 57 := by
 induction u using Nat.strongRecOn with
 | _ u ih =>
  by_cases hs : u < 10
  ·
   exact ⟨_, [], Lib.decDigits_one hs, by rw [dig_toNat u hs]; omega, by rw [dig_toNat u hs]; omega⟩
  ·
   obtain ⟨d, r, e, b1, b2⟩ := ih (u / 10) (by omega) (by omega)
   exact ⟨d, r ++ [UInt8.ofNat (48 + u % 10)], by rw [Lib.decDigits, dif_neg hs, e]; rfl, b1, b2⟩

/-- Digits without a nought ahead are their number's numeral, and it is not nought. -/
theorem digits_of (n : Nat) : ∀ (l : List UInt8) (u : Nat), l.length = n + 1 → Lib.decFrom 0 l = some u → (∀ c r, l = c :: r → c.toNat ≠ 48) → Lib.decDigits u = l ∧ 1 ≤ u := by
 induction n with
 | zero =>
  intro l u hl h hc
  match l, hl with
  | [c], _ =>
   have h48 := hc c [] rfl
   simp only [Lib.decFrom] at h
   cases hd : Lib.digitVal c with
   | none => rw [hd] at h; cases h
   | some d =>
    rw [hd] at h
    simp only [Option.some.injEq, Nat.zero_mul, Nat.zero_add] at h
    unfold Lib.digitVal at hd
    split at hd
    ·
     rename_i hb
     obtain rfl := Option.some.inj hd
     subst h
     refine ⟨?_, by omega⟩
     rw [Lib.decDigits_one (by omega), dig_of hb.1 hb.2]
    ·
     cases hd
 | succ n ih =>
  intro l u hl h hc
  obtain ⟨l', c, rfl⟩ : ∃ l' c, l = l' ++ [c] := ⟨l.dropLast, l.getLast (by intro e; simp [e] at hl), (List.dropLast_concat_getLast _).symm⟩
  have hl' : l'.length = n + 1 := by simpa using hl
  rw [decFrom_snoc] at h
  cases h' : Lib.decFrom 0 l' with
  | none => rw [h'] at h; cases h
  | some m =>
   rw [h'] at h
   simp only [Option.bind_some] at h
   obtain ⟨e, hm⟩ := ih l' m hl' h' (fun a r hh => hc a (r ++ [c]) (by rw [hh]; rfl))
   cases hd : Lib.digitVal c with
   | none => rw [hd] at h; cases h
   | some d =>
    rw [hd] at h
    simp only [Option.map_some, Option.some.injEq] at h
    unfold Lib.digitVal at hd
    split at hd
    ·
     rename_i hb
     obtain rfl := Option.some.inj hd
     subst h
     refine ⟨?_, by omega⟩
     rw [Lib.decDigits, dif_neg (by omega), show (m * 10 + (c.toNat - 48)) / 10 = m by omega, show (m * 10 + (c.toNat - 48)) % 10 = c.toNat - 48 by omega, e, dig_of hb.1 hb.2]
    ·
     cases hd

/-- No numeral has a nought ahead. -/
theorem itoa_lead (v : Int) (r : List UInt8) (h : Lib.itoa v = 48 :: r) : r = [] := by
 by_cases hn : v < 0
 ·
  unfold Lib.itoa at h
  rw [if_pos hn] at h
  simp at h
 ·
  unfold Lib.itoa at h
  rw [if_neg hn] at h
  by_cases h0 : v.toNat = 0
  ·
   rw [h0, Lib.decDigits_one (by omega)] at h
   simpa using h.symm
  ·
   obtain ⟨d, r', e, b1, _⟩ := digits_lead v.toNat (by omega)
   rw [e] at h
   obtain ⟨rfl, _⟩ := List.cons.inj h
   simp at b1
theorem itoa_minus (v : Int) (r : List UInt8) : Lib.itoa v ≠ 45 :: 48 :: r := by
 intro h
 by_cases hn : v < 0
 ·
  unfold Lib.itoa at h
  rw [if_pos hn] at h
  obtain ⟨d, r', e, b1, _⟩ := digits_lead v.natAbs (by omega)
  rw [e] at h
  simp only [List.cons.injEq, true_and] at h
  rw [h.1] at b1
  simp at b1
 ·
  unfold Lib.itoa at h
  rw [if_neg hn] at h
  obtain ⟨d, r', e, b1, b2, _⟩ := digits_head v.toNat
  rw [e] at h
  obtain ⟨rfl, _⟩ := List.cons.inj h
  simp at b1
end Go.Proofs.YtcfohakgokiedaaGreatDoor

namespace Go.Proofs.YtcfohakgokiedaaGreatDoor

/-- A text, and behind it, parted by a blank, a name and its number. -/
def partT (s name : List UInt8) (n : Int) : List UInt8 := (if s.length = 0 then s else s ++ [32]) ++ name ++ [61] ++ Lib.itoa n
def nameT (t r : Nat) : List UInt8 := Lib.itoa (t : Int) ++ [58, 114] ++ Lib.itoa (r : Int)
/-- The names of T threads' registers and of some locations, each with its number's place. -/
def partsT (T : Nat) (L : List UInt8) : List (List UInt8 × Nat) := (List.range (T * 4)).map (fun k => (nameT (k / 4) (k % 4), k)) ++ L.zipIdx.map (fun x => ([x.1], 16 + x.2))
def foldT (f : FinT) (ps : List (List UInt8 × Nat)) : List UInt8 := ps.foldl (fun s p => partT s p.1 (f.l.getD p.2 0)) []
def finTx (T : Nat) (L : List UInt8) (f : FinT) : List UInt8 := foldT f (partsT T L)
theorem foldT_snoc (f : FinT) (ps : List (List UInt8 × Nat)) (p : List UInt8 × Nat) : foldT f (ps ++ [p]) = partT (foldT f ps) p.1 (f.l.getD p.2 0) := by
 unfold foldT
 rw [List.foldl_append]
 rfl
theorem foldT_take (f : FinT) (ps : List (List UInt8 × Nat)) {k : Nat} {p : List UInt8 × Nat} (h : ps[k]? = some p) : foldT f (ps.take (k + 1)) = partT (foldT f (ps.take k)) p.1 (f.l.getD p.2 0) := by
 rw [List.take_add_one, h]
 exact foldT_snoc f _ p
theorem partsT_len (T : Nat) (L : List UInt8) : (partsT T L).length = T * 4 + L.length := by simp [partsT]
theorem partsT_reg (T : Nat) (L : List UInt8) {t r : Nat} (ht : t < T) (hr : r < 4) : (partsT T L)[t * 4 + r]? = some (nameT t r, t * 4 + r) := by
 unfold partsT
 rw [List.getElem?_append_left (by simp; omega), List.getElem?_map, List.getElem?_range (by omega)]
 simp only [Option.map_some, Option.some.injEq, Prod.mk.injEq, and_true]
 rw [show (t * 4 + r) / 4 = t by omega, show (t * 4 + r) % 4 = r by omega]
theorem partsT_loc (T : Nat) (L : List UInt8) {c : Nat} {x : UInt8} (h : L[c]? = some x) : (partsT T L)[T * 4 + c]? = some ([x], 16 + c) := by
 unfold partsT
 rw [List.getElem?_append_right (by simp), List.getElem?_map, List.length_map, List.length_range, show T * 4 + c - T * 4 = c by omega, List.getElem?_zipIdx, h]
 simp
theorem getD_in (f : FinT) (k : Nat) : -9223372036854775808 ≤ f.l.getD k 0 ∧ f.l.getD k 0 ≤ 9223372036854775807 := by
 rw [List.getD_eq_getElem?_getD]
 cases h : f.l[k]? with
 | none => simp
 | some x => exact f.b x (List.mem_of_getElem? h)
theorem itoa_len (f : FinT) (k : Nat) : (Lib.itoa (f.l.getD k 0)).length ≤ 20 := (itoa_shape _ (getD_in f k).1 (getD_in f k).2).2.1
theorem digit_len {k : Nat} (h : k < 4) : (Lib.itoa (k : Int)).length = 1 := (itoa_shape (k : Int) (by omega) (by omega)).2.2.2.2.1 (by omega) (by omega)
theorem nameT_len {t r : Nat} (ht : t < 4) (hr : r < 4) : (nameT t r).length = 4 := by
 unfold nameT
 simp [digit_len ht, digit_len hr]
theorem partT_len (s name : List UInt8) (n : Int) : (partT s name n).length ≤ s.length + name.length + (Lib.itoa n).length + 2 := by
 unfold partT
 split <;> simp <;> omega
theorem parts_short {T : Nat} {L : List UInt8} (hT : T ≤ 4) : ∀ p ∈ partsT T L, p.1.length ≤ 4 := by
 intro p hp
 unfold partsT at hp
 rcases List.mem_append.1 hp with h | h
 ·
  obtain ⟨k, hk, rfl⟩ := List.mem_map.1 h
  rw [nameT_len (by have := List.mem_range.1 hk; omega) (by omega)]
  omega
 ·
  obtain ⟨x, _, rfl⟩ := List.mem_map.1 h
  simp
theorem foldT_from (f : FinT) : ∀ (ps : List (List UInt8 × Nat)) (s : List UInt8), (∀ p ∈ ps, p.1.length ≤ 4) → (ps.foldl (fun s p => partT s p.1 (f.l.getD p.2 0)) s).length ≤ s.length + ps.length * 26
 | [], s, _ => by simp
 | p :: ps, s, h => by
  rw [List.foldl_cons]
  have h1 := partT_len s p.1 (f.l.getD p.2 0)
  have h2 := foldT_from f ps (partT s p.1 (f.l.getD p.2 0)) (fun q hq => h q (List.mem_cons_of_mem _ hq))
  have h3 := h p List.mem_cons_self
  have h4 := itoa_len f p.2
  rw [List.length_cons]
  omega
theorem foldT_len (f : FinT) (ps : List (List UInt8 × Nat)) (h : ∀ p ∈ ps, p.1.length ≤ 4) : (foldT f ps).length ≤ ps.length * 26 := by
 have := foldT_from f ps [] h
 rw [List.length_nil, Nat.zero_add] at this
 exact this
theorem foldT_bound (f : FinT) {T : Nat} {L : List UInt8} (hT : T ≤ 4) (hL : L.length ≤ 4) (k : Nat) : (foldT f ((partsT T L).take k)).length ≤ 520 := by
 have h := foldT_len f ((partsT T L).take k) (fun p hp => parts_short hT p (List.mem_of_mem_take hp))
 have h2 : ((partsT T L).take k).length ≤ 20 := by
  rw [List.length_take, partsT_len]
  omega
 omega
end Go.Proofs.YtcfohakgokiedaaGreatDoor
