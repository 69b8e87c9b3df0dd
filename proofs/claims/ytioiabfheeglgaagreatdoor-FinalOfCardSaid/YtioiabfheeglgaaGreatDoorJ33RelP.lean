/- A relation made of pairs: the program's and the document's. -/
import Derived.Test.YtioiabfheeglgaaGreatDoorJ32RelJ
namespace Go.Proofs.YtioiabfheeglgaaGreatDoor
open Go.RowKit

def pairC (p : Int × Int) : List Value := [.int .i64 p.1, .int .i64 p.2]
def ofL (r : RelT) (L : List (Int × Int)) : RelT := L.foldl (fun r p => addR r p.1 p.2) r
def ofR (n : Int) (L : List (Int × Int)) : RelT := ofL (newR n) (L.take 200)
theorem new_wr (n : Int) : Wr (newR n) := ⟨Nat.min_le_right _ _, fun _ => by show 0 < _; decide⟩
theorem ofL_wr : ∀ (L : List (Int × Int)) (r : RelT), Wr r → Wr (ofL r L)
 | [], _, h => h
 | p :: L, _, h => ofL_wr L _ (add_wr h p.1 p.2)
theorem ofL_n : ∀ (L : List (Int × Int)) (r : RelT), (ofL r L).n = r.n
 | [], _ => rfl
 | p :: L, r => (ofL_n L _).trans (add_n r p.1 p.2)
theorem of_wr (n : Int) (L : List (Int × Int)) : Wr (ofR n L) := ofL_wr _ _ (new_wr n)
theorem of_n (n : Int) (L : List (Int × Int)) : (ofR n L).n = min n.toNat 64 := ofL_n _ _
theorem pairs_at {α : Type} {L : List α} {n : Nat} (h : n < L.length) : ∃ x, L[n]? = some x ∧ L.drop n = x :: L.drop (n + 1) :=
 ⟨L[n], List.getElem?_eq_getElem h, List.drop_eq_getElem_cons h⟩
end Go.Proofs.YtioiabfheeglgaaGreatDoor

namespace Go.Proofs.YtioiabfheeglgaaGreatDoor

/-- Nobody else than the numbers below n leads anywhere, or is led to. -/
structure Wf (r : RelT) : Prop where
 n : r.n ≤ 64
 b : ∀ a b, (r.f a).testBit b = true → a < r.n ∧ b < r.n
abbrev H (r : RelT) (a b : Nat) : Bool := (r.f a).testBit b
theorem Wf.wr {r : RelT} (h : Wf r) : Wr r := by
 refine ⟨h.n, fun a => ?_⟩
 have : r.f a < 2 ^ 64 := by
  apply Nat.lt_pow_two_of_testBit
  intro i hi
  cases hb : (r.f a).testBit i with
  | false => rfl
  | true => have := (h.b a i hb).2; have := h.n; omega
 simpa using this
theorem rel_ext {r q : RelT} (hn : r.n = q.n) (h : ∀ a b, H r a b = H q a b) : r = q := by
 cases r
 cases q
 simp only at hn
 subst hn
 congr 1
 funext a
 exact Nat.eq_of_testBit_eq (fun b => h a b)
theorem Wf.off {r : RelT} (h : Wf r) {a b : Nat} (hab : r.n ≤ a ∨ r.n ≤ b) : H r a b = false := by
 cases hb : H r a b with
 | false => rfl
 | true => have := h.b a b hb; omega
theorem hasI_nat (s i : Nat) (h : i < 64) : hasI s (i : Int) = s.testBit i := by
 rw [has_bit]
 have : (0 : Int) ≤ i ∧ (i : Int) < 64 := by omega
 simp [this]
theorem new_n (n : Int) : (newR n).n = min n.toNat 64 := rfl
theorem new_H (n : Int) (a b : Nat) : H (newR n) a b = false := Nat.zero_testBit b
theorem new_wf (n : Int) : Wf (newR n) := ⟨Nat.min_le_right _ _, fun a b h => by rw [show ((newR n).f a).testBit b = false from new_H n a b] at h; cases h⟩
theorem add_H {r : RelT} (hr : Wf r) (a b : Int) (x y : Nat) : H (addR r a b) x y = (H r x y || (overR r a && overR r b && decide ((x : Int) = a) && decide ((y : Int) = b))) := by
 unfold addR
 split
 ·
  rename_i h
  rw [Bool.and_eq_true] at h
  obtain ⟨k, rfl, hk⟩ := over_spec h.1
  obtain ⟨l, rfl, hl⟩ := over_spec h.2
  rw [h.1, h.2]
  show (if x = k then withI (r.f k) l else r.f x).testBit y = _
  have := hr.n
  by_cases hx : x = k
  ·
   subst hx
   rw [if_pos rfl, with_bit]
   congr 1
   rw [Bool.eq_iff_iff]
   simp only [Bool.and_eq_true, decide_eq_true_eq, true_and, and_true]
   constructor
   ·
    rintro ⟨h1, h2⟩
    exact h1.symm
   ·
    intro h1
    exact ⟨h1.symm, by omega⟩
  ·
   rw [if_neg hx]
   have : ¬ ((x : Int) = k) := by omega
   simp [this]
 ·
  rename_i h
  have : (overR r a && overR r b) = false := by simpa using h
  rw [this]
  simp
theorem add_wf {r : RelT} (hr : Wf r) (a b : Int) : Wf (addR r a b) := by
 refine ⟨by rw [add_n]; exact hr.n, fun x y h => ?_⟩
 rw [add_n]
 have e := add_H hr a b x y
 rw [show ((addR r a b).f x).testBit y = H (addR r a b) x y from rfl, e] at h
 cases hH : H r x y with
 | true => exact hr.b x y hH
 | false =>
  rw [hH] at h
  simp only [Bool.false_or, Bool.and_eq_true, decide_eq_true_eq] at h
  obtain ⟨⟨⟨h1, h2⟩, h3⟩, h4⟩ := h
  obtain ⟨k, hk, hkn⟩ := over_spec h1
  obtain ⟨l, hl, hln⟩ := over_spec h2
  omega
theorem upto_bit (n j : Nat) (hn : n ≤ 64) : (uptoI n).testBit j = decide (j < n) := by
 unfold uptoI
 rw [if_neg (by omega)]
 by_cases h : n = 64
 ·
  subst h
  have e : (18446744073709551615 : Nat) = 2 ^ 64 - 1 := by decide
  rw [if_pos (by omega), e, Nat.testBit_two_pow_sub_one]
 ·
  rw [if_neg (by omega), Int.toNat_natCast, Nat.testBit_two_pow_sub_one]
theorem keep_H {r : RelT} (hr : Wf r) (s a b : Nat) : H (keepR r s) a b = (H r a b && s.testBit a && s.testBit b) := by
 show (if a < r.n then keepG r s a else 0).testBit b = _
 have := hr.n
 by_cases ha : a < r.n
 ·
  rw [if_pos ha]
  unfold keepG
  rw [hasI_nat s a (by omega)]
  cases s.testBit a with
  | true => simp
  | false => simp
 ·
  rw [if_neg ha, Nat.zero_testBit, hr.off (Or.inl (by omega))]
  rfl
theorem keep_n {r : RelT} (hr : Wf r) (s : Nat) : (keepR r s).n = r.n := by
 show min ((r.n : Int)).toNat 64 = r.n
 have := hr.n
 omega
theorem keep_wf {r : RelT} (hr : Wf r) (s : Nat) : Wf (keepR r s) := by
 refine ⟨by rw [keep_n hr]; exact hr.n, fun a b h => ?_⟩
 rw [keep_n hr]
 rw [show ((keepR r s).f a).testBit b = H (keepR r s) a b from rfl, keep_H hr] at h
 simp only [Bool.and_eq_true] at h
 exact hr.b a b h.1.1
theorem below_H {r : RelT} (hr : Wf r) (n a b : Nat) (hn : n ≤ 64) : H (belowR r n) a b = (H r a b && decide (a < n) && decide (b < n)) := by
 show H (keepR r (uptoI n)) a b = _
 rw [keep_H hr, upto_bit _ _ hn, upto_bit _ _ hn]
theorem below_wf {r : RelT} (hr : Wf r) {n : Nat} (hn : n ≤ 64) : Wf (belowR r n) := by
 refine ⟨hn, fun a b h => ?_⟩
 rw [show ((belowR r n).f a).testBit b = H (belowR r n) a b from rfl, below_H hr _ _ _ hn] at h
 simp only [Bool.and_eq_true, decide_eq_true_eq] at h
 exact ⟨h.1.2, h.2⟩
section
variable {r o : RelT}
theorem from_H (B : RelT) (s c : Nat) : ∀ i, i ≤ 64 → ((fromN B s i).testBit c = true ↔ ∃ b, b < i ∧ s.testBit b = true ∧ H B b c = true)
 | 0, _ => by
  unfold fromN
  simp
 | i + 1, hi => by
  have ih := from_H B s c i (by omega)
  unfold fromN
  rw [hasI_nat s i (by omega)]
  cases hs : s.testBit i with
  | true =>
   simp only [if_true, Nat.testBit_or, Bool.or_eq_true, ih]
   constructor
   ·
    rintro (⟨b, h1, h2, h3⟩ | h)
    ·
     exact ⟨b, by omega, h2, h3⟩
    ·
     exact ⟨i, by omega, hs, h⟩
   ·
    rintro ⟨b, h1, h2, h3⟩
    rcases Nat.lt_or_ge b i with h | h
    ·
     exact Or.inl ⟨b, h, h2, h3⟩
    ·
     obtain rfl : b = i := by omega
     exact Or.inr h3
  | false =>
   simp only [Bool.false_eq_true, if_false, ih]
   constructor
   ·
    rintro ⟨b, h1, h2, h3⟩
    exact ⟨b, by omega, h2, h3⟩
   ·
    rintro ⟨b, h1, h2, h3⟩
    rcases Nat.lt_or_ge b i with h | h
    ·
     exact ⟨b, h, h2, h3⟩
    ·
     obtain rfl : b = i := by omega
     rw [hs] at h2
     cases h2
theorem inv_bit (r : RelT) (j a : Nat) (hj : j < 64) : ∀ k, k ≤ 64 → (invN r j k).testBit a = (decide (a < k) && (r.f a).testBit j)
 | 0, _ => by unfold invN; simp
 | k + 1, hk => by
  have ih := inv_bit r j a hj k (by omega)
  unfold invN
  rw [hasI_nat _ _ hj]
  cases hb : (r.f k).testBit j with
  | true =>
   simp only [if_true]
   rw [with_bit, ih]
   by_cases ha : a = k
   ·
    subst ha
    have : a < 64 := by omega
    simp [hb, this]
   ·
    have h1 : ¬ ((k : Int) = (a : Int) ∧ a < 64) := by omega
    have h2 : decide (a < k + 1) = decide (a < k) := by simp; omega
    simp [h1, h2]
  | false =>
   simp only [Bool.false_eq_true, if_false]
   rw [ih]
   by_cases ha : a = k
   ·
    subst ha; simp [hb]
   ·
    have h2 : decide (a < k + 1) = decide (a < k) := by simp; omega
    rw [h2]
theorem inv_n (hr : Wf r) : (invR r).n = r.n := by
 show min ((r.n : Int)).toNat 64 = r.n
 have := hr.n
 omega
theorem inv_H (hr : Wf r) (a b : Nat) : H (invR r) a b = H r b a := by
 show (if a < r.n then invN r a r.n else 0).testBit b = _
 have := hr.n
 by_cases h : a < r.n
 ·
  rw [if_pos h, inv_bit r a b (by omega) r.n hr.n]
  by_cases hb : b < r.n
  ·
   simp [hb]
  ·
   rw [hr.off (Or.inl (by omega))]
   simp [hb]
 ·
  rw [if_neg h, Nat.zero_testBit, hr.off (Or.inr (by omega))]
theorem inv_wf (hr : Wf r) : Wf (invR r) := by
 refine ⟨by rw [inv_n hr]; exact hr.n, fun a b h => ?_⟩
 rw [inv_n hr]
 rw [show ((invR r).f a).testBit b = H (invR r) a b from rfl, inv_H hr] at h
 have := hr.b b a h
 exact ⟨this.2, this.1⟩
/-- One turn of the closure. -/
theorem cloN_H (hr : Wf r) (k : Nat) (hk : k < r.n) (a b : Nat) (hw : ∀ a b, H (cloN r k) a b = true → a < r.n ∧ b < r.n) : H (cloN r (k + 1)) a b = (H (cloN r k) a b || (H (cloN r k) a k && H (cloN r k) k b)) := by
 have := hr.n
 show (if a < r.n then cloG (cloN r k) k a else (cloN r k).f a).testBit b = _
 generalize cloN r k = C at *
 by_cases h : a < r.n
 ·
  rw [if_pos h]
  unfold cloG
  rw [hasI_nat _ _ (by omega)]
  cases hb : (C.f a).testBit k with
  | true =>
   rw [show H C a k = true from hb, if_pos rfl, Nat.testBit_or, Bool.true_and]
  | false =>
   rw [show H C a k = false from hb, if_neg (by decide), Bool.false_and, Bool.or_false]
 ·
  rw [if_neg h]
  cases hb : H C a k with
  | true => exact absurd (hw a k hb).1 h
  | false => simp
theorem cloN_wf (hr : Wf r) : ∀ k, k ≤ r.n → ∀ a b, H (cloN r k) a b = true → a < r.n ∧ b < r.n
 | 0, _, a, b, h => hr.b a b h
 | k + 1, hk, a, b, h => by
  have ih := cloN_wf hr k (by omega)
  rw [cloN_H hr k (by omega) a b ih] at h
  simp only [Bool.or_eq_true, Bool.and_eq_true] at h
  rcases h with h | ⟨h1, h2⟩
  ·
   exact ih a b h
  ·
   exact ⟨(ih a k h1).1, (ih k b h2).2⟩
theorem close_wf (hr : Wf r) : Wf (closeR r) := ⟨by rw [close_n]; exact hr.n, fun a b h => by rw [close_n]; exact cloN_wf hr r.n (Nat.le_refl _) a b h⟩
theorem cloN_step (hr : Wf r) (k : Nat) (hk : k < r.n) (a b : Nat) : H (cloN r (k + 1)) a b = (H (cloN r k) a b || (H (cloN r k) a k && H (cloN r k) k b)) := cloN_H hr k hk a b (cloN_wf hr k (by omega))
/-- The closure has what was there. -/
theorem close_has (hr : Wf r) (a b : Nat) (h : H r a b = true) : H (closeR r) a b = true := by
 have key : ∀ k, k ≤ r.n → H (cloN r k) a b = true := by
  intro k
  induction k with
  | zero => intro _; exact h
  | succ k ih => intro hk; rw [cloN_step hr k (by omega), ih (by omega)]; rfl
 exact key r.n (Nat.le_refl _)
/-- The closure leads on. -/
theorem close_trans (hr : Wf r) (a j b : Nat) (h1 : H (closeR r) a j = true) (h2 : H (closeR r) j b = true) : H (closeR r) a b = true := by
 have key : ∀ k, k ≤ r.n → ∀ a j b, j < k → H (cloN r k) a j = true → H (cloN r k) j b = true → H (cloN r k) a b = true := by
  intro k
  induction k with
  | zero => intro _ a j b hj; omega
  | succ k ih =>
   intro hk a j b hj ha hb
   have ih := ih (by omega)
   rw [cloN_step hr k (by omega)] at ha hb ⊢
   simp only [Bool.or_eq_true, Bool.and_eq_true] at ha hb ⊢
   rcases Nat.lt_or_ge j k with hlt | hge
   ·
    rcases ha with ha | ⟨ha1, ha2⟩
    ·
     rcases hb with hb | ⟨hb1, hb2⟩
     ·
      exact Or.inl (ih a j b hlt ha hb)
     ·
      exact Or.inr ⟨ih a j k hlt ha hb1, hb2⟩
    ·
     rcases hb with hb | ⟨hb1, hb2⟩
     ·
      exact Or.inr ⟨ha1, ih k j b hlt ha2 hb⟩
     ·
      exact Or.inr ⟨ha1, hb2⟩
   ·
    obtain rfl : j = k := by omega
    have ha' : H (cloN r j) a j = true := by rcases ha with ha | ⟨ha, _⟩ <;> exact ha
    have hb' : H (cloN r j) j b = true := by rcases hb with hb | ⟨_, hb⟩ <;> exact hb
    exact Or.inr ⟨ha', hb'⟩
 have hj : j < r.n := by have := (close_wf hr).b a j h1; rw [close_n] at this; exact this.2
 exact key r.n (Nat.le_refl _) a j b hj h1 h2
/-- The closure has nothing more: all that leads on and has what was there has it. -/
theorem close_least (hr : Wf r) (T : Nat → Nat → Prop) (ht : ∀ a b c, T a b → T b c → T a c) (h : ∀ a b, H r a b = true → T a b) (a b : Nat) (hc : H (closeR r) a b = true) : T a b := by
 have key : ∀ k, k ≤ r.n → ∀ a b, H (cloN r k) a b = true → T a b := by
  intro k
  induction k with
  | zero => intro _ a b hab; exact h a b hab
  | succ k ih =>
   intro hk a b hab
   have ih := ih (by omega)
   rw [cloN_step hr k (by omega)] at hab
   simp only [Bool.or_eq_true, Bool.and_eq_true] at hab
   rcases hab with hab | ⟨h1, h2⟩
   ·
    exact ih a b hab
   ·
    exact ht a k b (ih a k h1) (ih k b h2)
 exact key r.n (Nat.le_refl _) a b hc
theorem noSelf_iff (c : RelT) : ∀ n, n ≤ 64 → (noSelf c n = true ↔ ∀ a, a < n → H c a a = false)
 | 0, _ => by unfold noSelf; simp
 | n + 1, hn => by
  unfold noSelf
  rw [hasI_nat _ _ (by omega), Bool.and_eq_true, noSelf_iff c n (by omega)]
  constructor
  ·
   rintro ⟨h1, h2⟩ a ha
   rcases Nat.lt_or_ge a n with h | h
   ·
    exact h1 a h
   ·
    obtain rfl : a = n := by omega
    simpa using h2
  ·
   intro h
   exact ⟨fun a ha => h a (by omega), by simpa using h n (by omega)⟩
theorem acyc_iff (hr : Wf r) : acycR r = true ↔ ∀ a, a < r.n → H (closeR r) a a = false := noSelf_iff _ _ hr.n
theorem row_nat (hr : Wf r) (a : Nat) : rowR r a = r.f a := by
 unfold rowR overR
 by_cases h : a < r.n
 ·
  have : (a : Int) < r.n := by omega
  simp [this]
 ·
  have : ¬ ((a : Int) < r.n) := by omega
  simp only [this, decide_false, Bool.and_false, Bool.false_eq_true, if_false]
  apply Nat.eq_of_testBit_eq
  intro b
  rw [Nat.zero_testBit, show (r.f a).testBit b = H r a b from rfl, hr.off (Or.inl (by omega))]
theorem has_nat2 (hr : Wf r) (a b : Nat) : hasR r a b = H r a b := by
 unfold hasR
 rw [row_nat hr, has_bit]
 by_cases h : b < 64
 ·
  have : (0 : Int) ≤ b ∧ (b : Int) < 64 := by omega
  simp [this]
 ·
  have : ¬ ((0 : Int) ≤ b ∧ (b : Int) < 64) := by omega
  rw [hr.off (Or.inr (by have := hr.n; omega)), decide_eq_false this]
  rfl
end
end Go.Proofs.YtioiabfheeglgaaGreatDoor
