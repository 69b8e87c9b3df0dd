/- A relation made of pairs: the program's and the document's. -/
import Derived.Test.YtcfohakgokiedaaGreatDoorJ33RelJ
import Derived.Test.YtcfohakgokiedaaGreatDoorJ27EvS
import Derived.Test.YtcfohakgokiedaaGreatDoorJ32REvU
import Derived.Test.YtcfohakgokiedaaGreatDoorRaO
namespace Go.Proofs.YtcfohakgokiedaaGreatDoor
open Go.RowKit

def pairC (p : Int × Int) : List Value := [.int .i64 p.1, .int .i64 p.2]
def ofL (r : RelT) (L : List (Int × Int)) : RelT := L.foldl (fun r p => addR r p.1 p.2) r
def ofR (n : Int) (L : List (Int × Int)) : RelT := ofL (newR n) (L.take 200)
theorem new_wr (n : Int) : Wr (newR n) := ⟨Nat.min_le_right _ _, fun _ => by show 0 < _; decide⟩
theorem ofL_wr : ∀ (L : List (Int × Int)) (r : RelT), Wr r → Wr (ofL r L)
 | [], _, h => h
 | p :: L, _, h => ofL_wr L _ (add_wr h p.1 p.2)
theorem ofL_n : ∀ (L : List (Int × Int)) (r : RelT), (ofL r L).n = r.n
 | [], _ => rfl
 | p :: L, r => (ofL_n L _).trans (add_n r p.1 p.2)
theorem of_wr (n : Int) (L : List (Int × Int)) : Wr (ofR n L) := ofL_wr _ _ (new_wr n)
theorem of_n (n : Int) (L : List (Int × Int)) : (ofR n L).n = min n.toNat 64 := ofL_n _ _
theorem pairs_at {α : Type} {L : List α} {n : Nat} (h : n < L.length) : ∃ x, L[n]? = some x ∧ L.drop n = x :: L.drop (n + 1) :=
 ⟨L[n], List.getElem?_eq_getElem h, List.drop_eq_getElem_cons h⟩
end Go.Proofs.YtcfohakgokiedaaGreatDoor

namespace Go.Proofs.YtcfohakgokiedaaGreatDoor

/-- Nobody else than the numbers below n leads anywhere, or is led to. -/
structure Wf (r : RelT) : Prop where
 n : r.n ≤ 64
 b : ∀ a b, (r.f a).testBit b = true → a < r.n ∧ b < r.n
abbrev H (r : RelT) (a b : Nat) : Bool := (r.f a).testBit b
theorem Wf.wr {r : RelT} (h : Wf r) : Wr r := by
 refine ⟨h.n, fun a => ?_⟩
 have : r.f a < 2 ^ 64 := by
  apply Nat.lt_pow_two_of_testBit
  intro i hi
  cases hb : (r.f a).testBit i with
  | false => rfl
  | true => have := (h.b a i hb).2; have := h.n; omega
 simpa using this
theorem rel_ext {r q : RelT} (hn : r.n = q.n) (h : ∀ a b, H r a b = H q a b) : r = q := by
 cases r
 cases q
 simp only at hn
 subst hn
 congr 1
 funext a
 exact Nat.eq_of_testBit_eq (fun b => h a b)
theorem Wf.off {r : RelT} (h : Wf r) {a b : Nat} (hab : r.n ≤ a ∨ r.n ≤ b) : H r a b = false := by
 cases hb : H r a b with
 | false => rfl
 | true => have := h.b a b hb; omega
theorem hasI_nat (s i : Nat) (h : i < 64) : hasI s (i : Int) = s.testBit i := by
 rw [has_bit]
 have : (0 : Int) ≤ i ∧ (i : Int) < 64 := by omega
 simp [this]
theorem new_n (n : Int) : (newR n).n = min n.toNat 64 := rfl
theorem new_H (n : Int) (a b : Nat) : H (newR n) a b = false := Nat.zero_testBit b
theorem new_wf (n : Int) : Wf (newR n) := ⟨Nat.min_le_right _ _, fun a b h => by rw [show ((newR n).f a).testBit b = false from new_H n a b] at h; cases h⟩
theorem add_H {r : RelT} (hr : Wf r) (a b : Int) (x y : Nat) : H (addR r a b) x y = (H r x y || (overR r a && overR r b && decide ((x : Int) = a) && decide ((y : Int) = b))) := by
 unfold addR
 split
 ·
  rename_i h
  rw [Bool.and_eq_true] at h
  obtain ⟨k, rfl, hk⟩ := over_spec h.1
  obtain ⟨l, rfl, hl⟩ := over_spec h.2
  rw [h.1, h.2]
  show (if x = k then withI (r.f k) l else r.f x).testBit y = _
  have := hr.n
  by_cases hx : x = k
  ·
   subst hx
   rw [if_pos rfl, with_bit]
   congr 1
   rw [Bool.eq_iff_iff]
   simp only [Bool.and_eq_true, decide_eq_true_eq, true_and, and_true]
   constructor
   ·
    rintro ⟨h1, h2⟩
    exact h1.symm
   ·
    intro h1
    exact ⟨h1.symm, by omega⟩
  ·
   rw [if_neg hx]
   have : ¬ ((x : Int) = k) := by omega
   simp [this]
 ·
  rename_i h
  have : (overR r a && overR r b) = false := by simpa using h
  rw [this]
  simp
theorem add_wf {r : RelT} (hr : Wf r) (a b : Int) : Wf (addR r a b) := by
 refine ⟨by rw [add_n]; exact hr.n, fun x y h => ?_⟩
 rw [add_n]
 have e := add_H hr a b x y
 rw [show ((addR r a b).f x).testBit y = H (addR r a b) x y from rfl, e] at h
 cases hH : H r x y with
 | true => exact hr.b x y hH
 | false =>
  rw [hH] at h
  simp only [Bool.false_or, Bool.and_eq_true, decide_eq_true_eq] at h
  obtain ⟨⟨⟨h1, h2⟩, h3⟩, h4⟩ := h
  obtain ⟨k, hk, hkn⟩ := over_spec h1
  obtain ⟨l, hl, hln⟩ := over_spec h2
  omega
theorem upto_bit (n j : Nat) (hn : n ≤ 64) : (uptoI n).testBit j = decide (j < n) := by
 unfold uptoI
 rw [if_neg (by omega)]
 by_cases h : n = 64
 ·
  subst h
  have e : (18446744073709551615 : Nat) = 2 ^ 64 - 1 := by decide
  rw [if_pos (by omega), e, Nat.testBit_two_pow_sub_one]
 ·
  rw [if_neg (by omega), Int.toNat_natCast, Nat.testBit_two_pow_sub_one]
theorem keep_H {r : RelT} (hr : Wf r) (s a b : Nat) : H (keepR r s) a b = (H r a b && s.testBit a && s.testBit b) := by
 show (if a < r.n then keepG r s a else 0).testBit b = _
 have := hr.n
 by_cases ha : a < r.n
 ·
  rw [if_pos ha]
  unfold keepG
  rw [hasI_nat s a (by omega)]
  cases s.testBit a with
  | true => simp
  | false => simp
 ·
  rw [if_neg ha, Nat.zero_testBit, hr.off (Or.inl (by omega))]
  rfl
theorem keep_n {r : RelT} (hr : Wf r) (s : Nat) : (keepR r s).n = r.n := by
 show min ((r.n : Int)).toNat 64 = r.n
 have := hr.n
 omega
theorem keep_wf {r : RelT} (hr : Wf r) (s : Nat) : Wf (keepR r s) := by
 refine ⟨by rw [keep_n hr]; exact hr.n, fun a b h => ?_⟩
 rw [keep_n hr]
 rw [show ((keepR r s).f a).testBit b = H (keepR r s) a b from rfl, keep_H hr] at h
 simp only [Bool.and_eq_true] at h
 exact hr.b a b h.1.1
theorem below_H {r : RelT} (hr : Wf r) (n a b : Nat) (hn : n ≤ 64) : H (belowR r n) a b = (H r a b && decide (a < n) && decide (b < n)) := by
 show H (keepR r (uptoI n)) a b = _
 rw [keep_H hr, upto_bit _ _ hn, upto_bit _ _ hn]
theorem below_wf {r : RelT} (hr : Wf r) {n : Nat} (hn : n ≤ 64) : Wf (belowR r n) := by
 refine ⟨hn, fun a b h => ?_⟩
 rw [show ((belowR r n).f a).testBit b = H (belowR r n) a b from rfl, below_H hr _ _ _ hn] at h
 simp only [Bool.and_eq_true, decide_eq_true_eq] at h
 exact ⟨h.1.2, h.2⟩
section
variable {r o : RelT}
theorem from_H (B : RelT) (s c : Nat) : ∀ i, i ≤ 64 → ((fromN B s i).testBit c = true ↔ ∃ b, b < i ∧ s.testBit b = true ∧ H B b c = true)
 | 0, _ => by
  unfold fromN
  simp
 | i + 1, hi => by
  have ih := from_H B s c i (by omega)
  unfold fromN
  rw [hasI_nat s i (by omega)]
  cases hs : s.testBit i with
  | true =>
   simp only [if_true, Nat.testBit_or, Bool.or_eq_true, ih]
   constructor
   ·
    rintro (⟨b, h1, h2, h3⟩ | h)
    ·
     exact ⟨b, by omega, h2, h3⟩
    ·
     exact ⟨i, by omega, hs, h⟩
   ·
    rintro ⟨b, h1, h2, h3⟩
    rcases Nat.lt_or_ge b i with h | h
    ·
     exact Or.inl ⟨b, h, h2, h3⟩
    ·
     obtain rfl : b = i := by omega
     exact Or.inr h3
  | false =>
   simp only [Bool.false_eq_true, if_false, ih]
   constructor
   ·
    rintro ⟨b, h1, h2, h3⟩
    exact ⟨b, by omega, h2, h3⟩
   ·
    rintro ⟨b, h1, h2, h3⟩
    rcases Nat.lt_or_ge b i with h | h
    ·
     exact ⟨b, h, h2, h3⟩
    ·
     obtain rfl : b = i := by omega
     rw [hs] at h2
     cases h2
theorem inv_bit (r : RelT) (j a : Nat) (hj : j < 64) : ∀ k, k ≤ 64 → (invN r j k).testBit a = (decide (a < k) && (r.f a).testBit j)
 | 0, _ => by unfold invN; simp
 | k + 1, hk => by
  have ih := inv_bit r j a hj k (by omega)
  unfold invN
  rw [hasI_nat _ _ hj]
  cases hb : (r.f k).testBit j with
  | true =>
   simp only [if_true]
   rw [with_bit, ih]
   by_cases ha : a = k
   ·
    subst ha
    have : a < 64 := by omega
    simp [hb, this]
   ·
    have h1 : ¬ ((k : Int) = (a : Int) ∧ a < 64) := by omega
    have h2 : decide (a < k + 1) = decide (a < k) := by simp; omega
    simp [h1, h2]
  | false =>
   simp only [Bool.false_eq_true, if_false]
   rw [ih]
   by_cases ha : a = k
   ·
    subst ha; simp [hb]
   ·
    have h2 : decide (a < k + 1) = decide (a < k) := by simp; omega
    rw [h2]
theorem inv_n (hr : Wf r) : (invR r).n = r.n := by
 show min ((r.n : Int)).toNat 64 = r.n
 have := hr.n
 omega
theorem inv_H (hr : Wf r) (a b : Nat) : H (invR r) a b = H r b a := by
 show (if a < r.n then invN r a r.n else 0).testBit b = _
 have := hr.n
 by_cases h : a < r.n
 ·
  rw [if_pos h, inv_bit r a b (by omega) r.n hr.n]
  by_cases hb : b < r.n
  ·
   simp [hb]
  ·
   rw [hr.off (Or.inl (by omega))]
   simp [hb]
 ·
  rw [if_neg h, Nat.zero_testBit, hr.off (Or.inr (by omega))]
theorem inv_wf (hr : Wf r) : Wf (invR r) := by
 refine ⟨by rw [inv_n hr]; exact hr.n, fun a b h => ?_⟩
 rw [inv_n hr]
 rw [show ((invR r).f a).testBit b = H (invR r) a b from rfl, inv_H hr] at h
 have := hr.b b a h
 exact ⟨this.2, this.1⟩
/-- One turn of the closure. -/
theorem cloN_H (hr : Wf r) (k : Nat) (hk : k < r.n) (a b : Nat) (hw : ∀ a b, H (cloN r k) a b = true → a < r.n ∧ b < r.n) : H (cloN r (k + 1)) a b = (H (cloN r k) a b || (H (cloN r k) a k && H (cloN r k) k b)) := by
 have := hr.n
 show (if a < r.n then cloG (cloN r k) k a else (cloN r k).f a).testBit b = _
 generalize cloN r k = C at *
 by_cases h : a < r.n
 ·
  rw [if_pos h]
  unfold cloG
  rw [hasI_nat _ _ (by omega)]
  cases hb : (C.f a).testBit k with
  | true =>
   rw [show H C a k = true from hb, if_pos rfl, Nat.testBit_or, Bool.true_and]
  | false =>
   rw [show H C a k = false from hb, if_neg (by decide), Bool.false_and, Bool.or_false]
 ·
  rw [if_neg h]
  cases hb : H C a k with
  | true => exact absurd (hw a k hb).1 h
  | false => simp
theorem cloN_wf (hr : Wf r) : ∀ k, k ≤ r.n → ∀ a b, H (cloN r k) a b = true → a < r.n ∧ b < r.n
 | 0, _, a, b, h => hr.b a b h
 | k + 1, hk, a, b, h => by
  have ih := cloN_wf hr k (by omega)
  rw [cloN_H hr k (by omega) a b ih] at h
  simp only [Bool.or_eq_true, Bool.and_eq_true] at h
  rcases h with h | ⟨h1, h2⟩
  ·
   exact ih a b h
  ·
   exact ⟨(ih a k h1).1, (ih k b h2).2⟩
theorem close_wf (hr : Wf r) : Wf (closeR r) := ⟨by rw [close_n]; exact hr.n, fun a b h => by rw [close_n]; exact cloN_wf hr r.n (Nat.le_refl _) a b h⟩
theorem cloN_step (hr : Wf r) (k : Nat) (hk : k < r.n) (a b : Nat) : H (cloN r (k + 1)) a b = (H (cloN r k) a b || (H (cloN r k) a k && H (cloN r k) k b)) := cloN_H hr k hk a b (cloN_wf hr k (by omega))
/-- The closure has what was there. -/
theorem close_has (hr : Wf r) (a b : Nat) (h : H r a b = true) : H (closeR r) a b = true := by
 have key : ∀ k, k ≤ r.n → H (cloN r k) a b = true := by
  intro k
  induction k with
  | zero => intro _; exact h
  | succ k ih => intro hk; rw [cloN_step hr k (by omega), ih (by omega)]; rfl
 exact key r.n (Nat.le_refl _)
/-- The closure leads on. -/
theorem close_trans (hr : Wf r) (a j b : Nat) (h1 : H (closeR r) a j = true) (h2 : H (closeR r) j b = true) : H (closeR r) a b = true := by
 have key : ∀ k, k ≤ r.n → ∀ a j b, j < k → H (cloN r k) a j = true → H (cloN r k) j b = true → H (cloN r k) a b = true := by
  intro k
  induction k with
  | zero => intro _ a j b hj; omega
  | succ k ih =>
   intro hk a j b hj ha hb
   have ih := ih (by omega)
   rw [cloN_step hr k (by omega)] at ha hb ⊢
   simp only [Bool.or_eq_true, Bool.and_eq_true] at ha hb ⊢
   rcases Nat.lt_or_ge j k with hlt | hge
   ·
    rcases ha with ha | ⟨ha1, ha2⟩
    ·
     rcases hb with hb | ⟨hb1, hb2⟩
     ·
      exact Or.inl (ih a j b hlt ha hb)
     ·
      exact Or.inr ⟨ih a j k hlt ha hb1, hb2⟩
    ·
     rcases hb with hb | ⟨hb1, hb2⟩
     ·
      exact Or.inr ⟨ha1, ih k j b hlt ha2 hb⟩
     ·
      exact Or.inr ⟨ha1, hb2⟩
   ·
    obtain rfl : j = k := by omega
    have ha' : H (cloN r j) a j = true := by rcases ha with ha | ⟨ha, _⟩ <;> exact ha
    have hb' : H (cloN r j) j b = true := by rcases hb with hb | ⟨_, hb⟩ <;> exact hb
    exact Or.inr ⟨ha', hb'⟩
 have hj : j < r.n := by have := (close_wf hr).b a j h1; rw [close_n] at this; exact this.2
 exact key r.n (Nat.le_refl _) a j b hj h1 h2
/-- The closure has nothing more: all that leads on and has what was there has it. -/
theorem close_least (hr : Wf r) (T : Nat → Nat → Prop) (ht : ∀ a b c, T a b → T b c → T a c) (h : ∀ a b, H r a b = true → T a b) (a b : Nat) (hc : H (closeR r) a b = true) : T a b := by
 have key : ∀ k, k ≤ r.n → ∀ a b, H (cloN r k) a b = true → T a b := by
  intro k
  induction k with
  | zero => intro _ a b hab; exact h a b hab
  | succ k ih =>
   intro hk a b hab
   have ih := ih (by omega)
   rw [cloN_step hr k (by omega)] at hab
   simp only [Bool.or_eq_true, Bool.and_eq_true] at hab
   rcases hab with hab | ⟨h1, h2⟩
   ·
    exact ih a b hab
   ·
    exact ht a k b (ih a k h1) (ih k b h2)
 exact key r.n (Nat.le_refl _) a b hc
theorem noSelf_iff (c : RelT) : ∀ n, n ≤ 64 → (noSelf c n = true ↔ ∀ a, a < n → H c a a = false)
 | 0, _ => by unfold noSelf; simp
 | n + 1, hn => by
  unfold noSelf
  rw [hasI_nat _ _ (by omega), Bool.and_eq_true, noSelf_iff c n (by omega)]
  constructor
  ·
   rintro ⟨h1, h2⟩ a ha
   rcases Nat.lt_or_ge a n with h | h
   ·
    exact h1 a h
   ·
    obtain rfl : a = n := by omega
    simpa using h2
  ·
   intro h
   exact ⟨fun a ha => h a (by omega), by simpa using h n (by omega)⟩
theorem acyc_iff (hr : Wf r) : acycR r = true ↔ ∀ a, a < r.n → H (closeR r) a a = false := noSelf_iff _ _ hr.n
theorem row_nat (hr : Wf r) (a : Nat) : rowR r a = r.f a := by
 unfold rowR overR
 by_cases h : a < r.n
 ·
  have : (a : Int) < r.n := by omega
  simp [this]
 ·
  have : ¬ ((a : Int) < r.n) := by omega
  simp only [this, decide_false, Bool.and_false, Bool.false_eq_true, if_false]
  apply Nat.eq_of_testBit_eq
  intro b
  rw [Nat.zero_testBit, show (r.f a).testBit b = H r a b from rfl, hr.off (Or.inl (by omega))]
theorem has_nat2 (hr : Wf r) (a b : Nat) : hasR r a b = H r a b := by
 unfold hasR
 rw [row_nat hr, has_bit]
 by_cases h : b < 64
 ·
  have : (0 : Int) ≤ b ∧ (b : Int) < 64 := by omega
  simp [this]
 ·
  have : ¬ ((0 : Int) ≤ b ∧ (b : Int) < 64) := by omega
  rw [hr.off (Or.inr (by have := hr.n; omega)), decide_eq_false this]
  rfl
end
end Go.Proofs.YtcfohakgokiedaaGreatDoor

namespace Go.Proofs.YtcfohakgokiedaaGreatDoor
open Go.RowKit

theorem ofL_wf : ∀ (L : List (Int × Int)) (r : RelT), Wf r → Wf (ofL r L)
 | [], _, h => h
 | p :: L, _, h => ofL_wf L _ (add_wf h p.1 p.2)
theorem of_wf (n : Int) (L : List (Int × Int)) : Wf (ofR n L) := ofL_wf _ _ (new_wf n)
theorem ofL_H : ∀ (U : List (Int × Int)) (r : RelT), Wf r → ∀ x y : Nat, H (ofL r U) x y = true ↔ H r x y = true ∨ (((x : Int), (y : Int)) ∈ U ∧ x < r.n ∧ y < r.n)
 | [], r, _, x, y => by show H r x y = true ↔ _; simp
 | p :: U, r, hw, x, y => by
  have ih := ofL_H U (addR r p.1 p.2) (add_wf hw _ _) x y
  show H (ofL (addR r p.1 p.2) U) x y = true ↔ _
  rw [ih, add_H hw, add_n]
  simp only [Bool.or_eq_true, Bool.and_eq_true, decide_eq_true_eq, List.mem_cons]
  constructor
  ·
   rintro ((h | ⟨⟨⟨h1, h2⟩, h3⟩, h4⟩) | ⟨h1, h2⟩)
   ·
    exact Or.inl h
   ·
    obtain ⟨k, hk, hkn⟩ := over_spec h1
    obtain ⟨l, hl, hln⟩ := over_spec h2
    exact Or.inr ⟨Or.inl (by cases p; simp only [Prod.mk.injEq]; exact ⟨h3, h4⟩), by omega, by omega⟩
   ·
    exact Or.inr ⟨Or.inr h1, h2⟩
  ·
   rintro (h | ⟨rfl | h1, h2, h3⟩)
   ·
    exact Or.inl (Or.inl h)
   ·
    exact Or.inl (Or.inr ⟨⟨⟨by unfold overR; simp; omega, by unfold overR; simp; omega⟩, rfl⟩, rfl⟩)
   ·
    exact Or.inr ⟨h1, h2, h3⟩
end Go.Proofs.YtcfohakgokiedaaGreatDoor

namespace Go.Proofs.YtcfohakgokiedaaGreatDoor
open Go.RowKit

set_option maxHeartbeats 2000000 in
theorem wclose_is (r : RelT) (hr : Wr r) (w : World) : Calls Tryz.prog 63 #[.agg (relA r)] w fun e w' => e = .returned (.agg (relA (closeR r))) ∧ On w w' := by
 obtain ⟨hz, _⟩ := zero_of_info rel_infow
 have h1 : Bk ((w.alloc (.cells (relA r) 103)).alloc (.cells (relA zeroR) 103)) w.heap.size (relA r) := (Bk.new w (relA r) 103).alloc _
 have h2 : Bk ((w.alloc (.cells (relA r) 103)).alloc (.cells (relA zeroR) 103)) (w.heap.size + 1) (relA zeroR) := by
  have := Bk.new (w.alloc (.cells (relA r) 103)) (relA zeroR) 103
  rwa [World.size_alloc] at this
 have k0 := ((On.refl w).alloc (.cells (relA r) 103)).alloc (.cells (relA zeroR) 103)
 have hn := hr.n
 have hlts := cloN_lt hr
 have hNs := cloN_n r
 obtain ⟨K, hK⟩ : ∃ K, K = closeR r := ⟨_, rfl⟩
 rw [← hK]
 have HK : Hid (K = cloN r r.n) := hK
 clear hK
 have hstep : ∀ b, cloN r (b + 1) = uptoR (cloN r b) (cloG (cloN r b) b) r.n := fun _ => rfl
 obtain ⟨n, hnn⟩ : ∃ n, n = r.n := ⟨_, rfl⟩
 rw [← hnn] at hn HK hNs hstep
 have hNs' : Hid (∀ b, (cloN r b).n = n) := hNs
 have hstep' : Hid (∀ b, cloN r (b + 1) = uptoR (cloN r b) (cloG (cloN r b) b) n) := hstep
 clear hNs hstep hnn
 go_enter Tryz.func63, Tryz.ntmps63
 go_wp2
 go_loopg [3] n (fun gg s3 wr => ∃ b : Nat, b ≤ n ∧ gg = n - b ∧ s3 = .int .i64 b ∧ Hid (On w wr) ∧ Bk wr w.heap.size (relA (cloN r b)) ∧ Bk wr (w.heap.size + 1) (relA zeroR))
 case atStart => exact ⟨0, Nat.zero_le _, rfl, rfl, k0, h1, h2⟩
 case round =>
  clear h1 h2 k0
  obtain ⟨b, hi, hk, rfl, HO, D1, D2⟩ := hrel
  have hc := D1.at (relA_zero _)
  rw [hNs'.out b] at hc
  have hcl := D1.lt
  rcases Nat.lt_or_ge b n with hlt | hge
  ·
   have hb6 : b < 64 := by omega
   have hlb := hlts b
   have HS : Hid (cloN r (b + 1) = uptoR (cloN r b) (cloG (cloN r b) b) n) := hstep'.out b
   have HCN : Hid ((cloN r b).n = n) := hNs'.out b
   clear hlts
   obtain ⟨C, hC⟩ : ∃ C, C = cloN r b := ⟨_, rfl⟩
   rw [← hC] at HS D1 hlb HCN
   clear hC
   go_wp2
   clear hc hcl
   go_loopg [4] n (fun gi s4 wi => ∃ a : Nat, a ≤ n ∧ gi = n - a ∧ s4 = .int .i64 a ∧ Hid (On w wi) ∧ Bk wi w.heap.size (relA (uptoR C (cloG C b) a)) ∧ Bk wi (w.heap.size + 1) (relA zeroR))
   case atStart => exact ⟨0, Nat.zero_le _, rfl, rfl, HO, by rw [uptoR_zero]; exact D1, D2⟩
   case round =>
    clear HO D1 D2
    obtain ⟨a, hai, hak, rfl, HO, D1, D2⟩ := hrel
    have hc := D1.at (relA_zero _)
    rw [show (uptoR C (cloG C b) a).n = n from HCN.out] at hc
    have hcl := D1.lt
    rcases Nat.lt_or_ge a n with hal | hag
    ·
     have ha6 : a < 64 := by omega
     have hlu : ∀ j, (uptoR C (cloG C b) a).f j < 18446744073709551616 := fun j => by
      show (if j < a then cloG C b j else C.f j) < _
      split
      ·
       exact cloG_lt hlb b j
      ·
       exact hlb j
     have HHb := fun W h => whas_is (uptoR C (cloG C b) a) ⟨by show C.n ≤ 64; rw [HCN.out]; exact hn, hlu⟩ w.heap.size a b ha6 hb6 W h
     rw [uptoR_at] at HHb
     have st := uptoR_step C (cloG C b) a
     have sk := uptoR_skip C (cloG C b) a
     have hin := hasI_nat (C.f a) b hb6
     cases hb : (C.f a).testBit b with
     | true =>
      rw [hb] at HHb hin
      have hca := D1.at (relA_at _ ha6)
      rw [uptoR_at] at hca
      have hcb := D1.at (relA_at _ hb6)
      have hbb : (uptoR C (cloG C b) a).f b = C.f b := by
       show (if b < a then cloG C b b else C.f b) = _
       rw [cloG_self]
       split <;> rfl
      rw [hbb] at hcb
      have e : bits .or .u64 ((C.f a : Nat) : Int) ((C.f b : Nat) : Int) = ((cloG C b a : Nat) : Int) := by
       rw [u64_or_nat _ _ (hlb a) (hlb b)]
       unfold cloG
       rw [hin]
       rfl
      have hcf := D1.fr (1 + a)
      have D1' := D1.drew.set1 ha6 (cloG C b a)
      rw [st] at D1'
      have D2' := D2.drew.far (N := w.heap.size) (by omega) (1 + a) (.int .u64 (cloG C b a))
      have HO' : Hid (On w _) := HO.out.drew.setNew (N := w.heap.size) (i := 1 + a) (by omega) (.int .u64 (cloG C b a))
      have HH2 := HHb _ D1
      clear hb D1 D2 HO st sk hbb hlb hlu HHb hin
      generalize cloG C b a = y at *
      generalize C.f a = x at *
      generalize C.f b = z at *
      go_wp2_with fail
      refine HH2.mono ?_
      rintro _ w2 ⟨rfl, hw2⟩
      subst w2
      go_wp2
      go_region
      go_wp2
      go_roundg (n - (a + 1))
      case measure => omega
      case rel => exact ⟨a + 1, hal, rfl, by congr 1, HO', D1', D2'⟩
     | false =>
      rw [hb] at HHb hin
      have sk' := sk (by unfold cloG; rw [hin]; rfl)
      have HH2 := HHb _ D1
      rw [← sk'] at D1
      clear hb st sk sk' hlb hlu HHb hin
      go_wp2_with fail
      refine HH2.mono ?_
      rintro _ w2 ⟨rfl, hw2⟩
      subst w2
      go_wp2
      go_roundg (n - (a + 1))
      case measure => omega
      case rel => exact ⟨a + 1, hal, rfl, by congr 1, HO, D1, D2⟩
    ·
     obtain rfl : a = n := by omega
     rw [← HS.out] at D1
     go_wp2
     go_roundg (a - (b + 1))
     case measure => omega
     case rel => exact ⟨b + 1, hlt, rfl, by congr 1, HO, D1, D2⟩
  ·
   obtain rfl : b = n := by omega
   rw [← HK.out] at D1
   go_wp2_with (first | refine wpList_ldw rfl rfl rfl D1 ?_ | refine wpList_stw rfl rfl rfl rfl D2 ?_)
   refine bodyPost_ret (v := .agg (relA K)) ?_ rfl ⟨rfl, HO.out.row (by omega) _⟩
   exact ret65w rfl rfl (D2.row _)
set_option maxHeartbeats 2000000 in
theorem wacyc_is (r : RelT) (hr : Wr r) (w : World) : Calls Tryz.prog 49 #[.agg (relA r)] w fun e w' => e = .returned (.bool (acycR r)) ∧ On w w' := by
 obtain ⟨hz, _⟩ := zero_of_info rel_infow
 have h1 := Bk.new w (relA r) 103
 have k0 := (On.refl w).alloc (.cells (relA r) 103)
 have hcl := fun W => wclose_is r hr W
 have hcw := close_wr hr
 have hn := hr.n
 obtain ⟨T, hT⟩ : ∃ T, T = acycR r := ⟨_, rfl⟩
 rw [← hT]
 have HT : Hid (T = noSelf (closeR r) r.n) := hT
 clear hT
 generalize closeR r = C at *
 have hrn : (relA r)[0]? = some (.int .i64 r.n) := relA_zero r
 have HRN : Hid ((relA r)[0]? = some (.int .i64 r.n)) := hrn
 clear hrn
 generalize r.n = n at *
 go_enter Tryz.func49, Tryz.ntmps49
 go_wp2_with (refine wpList_ldw rfl rfl rfl h1 ?_)
 refine (hcl _).mono ?_
 rintro _ w1 ⟨rfl, k1⟩
 have B3 := Bk.new w1 (relA zeroR) 103
 have hs1 : w.heap.size < w1.heap.size := (h1.on k1).lt
 have KC := ((k0.trans k1).alloc (.cells (relA zeroR) 103)).row (N := w1.heap.size) (by omega) (relA C)
 obtain ⟨W, hW⟩ : ∃ W, W = (w1.alloc (.cells (relA zeroR) 103)).setRow w1.heap.size (relA C) := ⟨_, rfl⟩
 have C3 : Bk W w1.heap.size (relA C) := by rw [hW]; exact B3.row _
 have R3 : Bk W w.heap.size (relA r) := by rw [hW]; exact ((h1.on k1).alloc _).rowFar (by omega) _
 rw [← hW] at KC
 have HW : Hid (W = (w1.alloc (.cells (relA zeroR) 103)).setRow w1.heap.size (relA C)) := hW
 clear hW
 go_wp2_with (first | (refine wpList_stw rfl rfl rfl rfl B3 ?_; rw [← HW.out]; clear B3 HW))
 go_loopg [4] n (fun gg s4 wr => ∃ a : Nat, a ≤ n ∧ gg = n - a ∧ s4 = .int .i64 a ∧ Hid (On w wr) ∧ Bk wr w1.heap.size (relA C) ∧ Bk wr w.heap.size (relA r) ∧ noSelf C a = true)
 case atStart => exact ⟨0, Nat.zero_le _, rfl, rfl, KC, C3, R3, rfl⟩
 case round =>
  clear C3 KC R3
  obtain ⟨a, hi, hk, rfl, HO, D1, D2, hns⟩ := hrel
  have HNS : Hid (noSelf C a = true) := hns
  clear hns
  have hc := D2.at HRN.out
  have hl2 := D2.lt
  rcases Nat.lt_or_ge a n with hlt | hge
  ·
   have ha6 : a < 64 := by omega
   have HHb := whas_is C hcw w1.heap.size a a ha6 ha6 _ D1
   have hin := hasI_nat (C.f a) a ha6
   cases hb : (C.f a).testBit a with
   | true =>
    rw [hb] at HHb hin
    have HF : Hid (T = false) := by show T = false; rw [HT.out]; exact noSelf_mono C a n hlt hin
    clear hb hin
    go_wp2_with fail
    refine HHb.mono ?_
    rintro _ w2 ⟨rfl, hw2⟩
    subst w2
    go_wp2
    go_ret
    exact ⟨by rw [HF.out]; rfl, HO.out⟩
   | false =>
    rw [hb] at HHb hin
    have HN2 : noSelf C (a + 1) = true := by unfold noSelf; rw [HNS.out, hin]; rfl
    have HN3 : Hid (noSelf C (a + 1) = true) := HN2
    clear hb hin HN2
    go_wp2_with fail
    refine HHb.mono ?_
    rintro _ w2 ⟨rfl, hw2⟩
    subst w2
    go_wp2
    go_roundg (n - (a + 1))
    case measure => omega
    case rel => exact ⟨a + 1, hlt, rfl, by congr 1, HO, D1, D2, HN3.out⟩
  ·
   obtain rfl : a = n := by omega
   have HF : Hid (T = true) := by show T = true; rw [HT.out]; exact HNS.out
   go_wp2
   go_ret
   exact ⟨by rw [HF.out]; rfl, HO.out⟩
end Go.Proofs.YtcfohakgokiedaaGreatDoor

namespace Go.Proofs.YtcfohakgokiedaaGreatDoor
open Go.RowKit

def aheadB (a b : EvT) : Bool := if decide (a.t < 0) then decide (0 ≤ b.t) else (a.t == b.t && decide (a.i < b.i))
def poIn (x : EvT) (a : Nat) : Nat → RelT → List EvT → RelT
 | _, r, [] => r
 | b, r, y :: L => poIn x a (b + 1) (if aheadB x y then addR r a b else r) L
def poOut (E : List EvT) : Nat → RelT → List EvT → RelT
 | _, r, [] => r
 | a, r, x :: L => poOut E (a + 1) (poIn x a 0 r E) L
def poR (E : List EvT) : RelT := poOut E 0 (newR E.length) E
theorem poIn_wf (x : EvT) (a : Nat) : ∀ (L : List EvT) (b : Nat) (r : RelT), Wf r → Wf (poIn x a b r L)
 | [], _, _, h => h
 | y :: L, b, r, h => by
  unfold poIn
  split
  ·
   exact poIn_wf x a L _ _ (add_wf h a b)
  ·
   exact poIn_wf x a L _ _ h
theorem poOut_wf (E : List EvT) : ∀ (L : List EvT) (a : Nat) (r : RelT), Wf r → Wf (poOut E a r L)
 | [], _, _, h => h
 | x :: L, a, r, h => poOut_wf E L _ _ (poIn_wf x a E 0 r h)
theorem po_wf (E : List EvT) : Wf (poR E) := poOut_wf E E 0 _ (new_wf _)
def rposB (x y : EvT) : Bool := (decide (x.t < 0) && decide (0 ≤ y.t)) || ((decide (0 ≤ x.t) && (x.t == y.t)) && decide (x.i < y.i))
theorem rpos_ahead (x y : EvT) : rposB x y = aheadB x y := by
 unfold rposB aheadB
 by_cases h : x.t < 0
 ·
  have h2 : ¬ 0 ≤ x.t := by omega
  simp [h, h2]
 ·
  have h2 : 0 ≤ x.t := by omega
  simp [h, h2]
set_option maxHeartbeats 8000000 in
set_option maxRecDepth 8000 in
theorem rpo_is (E : List EvT) (a : Option Addr) (c : Nat) (w : World) (h : Rd evC 6 w (.slice a E.length c) E) (hb : E.length ≤ 64) : Calls Tryz.prog 47 #[.slice a E.length c] w fun e w' => e = .returned (.agg (relA (poR E))) ∧ On w w' := by
 obtain ⟨hz, _⟩ := zero_of_info rel_infow
 have hs65 : (relA zeroR).size = 65 := relA_size _
 have hne := rel_ne zeroR
 have HR : Hid (Rd evC 6 w (.slice a E.length c) E) := h
 clear h
 have hng : decide ((64 : Int) < (E.length : Int)) = false := by simp; omega
 obtain ⟨U, hU⟩ : ∃ U, U = poR E := ⟨_, rfl⟩
 rw [← hU]
 have HU : Hid (U = poOut E 0 (newR E.length) (E.drop 0)) := hU
 have HW0 : Hid (Wf (newR E.length)) := new_wf _
 have hn0 : (newR E.length).n = E.length := by rw [new_n]; omega
 have hZ : newR E.length = ⟨E.length, zeroR.f⟩ := by unfold newR zeroR; simp only [Int.toNat_natCast, RelT.mk.injEq, and_true]; omega
 clear hU
 have g2 : Bk ((w.alloc (.cells (relA zeroR) 103)).alloc (.cells (relA zeroR) 103)) w.heap.size (relA zeroR) := (Bk.new w _ _).alloc _
 have g3 : Bk ((w.alloc (.cells (relA zeroR) 103)).alloc (.cells (relA zeroR) 103)) (w.heap.size + 1) (relA zeroR) := by
  have := Bk.new (w.alloc (.cells (relA zeroR) 103)) (relA zeroR) 103
  rwa [World.size_alloc] at this
 have k0 := ((On.refl w).alloc (.cells (relA zeroR) 103)).alloc (.cells (relA zeroR) 103)
 go_enter Tryz.func47, Tryz.ntmps47
 obtain ⟨W6, hW6⟩ : ∃ W6, W6 = ((w.alloc (.cells (relA zeroR) 103)).alloc (.cells (relA zeroR) 103)).setRow (w.heap.size + 1) (relA zeroR) := ⟨_, rfl⟩
 have C2 : Bk W6 w.heap.size (relA zeroR) := by rw [hW6]; exact g2.rowFar (by omega) _
 have C3 : Bk W6 (w.heap.size + 1) (relA zeroR) := by rw [hW6]; exact g3.row _
 have K6 : On w W6 := by rw [hW6]; exact k0.row (by omega) _
 clear g2 k0
 have c0 := C3.at (relA_zero zeroR)
 have cf := C3.fr 0
 have cl := C3.lt
 have D2 : Bk (W6.setCell ⟨w.heap.size + 1, 0, none⟩ (.int .i64 E.length)) w.heap.size (relA zeroR) := C2.far (by omega) _ _
 have D3 : Bk (W6.setCell ⟨w.heap.size + 1, 0, none⟩ (.int .i64 E.length)) (w.heap.size + 1) (relA (newR E.length)) := by rw [hZ]; exact C3.setN0 E.length
 have K7 : On w (W6.setCell ⟨w.heap.size + 1, 0, none⟩ (.int .i64 E.length)) := K6.setNew (by omega) _
 clear C2 C3 K6 hZ
 generalize newR (E.length : Int) = Z at *
 go_wp2_with (refine wpList_stw rfl rfl rfl rfl g3 ?_; rw [← hW6]; clear g3 hW6)
 clear c0 cf cl hz hne hs65
 go_loopg [4] E.length (fun gg s4 wq => ∃ (i : Nat) (r : RelT), i ≤ E.length ∧ gg = E.length - i ∧ s4 = .int .i64 i ∧ Hid (On w wq) ∧ Bk wq w.heap.size (relA zeroR) ∧ Bk wq (w.heap.size + 1) (relA r) ∧ Hid (Wf r) ∧ r.n = E.length ∧ Hid (U = poOut E i r (E.drop i)))
 case atStart => exact ⟨0, Z, Nat.zero_le _, rfl, rfl, K7, D2, D3, HW0, hn0, HU⟩
 case round =>
  clear D2 D3 K7 HU HW0 hn0
  obtain ⟨i, r, hi, hk, rfl, HO, C2, C3, HW0, hrn, HU⟩ := hrel
  rcases Nat.lt_or_ge i E.length with hlt | hge
  ·
   obtain ⟨x, hx, hdr⟩ := drop_cons hlt
   obtain ⟨I, hI⟩ : ∃ I, I = poIn x i 0 r E := ⟨_, rfl⟩
   have HI : Hid (I = poIn x i 0 r (E.drop 0)) := hI
   have HIW : Hid (Wf I) := by rw [hI]; exact poIn_wf x i E 0 r HW0.out
   have HU2 : Hid (U = poOut E (i + 1) I (E.drop (i + 1))) := by
    show U = _
    rw [HU.out, hdr, hI]
    rfl
   have HXX : Hid (E[i]? = some x) := hx
   clear hI hdr hx HU
   go_wp2
   go_loopg [5] E.length (fun gg s5 wq => ∃ (j : Nat) (r : RelT), j ≤ E.length ∧ gg = E.length - j ∧ s5 = .int .i64 j ∧ Hid (On w wq) ∧ Bk wq w.heap.size (relA zeroR) ∧ Bk wq (w.heap.size + 1) (relA r) ∧ Hid (Wf r) ∧ r.n = E.length ∧ Hid (I = poIn x i j r (E.drop j)))
   case atStart => exact ⟨0, r, Nat.zero_le _, rfl, rfl, HO, C2, C3, HW0, hrn, HI⟩
   case round =>
    clear C2 C3 HI HO HW0 hrn
    obtain ⟨j, r, hj, hkj, rfl, HO, C2, C3, HW0, hrn, HI⟩ := hrel
    rcases Nat.lt_or_ge j E.length with hlj | hgj
    ·
     obtain ⟨y, hy, hdr⟩ := drop_cons hlj
     obtain ⟨g, off, rfl, hg, p0, p1, _, _, _, _⟩ := rd_ev (HR.out.on HO.out) HXX.out
     obtain ⟨g', off', hge', _, q0, q1, _, _, _, _⟩ := rd_ev (HR.out.on HO.out) hy
     simp only [Option.some.injEq, Addr.mk.injEq, and_true] at hge'
     obtain ⟨rfl, rfl⟩ := hge'
     have bi0 : (0 : Int) ≤ (i : Int) := by omega
     have bi1 : (i : Int) < (E.length : Int) := by omega
     have bj0 : (0 : Int) ≤ (j : Int) := by omega
     have bj1 : (j : Int) < (E.length : Int) := by omega
     have hab0 := rpos_ahead x y
     unfold rposB at hab0
     obtain ⟨xt, xi, xk, xl, xr, xw⟩ := x
     obtain ⟨yt, yi, yk, yl, yr, yw⟩ := y
     simp only at p0 p1 q0 q1 hab0
     by_cases e1 : xt < 0
     ·
      have d1 : decide (xt < 0) = true := by simp [e1]
      have d3 : decide (0 ≤ xt) = false := by simp; omega
      clear e1
      by_cases e2 : 0 ≤ yt
      ·
       have d2 : decide (0 ≤ yt) = true := by simp [e2]
       clear e2
       rw [d1, d2] at hab0
       have hab : aheadB ⟨xt, xi, xk, xl, xr, xw⟩ ⟨yt, yi, yk, yl, yr, yw⟩ = true := by rw [← hab0]; rfl
       have HI2 : Hid (I = poIn ⟨xt, xi, xk, xl, xr, xw⟩ i (j + 1) (addR r i j) (E.drop (j + 1))) := by
        show I = _
        rw [HI.out, hdr, poIn, hab]
        rfl
       have hadd := fun W (hB : Bk W (w.heap.size + 1) (relA r)) => wadd_is r HW0.out.wr (w.heap.size + 1) i j (by omega) (by omega) W hB
       have HW2 : Hid (Wf (addR r i j)) := add_wf HW0.out i j
       have hn2 : (addR r i j).n = E.length := by rw [add_n]; exact hrn
       clear hy hdr HI hab hab0
       generalize addR r (i : Int) (j : Int) = A at *
       generalize withI (r.f i) (j : Int) = y0 at *
       go_wp2
       go_quiet (fail)
       go_wp2_with fail
       refine (hadd _ (C3.on ((On.refl wr).drewN _))).mono ?_
       rintro _ w5 ⟨rfl, F3, hw5⟩
       have F2 : Bk w5 w.heap.size (relA zeroR) := by
        rw [hw5]
        exact Bk.far (C2.on (On.drew ((On.refl wr).drewN _))) (by omega) _ _
       have KF : On w w5 := by
        rw [hw5]
        exact On.setNew (On.drew (On.drewN HO.out _)) (by omega) _
       clear hw5
       go_wp2
       go_roundg (E.length - (j + 1))
       case measure => omega
       case rel => exact ⟨j + 1, A, by omega, rfl, by go_num, KF, F2, F3, HW2, hn2, HI2⟩
      ·
       have d2 : decide (0 ≤ yt) = false := by simp; omega
       clear e2
       rw [d1, d2, d3] at hab0
       have hab : aheadB ⟨xt, xi, xk, xl, xr, xw⟩ ⟨yt, yi, yk, yl, yr, yw⟩ = false := by rw [← hab0]; rfl
       have HI2 : Hid (I = poIn ⟨xt, xi, xk, xl, xr, xw⟩ i (j + 1) r (E.drop (j + 1))) := by
        show I = _
        rw [HI.out, hdr, poIn, hab]
        rfl
       clear hy hdr HI hab hab0
       go_wp2
       go_quiet (fail)
       go_wp2
       go_roundg (E.length - (j + 1))
       case measure => omega
       case rel => exact ⟨j + 1, r, by omega, rfl, by go_num, On.drewN HO.out _, C2.on ((On.refl wr).drewN _), C3.on ((On.refl wr).drewN _), HW0, hrn, HI2⟩
     ·
      have d1 : decide (xt < 0) = false := by simp; omega
      have d3 : decide (0 ≤ xt) = true := by simp; omega
      clear e1
      cases d4 : (xt == yt) with
      | false =>
       rw [d1, d3, d4] at hab0
       have hab : aheadB ⟨xt, xi, xk, xl, xr, xw⟩ ⟨yt, yi, yk, yl, yr, yw⟩ = false := by rw [← hab0]; rfl
       have HI2 : Hid (I = poIn ⟨xt, xi, xk, xl, xr, xw⟩ i (j + 1) r (E.drop (j + 1))) := by
        show I = _
        rw [HI.out, hdr, poIn, hab]
        rfl
       clear hy hdr HI hab hab0
       go_wp2
       go_quiet (fail)
       go_wp2
       go_roundg (E.length - (j + 1))
       case measure => omega
       case rel => exact ⟨j + 1, r, by omega, rfl, by go_num, On.drewN HO.out _, C2.on ((On.refl wr).drewN _), C3.on ((On.refl wr).drewN _), HW0, hrn, HI2⟩
      | true =>
       by_cases e5 : xi < yi
       ·
        have d5 : decide (xi < yi) = true := by simp [e5]
        clear e5
        rw [d1, d3, d4, d5] at hab0
        have hab : aheadB ⟨xt, xi, xk, xl, xr, xw⟩ ⟨yt, yi, yk, yl, yr, yw⟩ = true := by rw [← hab0]; rfl
        have HI2 : Hid (I = poIn ⟨xt, xi, xk, xl, xr, xw⟩ i (j + 1) (addR r i j) (E.drop (j + 1))) := by
         show I = _
         rw [HI.out, hdr, poIn, hab]
         rfl
        have hadd := fun W (hB : Bk W (w.heap.size + 1) (relA r)) => wadd_is r HW0.out.wr (w.heap.size + 1) i j (by omega) (by omega) W hB
        have HW2 : Hid (Wf (addR r i j)) := add_wf HW0.out i j
        have hn2 : (addR r i j).n = E.length := by rw [add_n]; exact hrn
        clear hy hdr HI hab hab0
        generalize addR r (i : Int) (j : Int) = A at *
        generalize withI (r.f i) (j : Int) = y0 at *
        go_wp2
        go_quiet (fail)
        go_wp2_with fail
        refine (hadd _ (C3.on ((On.refl wr).drewN _))).mono ?_
        rintro _ w5 ⟨rfl, F3, hw5⟩
        have F2 : Bk w5 w.heap.size (relA zeroR) := by
         rw [hw5]
         exact Bk.far (C2.on (On.drew ((On.refl wr).drewN _))) (by omega) _ _
        have KF : On w w5 := by
         rw [hw5]
         exact On.setNew (On.drew (On.drewN HO.out _)) (by omega) _
        clear hw5
        go_wp2
        go_roundg (E.length - (j + 1))
        case measure => omega
        case rel => exact ⟨j + 1, A, by omega, rfl, by go_num, KF, F2, F3, HW2, hn2, HI2⟩
       ·
        have d5 : decide (xi < yi) = false := by simp; omega
        clear e5
        rw [d1, d3, d4, d5] at hab0
        have hab : aheadB ⟨xt, xi, xk, xl, xr, xw⟩ ⟨yt, yi, yk, yl, yr, yw⟩ = false := by rw [← hab0]; rfl
        have HI2 : Hid (I = poIn ⟨xt, xi, xk, xl, xr, xw⟩ i (j + 1) r (E.drop (j + 1))) := by
         show I = _
         rw [HI.out, hdr, poIn, hab]
         rfl
        clear hy hdr HI hab hab0
        go_wp2
        go_quiet (fail)
        go_wp2
        go_roundg (E.length - (j + 1))
        case measure => omega
        case rel => exact ⟨j + 1, r, by omega, rfl, by go_num, On.drewN HO.out _, C2.on ((On.refl wr).drewN _), C3.on ((On.refl wr).drewN _), HW0, hrn, HI2⟩
    ·
     obtain rfl : j = E.length := by omega
     obtain rfl : r = I := by rw [HI.out, List.drop_length]; rfl
     go_wp2
     go_roundg (E.length - (i + 1))
     case measure => omega
     case rel => exact ⟨i + 1, r, by omega, rfl, by go_num, HO, C2, C3, HW0, hrn, HU2⟩
  ·
   obtain rfl : i = E.length := by omega
   obtain rfl : r = U := by rw [HU.out, List.drop_length]; rfl
   go_wp2_with (first | refine wpList_ldw rfl rfl rfl C3 ?_ | refine wpList_stw rfl rfl rfl rfl C2 ?_)
   refine bodyPost_ret (v := .agg (relA r)) ?_ rfl ⟨rfl, HO.out.row (Nat.le_refl _) _⟩
   exact ret65w rfl rfl (C2.row _)
end Go.Proofs.YtcfohakgokiedaaGreatDoor

namespace Go.Proofs.YtcfohakgokiedaaGreatDoor
open Go.RowKit

/-- Sources laid over a relation, one by one. -/
def rfR : Nat → RelT → List Int → RelT
 | _, r, [] => r
 | k, r, f :: F => rfR (k + 1) (if 0 ≤ f then addR r f k else r) F
def relP (x : ExT) : RelT := rfR 0 (poR x.evs) x.rf
def srcB (x : ExT) (k : Nat) : Bool := (((k : Int) != (x.rf.length : Int)) && wrsB (x.evs.getD k evZ).k && ((x.evs.getD k evZ).l == (x.evs.getD x.rf.length evZ).l)) && ((x.evs.getD k evZ).w == (x.evs.getD x.rf.length evZ).r)
/-- An execution with a source of each that reads, of n more events, and then every order. -/
def srcP (locs : Nat) : Nat → ExT → List ExT
 | 0, x => if acycR (relP x) then ordP locs x else []
 | n + 1, x => if rdsB (x.evs.getD x.rf.length evZ).k then preL (fun k => if srcB x k then srcP locs n ⟨x.evs, x.rf ++ [(k : Int)], []⟩ else []) x.evs.length else srcP locs n ⟨x.evs, x.rf ++ [-1], []⟩
theorem po_n (E : List EvT) (h : E.length ≤ 64) : (poR E).n = E.length := by
 have hi : ∀ (x : EvT) (a : Nat) (L : List EvT) (b : Nat) (r : RelT), (poIn x a b r L).n = r.n := by
  intro x a L
  induction L with
  | nil => intro b r; rfl
  | cons y L ih => intro b r; unfold poIn; split <;> rw [ih] ; exact add_n _ _ _
 have ho : ∀ (L : List EvT) (a : Nat) (r : RelT), (poOut E a r L).n = r.n := by
  intro L
  induction L with
  | nil => intro a r; rfl
  | cons y L ih => intro a r; unfold poOut; rw [ih, hi]
 unfold poR
 rw [ho, new_n]
 omega
def SrcIs (locs most N b n : Nat) : Prop := ∀ (x : ExT) (tx : Tri) (vp : Value) (L : List ExT) (v : Value) (w : World), progV locs vp → x.evs.length = x.rf.length + n → x.co = [] → x.evs.length ≤ 64 → (∀ f ∈ x.rf, f < (x.evs.length : Int)) → ExTd w tx x → Out N b w v L → L.length ≤ most → b ≤ w.heap.size →
  Calls Tryz.prog 33 #[vp, triV tx, .pointer (some ⟨N, 0, none⟩), .int .i64 most] w (Post N b most L (srcP locs n x) v w)
set_option maxHeartbeats 600000 in
set_option maxRecDepth 8000 in
theorem src_zero (locs most N b : Nat) (hOrd : OrdIs locs most N b locs) : SrcIs locs most N b 0 := by
 intro x tx vp L v w hp hev hco h64 hrf hx hO hl hb
 have hp0 := hp
 obtain ⟨a1, c1, a2, n2, c2, a3, n3, c3, rfl⟩ := hp
 obtain ⟨t1, t2, t3⟩ := tx
 obtain ⟨E, F, CO⟩ := x
 simp only at hev hco h64 hrf
 subst hco
 obtain ⟨q1, d1, q2, d2, q3, d3, e⟩ := hx.ex
 simp only [Prod.mk.injEq, List.length_nil] at e
 obtain ⟨rfl, rfl, rfl⟩ := e
 obtain ⟨W1, hW1⟩ : ∃ W1, W1 = w.alloc (.cells #[.slice a1 locs c1, .slice a2 n2 c2, .slice a3 n3 c3] 27) := ⟨_, rfl⟩
 have P1 : Bk W1 w.heap.size #[.slice a1 locs c1, .slice a2 n2 c2, .slice a3 n3 c3] := by rw [hW1]; exact Bk.new w _ _
 have K1 : On w W1 := by rw [hW1]; exact (On.refl w).alloc _
 have hs1 : W1.heap.size = w.heap.size + 1 := by rw [hW1, World.size_alloc]
 obtain ⟨W2, hW2⟩ : ∃ W2, W2 = W1.alloc (.cells #[.slice q1 E.length d1, .slice q2 F.length d2, .slice q3 0 d3] TX) := ⟨_, rfl⟩
 have BX : Bk W2 (w.heap.size + 1) #[.slice q1 E.length d1, .slice q2 F.length d2, .slice q3 0 d3] := by rw [hW2, ← hs1]; exact Bk.new W1 _ _
 have BP : Bk W2 w.heap.size #[.slice a1 locs c1, .slice a2 n2 c2, .slice a3 n3 c3] := by rw [hW2]; exact P1.alloc _
 have K2 : On w W2 := by rw [hW2]; exact K1.alloc _
 have hs2 : W2.heap.size = w.heap.size + 2 := by rw [hW2, World.size_alloc, hs1]
 obtain ⟨hz, _⟩ := zero_of_info rel_infow
 have hs65 : (relA zeroR).size = 65 := relA_size _
 have hne := rel_ne zeroR
 have hFE : F.length = E.length := by omega
 clear hev
 have HEV : Hid (Rd evC 6 W2 (.slice q1 E.length d1) E) := hx.evs.1.on K2
 have HRF : Hid (Rd intC 1 W2 (.slice q2 F.length d2) F) := hx.rf.1.on K2
 have hPO := fun W (k : On W2 W) => rpo_is E q1 d1 W (HEV.out.on k) h64
 have HCALL : Hid (∀ W, On W2 W → Calls Tryz.prog 50 #[.agg #[.slice a1 locs c1, .slice a2 n2 c2, .slice a3 n3 c3], .agg #[.slice q1 E.length d1, .slice q2 F.length d2, .slice q3 0 d3], .pointer (some ⟨N, 0, none⟩), .int .i64 most] W (Post N b most L (ordP locs ⟨E, F, []⟩) v w)) := fun W k => by
  have kk := K2.trans k
  exact (hOrd ⟨E, F, []⟩ (.slice q1 E.length d1, .slice q2 F.length d2, .slice q3 0 d3) (.agg #[.slice a1 locs c1, .slice a2 n2 c2, .slice a3 n3 c3]) L v W hp0 (by simp) (by show E.length ≤ 900; omega) (hx.on kk) (hO.on kk) hl (Nat.le_trans hb kk.size)).mono fun e w' hP => hP.on kk
 have HP0 : Hid (∀ w', On W2 w' → Post N b most L [] v w (.returned (.bool true)) w') := fun w' k => ⟨rfl, v, L, hO.on (K2.trans k), fun L2 h => by rw [runP] at h; exact Option.some.inj h, Fx.on N v (K2.trans k), Ky.on (K2.trans k)⟩
 obtain ⟨RR, hRR⟩ : ∃ RR, RR = relP ⟨E, F, []⟩ := ⟨_, rfl⟩
 have HRR : Hid (RR = rfR 0 (poR E) (F.drop 0)) := hRR
 have hS : srcP locs 0 ⟨E, F, []⟩ = if acycR RR then ordP locs ⟨E, F, []⟩ else [] := by rw [srcP, hRR]
 obtain ⟨CC, hCC⟩ : ∃ CC, CC = srcP locs 0 ⟨E, F, []⟩ := ⟨_, rfl⟩
 rw [← hCC]
 rw [← hCC] at hS
 have HCC : Hid (CC = if acycR RR then ordP locs ⟨E, F, []⟩ else []) := hS
 clear hCC
 have HPW : Hid (Wf (poR E)) := po_wf E
 have hpn := po_n E h64
 have HFB : Hid (∀ f ∈ F, f < (E.length : Int)) := hrf
 generalize poR E = Z at *
 clear hx hO hOrd hp0 K1 P1 hRR hS hrf
 unfold triV
 rw [hFE] at BX hW2 HRF HCALL ⊢
 go_enter Tryz.func33, Tryz.ntmps33
 go_upto_region 1 with fail
 rw [← hW1, ← hW2]
 clear hW1 hW2
 have x0 := BX.at (i := 0) rfl
 have x1 := BX.at (i := 1) rfl
 have xl := BX.lt
 have HFE : Hid (F.length = E.length) := hFE
 clear hFE
 go_wp2_with fail
 refine (hPO _ (On.refl W2)).mono ?_
 rintro _ w1 ⟨rfl, k1⟩
 have B0 := Bk.new w1 (relA zeroR) 103
 obtain ⟨W3, hW3⟩ : ∃ W3, W3 = (w1.alloc (.cells (relA zeroR) 103)).setRow w1.heap.size (relA Z) := ⟨_, rfl⟩
 have BR : Bk W3 w1.heap.size (relA Z) := by rw [hW3]; exact B0.row _
 have K3 : On W2 W3 := by rw [hW3]; exact (k1.alloc _).row k1.size _
 have hNr := k1.size
 obtain ⟨Nr, hNR⟩ : ∃ Nr, Nr = w1.heap.size := ⟨_, rfl⟩
 rw [← hNR] at BR hNr hW3 B0
 clear x0 x1 xl hPO
 go_wp2_with (refine wpList_stw rfl rfl rfl rfl (hNR ▸ B0) ?_; rw [← hNR, ← hW3]; clear B0 hW3)
 clear hz hs65 hne
 subst hNR
 go_loopg [11] E.length (fun gg s11 wr => ∃ (k : Nat) (r : RelT), k ≤ E.length ∧ gg = E.length - k ∧ s11 = .int .i64 k ∧ Hid (On W2 wr) ∧ Bk wr w1.heap.size (relA r) ∧ Hid (Wf r) ∧ r.n = E.length ∧ Hid (RR = rfR k r (F.drop k)))
 case atStart => exact ⟨0, Z, Nat.zero_le _, rfl, rfl, K3, BR, HPW, hpn, HRR⟩
 case round =>
  clear BR HPW hpn HRR K3
  obtain ⟨k, r, hk, hg, rfl, HO, BR, HWF, hrn, HRR⟩ := hrel
  have BXr := BX.on HO.out
  have BPr := BP.on HO.out
  have x1 := BXr.at (i := 1) rfl
  have xl := BXr.lt
  rcases Nat.lt_or_ge k E.length with hlt | hge
  ·
   obtain ⟨f, hf⟩ : ∃ f, F[k]? = some f := ⟨_, List.getElem?_eq_getElem (by rw [HFE.out]; exact hlt)⟩
   have hRr := HRF.out.on HO.out
   rw [← HFE.out] at hRr
   obtain ⟨g, off, rfl, hgw, hcell⟩ := hRr.at hf
   have q0 : wr.cell? ⟨g, off + k, none⟩ = some (.int .i64 f) := by have := hcell 0 _ rfl; simpa using this
   have hfb := HFB.out f (List.mem_of_getElem? hf)
   have hrr := HRR.out
   rw [drop_at hf, rfR] at hrr
   have bk1 : (k : Int) < (E.length : Int) := by omega
   have HRN : Hid (r.n = E.length) := hrn
   clear hRr hcell hf HRR hrn
   by_cases h0 : 0 ≤ f
   ·
    rw [if_pos h0] at hrr
    obtain ⟨a, rfl⟩ : ∃ a : Nat, f = (a : Int) := ⟨f.toNat, by omega⟩
    have HR2 : Hid (RR = rfR (k + 1) (addR r a k) (F.drop (k + 1))) := hrr
    have HW2 : Hid (Wf (addR r a k)) := add_wf HWF.out a k
    have hadd := wadd_is r HWF.out.wr w1.heap.size a k (by rw [HRN.out]; omega) (by rw [HRN.out]; exact hlt) wr BR
    clear hrr
    go_wp2_with fail
    refine hadd.mono ?_
    rintro _ w4 ⟨rfl, hB4, hw4⟩
    have HO4 : Hid (On W2 w4) := by
     show On W2 w4
     rw [hw4]
     exact (HO.out.drew).setNew hNr _
    clear hw4 hadd
    go_wp2
    go_roundg (E.length - (k + 1))
    case measure => omega
    case rel => exact ⟨k + 1, _, hlt, rfl, rfl, HO4, hB4, HW2, (add_n _ _ _).trans HRN.out, HR2⟩
   ·
    rw [if_neg h0] at hrr
    have HR2 : Hid (RR = rfR (k + 1) r (F.drop (k + 1))) := hrr
    have d0 : decide (0 ≤ f) = false := decide_eq_false h0
    clear hrr h0
    go_wp2
    go_roundg (E.length - (k + 1))
    case measure => omega
    case rel => exact ⟨k + 1, r, hlt, rfl, rfl, HO, BR, HWF, HRN.out, HR2⟩
  ·
   obtain rfl : k = E.length := by omega
   have hrr := HRR.out
   rw [List.drop_eq_nil_of_le (by rw [HFE.out]; exact Nat.le_refl _), rfR] at hrr
   subst hrr
   have hAc := fun W => wacyc_is RR HWF.out.wr W
   clear HRR hrn x1 xl
   cases hac : acycR RR with
   | false =>
    have HC0 : Hid (CC = []) := by show CC = []; rw [HCC.out, hac]; rfl
    rw [hac] at hAc
    clear HCC hac
    go_wp2_with (refine wpList_ldw rfl rfl rfl BR ?_)
    refine (hAc _).mono ?_
    rintro _ w5 ⟨rfl, k5⟩
    have HPP := HP0.out w5 (HO.out.trans k5)
    have HQ : Hid (Post N b most L CC v w (.returned (.bool true)) w5) := by show Post _ _ _ _ _ _ _ _ _; rw [HC0.out]; exact HPP
    clear HPP
    go_wp2
    go_ret
    exact HQ.out
   | true =>
    have HC1 : Hid (CC = ordP locs ⟨E, F, []⟩) := by show CC = _; rw [HCC.out, hac]; rfl
    rw [hac] at hAc
    clear HCC hac
    go_wp2_with (refine wpList_ldw rfl rfl rfl BR ?_)
    refine (hAc _).mono ?_
    rintro _ w5 ⟨rfl, k5⟩
    have hcall := HCALL.out w5 (HO.out.trans k5)
    have BX5 := BXr.on k5
    have BP5 := BPr.on k5
    have z0 := BX5.at (i := 0) rfl
    have z1 := BX5.at (i := 1) rfl
    have z2 := BX5.at (i := 2) rfl
    have zl := BX5.lt
    have y0 := BP5.at (i := 0) rfl
    have y1 := BP5.at (i := 1) rfl
    have y2 := BP5.at (i := 2) rfl
    have yl := BP5.lt
    rw [← HC1.out] at hcall
    go_wp2_with fail
    refine hcall.mono ?_
    intro e w6 hP
    have eP := hP.1
    have HP : Hid (Post N b most L CC v w e w6) := hP
    clear hP hcall
    obtain ⟨bb, hbb⟩ : ∃ bb, bb = (runP most L CC).isSome := ⟨_, rfl⟩
    rw [← hbb] at eP
    subst eP
    clear hbb
    go_wp2
    go_ret
    exact HP.out
end Go.Proofs.YtcfohakgokiedaaGreatDoor
