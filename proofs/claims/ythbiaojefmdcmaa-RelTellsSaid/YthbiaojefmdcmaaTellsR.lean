/- What the document makes of two relations, row by row, in plain Lean. -/
import Derived.Test.YthbiaojefmdcmaaRelCut
namespace Go.Proofs.Ythbiaojefmdcmaa

def zm (m : Nat) : RelT := ⟨m, fun _ => 0⟩
theorem zm_H (m a b : Nat) : H (zm m) a b = false := Nat.zero_testBit b
theorem upto_H (z : RelT) (g : Nat → Nat) (i a b : Nat) : H (uptoR z g i) a b = if a < i then (g a).testBit b else H z a b := by
  show (if a < i then g a else z.f a).testBit b = _
  split <;> rfl
section
variable {r q : RelT} (hr : Wf r) (hq : Wf q) (mm : Nat) (hmm : mm = min r.n q.n)
include hr hq hmm
theorem rows_same (g : Nat → Nat) (X : RelT) (hX : X = uptoR (belowR r mm) g mm) (hg : ∀ a, mm ≤ a → g a = 0) : uptoR (zm mm) g 64 = X := by
  have hm6 : mm ≤ 64 := by have := hr.n; omega
  have hA := below_wf hr hm6
  have _ := hq.n
  subst hX
  refine rel_ext rfl fun a b => ?_
  rw [upto_H, upto_H, zm_H]
  by_cases h1 : a < mm
  · rw [if_pos h1, if_pos (by omega)]
  · rw [if_neg h1]
    have e : H (belowR r mm) a b = false := hA.off (Or.inl (by show mm ≤ a; omega))
    rw [e]
    split
    · rw [hg a (by omega), Nat.zero_testBit]
    · rfl
theorem off_zero {t : RelT} (ht : Wf t) (a : Nat) (h : t.n ≤ a) : t.f a = 0 := by
  have _ := hr.n; have _ := hq.n; have _ := hmm
  apply Nat.eq_of_testBit_eq
  intro b
  rw [Nat.zero_testBit]
  exact ht.off (Or.inl h)
theorem union_same : uptoR (zm mm) (unionG (belowR r mm) (belowR q mm)) 64 = unionR r q := by
  have hm6 : mm ≤ 64 := by have := hr.n; omega
  refine rows_same hr hq mm hmm _ _ (by unfold unionR; rw [← hmm]) fun a ha => ?_
  unfold unionG
  rw [off_zero hr hq mm hmm (below_wf hr hm6) a ha, off_zero hr hq mm hmm (below_wf hq hm6) a ha]
  rfl
theorem minus_same : uptoR (zm mm) (minusG (belowR r mm) (belowR q mm)) 64 = minusR r q := by
  have hm6 : mm ≤ 64 := by have := hr.n; omega
  refine rows_same hr hq mm hmm _ _ (by unfold minusR; rw [← hmm]) fun a ha => ?_
  unfold minusG
  rw [off_zero hr hq mm hmm (below_wf hr hm6) a ha, Nat.zero_and]
theorem meet_same : uptoR (zm mm) (meetG (belowR r mm) (belowR q mm)) 64 = meetR r q := by
  have hm6 : mm ≤ 64 := by have := hr.n; omega
  refine rows_same hr hq mm hmm _ _ (by unfold meetR; rw [← hmm]) fun a ha => ?_
  unfold meetG
  rw [off_zero hr hq mm hmm (below_wf hr hm6) a ha, Nat.zero_and]
end
/-- Row by row: those below x whole, of row x what the numbers below y lead to. -/
def tS (A B : RelT) (x y : Nat) : RelT := ⟨A.n, fun j => if j < x then fromN B (A.f j) 64 else if j = x then fromN B (A.f x) y else 0⟩
theorem from_more (B : RelT) (s : Nat) : ∀ d k, k + d ≤ 64 → (∀ b, k ≤ b → s.testBit b = false) → fromN B s (k + d) = fromN B s k
  | 0, k, _, _ => rfl
  | d + 1, k, h, hb => by
    have ih := from_more B s d k (by omega) hb
    show (if hasI s ((k + d : Nat) : Int) then fromN B s (k + d) ||| B.f (k + d) else fromN B s (k + d)) = _
    rw [hasI_nat _ _ (by omega), hb _ (by omega), if_neg (by decide), ih]
theorem from_zero (B : RelT) : ∀ k, k ≤ 64 → fromN B 0 k = 0
  | 0, _ => rfl
  | k + 1, h => by
    show (if hasI 0 ((k : Nat) : Int) then fromN B 0 k ||| B.f k else fromN B 0 k) = 0
    rw [hasI_nat _ _ (by omega), Nat.zero_testBit, if_neg (by decide), from_zero B k (by omega)]
theorem tS_start (A B : RelT) : tS A B 0 0 = zm A.n := by
  unfold tS zm
  congr 1
  funext j
  by_cases h : j = 0
  · subst h; rfl
  · simp [h]
theorem tS_next (A B : RelT) (x : Nat) : tS A B x 64 = tS A B (x + 1) 0 := by
  unfold tS
  congr 1
  funext j
  by_cases h : j < x
  · have : j < x + 1 := by omega
    simp [h, this]
  · by_cases h2 : j = x
    · subst h2; simp
    · have h3 : ¬ j < x + 1 := by omega
      simp only [h, h2, h3, if_false]
      split <;> rfl
theorem tS_step (A B : RelT) (x y : Nat) (h : y < 64) (hb : (A.f x).testBit y = true) : (⟨(tS A B x y).n, fun j => if j = x then fromN B (A.f x) y ||| B.f y else (tS A B x y).f j⟩ : RelT) = tS A B x (y + 1) := by
  unfold tS
  congr 1
  funext j
  by_cases h2 : j = x
  · subst h2
    have e : fromN B (A.f j) (y + 1) = fromN B (A.f j) y ||| B.f y := by
      show (if hasI (A.f j) ((y : Nat) : Int) then fromN B (A.f j) y ||| B.f y else fromN B (A.f j) y) = _
      rw [hasI_nat _ _ h, hb, if_pos rfl]
    simp [e]
  · simp [h2]
theorem tS_skip (A B : RelT) (x y : Nat) (h : y < 64) (hb : (A.f x).testBit y = false) : tS A B x (y + 1) = tS A B x y := by
  unfold tS
  congr 1
  funext j
  have e : fromN B (A.f x) (y + 1) = fromN B (A.f x) y := by
    show (if hasI (A.f x) ((y : Nat) : Int) then fromN B (A.f x) y ||| B.f y else fromN B (A.f x) y) = _
    rw [hasI_nat _ _ h, hb, if_neg (by decide)]
  rw [e]
theorem tS_at (A B : RelT) (x y : Nat) : (tS A B x y).f x = fromN B (A.f x) y := by
  show (if x < x then _ else if x = x then _ else _) = _
  simp
theorem tS_wr {A B : RelT} (hA : A.n ≤ 64) (hB : Wr B) (x y : Nat) : Wr (tS A B x y) := by
  refine ⟨hA, fun j => ?_⟩
  show (if j < x then fromN B (A.f j) 64 else if j = x then fromN B (A.f x) y else 0) < _
  split
  · exact from_lt hB _ _
  · split
    · exact from_lt hB _ _
    · decide
theorem then_same {r q : RelT} (hr : Wf r) (_ : Wf q) (mm : Nat) (hmm : mm = min r.n q.n) : tS (belowR r mm) (belowR q mm) 64 0 = thenR r q := by
  have hm6 : mm ≤ 64 := by have := hr.n; omega
  have hA := below_wf hr hm6
  have hAn : (belowR r mm).n = mm := rfl
  have hBn : (belowR q mm).n = mm := rfl
  have e : thenR r q = uptoR (belowR r mm) (thenG (belowR r mm) (belowR q mm)) mm := by unfold thenR; rw [← hmm]
  rw [e]
  generalize belowR r mm = A at *
  generalize belowR q mm = B at *
  have hz : ∀ j, mm ≤ j → A.f j = 0 := fun j hj => by
    apply Nat.eq_of_testBit_eq
    intro b
    rw [Nat.zero_testBit]
    exact hA.off (Or.inl (by omega))
  unfold tS uptoR
  congr 1
  funext j
  by_cases h1 : j < mm
  · have h2 : j < 64 := by omega
    simp only [h1, h2, if_true]
    unfold thenG
    rw [hBn]
    have := from_more B (A.f j) (64 - mm) mm (by omega) (fun b hb => hA.off (Or.inr (by omega)))
    rw [show mm + (64 - mm) = 64 by omega] at this
    exact this
  · simp only [h1, if_false]
    rw [hz j (by omega)]
    split
    · exact from_zero B 64 (Nat.le_refl _)
    · split
      · rfl
      · rfl
/-- A word of marks. -/
def wordN (g : Nat → Bool) : Nat → Nat
  | 0 => 0
  | k + 1 => if g k then withI (wordN g k) k else wordN g k
theorem word_bit (g : Nat → Bool) (b : Nat) : ∀ k, k ≤ 64 → (wordN g k).testBit b = (g b && decide (b < k))
  | 0, _ => by unfold wordN; simp
  | k + 1, hk => by
    have ih := word_bit g b k (by omega)
    unfold wordN
    by_cases e : b = k
    · subst e
      cases hg : g b with
      | true =>
        rw [if_pos rfl, with_bit]
        have : ((b : Int) = (b : Int) ∧ b < 64) := ⟨rfl, by omega⟩
        simp [this]
      | false =>
        rw [if_neg (by decide), ih, hg]
        rfl
    · have h2 : decide (b < k + 1) = decide (b < k) := by simp; omega
      rw [h2]
      cases hg : g k with
      | true =>
        rw [if_pos rfl, with_bit, ih]
        have : ¬ ((k : Int) = (b : Int) ∧ b < 64) := by omega
        simp [this]
      | false => rw [if_neg (by decide), ih]
def ofB (n : Nat) (g : Nat → Nat → Bool) : RelT := ⟨n, fun a => wordN (fun b => g a b && (decide (a < n) && decide (b < n))) 64⟩
theorem ofB_H (n : Nat) (g : Nat → Nat → Bool) (hn : n ≤ 64) (a b : Nat) : H (ofB n g) a b = (g a b && (decide (a < n) && decide (b < n))) := by
  show (wordN (fun b => g a b && (decide (a < n) && decide (b < n))) 64).testBit b = _
  rw [word_bit _ _ _ (Nat.le_refl _)]
  by_cases h : b < n
  · have : b < 64 := by omega
    simp [this]
  · simp [h]
theorem ofB_wf (n : Nat) (g : Nat → Nat → Bool) (hn : n ≤ 64) : Wf (ofB n g) := by
  refine ⟨hn, fun a b h => ?_⟩
  rw [show ((ofB n g).f a).testBit b = H (ofB n g) a b from rfl, ofB_H n g hn] at h
  simp only [Bool.and_eq_true, decide_eq_true_eq] at h
  exact h.2
theorem ofB_ext {n : Nat} {g h : Nat → Nat → Bool} (hn : n ≤ 64) (e : ∀ a b, a < n → b < n → g a b = h a b) : ofB n g = ofB n h := by
  refine rel_ext rfl fun a b => ?_
  rw [ofB_H _ _ hn, ofB_H _ _ hn]
  by_cases ha : a < n
  · by_cases hb : b < n
    · rw [e a b ha hb]
    · simp [hb]
  · simp [ha]
theorem ofB_add {n : Nat} {g h : Nat → Nat → Bool} (hn : n ≤ 64) (x y : Nat) (hx : x < n) (hy : y < n) (e : ∀ a b, a < n → b < n → h a b = (g a b || (decide (a = x) && decide (b = y)))) : addR (ofB n g) x y = ofB n h := by
  have hw := ofB_wf n g hn
  refine rel_ext (add_n _ _ _) fun a b => ?_
  rw [add_H hw, ofB_H _ _ hn, ofB_H _ _ hn]
  have h1 : overR (ofB n g) (x : Int) = true := by unfold overR; show (decide _ && decide ((x : Int) < (n : Int))) = true; simp; omega
  have h2 : overR (ofB n g) (y : Int) = true := by unfold overR; show (decide _ && decide ((y : Int) < (n : Int))) = true; simp; omega
  rw [h1, h2]
  by_cases ha : a < n
  · by_cases hb : b < n
    · rw [e a b ha hb]
      have e1 : decide ((a : Int) = (x : Int)) = decide (a = x) := by simp only [decide_eq_decide]; omega
      have e2 : decide ((b : Int) = (y : Int)) = decide (b = y) := by simp only [decide_eq_decide]; omega
      rw [e1, e2]
      simp [ha, hb]
    · have : ¬ ((b : Int) = y) := by omega
      simp [hb, this]
  · have : ¬ ((a : Int) = x) := by omega
    simp [ha, this]
/-- Is (a, b) behind of (x, y) in the order of the loops? -/
def lexB (a b x y : Nat) : Bool := decide (a < x) || (decide (a = x) && decide (b < y))
theorem lex_step (a b x y : Nat) : lexB a b x (y + 1) = (lexB a b x y || (decide (a = x) && decide (b = y))) := by
  unfold lexB
  rw [Bool.eq_iff_iff]
  simp only [Bool.or_eq_true, Bool.and_eq_true, decide_eq_true_eq]
  omega
theorem lex_next (a b x : Nat) (hb : b < 64) : lexB a b x 64 = lexB a b (x + 1) 0 := by
  unfold lexB
  rw [Bool.eq_iff_iff]
  simp only [Bool.or_eq_true, Bool.and_eq_true, decide_eq_true_eq]
  omega
def iS (r : RelT) (x y : Nat) : RelT := ofB r.n (fun a b => H r b a && lexB b a x y)
def pS (r : RelT) (s x y : Nat) : RelT := ofB r.n (fun a b => (H r a b && (s.testBit a && s.testBit b)) && lexB a b x y)
section
variable {r : RelT} (hr : Wf r)
include hr
theorem iS_add (x y : Nat) (h : H r x y = true) : addR (iS r x y) y x = iS r x (y + 1) := by
  have := hr.b x y h
  refine ofB_add hr.n y x this.2 this.1 fun a b _ _ => ?_
  rw [lex_step]
  by_cases e : b = x ∧ a = y
  · obtain ⟨rfl, rfl⟩ := e
    rw [h]; simp
  · have : (decide (b = x) && decide (a = y)) = false := by simp; omega
    have h2 : (decide (a = y) && decide (b = x)) = false := by simp; omega
    rw [this, h2]
    simp
theorem iS_skip (x y : Nat) (h : H r x y = false) : iS r x (y + 1) = iS r x y := by
  refine ofB_ext hr.n fun a b _ _ => ?_
  rw [lex_step]
  by_cases e : b = x ∧ a = y
  · obtain ⟨rfl, rfl⟩ := e
    rw [h]; rfl
  · have : (decide (b = x) && decide (a = y)) = false := by simp; omega
    rw [this, Bool.or_false]
theorem iS_next (x : Nat) : iS r x 64 = iS r (x + 1) 0 := by
  have := hr.n
  exact ofB_ext hr.n fun a b ha _ => by rw [lex_next _ _ _ (by omega)]
theorem iS_all : iS r 64 0 = invR r := by
  refine rel_ext (inv_n hr).symm fun a b => ?_
  unfold iS
  rw [ofB_H _ _ hr.n, inv_H hr]
  cases h : H r b a with
  | false => simp
  | true =>
    have h1 := hr.b b a h
    have h2 := hr.n
    have : lexB b a 64 0 = true := by unfold lexB; simp; omega
    simp [this, h1]
theorem iS_start : iS r 0 0 = zm r.n := by
  refine rel_ext rfl fun a b => ?_
  unfold iS
  rw [ofB_H _ _ hr.n, zm_H]
  have : lexB b a 0 0 = false := by unfold lexB; simp
  simp [this]
theorem pS_add (s x y : Nat) (h : H r x y = true) (h1 : s.testBit x = true) (h2 : s.testBit y = true) : addR (pS r s x y) x y = pS r s x (y + 1) := by
  have := hr.b x y h
  refine ofB_add hr.n x y this.1 this.2 fun a b _ _ => ?_
  rw [lex_step]
  by_cases e : a = x ∧ b = y
  · obtain ⟨rfl, rfl⟩ := e
    rw [h, h1, h2]; simp
  · have : (decide (a = x) && decide (b = y)) = false := by simp; omega
    rw [this]
    simp
theorem pS_skip (s x y : Nat) (h : (H r x y && (s.testBit x && s.testBit y)) = false) : pS r s x (y + 1) = pS r s x y := by
  refine ofB_ext hr.n fun a b _ _ => ?_
  rw [lex_step]
  by_cases e : a = x ∧ b = y
  · obtain ⟨rfl, rfl⟩ := e
    rw [h]; rfl
  · have : (decide (a = x) && decide (b = y)) = false := by simp; omega
    rw [this, Bool.or_false]
theorem pS_next (s x : Nat) : pS r s x 64 = pS r s (x + 1) 0 := by
  have := hr.n
  exact ofB_ext hr.n fun a b _ hb => by rw [lex_next _ _ _ (by omega)]
theorem pS_all (s : Nat) : pS r s 64 0 = keepR r s := by
  refine rel_ext (keep_n hr s).symm fun a b => ?_
  unfold pS
  rw [ofB_H _ _ hr.n, keep_H hr]
  cases h : H r a b with
  | false => simp
  | true =>
    have h1 := hr.b a b h
    have h2 := hr.n
    have : lexB a b 64 0 = true := by unfold lexB; simp; omega
    simp [this, h1]
theorem pS_start (s : Nat) : pS r s 0 0 = zm r.n := by
  refine rel_ext rfl fun a b => ?_
  unfold pS
  rw [ofB_H _ _ hr.n, zm_H]
  have : lexB a b 0 0 = false := by unfold lexB; simp
  simp [this]
end
end Go.Proofs.Ythbiaojefmdcmaa
