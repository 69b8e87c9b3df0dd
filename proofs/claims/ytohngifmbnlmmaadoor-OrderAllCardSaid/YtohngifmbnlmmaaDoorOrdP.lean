/- Rows that keep a relation, in plain Lean: who may come next, all rows, the next row. -/
import Derived.Test.YtohngifmbnlmmaaDoorSetV
import Derived.Test.YtohngifmbnlmmaaDoorRelP
namespace Go.Proofs.YtohngifmbnlmmaaDoor

/-- Those that may come next, when those of t have come. -/
def freeN (n : Nat) (D : Nat → Nat) (t : Nat) : Nat :=
  (bits64 (uptoI n &&& (18446744073709551615 - t))).foldl (fun m (a : Nat) => if D a &&& (18446744073709551615 - t) = 0 then withI m (a : Int) else m) 0
def mayP (n : Nat) (D : Nat → Nat) (t a : Nat) : Bool := decide (a < n) && !t.testBit a && (D a &&& (18446744073709551615 - t) == 0)
theorem fold_bit (p : Nat → Bool) : ∀ (L : List Nat) (m j : Nat), (∀ a ∈ L, a < 64) → (L.foldl (fun m (a : Nat) => if p a then withI m (a : Int) else m) m).testBit j = (m.testBit j || (decide (j ∈ L) && p j))
  | [], m, j, _ => by simp
  | a :: L, m, j, h => by
    have ha : a < 64 := h a (by simp)
    rw [List.foldl_cons, fold_bit p L _ j (fun b hb => h b (by simp [hb]))]
    by_cases hp : p a = true
    · rw [if_pos hp, with_bit]
      by_cases hj : j = a
      · subst hj
        simp [ha, hp]
      · have h1 : ¬ ((a : Int) = (j : Int) ∧ j < 64) := by omega
        simp [h1, hj]
    · rw [if_neg hp]
      by_cases hj : j = a
      · subst hj
        have hp' : p j = false := by simpa using hp
        simp [hp']
      · simp [hj]
theorem wait_bit (n t a : Nat) (hn : n ≤ 64) (ht : t < 18446744073709551616) : (uptoI n &&& (18446744073709551615 - t)).testBit a = (decide (a < n) && !t.testBit a) := by
  rw [Nat.testBit_and, upto_bit n a hn, not_bit t a ht]
  by_cases h : a < n
  · have : a < 64 := by omega
    simp [h, this]
  · simp [h]
theorem free_bit (n : Nat) (D : Nat → Nat) (t a : Nat) (hn : n ≤ 64) (ht : t < 18446744073709551616) : (freeN n D t).testBit a = mayP n D t a := by
  unfold freeN mayP
  have e : (fun (m a : Nat) => if D a &&& (18446744073709551615 - t) = 0 then withI m (a : Int) else m) = fun (m a : Nat) => if (D a &&& (18446744073709551615 - t) == 0) = true then withI m (a : Int) else m := by
    funext m a
    simp
  rw [e, fold_bit (fun a => D a &&& (18446744073709551615 - t) == 0) _ _ _ (fun b hb => ((mem64 _ _).1 hb).1), Nat.zero_testBit, Bool.false_or]
  congr 1
  rw [Bool.eq_iff_iff, decide_eq_true_iff, mem64, wait_bit n t a hn ht]
  constructor
  · exact fun h => h.2
  · intro h
    simp only [Bool.and_eq_true, decide_eq_true_eq] at h
    exact ⟨by omega, by simp [h]⟩
theorem fold_lt (p : Nat → Prop) [DecidablePred p] : ∀ (L : List Nat) (m : Nat), m < 18446744073709551616 → L.foldl (fun m (a : Nat) => if p a then withI m (a : Int) else m) m < 18446744073709551616
  | [], _, h => h
  | a :: L, m, h => by
    rw [List.foldl_cons]
    refine fold_lt p L _ ?_
    split
    · exact with_lt _ _ h
    · exact h
theorem free_lt (n : Nat) (D : Nat → Nat) (t : Nat) : freeN n D t < 18446744073709551616 := fold_lt _ _ _ (by decide)
theorem may_lt {n : Nat} {D : Nat → Nat} {t a : Nat} (h : mayP n D t a = true) : a < n := by
  unfold mayP at h
  simp only [Bool.and_eq_true, decide_eq_true_eq] at h
  exact h.1.1
theorem may_new {n : Nat} {D : Nat → Nat} {t a : Nat} (h : mayP n D t a = true) : t.testBit a = false := by
  unfold mayP at h
  simp only [Bool.and_eq_true, decide_eq_true_eq, Bool.not_eq_true'] at h
  exact h.1.2
theorem mem_free {n : Nat} {D : Nat → Nat} {t a : Nat} (hn : n ≤ 64) (ht : t < 18446744073709551616) : a ∈ bits64 (freeN n D t) ↔ mayP n D t a = true := by
  rw [mem64, free_bit n D t a hn ht]
  constructor
  · exact fun h => h.2
  · intro h
    have := may_lt h
    exact ⟨by omega, h⟩
/-- How many are still to come. -/
def outs (n t : Nat) : Nat := (List.range n).countP (fun a => !t.testBit a)
theorem countP_flip (p q : Nat → Bool) (x : Nat) : ∀ n, x < n → p x = true → q x = false → (∀ a, a ≠ x → p a = q a) → (List.range n).countP p = (List.range n).countP q + 1
  | 0, h, _, _, _ => by omega
  | n + 1, h, hp, hq, he => by
    rw [List.range_succ, List.countP_append, List.countP_append]
    by_cases hx : x = n
    · subst hx
      have e : (List.range x).countP p = (List.range x).countP q := List.countP_congr fun a ha => by
        have : a < x := by simpa using ha
        rw [he a (by omega)]
      rw [e]
      simp [hp, hq]
    · rw [countP_flip p q x n (by omega) hp hq he]
      have : p n = q n := he n (fun h => hx h.symm)
      simp [this]
      omega
theorem outs_may {n : Nat} {D : Nat → Nat} {t a : Nat} (hn : n ≤ 64) (h : mayP n D t a = true) : outs n t = outs n (withI t (a : Int)) + 1 := by
  have ha := may_lt h
  have hb := may_new h
  unfold outs
  refine countP_flip _ _ a n ha (by simp [hb]) ?_ fun b hne => ?_
  · rw [with_bit]
    have : (a : Int) = (a : Int) ∧ a < 64 := ⟨rfl, by omega⟩
    simp [this]
  · rw [with_bit]
    have : ¬ ((a : Int) = (b : Int) ∧ b < 64) := by omega
    simp [this]
theorem outs_zero (n : Nat) : outs n 0 = n := by
  unfold outs
  rw [List.countP_eq_length.2 (fun a _ => by simp), List.length_range]
theorem outs_pos {n t : Nat} (h : 0 < outs n t) : ∃ a, a < n ∧ t.testBit a = false := by
  unfold outs at h
  obtain ⟨a, ha, hb⟩ := List.countP_pos_iff.1 h
  exact ⟨a, by simpa using ha, by simpa using hb⟩
theorem outs_none {n t : Nat} (h : outs n t = 0) (a : Nat) (ha : a < n) : t.testBit a = true := by
  unfold outs at h
  have := List.countP_eq_zero.1 h a (by simpa using ha)
  simpa using this
/-- Whenever one is still to come some one may. -/
def Full (n : Nat) (D : Nat → Nat) : Prop := ∀ t, t < 18446744073709551616 → (∃ a, a < n ∧ t.testBit a = false) → freeN n D t ≠ 0

section
variable (n : Nat) (D : Nat → Nat)
/-- All rows of so many more. -/
def exts : Nat → Nat → List (List Nat)
  | 0, _ => [[]]
  | k + 1, t => (bits64 (freeN n D t)).flatMap fun (a : Nat) => (exts k (withI t (a : Int))).map (a :: ·)
/-- Always the least. -/
def finN : Nat → Nat → List Nat
  | 0, _ => []
  | k + 1, t => Lib.ctz 64 (freeN n D t) :: finN k (withI t (Lib.ctz 64 (freeN n D t) : Int))
/-- The rows behind a row. -/
def afterS : Nat → List Nat → List (List Nat)
  | _, [] => []
  | t, a :: l => (afterS (withI t (a : Int)) l).map (a :: ·) ++ ((bits64 (freeN n D t)).filter (fun b : Nat => decide (a < b))).flatMap fun (b : Nat) => (exts n D l.length (withI t (b : Int))).map (b :: ·)
/-- Those that may come instead of a, and are greater. -/
def greatN (t a : Nat) : Nat := freeN n D t &&& (18446744073709551615 - uptoI ((a : Int) + 1))
/-- The next row. -/
def nextS : Nat → List Nat → Option (List Nat)
  | _, [] => none
  | t, a :: l => match nextS (withI t (a : Int)) l with
    | some l' => some (a :: l')
    | none => if greatN n D t a = 0 then none else some (Lib.ctz 64 (greatN n D t a) :: finN n D l.length (withI t (Lib.ctz 64 (greatN n D t a) : Int)))
/-- Each may come when its turn is. -/
def okS : Nat → List Nat → Bool
  | _, [] => true
  | t, a :: l => mayP n D t a && okS (withI t (a : Int)) l
end
theorem upto_succ (a : Nat) : uptoI ((a : Int) + 1) = uptoI ((a + 1 : Nat) : Int) := by congr 1
theorem great_bits (n : Nat) (D : Nat → Nat) (t a : Nat) (ha : a < 64) : bits64 (greatN n D t a) = (bits64 (freeN n D t)).filter (fun b : Nat => decide (a < b)) := by
  unfold bits64
  rw [List.filter_filter]
  refine List.filter_congr fun b hb => ?_
  have hb' : b < 64 := by simpa using hb
  have hu : uptoI ((a + 1 : Nat) : Int) < 18446744073709551616 := by
    have : uptoI ((a + 1 : Nat) : Int) < 2 ^ 64 := Nat.lt_pow_two_of_testBit _ fun i hi => by
      rw [upto_bit (a + 1) i (by omega)]
      simp; omega
    simpa using this
  unfold greatN
  rw [upto_succ a, Nat.testBit_and, not_bit _ _ hu, upto_bit (a + 1) b (by omega), Bool.and_comm]
  congr 1
  rw [Bool.eq_iff_iff]
  simp [hb']
  omega
theorem great_lt (n : Nat) (D : Nat → Nat) (t a : Nat) : greatN n D t a < 18446744073709551616 := Nat.lt_of_le_of_lt Nat.and_le_left (free_lt n D t)
theorem bits_sorted (s : Nat) : (bits64 s).Pairwise (· < ·) := List.Pairwise.filter _ List.pairwise_lt_range
theorem filter_gt {c : Nat} {cs : List Nat} (h : (c :: cs).Pairwise (· < ·)) : (c :: cs).filter (fun b => decide (c < b)) = cs := by
  rw [List.filter_cons, if_neg (by simp)]
  refine List.filter_eq_self.2 fun b hb => ?_
  have := (List.pairwise_cons.1 h).1 b hb
  simpa using this
theorem bits_ne {s : Nat} (h : s < 18446744073709551616) (h0 : s ≠ 0) : ∃ cs, bits64 s = Lib.ctz 64 s :: cs := ⟨_, (rise64 s h0 h).2.1⟩
section
variable {n : Nat} {D : Nat → Nat} (hn : n ≤ 64) (hF : Full n D)
include hn hF
theorem exts_fin : ∀ (k t : Nat), t < 18446744073709551616 → outs n t = k → exts n D k t = finN n D k t :: afterS n D t (finN n D k t) ∧ okS n D t (finN n D k t) = true ∧ (finN n D k t).length = k
  | 0, t, _, _ => ⟨rfl, rfl, rfl⟩
  | k + 1, t, ht, ho => by
    have h0 := hF t ht (outs_pos (by omega))
    obtain ⟨cs, hb⟩ := bits_ne (free_lt n D t) h0
    have hs := bits_sorted (freeN n D t)
    have hm : mayP n D t (Lib.ctz 64 (freeN n D t)) = true := (mem_free hn ht).1 (by rw [hb]; simp)
    obtain ⟨h1, h2, h3⟩ := exts_fin k (withI t (Lib.ctz 64 (freeN n D t) : Int)) (with_lt _ _ ht) (by have := outs_may hn hm; omega)
    refine ⟨?_, ?_, ?_⟩
    · unfold exts finN afterS
      rw [h3]
      rw [hb] at hs ⊢
      rw [filter_gt hs, List.flatMap_cons, h1, List.map_cons, List.cons_append]
    · unfold finN okS
      rw [hm, h2]
      rfl
    · unfold finN
      rw [List.length_cons, h3]
theorem after_next : ∀ (l : List Nat) (t : Nat), t < 18446744073709551616 → outs n t = l.length → okS n D t l = true →
    (nextS n D t l = none → afterS n D t l = []) ∧ ∀ l', nextS n D t l = some l' → afterS n D t l = l' :: afterS n D t l' ∧ okS n D t l' = true ∧ l'.length = l.length
  | [], t, _, _, _ => ⟨fun _ => rfl, fun l' h => by simp [nextS] at h⟩
  | a :: l, t, ht, ho, hk => by
    unfold okS at hk
    rw [Bool.and_eq_true] at hk
    have ha := may_lt hk.1
    have hw : withI t (a : Int) < 18446744073709551616 := with_lt _ _ ht
    have ho2 : outs n (withI t (a : Int)) = l.length := by have := outs_may hn hk.1; simp only [List.length_cons] at ho; omega
    obtain ⟨i1, i2⟩ := after_next l (withI t (a : Int)) hw ho2 hk.2
    cases hx : nextS n D (withI t (a : Int)) l with
    | some l1 =>
      obtain ⟨j1, j2, j3⟩ := i2 l1 hx
      have e : nextS n D t (a :: l) = some (a :: l1) := by rw [nextS, hx]
      refine ⟨fun h => (by rw [e] at h; cases h), fun l' h => ?_⟩
      rw [e] at h
      obtain rfl : a :: l1 = l' := Option.some.inj h
      refine ⟨?_, ?_, ?_⟩
      · rw [afterS, j1, afterS, j3, List.map_cons, List.cons_append]
      · rw [okS, hk.1, j2]; rfl
      · simp [j3]
    | none =>
      have i3 := i1 hx
      have hg := great_bits n D t a (by omega)
      by_cases h0 : greatN n D t a = 0
      · have e : nextS n D t (a :: l) = none := by rw [nextS, hx]; simp [h0]
        refine ⟨fun _ => ?_, fun l' h => by rw [e] at h; cases h⟩
        rw [afterS, i3, ← hg, h0, b64_zero]
        rfl
      · obtain ⟨cs, hb⟩ := bits_ne (great_lt n D t a) h0
        have e : nextS n D t (a :: l) = some (Lib.ctz 64 (greatN n D t a) :: finN n D l.length (withI t (Lib.ctz 64 (greatN n D t a) : Int))) := by
          rw [nextS, hx]
          simp [h0]
        refine ⟨fun h => (by rw [e] at h; cases h), fun l' h => ?_⟩
        rw [e] at h
        have hl' := Option.some.inj h
        have hs := bits_sorted (greatN n D t a)
        have hmem : Lib.ctz 64 (greatN n D t a) ∈ (bits64 (freeN n D t)).filter (fun b : Nat => decide (a < b)) := by rw [← hg, hb]; simp
        have hf2 : (bits64 (freeN n D t)).filter (fun b => decide (Lib.ctz 64 (greatN n D t a) < b)) = cs := by
          have hac : a < Lib.ctz 64 (greatN n D t a) := by simpa using (List.mem_filter.1 hmem).2
          rw [hb] at hs
          have h4 := filter_gt hs
          rw [← hb, hg, List.filter_filter] at h4
          rw [← h4]
          refine List.filter_congr fun b _ => ?_
          rw [Bool.eq_iff_iff]
          simp only [Bool.and_eq_true, decide_eq_true_eq]
          omega
        have hm : mayP n D t (Lib.ctz 64 (greatN n D t a)) = true := (mem_free hn ht).1 (List.mem_filter.1 hmem).1
        obtain ⟨h1, h2, h3⟩ := exts_fin hn hF l.length (withI t (Lib.ctz 64 (greatN n D t a) : Int)) (with_lt _ _ ht) (by have := outs_may hn hm; simp only [List.length_cons] at ho; omega)
        subst hl'
        refine ⟨?_, ?_, ?_⟩
        · rw [afterS, i3, ← hg, hb, List.map_nil, List.nil_append, List.flatMap_cons, h1, List.map_cons, List.cons_append, afterS, h3, hf2]
        · rw [okS, hm, h2]; rfl
        · simp [h3]
end
end Go.Proofs.YtohngifmbnlmmaaDoor
