/- Few numbers in one word, in plain Lean: joined, met and taken from each other. -/
import Derived.Test.YthbiaojefmdcmaaDoorUptosP
namespace Go.Proofs.YthbiaojefmdcmaaDoor

theorem cnt_countP (s : Nat) : cnt64 s = (List.range 64).countP (fun i => s.testBit i) := (List.countP_eq_length_filter).symm
theorem count_or {α : Type} (p q : α → Bool) : ∀ L : List α, L.countP (fun i => p i || q i) + L.countP (fun i => p i && q i) = L.countP p + L.countP q
  | [] => rfl
  | x :: L => by
    have := count_or p q L
    simp only [List.countP_cons]
    cases p x <;> cases q x <;> simp <;> omega
theorem count_diff {α : Type} (p q : α → Bool) : ∀ L : List α, L.countP (fun i => p i && !q i) + L.countP (fun i => p i && q i) = L.countP p
  | [] => rfl
  | x :: L => by
    have := count_diff p q L
    simp only [List.countP_cons]
    cases p x <;> cases q x <;> simp <;> omega
theorem cnt_or (a b : Nat) : cnt64 (a ||| b) + cnt64 (a &&& b) = cnt64 a + cnt64 b := by
  simp only [cnt_countP, Nat.testBit_or, Nat.testBit_and]
  exact count_or (fun i => a.testBit i) (fun i => b.testBit i) _
theorem cnt_not (a b : Nat) (hb : b < 18446744073709551616) : cnt64 (a &&& (18446744073709551615 - b)) + cnt64 (a &&& b) = cnt64 a := by
  have e : cnt64 (a &&& (18446744073709551615 - b)) = (List.range 64).countP (fun i => a.testBit i && !b.testBit i) := by
    rw [cnt_countP]
    apply List.countP_congr
    intro i hi
    have h : i < 64 := by simpa using hi
    rw [Nat.testBit_and, not_bit _ _ hb]
    simp [h]
  rw [e]
  simp only [cnt_countP, Nat.testBit_and]
  exact count_diff (fun i => a.testBit i) (fun i => b.testBit i) _
theorem cnt_le_or (a b : Nat) : cnt64 (a &&& b) ≤ cnt64 a ∧ cnt64 (a &&& b) ≤ cnt64 b := by
  simp only [cnt_countP, Nat.testBit_and]
  constructor
  · exact List.countP_mono_left (fun i _ h => by simp at h; exact h.1)
  · exact List.countP_mono_left (fun i _ h => by simp at h; exact h.2)
def inI (i : Int) : Nat := if 0 ≤ i ∧ i < 64 then 1 else 0
theorem pow_count : ∀ k, k < 64 → cnt64 (2 ^ k) = 1 := by decide +kernel
theorem bit_count (i : Int) : cnt64 (bitI i) = inI i := by
  unfold bitI inI
  split
  · exact pow_count _ (by omega)
  · decide +kernel
theorem with_less (s : Nat) (i : Int) : cnt64 (withI s i) = cnt64 (lessI s i) + inI i := by
  have h1 := cnt_or s (bitI i)
  have h2 := cnt_not s (bitI i) (bit_lt i)
  rw [bit_count] at h1
  unfold withI lessI
  omega
/-- How many of a row's numbers another set has. -/
theorem cnt_met (a b : Nat) : (bits64 a).countP (fun i => b.testBit i) = cnt64 (a &&& b) := by
  rw [cnt_countP, bits64, List.countP_filter]
  apply List.countP_congr
  intro i _
  rw [Nat.testBit_and, Bool.and_comm]
theorem rising (s : Nat) : (bits64 s).Pairwise (· < ·) := List.Pairwise.filter _ List.pairwise_lt_range
theorem has_nat (s i : Nat) (h : i < 64) : hasI s i = s.testBit i := by
  rw [has_bit, decide_eq_true (by omega), Bool.true_and, Int.toNat_natCast]
end Go.Proofs.YthbiaojefmdcmaaDoor
