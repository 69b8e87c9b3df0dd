/- A skip ahead of five that add one, in plain Lean. -/
import Derived.Test.YtjjmkacfkjkhgaaDoorStepD
namespace Go.Proofs.YtjjmkacfkjkhgaaDoor
open Go.RowKit

def skI (a b n : Int) : InsT := ⟨6, 0, 0, ⟨-1, a⟩, 0, ⟨-1, b⟩, n⟩
def incI : InsT := ⟨5, 0, 0, ⟨0, 0⟩, 1, ⟨-1, 1⟩, 0⟩
def skRow (a b n : Int) (i : Nat) : List InsT := skI a b n :: List.replicate i incI
theorem skRow_more (a b n : Int) (i : Nat) : skRow a b n i ++ [incI] = skRow a b n (i + 1) := by
  unfold skRow
  rw [List.cons_append, ← List.replicate_succ']
theorem skip_from (a b n : Int) (h : ∀ d : Int, skipOf (skI a b n) ⟨0, 0, 0, 0, 0⟩ 5 = d → settleP (skRow a b n 5) ⟨0 + d + 1, 0, 0, 0, 0⟩ = ⟨6, 5 - d, 0, 0, 0⟩) : startP (skRow a b n 5) = ⟨6, 5 - skipOf (skI a b n) ⟨0, 0, 0, 0, 0⟩ 5, 0, 0, 0⟩ := by
  unfold startP
  rw [settle_step (l := ⟨0, 0, 0, 0, 0⟩) (i := skI a b n) (by decide) rfl]
  have k5 : ((skI a b n).k == 5) = false := rfl
  have k6 : ((skI a b n).k == 6) = true := rfl
  rw [k5, k6]
  simp only [Bool.false_eq_true, if_false, if_true]
  exact h _ rfl
theorem run0 (a b n : Int) : settleP (skRow a b n 5) ⟨0 + ((0 : Nat) : Int) + 1, 0, 0, 0, 0⟩ = ⟨6, 5 - ((0 : Nat) : Int), 0, 0, 0⟩ := by kernel_rfl
theorem run1 (a b n : Int) : settleP (skRow a b n 5) ⟨0 + ((1 : Nat) : Int) + 1, 0, 0, 0, 0⟩ = ⟨6, 5 - ((1 : Nat) : Int), 0, 0, 0⟩ := by kernel_rfl
theorem run2 (a b n : Int) : settleP (skRow a b n 5) ⟨0 + ((2 : Nat) : Int) + 1, 0, 0, 0, 0⟩ = ⟨6, 5 - ((2 : Nat) : Int), 0, 0, 0⟩ := by kernel_rfl
theorem run3 (a b n : Int) : settleP (skRow a b n 5) ⟨0 + ((3 : Nat) : Int) + 1, 0, 0, 0, 0⟩ = ⟨6, 5 - ((3 : Nat) : Int), 0, 0, 0⟩ := by kernel_rfl
theorem run4 (a b n : Int) : settleP (skRow a b n 5) ⟨0 + ((4 : Nat) : Int) + 1, 0, 0, 0, 0⟩ = ⟨6, 5 - ((4 : Nat) : Int), 0, 0, 0⟩ := by kernel_rfl
theorem run5 (a b n : Int) : settleP (skRow a b n 5) ⟨0 + ((5 : Nat) : Int) + 1, 0, 0, 0, 0⟩ = ⟨6, 5 - ((5 : Nat) : Int), 0, 0, 0⟩ := by kernel_rfl
theorem skip_run (a b n : Int) (d : Nat) (hd : d ≤ 5) : settleP (skRow a b n 5) ⟨0 + (d : Int) + 1, 0, 0, 0, 0⟩ = ⟨6, 5 - (d : Int), 0, 0, 0⟩ := by
  have hc : d = 0 ∨ d = 1 ∨ d = 2 ∨ d = 3 ∨ d = 4 ∨ d = 5 := by omega
  rcases hc with rfl | rfl | rfl | rfl | rfl | rfl
  · exact run0 a b n
  · exact run1 a b n
  · exact run2 a b n
  · exact run3 a b n
  · exact run4 a b n
  · exact run5 a b n
theorem val_const (v : Int) (l : LocT) : valOf ⟨-1, v⟩ l = v := rfl
theorem skips_same (a b : Int) (j : Nat) (hj : j < 5) (h : (a == b) = true) : startP (skRow a b ((j : Int) + 1) 5) = ⟨6, 5 - ((j : Int) + 1), 0, 0, 0⟩ := by
  have e : skipOf (skI a b ((j : Int) + 1)) ⟨0, 0, 0, 0, 0⟩ 5 = ((j + 1 : Nat) : Int) := by
    unfold skipOf skI
    simp only [val_const, h, if_true]
    omega
  rw [skip_from a b _ (fun d hd => by rw [e] at hd; subst hd; exact skip_run a b _ (j + 1) (by omega)), e]
  congr 1
theorem skips_other (a b : Int) (n : Int) (h : (a == b) = false) : startP (skRow a b n 5) = ⟨6, 5, 0, 0, 0⟩ := by
  have e : skipOf (skI a b n) ⟨0, 0, 0, 0, 0⟩ 5 = ((0 : Nat) : Int) := by
    unfold skipOf skI
    simp only [val_const, h, Bool.false_eq_true, if_false]
    rfl
  rw [skip_from a b n (fun d hd => by rw [e] at hd; subst hd; exact skip_run a b n 0 (by omega)), e]
  congr 1
end Go.Proofs.YtjjmkacfkjkhgaaDoor
