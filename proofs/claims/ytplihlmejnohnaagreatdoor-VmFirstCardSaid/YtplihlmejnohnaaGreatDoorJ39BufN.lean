/- Few numbers in one word, in plain Lean: how many bits, which ones, and the count by halves. Of no memory. -/
import Derived.Lib.TrailingZeros
import Derived.Laws.BitsAllLaws
import Derived.Test.YtplihlmejnohnaaGreatDoorJ03Gen0
import Derived.Test.YtplihlmejnohnaaGreatDoorJ14SmallP
import Derived.Laws.ShiftsVarLaws
import Derived.Deep.QuietTactic
import Derived.BigQuiet
import Derived.Test.YtplihlmejnohnaaGreatDoorJ38VmC
import Derived.Test.YtplihlmejnohnaaGreatDoorJ33BufL
namespace Go.Proofs.YtplihlmejnohnaaGreatDoor

def bits64 (n : Nat) : List Nat := (List.range 64).filter (fun i => n.testBit i)
def cnt64 (n : Nat) : Nat := (bits64 n).length
/-- How many of the lowest so many bits. -/
def pc : Nat → Nat → Nat
  | 0, _ => 0
  | n + 1, x => x % 2 + pc n (x / 2)
theorem pc_count : ∀ (n x : Nat), (List.range n).countP (fun i => x.testBit i) = pc n x
  | 0, _ => rfl
  | n + 1, x => by
    rw [List.range_succ_eq_map, List.countP_cons, List.countP_map, pc, ← pc_count n (x / 2)]
    have e : ((fun i => x.testBit i) ∘ Nat.succ) = fun i => (x / 2).testBit i := by
      funext i
      exact Nat.testBit_succ x i
    rw [e, Nat.add_comm]
    congr 1
    rw [Nat.testBit_zero]
    rcases Nat.mod_two_eq_zero_or_one x with h | h <;> simp [h]
theorem cnt_pc (x : Nat) : cnt64 x = pc 64 x := by
  rw [← pc_count]
  exact (List.countP_eq_length_filter).symm
theorem pc_zero : ∀ n, pc n 0 = 0
  | 0 => rfl
  | n + 1 => by simp [pc, pc_zero n]
theorem pc_le : ∀ n x, pc n x ≤ n
  | 0, _ => Nat.le_refl _
  | n + 1, x => by have := pc_le n (x / 2); unfold pc; omega
theorem cnt_le (x : Nat) : cnt64 x ≤ 64 := by rw [cnt_pc]; exact pc_le 64 x
theorem pc_split : ∀ (a b x : Nat), pc (a + b) x = pc a (x % 2 ^ a) + pc b (x / 2 ^ a)
  | 0, b, x => by simp [pc]
  | a + 1, b, x => by
    have e : a + 1 + b = (a + b) + 1 := by omega
    rw [e, pc, pc_split a b (x / 2), pc]
    have h1 : x % 2 ^ (a + 1) % 2 = x % 2 := by
      rw [Nat.pow_succ, Nat.mul_comm, Nat.mod_mul_right_mod]
    have h2 : x % 2 ^ (a + 1) / 2 = x / 2 % 2 ^ a := by
      rw [Nat.pow_succ, Nat.mul_comm, Nat.mod_mul_right_div_self]
    have h3 : x / 2 / 2 ^ a = x / 2 ^ (a + 1) := by
      rw [Nat.div_div_eq_div_mul, Nat.pow_succ, Nat.mul_comm]
    rw [h1, h2, h3]
    omega
/-- A mask digit by digit. -/
theorem and_digit (k c m x : Nat) (hc : c < 2 ^ k) : x &&& (c + 2 ^ k * m) = (x % 2 ^ k &&& c) + 2 ^ k * (x / 2 ^ k &&& m) := by
  apply Nat.eq_of_testBit_eq
  intro i
  have hl : (x % 2 ^ k &&& c) < 2 ^ k := Nat.lt_of_le_of_lt Nat.and_le_right hc
  rw [Nat.add_comm c, Nat.add_comm (x % 2 ^ k &&& c), Nat.testBit_and, Nat.testBit_two_pow_mul_add _ hc, Nat.testBit_two_pow_mul_add _ hl]
  by_cases h : i < k
  · simp [h, Nat.testBit_mod_two_pow]
  · have e : (x / 2 ^ k).testBit (i - k) = x.testBit i := by
      rw [Nat.testBit_div_two_pow]
      congr 1
      omega
    simp [h, e]
/-- The mask that has c in each of n digits of k bits. -/
def mk (k c : Nat) : Nat → Nat
  | 0 => 0
  | n + 1 => c + 2 ^ k * mk k c n
/-- A function at each of n digits of k bits. -/
def dg (k : Nat) (f : Nat → Nat) : Nat → Nat → Nat
  | 0, _ => 0
  | n + 1, x => f (x % 2 ^ k) + 2 ^ k * dg k f n (x / 2 ^ k)
/-- The sum of f over n digits of k bits. -/
def ds (k : Nat) (f : Nat → Nat) : Nat → Nat → Nat
  | 0, _ => 0
  | n + 1, x => f (x % 2 ^ k) + ds k f n (x / 2 ^ k)
theorem pc_ds (k : Nat) : ∀ (n x : Nat), pc (k * n) x = ds k (pc k) n x
  | 0, x => rfl
  | n + 1, x => by
    have e : k * (n + 1) = k + k * n := by rw [Nat.mul_add, Nat.mul_one, Nat.add_comm]
    rw [e, pc_split, pc_ds k n, ds]
theorem ds_dg (k : Nat) (f g : Nat → Nat) (hf : ∀ d, d < 2 ^ k → f d < 2 ^ k) : ∀ (n x : Nat), ds k g n (dg k f n x) = ds k (fun d => g (f d)) n x
  | 0, _ => rfl
  | n + 1, x => by
    have hp : 0 < 2 ^ k := Nat.two_pow_pos k
    have hl := hf _ (Nat.mod_lt x hp)
    have h1 : (f (x % 2 ^ k) + 2 ^ k * dg k f n (x / 2 ^ k)) % 2 ^ k = f (x % 2 ^ k) := by
      rw [Nat.add_mul_mod_self_left, Nat.mod_eq_of_lt hl]
    have h2 : (f (x % 2 ^ k) + 2 ^ k * dg k f n (x / 2 ^ k)) / 2 ^ k = dg k f n (x / 2 ^ k) := by
      rw [Nat.add_mul_div_left _ _ hp, Nat.div_eq_of_lt hl, Nat.zero_add]
    rw [dg, ds, ds, h1, h2, ds_dg k f g hf n]
/-- Digits of 2k bits out of digits of k bits. -/
theorem ds_pair (k : Nat) (f : Nat → Nat) : ∀ (n x : Nat), ds k f (2 * n) x = ds (2 * k) (fun d => f (d % 2 ^ k) + f (d / 2 ^ k)) n x
  | 0, _ => rfl
  | n + 1, x => by
    have e : 2 * (n + 1) = (2 * n + 1) + 1 := by omega
    have e2 : 2 * k = k + k := by omega
    rw [e, ds, ds, ds_pair k f n, ds, e2]
    have h1 : x % 2 ^ (k + k) % 2 ^ k = x % 2 ^ k := by rw [Nat.pow_add, Nat.mod_mul_right_mod]
    have h2 : x % 2 ^ (k + k) / 2 ^ k = x / 2 ^ k % 2 ^ k := by rw [Nat.pow_add, Nat.mod_mul_right_div_self]
    have h3 : x / 2 ^ k / 2 ^ k = x / 2 ^ (k + k) := by rw [Nat.div_div_eq_div_mul, Nat.pow_add]
    rw [h1, h2, h3]
    omega
theorem ds_congr (k : Nat) (f g : Nat → Nat) (h : ∀ d, d < 2 ^ k → f d = g d) : ∀ (n x : Nat), ds k f n x = ds k g n x
  | 0, _ => rfl
  | n + 1, x => by rw [ds, ds, h _ (Nat.mod_lt _ (Nat.two_pow_pos k)), ds_congr k f g h n]
theorem dg_congr (k : Nat) (f g : Nat → Nat) (h : ∀ d, d < 2 ^ k → f d = g d) : ∀ (n x : Nat), dg k f n x = dg k g n x
  | 0, _ => rfl
  | n + 1, x => by rw [dg, dg, h _ (Nat.mod_lt _ (Nat.two_pow_pos k)), dg_congr k f g h n]
/-- Halves of digits, added. -/
theorem halves (k : Nat) : ∀ (n x : Nat), (x / 2 ^ k &&& mk (2 * k) (2 ^ k - 1) n) + (x &&& mk (2 * k) (2 ^ k - 1) n) = dg (2 * k) (fun d => d / 2 ^ k + d % 2 ^ k) n x
  | 0, _ => by simp [mk, dg]
  | n + 1, x => by
    have hp : 0 < 2 ^ k := Nat.two_pow_pos k
    have hc : 2 ^ k - 1 < 2 ^ (2 * k) := by
      have : 2 ^ k ≤ 2 ^ (2 * k) := Nat.pow_le_pow_right (by decide) (by omega)
      omega
    have e2 : 2 * k = k + k := by omega
    have h0 : x / 2 ^ k % 2 ^ (2 * k) % 2 ^ k = x % 2 ^ (2 * k) / 2 ^ k := by
      rw [e2, Nat.pow_add, Nat.mod_mul_right_mod, Nat.mod_mul_right_div_self]
    have h1 : x / 2 ^ k / 2 ^ (2 * k) = x / 2 ^ (2 * k) / 2 ^ k := by rw [Nat.div_div_eq_div_mul, Nat.div_div_eq_div_mul, Nat.mul_comm]
    rw [mk, and_digit _ _ _ _ hc, and_digit _ _ _ _ hc, Nat.and_two_pow_sub_one_eq_mod, Nat.and_two_pow_sub_one_eq_mod, h0, h1, dg, ← halves k n, Nat.mul_add]
    omega
/-- Four bits a digit, none above four: two of them added, no carry. -/
def nib : Nat → Nat → Prop
  | 0, _ => True
  | n + 1, x => x % 16 ≤ 4 ∧ nib n (x / 16)
theorem nib_dg (f : Nat → Nat) (hf : ∀ d, d < 2 ^ 4 → f d ≤ 4) : ∀ (n x : Nat), nib n (dg 4 f n x)
  | 0, _ => trivial
  | n + 1, x => by
    have hl := hf _ (Nat.mod_lt x (by decide))
    have h1 : (f (x % 2 ^ 4) + 2 ^ 4 * dg 4 f n (x / 2 ^ 4)) % 16 = f (x % 2 ^ 4) := by omega
    have h2 : (f (x % 2 ^ 4) + 2 ^ 4 * dg 4 f n (x / 2 ^ 4)) / 16 = dg 4 f n (x / 2 ^ 4) := by omega
    unfold nib dg
    rw [h1, h2]
    exact ⟨hl, nib_dg f hf n _⟩
theorem fold8 : ∀ (n x : Nat), nib (2 * n) x → x < 256 ^ n → (x / 16 + x) &&& mk 8 15 n = dg 8 (fun d => d / 16 + d % 16) n x
  | 0, x, _, _ => by simp [mk, dg]
  | n + 1, x, h, hx => by
    have e : 2 * (n + 1) = (2 * n + 1) + 1 := by omega
    rw [e] at h
    obtain ⟨h0, h1, h2⟩ := h
    have hd : x / 16 / 16 = x / 256 := by omega
    rw [hd] at h2
    have hx' : x / 256 < 256 ^ n := by rw [Nat.pow_succ] at hx; omega
    have ih := fold8 n (x / 256) h2 hx'
    have ha : x / 256 % 16 ≤ 4 := by
      cases n with
      | zero => simp at hx'; omega
      | succ m =>
        have e : 2 * (m + 1) = (2 * m + 1) + 1 := by omega
        rw [e] at h2
        exact h2.1
    have q1 : (x / 16 + x) / 2 ^ 8 = x / 256 / 16 + x / 256 := by omega
    have q2 : (x / 16 + x) % 2 ^ 8 % 2 ^ 4 = x % 256 / 16 + x % 256 % 16 := by omega
    have q3 : x / 2 ^ 8 = x / 256 := rfl
    have q4 : (x / 16 + x) % 2 ^ 8 &&& 15 = x % 256 / 16 + x % 256 % 16 := by
      rw [← q2]
      exact Nat.and_two_pow_sub_one_eq_mod _ 4
    rw [mk, and_digit 8 15 _ _ (by decide), q1, ih, q4, dg, q3]
theorem mod128 (y0 y1 y2 y3 y4 y5 y6 y7 x a b c : Nat) (h0 : y0 ≤ 8) (h1 : y1 ≤ 8) (h2 : y2 ≤ 8) (h3 : y3 ≤ 8) (h4 : y4 ≤ 8) (h5 : y5 ≤ 8) (h6 : y6 ≤ 8) (h7 : y7 ≤ 8)
    (hx : x = y0 + 256 * (y1 + 256 * (y2 + 256 * (y3 + 256 * (y4 + 256 * (y5 + 256 * (y6 + 256 * y7)))))))
    (ha : a = x + x / 256) (hb : b = a + a / 65536) (hc : c = b + b / 4294967296) : c < 18446744073709551616 ∧ c % 128 = y0 + y1 + y2 + y3 + y4 + y5 + y6 + y7 := by
  have ea : a = (y0 + y1) + 256 * ((y1 + y2) + 256 * ((y2 + y3) + 256 * ((y3 + y4) + 256 * ((y4 + y5) + 256 * ((y5 + y6) + 256 * ((y6 + y7) + 256 * y7)))))) := by omega
  have ea2 : a / 65536 = (y2 + y3) + 256 * ((y3 + y4) + 256 * ((y4 + y5) + 256 * ((y5 + y6) + 256 * ((y6 + y7) + 256 * y7)))) := by omega
  have eb : b = (y0 + y1 + y2 + y3) + 256 * ((y1 + y2 + y3 + y4) + 256 * ((y2 + y3 + y4 + y5) + 256 * ((y3 + y4 + y5 + y6) + 256 * ((y4 + y5 + y6 + y7) + 256 * ((y5 + y6 + y7) + 256 * ((y6 + y7) + 256 * y7)))))) := by omega
  have eb2 : b / 4294967296 = (y4 + y5 + y6 + y7) + 256 * ((y5 + y6 + y7) + 256 * ((y6 + y7) + 256 * y7)) := by omega
  clear ha hb hx ea ea2
  rw [eb2, eb] at hc
  omega
theorem dg_dg (k : Nat) (f g : Nat → Nat) (hf : ∀ d, d < 2 ^ k → f d < 2 ^ k) : ∀ (n x : Nat), dg k g n (dg k f n x) = dg k (fun d => g (f d)) n x
  | 0, _ => rfl
  | n + 1, x => by
    have hp : 0 < 2 ^ k := Nat.two_pow_pos k
    have hl := hf _ (Nat.mod_lt x hp)
    have h1 : (f (x % 2 ^ k) + 2 ^ k * dg k f n (x / 2 ^ k)) % 2 ^ k = f (x % 2 ^ k) := by
      rw [Nat.add_mul_mod_self_left, Nat.mod_eq_of_lt hl]
    have h2 : (f (x % 2 ^ k) + 2 ^ k * dg k f n (x / 2 ^ k)) / 2 ^ k = dg k f n (x / 2 ^ k) := by
      rw [Nat.add_mul_div_left _ _ hp, Nat.div_eq_of_lt hl, Nat.zero_add]
    rw [dg, dg, dg, h1, h2, dg_dg k f g hf n]
theorem dg_pair (k : Nat) (f : Nat → Nat) : ∀ (n x : Nat), dg k f (2 * n) x = dg (2 * k) (fun d => f (d % 2 ^ k) + 2 ^ k * f (d / 2 ^ k)) n x
  | 0, _ => rfl
  | n + 1, x => by
    have e : 2 * (n + 1) = (2 * n + 1) + 1 := by omega
    have e2 : 2 * k = k + k := by omega
    rw [e, dg, dg, dg_pair k f n, dg, e2]
    have h1 : x % 2 ^ (k + k) % 2 ^ k = x % 2 ^ k := by rw [Nat.pow_add, Nat.mod_mul_right_mod]
    have h2 : x % 2 ^ (k + k) / 2 ^ k = x / 2 ^ k % 2 ^ k := by rw [Nat.pow_add, Nat.mod_mul_right_div_self]
    have h3 : x / 2 ^ k / 2 ^ k = x / 2 ^ (k + k) := by rw [Nat.div_div_eq_div_mul, Nat.pow_add]
    rw [h1, h2, h3, Nat.mul_add, ← Nat.mul_assoc, ← Nat.pow_add, Nat.add_assoc]
theorem dg_step (f : Nat → Nat) (n x : Nat) : dg 8 f (n + 1) x = f (x % 256) + 256 * dg 8 f n (x / 256) := rfl
theorem ds_step (f : Nat → Nat) (n x : Nat) : ds 8 f (n + 1) x = f (x % 256) + ds 8 f n (x / 256) := rfl
theorem eight (x : Nat) : ∃ y0 y1 y2 y3 y4 y5 y6 y7 : Nat, y0 ≤ 8 ∧ y1 ≤ 8 ∧ y2 ≤ 8 ∧ y3 ≤ 8 ∧ y4 ≤ 8 ∧ y5 ≤ 8 ∧ y6 ≤ 8 ∧ y7 ≤ 8 ∧
    dg 8 (pc 8) 8 x = y0 + 256 * (y1 + 256 * (y2 + 256 * (y3 + 256 * (y4 + 256 * (y5 + 256 * (y6 + 256 * y7)))))) ∧ ds 8 (pc 8) 8 x = y0 + y1 + y2 + y3 + y4 + y5 + y6 + y7 := by
  have hp : ∀ d, pc 8 d ≤ 8 := pc_le 8
  generalize pc 8 = f at *
  refine ⟨f (x % 256), f (x / 256 % 256), f (x / 256 / 256 % 256), f (x / 256 / 256 / 256 % 256), f (x / 256 / 256 / 256 / 256 % 256), f (x / 256 / 256 / 256 / 256 / 256 % 256), f (x / 256 / 256 / 256 / 256 / 256 / 256 % 256), f (x / 256 / 256 / 256 / 256 / 256 / 256 / 256 % 256), hp _, hp _, hp _, hp _, hp _, hp _, hp _, hp _, ?_, ?_⟩
  · rw [dg_step, dg_step, dg_step, dg_step, dg_step, dg_step, dg_step, dg_step, dg, Nat.mul_zero, Nat.add_zero]
  · rw [ds_step, ds_step, ds_step, ds_step, ds_step, ds_step, ds_step, ds_step, ds, Nat.add_zero]
    simp only [← Nat.add_assoc]
/-- math/bits.OnesCount64, step by step. -/
theorem ones64 (x x1 x2 x3 a b c : Nat)
    (h1 : x1 = (x / 2 &&& 6148914691236517205) + (x &&& 6148914691236517205)) (h2 : x2 = (x1 / 4 &&& 3689348814741910323) + (x1 &&& 3689348814741910323))
    (h3 : x3 = (x2 / 16 + x2) &&& 1085102592571150095) (ha : a = x3 + x3 / 256) (hb : b = a + a / 65536) (hc : c = b + b / 4294967296) :
    x1 ≤ 12297829382473034410 ∧ x2 ≤ 7378697629483820646 ∧ x3 ≤ 1085102592571150095 ∧ c % 128 = cnt64 x := by
  have hx1 := halves 1 32 x
  have hx2 := halves 2 16 x1
  rw [show mk (2 * 1) (2 ^ 1 - 1) 32 = 6148914691236517205 by decide +kernel] at hx1
  rw [show mk (2 * 2) (2 ^ 2 - 1) 16 = 3689348814741910323 by decide +kernel] at hx2
  have e1 : x1 = dg 2 (pc 2) (2 * 16) x := (h1.trans hx1).trans (dg_congr 2 _ _ (by decide) 32 x)
  have e2 : x2 = dg 4 (fun d => d / 2 ^ 2 + d % 2 ^ 2) 16 x1 := h2.trans hx2
  rw [dg_pair] at e1
  rw [e1, dg_dg 4 _ _ (by decide +kernel), dg_congr 4 _ (pc 4) (by decide +kernel)] at e2
  have hx2l : x2 < 256 ^ 8 := by
    have q1 : x1 / 4 &&& 3689348814741910323 ≤ 3689348814741910323 := Nat.and_le_right
    have q2 : x1 &&& 3689348814741910323 ≤ 3689348814741910323 := Nat.and_le_right
    omega
  have hn : nib (2 * 8) x2 := by rw [e2]; exact nib_dg (pc 4) (fun d _ => pc_le 4 d) 16 x
  have e3 := fold8 8 x2 hn hx2l
  rw [show mk 8 15 8 = 1085102592571150095 by decide +kernel, ← h3, e2, dg_pair 4 (pc 4) 8, dg_dg 8 _ _ (by decide +kernel), dg_congr 8 _ (pc 8) (by decide +kernel)] at e3
  have e4 : cnt64 x = ds 8 (pc 8) 8 x := by rw [cnt_pc]; exact pc_ds 8 8 x
  have q1 : x / 2 &&& 6148914691236517205 ≤ 6148914691236517205 := Nat.and_le_right
  have q2 : x &&& 6148914691236517205 ≤ 6148914691236517205 := Nat.and_le_right
  have q3 : x1 / 4 &&& 3689348814741910323 ≤ 3689348814741910323 := Nat.and_le_right
  have q4 : x1 &&& 3689348814741910323 ≤ 3689348814741910323 := Nat.and_le_right
  have q5 : (x2 / 16 + x2) &&& 1085102592571150095 ≤ 1085102592571150095 := Nat.and_le_right
  rw [← h3] at q5
  obtain ⟨y0, y1, y2, y3, y4, y5, y6, y7, l0, l1, l2, l3, l4, l5, l6, l7, f3, f4⟩ := eight x
  rw [f3] at e3
  rw [f4] at e4
  have hm := mod128 y0 y1 y2 y3 y4 y5 y6 y7 x3 a b c l0 l1 l2 l3 l4 l5 l6 l7 e3 ha hb hc
  refine ⟨by omega, by omega, q5, ?_⟩
  rw [hm.2, e4]
end Go.Proofs.YtplihlmejnohnaaGreatDoor

namespace Go.Proofs.YtplihlmejnohnaaGreatDoor

theorem b64_zero : bits64 0 = [] := by decide +kernel
theorem low_bits (k m i : Nat) : (2 ^ k * (2 * m + 1)).testBit i = (decide (i = k) || (2 ^ (k + 1) * m).testBit i) := by
  rw [Nat.mul_comm, Nat.testBit_mul_two_pow, Nat.mul_comm (2 ^ (k + 1)), Nat.testBit_mul_two_pow]
  rcases Nat.lt_trichotomy i k with h | h | h
  · have h1 : ¬ k ≤ i := by omega
    have h2 : ¬ k + 1 ≤ i := by omega
    simp [h1, h2]; omega
  · subst h
    simp [Nat.testBit_zero]
  · obtain ⟨j, rfl⟩ : ∃ j, i = k + (j + 1) := ⟨i - k - 1, by omega⟩
    have e : k + (j + 1) - k = j + 1 := by omega
    have e2 : k + (j + 1) - (k + 1) = j := by omega
    have d : (2 * m + 1) / 2 = m := by omega
    rw [e, e2, Nat.testBit_succ, d]
    simp
theorem low_and (k m : Nat) : (2 ^ k * (2 * m + 1)) &&& (2 ^ k * (2 * m + 1) - 1) = 2 ^ (k + 1) * m := by
  have hp : 0 < 2 ^ k := Nat.two_pow_pos k
  have e : 2 ^ k * (2 * m + 1) - 1 = 2 ^ (k + 1) * m + (2 ^ k - 1) := by
    rw [Nat.pow_succ, Nat.mul_add, Nat.mul_one, Nat.mul_assoc]
    omega
  have hlt : 2 ^ k - 1 < 2 ^ (k + 1) := by rw [Nat.pow_succ]; omega
  apply Nat.eq_of_testBit_eq
  intro i
  rw [Nat.testBit_and, low_bits, e, Nat.testBit_two_pow_mul_add _ hlt, Nat.mul_comm (2 ^ (k + 1)), Nat.testBit_mul_two_pow]
  by_cases h : i < k + 1
  · have h1 : ¬ k + 1 ≤ i := by omega
    rw [if_pos h, Nat.testBit_two_pow_sub_one]
    simp [h1]
    omega
  · have h1 : k + 1 ≤ i := by omega
    have h2 : ¬ i = k := by omega
    rw [if_neg h]
    simp [h1, h2]
theorem filter_cons (A B : Nat → Bool) (k d : Nat) (hA : ∀ i, A i = (decide (i = k) || B i)) (hB : ∀ i, i ≤ k → B i = false) :
    (List.range (k + (d + 1))).filter A = k :: (List.range (k + (d + 1))).filter B := by
  have h1 : (List.range k).filter A = [] := by
    rw [List.filter_eq_nil_iff]
    intro i hi
    have hi' : i < k := by simpa using hi
    rw [hA, hB i (by omega)]
    simp; omega
  have h2 : (List.range k).filter B = [] := by
    rw [List.filter_eq_nil_iff]
    intro i hi
    have hi' : i < k := by simpa using hi
    rw [hB i (by omega)]
    simp
  have h3 : ((List.range d).map (fun i => k + (i + 1))).filter A = ((List.range d).map (fun i => k + (i + 1))).filter B := by
    apply List.filter_congr
    intro i hi
    obtain ⟨j, _, rfl⟩ := List.mem_map.1 hi
    rw [hA]
    simp
  have e : List.range (k + (d + 1)) = List.range k ++ (k :: (List.range d).map (fun i => k + (i + 1))) := by
    rw [List.range_add, List.range_succ_eq_map, List.map_cons, List.map_map]
    rfl
  rw [e, List.filter_append, List.filter_append, h1, h2, List.filter_cons, List.filter_cons, h3, hA k, hB k (Nat.le_refl _)]
  simp
theorem b64_cons (k m : Nat) (hk : k < 64) : bits64 (2 ^ k * (2 * m + 1)) = k :: bits64 (2 ^ (k + 1) * m) := by
  unfold bits64
  have e : 64 = k + ((63 - k) + 1) := by omega
  rw [e]
  refine filter_cons _ _ k (63 - k) (fun i => low_bits k m i) (fun i hi => ?_)
  rw [Nat.mul_comm, Nat.testBit_mul_two_pow]
  have : ¬ k + 1 ≤ i := by omega
  simp [this]
/-- The least, and the others. -/
theorem rise64 (r : Nat) (h0 : r ≠ 0) (h : r < 18446744073709551616) : Lib.ctz 64 r < 64 ∧ bits64 r = Lib.ctz 64 r :: bits64 (r &&& (r - 1)) ∧ r &&& (r - 1) < r := by
  obtain ⟨m, hm, hk⟩ := Lib.ctzFrom_spec 64 r (by omega) (by simpa using h)
  have e : Lib.ctz 64 r = Lib.ctzFrom 64 r := by simp [Lib.ctz, h0]
  rw [e]
  generalize Lib.ctzFrom 64 r = k at *
  have hp : 0 < 2 ^ k := Nat.two_pow_pos k
  have ha : r &&& (r - 1) = 2 ^ (k + 1) * m := by rw [hm]; exact low_and k m
  refine ⟨hk, ?_, ?_⟩
  · rw [ha, hm]; exact b64_cons k m hk
  · rw [ha, hm, Nat.pow_succ, Nat.mul_add, Nat.mul_one, Nat.mul_assoc]; omega
theorem mem64 (s i : Nat) : i ∈ bits64 s ↔ i < 64 ∧ s.testBit i = true := by
  unfold bits64
  rw [List.mem_filter]
  simp
/-- The least number, -1 of none. -/
def firstN (s : Nat) : Int := if s = 0 then -1 else (Lib.ctz 64 s : Nat)
/-- A number's bit. -/
def bitI (i : Int) : Nat := if 0 ≤ i ∧ i < 64 then 2 ^ i.toNat else 0
def hasI (s : Nat) (i : Int) : Bool := s &&& bitI i != 0
def withI (s : Nat) (i : Int) : Nat := s ||| bitI i
def lessI (s : Nat) (i : Int) : Nat := s &&& (18446744073709551615 - bitI i)
theorem bit_lt (i : Int) : bitI i < 18446744073709551616 := by
  unfold bitI
  split
  · rename_i h
    have : 2 ^ i.toNat ≤ 2 ^ 63 := Nat.pow_le_pow_right (by decide) (by omega)
    exact Nat.lt_of_le_of_lt this (by decide)
  · decide
theorem with_lt (s : Nat) (i : Int) (h : s < 18446744073709551616) : withI s i < 18446744073709551616 := Nat.or_lt_two_pow (n := 64) h (bit_lt i)
theorem less_lt (s : Nat) (i : Int) (h : s < 18446744073709551616) : lessI s i < 18446744073709551616 := Nat.lt_of_le_of_lt Nat.and_le_left h
theorem bit_bit (i : Int) (j : Nat) : (bitI i).testBit j = decide (i = (j : Int) ∧ j < 64) := by
  unfold bitI
  split
  · rename_i h
    rw [Nat.testBit_two_pow]
    congr 1
    apply propext
    omega
  · rename_i h
    rw [Nat.zero_testBit]
    symm
    rw [decide_eq_false_iff_not]
    omega
theorem not_bit (x j : Nat) (hx : x < 18446744073709551616) : (18446744073709551615 - x).testBit j = (decide (j < 64) && !x.testBit j) := by
  have : 18446744073709551615 - x = 2 ^ 64 - (x + 1) := by omega
  rw [this, Nat.testBit_two_pow_sub_succ hx]
theorem has_bit (s : Nat) (i : Int) : hasI s i = (decide (0 ≤ i ∧ i < 64) && s.testBit i.toNat) := by
  unfold hasI bitI
  split
  · rename_i h
    rw [decide_eq_true h, Bool.true_and]
    by_cases hb : s.testBit i.toNat = true
    · rw [hb]
      have : s &&& 2 ^ i.toNat ≠ 0 := by
        intro h0
        have := congrArg (fun n => n.testBit i.toNat) h0
        simp [Nat.testBit_and, hb] at this
      simpa using this
    · have hb' : s.testBit i.toNat = false := by simpa using hb
      rw [hb']
      have : s &&& 2 ^ i.toNat = 0 := by
        apply Nat.eq_of_testBit_eq
        intro j
        rw [Nat.testBit_and, Nat.testBit_two_pow, Nat.zero_testBit]
        by_cases h : i.toNat = j
        · subst h; simp [hb']
        · simp [h]
      simp [this]
  · rename_i h
    rw [decide_eq_false h]
    simp
theorem with_bit (s : Nat) (i : Int) (j : Nat) : (withI s i).testBit j = (s.testBit j || decide (i = (j : Int) ∧ j < 64)) := by
  unfold withI
  rw [Nat.testBit_or, bit_bit]
theorem less_bit (s : Nat) (i : Int) (j : Nat) (hs : s < 18446744073709551616) : (lessI s i).testBit j = (s.testBit j && !decide (i = (j : Int) ∧ j < 64)) := by
  unfold lessI
  rw [Nat.testBit_and, not_bit _ _ (bit_lt i), bit_bit]
  by_cases h : j < 64
  · simp [h]
  · have : s.testBit j = false := Nat.testBit_lt_two_pow (Nat.lt_of_lt_of_le hs (Nat.pow_le_pow_right (n := 2) (i := 64) (by decide) (by omega)))
    simp [this]
def uptoI (n : Int) : Nat := if n < 0 then 0 else if 64 ≤ n then 18446744073709551615 else 2 ^ n.toNat - 1
def nextN (s : Nat) : Nat :=
  let c := (s + (s &&& (18446744073709551616 - s) % 18446744073709551616)) % 18446744073709551616
  if c = 0 then 0 else c ||| ((s ^^^ c) / 2 ^ Lib.ctz 64 s) / 4
end Go.Proofs.YtplihlmejnohnaaGreatDoor

namespace Go.Proofs.YtplihlmejnohnaaGreatDoor
open Go.RowKit

abbrev S64 (s : Nat) : Value := .int .u64 s
theorem ret_int {k : IntKind} {a b : Int} (h : a = b) : Ending.returned (.int k a) = .returned (.int k b) := by rw [h]
theorem ret_b {a b : Bool} (h : a = b) : Ending.returned (.bool a) = .returned (.bool b) := by rw [h]
theorem bit_val (i : Int) (h0 : 0 ≤ i) (h1 : i < 64) : IntKind.u64.wrap (2 ^ i.toNat) = ((bitI i : Nat) : Int) := by
  have hm : min i.toNat 64 = i.toNat := by omega
  have hv := u64_shl_one_var i h0
  rw [hm] at hv
  rw [IntKind.wrap_u64, hv]
  unfold bitI
  have h2 : ¬ 64 ≤ i := by omega
  simp [h0, h1, h2]
set_option maxHeartbeats 1000000 in
theorem bit_is (i : Int) (w : World) :
    Calls Tryz.prog 43 #[.int .i64 i] w fun e w' => e = .returned (.int .u64 (bitI i)) ∧ w' = w := by
  by_cases h0 : i < 0
  · have e : bitI i = 0 := by unfold bitI; rw [if_neg (by omega)]
    rw [e]
    go_enter Tryz.func43, Tryz.ntmps43
    go_wp2
    go_ret
    exact ⟨rfl, rfl⟩
  · by_cases h1 : 64 ≤ i
    · have e : bitI i = 0 := by unfold bitI; rw [if_neg (by omega)]
      rw [e]
      go_enter Tryz.func43, Tryz.ntmps43
      go_wp2
      go_ret
      exact ⟨rfl, rfl⟩
    · have e := bit_val i (by omega) (by omega)
      go_enter Tryz.func43, Tryz.ntmps43
      go_wp2
      go_ret
      exact ⟨rfl, rfl⟩
theorem has_int (s : Nat) (i : Int) (hs : s < 18446744073709551616) : (bits .and .u64 (s : Int) ((bitI i : Nat) : Int) != 0) = hasI s i := by
  rw [u64_and_nat s _ hs (bit_lt i)]
  unfold hasI
  cases h : (s &&& bitI i) with
  | zero => rfl
  | succ n =>
    have h1 : (((n + 1 : Nat) : Int) == 0) = false := by rw [beq_eq_false_iff_ne]; omega
    have h2 : (n + 1 == 0) = false := rfl
    rw [bne, bne, h1, h2]
set_option maxHeartbeats 1000000 in
theorem has_is (s : Nat) (i : Int) (hs : s < 18446744073709551616) (w : World) :
    Calls Tryz.prog 24 #[.int .u64 s, .int .i64 i] w fun e w' => e = .returned (.bool (hasI s i)) ∧ w' = w := by
  have e := has_int s i hs
  have hb := bit_is i w
  generalize bitI i = b at *
  generalize hasI s i = h at *
  go_enter Tryz.func24, Tryz.ntmps24
  go_wp2_with fail
  refine hb.mono ?_
  rintro _ _ ⟨rfl, rfl⟩
  go_wp2
  go_ret
  exact ⟨rfl, rfl⟩
set_option maxHeartbeats 1000000 in
theorem with_is (s : Nat) (i : Int) (hs : s < 18446744073709551616) (w : World) :
    Calls Tryz.prog 35 #[.int .u64 s, .int .i64 i] w fun e w' => e = .returned (.int .u64 (withI s i)) ∧ w' = w := by
  have e := u64_or_nat s _ hs (bit_lt i)
  have hb := bit_is i w
  go_enter Tryz.func35, Tryz.ntmps35
  go_wp2_with fail
  refine hb.mono ?_
  rintro _ _ ⟨rfl, rfl⟩
  go_wp2
  go_ret
  exact ⟨rfl, rfl⟩
theorem ones_steps (n : Nat) (hn : n < 18446744073709551616) : ∃ x1 x2 x3 a b c : Nat,
    IntKind.u64.wrap (bits .and .u64 ((n : Int) / 2) 6148914691236517205 + bits .and .u64 (n : Int) 6148914691236517205) = (x1 : Int) ∧
    IntKind.u64.wrap (bits .and .u64 ((x1 : Int) / 4) 3689348814741910323 + bits .and .u64 (x1 : Int) 3689348814741910323) = (x2 : Int) ∧
    bits .and .u64 (IntKind.u64.wrap ((x2 : Int) / 16 + (x2 : Int))) 1085102592571150095 = (x3 : Int) ∧
    IntKind.u64.wrap ((x3 : Int) + (x3 : Int) / 256) = (a : Int) ∧ IntKind.u64.wrap ((a : Int) + (a : Int) / 65536) = (b : Int) ∧ IntKind.u64.wrap ((b : Int) + (b : Int) / 4294967296) = (c : Int) ∧
    bits .and .i64 (c : Int) 127 = (cnt64 n : Nat) ∧ c ≤ 9223372036854775807 ∧ IntKind.i64.wrap (c : Int) = c := by
  obtain ⟨x1, h1⟩ : ∃ x1, x1 = (n / 2 &&& 6148914691236517205) + (n &&& 6148914691236517205) := ⟨_, rfl⟩
  obtain ⟨x2, h2⟩ : ∃ x2, x2 = (x1 / 4 &&& 3689348814741910323) + (x1 &&& 3689348814741910323) := ⟨_, rfl⟩
  obtain ⟨x3, h3⟩ : ∃ x3, x3 = (x2 / 16 + x2) &&& 1085102592571150095 := ⟨_, rfl⟩
  obtain ⟨a, ha⟩ : ∃ a, a = x3 + x3 / 256 := ⟨_, rfl⟩
  obtain ⟨b, hb⟩ : ∃ b, b = a + a / 65536 := ⟨_, rfl⟩
  obtain ⟨c, hc⟩ : ∃ c, c = b + b / 4294967296 := ⟨_, rfl⟩
  obtain ⟨b1, b2, b3, hcn⟩ := ones64 n x1 x2 x3 a b c h1 h2 h3 ha hb hc
  have hcl : c ≤ 9223372036854775807 := by omega
  refine ⟨x1, x2, x3, a, b, c, ?_, ?_, ?_, ?_, ?_, ?_, ?_, hcl, ?_⟩
  · have e1 : bits .and .u64 ((n / 2 : Nat) : Int) 6148914691236517205 = _ := u64_and_nat (n / 2) 6148914691236517205 (by omega) (by decide)
    have e2 : bits .and .u64 (n : Int) 6148914691236517205 = _ := u64_and_nat n 6148914691236517205 hn (by decide)
    rw [show ((n / 2 : Nat) : Int) = (n : Int) / 2 by omega] at e1
    rw [IntKind.wrap_u64]
    omega
  · have e1 : bits .and .u64 ((x1 / 4 : Nat) : Int) 3689348814741910323 = _ := u64_and_nat (x1 / 4) 3689348814741910323 (by omega) (by decide)
    have e2 : bits .and .u64 (x1 : Int) 3689348814741910323 = _ := u64_and_nat x1 3689348814741910323 (by omega) (by decide)
    rw [show ((x1 / 4 : Nat) : Int) = (x1 : Int) / 4 by omega] at e1
    rw [IntKind.wrap_u64]
    omega
  · have e1 : bits .and .u64 ((x2 / 16 + x2 : Nat) : Int) 1085102592571150095 = _ := u64_and_nat (x2 / 16 + x2) 1085102592571150095 (by omega) (by decide)
    rw [IntKind.wrap_u64, show ((x2 : Int) / 16 + (x2 : Int)) % 18446744073709551616 = ((x2 / 16 + x2 : Nat) : Int) by omega]
    omega
  · rw [IntKind.wrap_u64]; omega
  · rw [IntKind.wrap_u64]; omega
  · rw [IntKind.wrap_u64]; omega
  · obtain ⟨k, _, hk, hk2⟩ := i64_low (c : Int) 7 127 (by decide) (by decide)
    rw [hk, ← hcn]
    omega
  · rw [IntKind.wrap_i64]; omega
set_option maxHeartbeats 4000000 in
theorem ones_is (n : Nat) (hn : n < 18446744073709551616) (w : World) :
    Calls Tryz.prog 63 #[.int .u64 n] w fun e w' => e = .returned (.int .i64 (cnt64 n)) ∧ w' = w := by
  obtain ⟨x1, x2, x3, a, b, c, s1, s2, s3, s4, s5, s6, s7, s8, s9⟩ := ones_steps n hn
  go_enter Tryz.func63, Tryz.ntmps63
  go_wp2
  go_ret
  exact ⟨rfl, rfl⟩
set_option maxHeartbeats 1000000 in
theorem len_is (s : Nat) (hs : s < 18446744073709551616) (w : World) :
    Calls Tryz.prog 36 #[.int .u64 s] w fun e w' => e = .returned (.int .i64 (cnt64 s)) ∧ w' = w := by
  have hb := ones_is s hs w
  go_enter Tryz.func36, Tryz.ntmps36
  go_wp2_with fail
  refine hb.mono ?_
  rintro _ _ ⟨rfl, rfl⟩
  go_wp2
  go_ret
  exact ⟨rfl, rfl⟩
end Go.Proofs.YtplihlmejnohnaaGreatDoor

namespace Go.Proofs.YtplihlmejnohnaaGreatDoor
open Go.RowKit

theorem beq_dec (m c : Int) : (m == c) = decide (m = c) := by
  rw [Bool.eq_iff_iff]
  simp
set_option maxHeartbeats 4000000 in
set_option maxRecDepth 8000 in
theorem may_is (LL : List (List InsT)) (N : Nat) (i : Int) (P0 P1 P2 : Value) (V : VmT) (w : World) (h : VmIn w N P0 P1 P2 V) (hp : ProgRd w (.agg #[P0, P1, P2]) LL) :
    Calls Tryz.prog 34 #[ptV N, .int .i64 i] w fun e w' => e = .returned (.bool (mayB LL V i)) ∧ On w w' := by
  obtain ⟨B, q, hN, hR⟩ := h
  have HV : Hid (VmIn w N P0 P1 P2 V) := ⟨B, q, hN, hR⟩
  have c3 : w.cell? ⟨N, 3, none⟩ = some (.int .i64 V.m) := hN.at (i := 3) rfl
  have cl := hN.lt
  by_cases h0 : i < 0
  · have e : mayB LL V i = false := by unfold mayB; rw [if_neg (by omega)]
    rw [e]
    have d0 : decide (i < 0) = true := decide_eq_true h0
    clear h0 e hp hN hR c3 cl
    unfold ptV
    go_enter Tryz.func34, Tryz.ntmps34
    go_wp2
    go_ret
    exact ⟨rfl, On.refl w⟩
  have d0 : decide (i < 0) = false := decide_eq_false h0
  by_cases h24 : 24 ≤ i
  · have e : mayB LL V i = false := by unfold mayB; rw [if_neg (by omega)]
    rw [e]
    have d1 : decide (24 ≤ i) = true := decide_eq_true h24
    clear h0 h24 e hp hN hR c3 cl
    unfold ptV
    go_enter Tryz.func34, Tryz.ntmps34
    go_wp2
    go_ret
    exact ⟨rfl, On.refl w⟩
  have d1 : decide (24 ≤ i) = false := decide_eq_false h24
  obtain ⟨p, rfl⟩ : ∃ p : Nat, i = (p : Int) := ⟨i.toNat, by omega⟩
  have em : mayB LL V (p : Int) = mayN LL V p := by unfold mayB; rw [if_pos (by omega), Int.toNat_natCast]
  rw [em]
  have hp24 : p < 24 := by omega
  by_cases h4 : p < 4
  · have e : mayN LL V p = readyB LL V p := by unfold mayN; rw [if_pos h4]
    rw [e]
    have cR := ready_is LL N p P0 P1 P2 V w HV.out hp h4
    have d2 : decide ((p : Int) < 4) = true := decide_eq_true (by omega)
    clear h0 h24 e hN hR em hp24 h4 c3 cl hp
    unfold ptV at cR ⊢
    go_enter Tryz.func34, Tryz.ntmps34
    go_wp2_with fail
    refine cR.mono ?_
    rintro _ w1 ⟨rfl, k1⟩
    go_wp2
    go_ret
    exact ⟨rfl, k1⟩
  have d2 : decide ((p : Int) < 4) = false := decide_eq_false (by omega)
  have hCell := cell_is p (by omega) hp24
  have cW := fun W (k : On w W) => waits_is N (cT p) (cC p) P0 P1 P2 V W (HV.out.on k) (cT_lt (by omega) hp24)
  by_cases h8 : p < 8
  · have d3 : decide ((p : Int) < 8) = true := decide_eq_true (by omega)
    have e : mayN LL V p = ((V.m == 2) && (oldW V (cT p) (cC p)).isSome) := by unfold mayN; rw [if_neg h4, if_pos h8]
    rw [e]
    generalize oldW V (cT p) (cC p) = o at *
    generalize ((cT p : Nat) : Int) = ct at *
    generalize ((cC p : Nat) : Int) = cc at *
    cases hm : (V.m == 2) with
    | true =>
      clear h0 h24 e hN hR em hp24 h4 h8 hp
      unfold ptV at cW ⊢
      go_enter Tryz.func34, Tryz.ntmps34
      go_wp2_with fail
      refine (hCell _).mono ?_
      rintro _ w1 ⟨rfl, hw1⟩
      subst w1
      go_wp2_with fail
      refine (cW _ (On.refl w)).mono ?_
      rintro _ w2 ⟨rfl, k2⟩
      go_wp2
      go_ret
      exact ⟨rfl, k2⟩
    | false =>
      clear h0 h24 e hN hR em hp24 h4 h8 hp
      unfold ptV at cW ⊢
      go_enter Tryz.func34, Tryz.ntmps34
      go_wp2
      go_ret
      exact ⟨rfl, On.refl w⟩
  · have d3 : decide ((p : Int) < 8) = false := decide_eq_false (by omega)
    have e : mayN LL V p = ((V.m == 3) && (oldW V (cT p) (cC p)).isSome) := by unfold mayN; rw [if_neg h4, if_neg h8]
    rw [e]
    generalize oldW V (cT p) (cC p) = o at *
    generalize ((cT p : Nat) : Int) = ct at *
    generalize ((cC p : Nat) : Int) = cc at *
    cases hm : (V.m == 3) with
    | true =>
      clear h0 h24 e hN hR em hp24 h4 h8 hp
      unfold ptV at cW ⊢
      go_enter Tryz.func34, Tryz.ntmps34
      go_wp2_with fail
      refine (hCell _).mono ?_
      rintro _ w1 ⟨rfl, hw1⟩
      subst w1
      go_wp2_with fail
      refine (cW _ (On.refl w)).mono ?_
      rintro _ w2 ⟨rfl, k2⟩
      go_wp2
      go_ret
      exact ⟨rfl, k2⟩
    | false =>
      clear h0 h24 e hN hR em hp24 h4 h8 hp
      unfold ptV at cW ⊢
      go_enter Tryz.func34, Tryz.ntmps34
      go_wp2
      go_ret
      exact ⟨rfl, On.refl w⟩
/-- The picks that may be next, below k. -/
def mayL (LL : List (List InsT)) (V : VmT) (k : Nat) : List Nat := (List.range k).filter (mayN LL V)
/-- The word of the picks that may be next, below k. -/
def enN (LL : List (List InsT)) (V : VmT) : Nat → Nat
  | 0 => 0
  | k + 1 => if mayN LL V k then withI (enN LL V k) k else enN LL V k
theorem en_lt (LL : List (List InsT)) (V : VmT) : ∀ k, enN LL V k < 18446744073709551616
  | 0 => by unfold enN; decide
  | k + 1 => by
    unfold enN
    split
    · exact with_lt _ _ (en_lt LL V k)
    · exact en_lt LL V k
theorem en_bit (LL : List (List InsT)) (V : VmT) (j : Nat) : ∀ k, k ≤ 64 → (enN LL V k).testBit j = (decide (j < k) && mayN LL V j)
  | 0, _ => by unfold enN; simp
  | k + 1, hk => by
    unfold enN
    have ih := en_bit LL V j k (by omega)
    by_cases hm : mayN LL V k = true
    · rw [if_pos hm, with_bit, ih]
      by_cases hj : j = k
      · subst hj
        rw [hm, decide_eq_false (Nat.lt_irrefl _), decide_eq_true (show (j : Int) = (j : Int) ∧ j < 64 from ⟨rfl, by omega⟩), decide_eq_true (Nat.lt_succ_self _)]
        rfl
      · have e1 : decide ((k : Int) = (j : Int) ∧ j < 64) = false := decide_eq_false (by omega)
        have e2 : decide (j < k + 1) = decide (j < k) := decide_eq_decide.2 (by omega)
        rw [e1, e2, Bool.or_false]
    · rw [if_neg hm, ih]
      by_cases hj : j = k
      · subst hj
        rw [Bool.not_eq_true] at hm
        rw [hm, Bool.and_false, Bool.and_false]
      · have e2 : decide (j < k + 1) = decide (j < k) := decide_eq_decide.2 (by omega)
        rw [e2]
theorem en_list (LL : List (List InsT)) (V : VmT) : bits64 (enN LL V 24) = mayL LL V 24 := by
  unfold bits64 mayL
  have h : List.range 64 = List.range 24 ++ (List.range 40).map (24 + ·) := List.range_add (n := 24) (m := 40)
  rw [h, List.filter_append]
  have h2 : ((List.range 40).map (24 + ·)).filter (fun i => (enN LL V 24).testBit i) = [] := by
    rw [List.filter_eq_nil_iff]
    intro i hi
    obtain ⟨j, _, rfl⟩ := List.mem_map.1 hi
    rw [en_bit LL V _ 24 (by decide), decide_eq_false (by omega), Bool.false_and]
    decide
  rw [h2, List.append_nil]
  apply List.filter_congr
  intro i hi
  rw [en_bit LL V i 24 (by decide), decide_eq_true (List.mem_range.1 hi), Bool.true_and]
theorem may_mem {LL : List (List InsT)} {V : VmT} {k p : Nat} (h : p ∈ mayL LL V k) : p < k ∧ mayN LL V p = true := by
  unfold mayL at h
  rw [List.mem_filter, List.mem_range] at h
  exact h
theorem may_in {LL : List (List InsT)} {V : VmT} {k p : Nat} (h1 : p < k) (h2 : mayN LL V p = true) : p ∈ mayL LL V k := by
  unfold mayL
  rw [List.mem_filter, List.mem_range]
  exact ⟨h1, h2⟩
set_option maxHeartbeats 4000000 in
set_option maxRecDepth 8000 in
theorem enabled_is (LL : List (List InsT)) (N : Nat) (P0 P1 P2 : Value) (V : VmT) (w : World) (h : VmIn w N P0 P1 P2 V) (hp : ProgRd w (.agg #[P0, P1, P2]) LL) :
    Calls Tryz.prog 12 #[ptV N] w fun e w' => e = .returned (.int .u64 (enN LL V 24 : Nat)) ∧ On w w' := by
  have cM := fun W (k : On w W) (i : Nat) => may_is LL N i P0 P1 P2 V W (h.on k) (hp.on k)
  have hmay : ∀ i : Nat, i < 24 → mayB LL V (i : Int) = mayN LL V i := fun i hi => by unfold mayB; rw [if_pos (by omega), Int.toNat_natCast]
  have cW := fun W (i : Nat) => with_is (enN LL V i) (i : Int) (en_lt LL V i) W
  have HS : Hid (∀ i, enN LL V (i + 1) = if mayN LL V i then withI (enN LL V i) i else enN LL V i) := fun i => rfl
  have HM : Hid (∀ i : Nat, i < 24 → mayB LL V (i : Int) = mayN LL V i) := hmay
  have hz : enN LL V 0 = 0 := rfl
  generalize enN LL V = E at *
  clear h hp hmay
  unfold ptV at cM ⊢
  go_enter Tryz.func12, Tryz.ntmps12
  go_wp2
  go_loopg [3, 5] 24 (fun gg s3 s5 wr => ∃ n : Nat, n ≤ 24 ∧ gg = 24 - n ∧ s3 = .int .u64 (E n : Nat) ∧ s5 = .int .i64 n ∧ Hid (On w wr))
  case atStart => exact ⟨0, by decide, rfl, by rw [hz]; rfl, rfl, On.refl w⟩
  case round =>
    obtain ⟨n, hn, hg, rfl, rfl, HO⟩ := hrel
    rcases Nat.lt_or_ge n 24 with hlt | hge
    · have d1 : decide ((n : Int) < 24) = true := decide_eq_true (by omega)
      have hov : IntKind.i64.wrap ((n : Int) + 1) = ((n + 1 : Nat) : Int) := by rw [wrap_small]; omega; omega; omega
      have hm := HM.out n hlt
      have hs := HS.out n
      have cm := cM wr HO.out n
      rw [hm] at cm
      have cw := fun W => cW W n
      clear hm cM cW
      cases hb : mayN LL V n with
      | true =>
        rw [hb] at cm hs
        rw [if_pos rfl] at hs
        have HSX : Hid (E (n + 1) = withI (E n) n) := hs
        clear hs
        go_wp2_with fail
        refine cm.mono ?_
        rintro _ w1 ⟨rfl, k1⟩
        go_wp2_with fail
        refine (cw _).mono ?_
        rintro _ w2 ⟨rfl, k2⟩
        subst w2
        go_wp2
        go_roundg (24 - (n + 1))
        case measure => omega
        case rel => exact ⟨n + 1, hlt, rfl, by rw [HSX.out], rfl, HO.out.trans k1⟩
      | false =>
        rw [hb] at cm hs
        rw [if_neg (by decide)] at hs
        go_wp2_with fail
        refine cm.mono ?_
        rintro _ w1 ⟨rfl, k1⟩
        go_wp2
        go_roundg (24 - (n + 1))
        case measure => omega
        case rel => exact ⟨n + 1, hlt, rfl, by rw [hs], rfl, HO.out.trans k1⟩
    · obtain rfl : n = 24 := by omega
      go_wp2
      go_ret
      exact ⟨rfl, HO.out⟩
/-- Nothing may be next. -/
def doneB (LL : List (List InsT)) (V : VmT) : Bool := (mayL LL V 24).isEmpty
theorem done_zero (LL : List (List InsT)) (V : VmT) : ((enN LL V 24 : Int) == 0) = doneB LL V := by
  unfold doneB
  rw [← en_list]
  by_cases h : enN LL V 24 = 0
  · rw [h]
    rfl
  · have h1 : ((enN LL V 24 : Int) == 0) = false := by
      rw [beq_eq_false_iff_ne]
      omega
    obtain ⟨_, h2, _⟩ := rise64 _ h (en_lt LL V 24)
    rw [h1, h2]
    rfl
set_option maxRecDepth 8000 in
theorem vdone_is (LL : List (List InsT)) (N : Nat) (P0 P1 P2 : Value) (V : VmT) (w : World) (h : VmIn w N P0 P1 P2 V) (hp : ProgRd w (.agg #[P0, P1, P2]) LL) :
    Calls Tryz.prog 11 #[ptV N] w fun e w' => e = .returned (.bool (doneB LL V)) ∧ On w w' := by
  have cE := enabled_is LL N P0 P1 P2 V w h hp
  have hz := done_zero LL V
  generalize enN LL V 24 = E at *
  generalize doneB LL V = d at *
  unfold ptV at cE ⊢
  clear h hp
  go_enter Tryz.func11, Tryz.ntmps11
  go_wp2_with fail
  refine cE.mono ?_
  rintro _ w1 ⟨rfl, k1⟩
  go_wp2
  go_ret
  exact ⟨by rw [← hz]; rfl, k1⟩
end Go.Proofs.YtplihlmejnohnaaGreatDoor

namespace Go.Proofs.YtplihlmejnohnaaGreatDoor
open Go.RowKit

theorem newest_none {c : Int} {L : List EnT} {k : Nat} (h : newestL c L = newestL c (L.take k)) (h0 : k = 0) : newestL c L = none := by
  rw [h, h0]
  rfl
theorem newest_some {c : Int} {L : List EnT} {k : Nat} {e : EnT} (h : newestL c L = newestL c (L.take (k + 1))) (he : L[k]? = some e) (hc : e.1 = c) : newestL c L = some e := by
  rw [h, List.take_add_one, he, Option.toList_some, newestL_append, if_pos hc]
theorem newest_step {c : Int} {L : List EnT} {k : Nat} {e : EnT} (h : newestL c L = newestL c (L.take (k + 1))) (he : L[k]? = some e) (hc : ¬ e.1 = c) : newestL c L = newestL c (L.take k) := by
  rw [h, List.take_add_one, he, Option.toList_some, newestL_append, if_neg hc]
/-- What Newest's loop carries. -/
structure NwJ (w wr : World) (N : Nat) (b : BufT) (c : Int) (L : List EnT) (x k : Nat) (p : Int) : Prop where
  on : On w wr
  bk : Bk wr N (bufA b)
  pos : p = (x : Int) + k - 1
  new : newestL c L = newestL c (L.take k)
set_option maxHeartbeats 2000000 in
set_option maxRecDepth 8000 in
theorem newest_is (b : BufT) (c : Int) (w : World) : Calls Tryz.prog 105 #[.agg (bufA b), .int .i64 c] w fun e w' => e = .returned (newV (newestB b c)) ∧ On w w' := by
  obtain ⟨W1, hW1⟩ : ∃ W1, W1 = w.alloc (.cells (bufA b) 85) := ⟨_, rfl⟩
  have B1 : Hid (Bk W1 w.heap.size (bufA b)) := by show Bk _ _ _; rw [hW1]; exact Bk.new w _ _
  have K1 : Hid (On w W1) := by show On _ _; rw [hW1]; exact (On.refl w).alloc _
  have hS := span_is b c W1
  obtain ⟨hab, hbl⟩ := sp_le b c
  have hl := b.len
  have HRL : Hid ((rowB b c).length = spB b c - spA b c) := rowB_len b c
  have HRA : Hid (∀ k e, (rowB b c)[k]? = some e → b.l[spA b c + k]? = some e) := fun k e he => by
    have := (List.getElem?_eq_some_iff.1 he).1
    rw [rowB_len] at this
    rw [rowB_at (by omega)] at he
    exact he
  have eN : newestB b c = newestL c (rowB b c) := rfl
  rw [eN]
  obtain ⟨L, hL⟩ : ∃ L, L = rowB b c := ⟨_, rfl⟩
  rw [← hL] at HRA HRL ⊢
  obtain ⟨x, hx⟩ : ∃ x, x = spA b c := ⟨_, rfl⟩
  obtain ⟨y, hy⟩ : ∃ y, y = spB b c := ⟨_, rfl⟩
  rw [← hx] at hS HRA HRL hab
  rw [← hy] at hS HRL hab hbl
  have HXY : Hid (x ≤ y ∧ y ≤ 24) := ⟨hab, by omega⟩
  obtain ⟨A, hA⟩ : ∃ A, A = newestL c L := ⟨_, rfl⟩
  have HA : Hid (A = newestL c L) := hA
  rw [← hA]
  have hov0 : wrap64 ((y : Int) - 1) = (y : Int) - 1 := IntWalk.wrap64_in _ ⟨by omega, by omega⟩
  clear hx hy hL eN hab hbl hl hA
  go_enter Tryz.func105, Tryz.ntmps105
  go_upto_region 1 with fail
  rw [← hW1]
  clear hW1
  generalize w.heap.size = N at *
  go_wp2_with (refine wpList_bld rfl rfl rfl B1.out ?_)
  refine hS.mono ?_
  rintro _ w1 ⟨rfl, k1⟩
  have J1 : Hid (NwJ w w1 N b c L x (y - x) ((y : Int) - 1)) := ⟨K1.out.trans k1, B1.out.on k1, by have := HXY.out; omega, by rw [List.take_of_length_le (by rw [HRL.out]; exact Nat.le_refl _)]⟩
  clear k1
  go_wp2
  go_loopg [9] (y - x) (fun gg s9 wr => ∃ p : Int, gg ≤ y - x ∧ s9 = .int .i64 p ∧ Hid (NwJ w wr N b c L x gg p))
  case atStart => exact ⟨_, Nat.le_refl _, rfl, by show NwJ _ _ _ _ _ _ _ _ _; rw [hov0]; exact J1.out⟩
  case round =>
    obtain ⟨p, hk, rfl, HJ⟩ := hrel
    have HK : Hid (gk ≤ y - x) := hk
    clear hk J1 hov0
    cases gk with
    | zero =>
      have hp : decide ((x : Int) ≤ p) = false := decide_eq_false (by have := HJ.out.pos; omega)
      have HF : Hid (A = none) := HA.out.trans (newest_none HJ.out.new rfl)
      go_wp2
      (try simp only [Exit.inBlock, Exit.then]); refine bodyPost_ret (results_tmp3 rfl _ _ _) rfl ?_
      exact ⟨by rw [HF.out]; rfl, HJ.out.on⟩
    | succ k =>
      obtain ⟨q, hq⟩ : ∃ q : Nat, q = x + k := ⟨_, rfl⟩
      have HQ : Hid (q = x + k) := hq
      obtain rfl : p = (q : Int) := by have := HJ.out.pos; omega
      have hq24 : q < 24 := by have := HXY.out; have := HK.out; omega
      have hp : (x : Int) ≤ (q : Int) := by omega
      have b1 : (q : Int) < 24 := by omega
      have b2 : decide ((q : Int) < 0) = false := decide_eq_false (by omega)
      have b4 : (0 : Int) ≤ (q : Int) := by omega
      have hov : wrap64 ((q : Int) - 1) = (q : Int) - 1 := IntWalk.wrap64_in _ ⟨by omega, by omega⟩
      obtain ⟨e, he⟩ : ∃ e, L[k]? = some e := ⟨_, List.getElem?_eq_getElem (by rw [HRL.out]; have := HK.out; omega)⟩
      have HE : Hid (L[k]? = some e) := he
      have R1 : Hid (wr.rangeAt N (2 + q * 3) (entC e)) := HJ.out.bk.enR (padR_at (by rw [HQ.out]; exact HRA.out _ _ he))
      obtain ⟨W2, hW2⟩ : ∃ W2, W2 = wr.alloc (.cells (entA e) 82) := ⟨_, rfl⟩
      have B2 : Bk W2 wr.heap.size (entA e) := by rw [hW2]; exact Bk.new wr _ _
      have K3 : Hid (On wr W2) := by show On _ _; rw [hW2]; exact (On.refl wr).alloc _
      have c0 := B2.at (i := 0) (v := .int .i64 e.1) rfl
      have c1 := B2.at (i := 1) (v := .int .i64 e.2.1) rfl
      have c2 := B2.at (i := 2) (v := .int .i64 e.2.2) rfl
      have HW2 : Hid (W2 = wr.alloc (.cells (entA e) 82)) := hW2
      clear B2 hW2 he hq hq24
      by_cases hc : e.1 = c
      · have HF : Hid (A = some e) := HA.out.trans (newest_some HJ.out.new HE.out hc)
        rw [hc] at c0
        clear hc
        go_wp2_with (first | (refine wpList_eld rfl rfl rfl R1.out ?_) | (refine wpList_estN rfl rfl rfl rfl (by exact rfl) ?_; rw [← HW2.out]))
        go_quiet (fail)
        go_wp2
        (try simp only [Exit.inBlock, Exit.then]); refine bodyPost_ret (results_tmp3 rfl _ _ _) rfl ?_
        exact ⟨by rw [HF.out]; rfl, (HJ.out.on.trans K3.out).drewN _⟩
      · have hcc : (e.1 == c) = false := by simp [hc]
        have J2 : Hid (NwJ w W2 N b c L x k ((q : Int) - 1)) := ⟨HJ.out.on.trans K3.out, HJ.out.bk.on K3.out, by rw [HQ.out]; push_cast; rfl, newest_step HJ.out.new HE.out hc⟩
        generalize e.1 = ec at c0 hcc
        clear hc
        go_wp2_with (first | (refine wpList_eld rfl rfl rfl R1.out ?_) | (refine wpList_estN rfl rfl rfl rfl (by exact rfl) ?_; rw [← HW2.out]))
        go_roundg k
        case measure => omega
        case rel => exact ⟨_, Nat.le_of_succ_le HK.out, rfl, J2.out⟩
end Go.Proofs.YtplihlmejnohnaaGreatDoor
