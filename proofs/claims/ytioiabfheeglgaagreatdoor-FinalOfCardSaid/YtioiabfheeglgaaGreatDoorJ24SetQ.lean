/- Few numbers in one word, in plain Lean: how many bits, which ones, and the count by halves. Of no memory. -/
import Derived.Lib.TrailingZeros
import Derived.Laws.BitsAllLaws
namespace Go.Proofs.YtioiabfheeglgaaGreatDoor

def bits64 (n : Nat) : List Nat := (List.range 64).filter (fun i => n.testBit i)
def cnt64 (n : Nat) : Nat := (bits64 n).length
/-- How many of the lowest so many bits. -/
def pc : Nat → Nat → Nat
 | 0, _ => 0
 | n + 1, x => x % 2 + pc n (x / 2)
theorem pc_count : ∀ (n x : Nat), (List.range n).countP (fun i => x.testBit i) = pc n x
 | 0, _ => rfl
 | n + 1, x => by
  rw [List.range_succ_eq_map, List.countP_cons, List.countP_map, pc, ← pc_count n (x / 2)]
  have e : ((fun i => x.testBit i) ∘ Nat.succ) = fun i => (x / 2).testBit i := by
   funext i
   exact Nat.testBit_succ x i
  rw [e, Nat.add_comm]
  congr 1
  rw [Nat.testBit_zero]
  rcases Nat.mod_two_eq_zero_or_one x with h | h <;> simp [h]
theorem cnt_pc (x : Nat) : cnt64 x = pc 64 x := by
 rw [← pc_count]
 exact (List.countP_eq_length_filter).symm
theorem pc_zero : ∀ n, pc n 0 = 0
 | 0 => rfl
 | n + 1 => by simp [pc, pc_zero n]
theorem pc_le : ∀ n x, pc n x ≤ n
 | 0, _ => Nat.le_refl _
 | n + 1, x => by have := pc_le n (x / 2); unfold pc; omega
theorem cnt_le (x : Nat) : cnt64 x ≤ 64 := by rw [cnt_pc]; exact pc_le 64 x
theorem pc_split : ∀ (a b x : Nat), pc (a + b) x = pc a (x % 2 ^ a) + pc b (x / 2 ^ a)
 | 0, b, x => by simp [pc]
 | a + 1, b, x => by
  have e : a + 1 + b = (a + b) + 1 := by omega
  rw [e, pc, pc_split a b (x / 2), pc]
  have h1 : x % 2 ^ (a + 1) % 2 = x % 2 := by
   rw [Nat.pow_succ, Nat.mul_comm, Nat.mod_mul_right_mod]
  have h2 : x % 2 ^ (a + 1) / 2 = x / 2 % 2 ^ a := by
   rw [Nat.pow_succ, Nat.mul_comm, Nat.mod_mul_right_div_self]
  have h3 : x / 2 / 2 ^ a = x / 2 ^ (a + 1) := by
   rw [Nat.div_div_eq_div_mul, Nat.pow_succ, Nat.mul_comm]
  rw [h1, h2, h3]
  omega
/-- A mask digit by digit. -/
theorem and_digit (k c m x : Nat) (hc : c < 2 ^ k) : x &&& (c + 2 ^ k * m) = (x % 2 ^ k &&& c) + 2 ^ k * (x / 2 ^ k &&& m) := by
 apply Nat.eq_of_testBit_eq
 intro i
 have hl : (x % 2 ^ k &&& c) < 2 ^ k := Nat.lt_of_le_of_lt Nat.and_le_right hc
 rw [Nat.add_comm c, Nat.add_comm (x % 2 ^ k &&& c), Nat.testBit_and, Nat.testBit_two_pow_mul_add _ hc, Nat.testBit_two_pow_mul_add _ hl]
 by_cases h : i < k
 ·
  simp [h, Nat.testBit_mod_two_pow]
 ·
  have e : (x / 2 ^ k).testBit (i - k) = x.testBit i := by
   rw [Nat.testBit_div_two_pow]
   congr 1
   omega
  simp [h, e]
/-- The mask that has c in each of n digits of k bits. -/
def mk (k c : Nat) : Nat → Nat
 | 0 => 0
 | n + 1 => c + 2 ^ k * mk k c n
/-- A function at each of n digits of k bits. -/
def dg (k : Nat) (f : Nat → Nat) : Nat → Nat → Nat
 | 0, _ => 0
 | n + 1, x => f (x % 2 ^ k) + 2 ^ k * dg k f n (x / 2 ^ k)
/-- The sum of f over n digits of k bits. -/
def ds (k : Nat) (f : Nat → Nat) : Nat → Nat → Nat
 | 0, _ => 0
 | n + 1, x => f (x % 2 ^ k) + ds k f n (x / 2 ^ k)
theorem pc_ds (k : Nat) : ∀ (n x : Nat), pc (k * n) x = ds k (pc k) n x
 | 0, x => rfl
 | n + 1, x => by
  have e : k * (n + 1) = k + k * n := by rw [Nat.mul_add, Nat.mul_one, Nat.add_comm]
  rw [e, pc_split, pc_ds k n, ds]
theorem ds_dg (k : Nat) (f g : Nat → Nat) (hf : ∀ d, d < 2 ^ k → f d < 2 ^ k) : ∀ (n x : Nat), ds k g n (dg k f n x) = ds k (fun d => g (f d)) n x
 | 0, _ => rfl
 | n + 1, x => by
  have hp : 0 < 2 ^ k := Nat.two_pow_pos k
  have hl := hf _ (Nat.mod_lt x hp)
  have h1 : (f (x % 2 ^ k) + 2 ^ k * dg k f n (x / 2 ^ k)) % 2 ^ k = f (x % 2 ^ k) := by
   rw [Nat.add_mul_mod_self_left, Nat.mod_eq_of_lt hl]
  have h2 : (f (x % 2 ^ k) + 2 ^ k * dg k f n (x / 2 ^ k)) / 2 ^ k = dg k f n (x / 2 ^ k) := by
   rw [Nat.add_mul_div_left _ _ hp, Nat.div_eq_of_lt hl, Nat.zero_add]
  rw [dg, ds, ds, h1, h2, ds_dg k f g hf n]
/-- Digits of 2k bits out of digits of k bits. -/
theorem ds_pair (k : Nat) (f : Nat → Nat) : ∀ (n x : Nat), ds k f (2 * n) x = ds (2 * k) (fun d => f (d % 2 ^ k) + f (d / 2 ^ k)) n x
 | 0, _ => rfl
 | n + 1, x => by
  have e : 2 * (n + 1) = (2 * n + 1) + 1 := by omega
  have e2 : 2 * k = k + k := by omega
  rw [e, ds, ds, ds_pair k f n, ds, e2]
  have h1 : x % 2 ^ (k + k) % 2 ^ k = x % 2 ^ k := by rw [Nat.pow_add, Nat.mod_mul_right_mod]
  have h2 : x % 2 ^ (k + k) / 2 ^ k = x / 2 ^ k % 2 ^ k := by rw [Nat.pow_add, Nat.mod_mul_right_div_self]
  have h3 : x / 2 ^ k / 2 ^ k = x / 2 ^ (k + k) := by rw [Nat.div_div_eq_div_mul, Nat.pow_add]
  rw [h1, h2, h3]
  omega
theorem ds_congr (k : Nat) (f g : Nat → Nat) (h : ∀ d, d < 2 ^ k → f d = g d) : ∀ (n x : Nat), ds k f n x = ds k g n x
 | 0, _ => rfl
 | n + 1, x => by rw [ds, ds, h _ (Nat.mod_lt _ (Nat.two_pow_pos k)), ds_congr k f g h n]
theorem dg_congr (k : Nat) (f g : Nat → Nat) (h : ∀ d, d < 2 ^ k → f d = g d) : ∀ (n x : Nat), dg k f n x = dg k g n x
 | 0, _ => rfl
 | n + 1, x => by rw [dg, dg, h _ (Nat.mod_lt _ (Nat.two_pow_pos k)), dg_congr k f g h n]
/-- Halves of digits, added. -/
theorem halves (k : Nat) : ∀ (n x : Nat), (x / 2 ^ k &&& mk (2 * k) (2 ^ k - 1) n) + (x &&& mk (2 * k) (2 ^ k - 1) n) = dg (2 * k) (fun d => d / 2 ^ k + d % 2 ^ k) n x
 | 0, _ => by simp [mk, dg]
 | n + 1, x => by
  have hp : 0 < 2 ^ k := Nat.two_pow_pos k
  have hc : 2 ^ k - 1 < 2 ^ (2 * k) := by
   have : 2 ^ k ≤ 2 ^ (2 * k) := Nat.pow_le_pow_right (by decide) (by omega)
   omega
  have e2 : 2 * k = k + k := by omega
  have h0 : x / 2 ^ k % 2 ^ (2 * k) % 2 ^ k = x % 2 ^ (2 * k) / 2 ^ k := by
   rw [e2, Nat.pow_add, Nat.mod_mul_right_mod, Nat.mod_mul_right_div_self]
  have h1 : x / 2 ^ k / 2 ^ (2 * k) = x / 2 ^ (2 * k) / 2 ^ k := by rw [Nat.div_div_eq_div_mul, Nat.div_div_eq_div_mul, Nat.mul_comm]
  rw [mk, and_digit _ _ _ _ hc, and_digit _ _ _ _ hc, Nat.and_two_pow_sub_one_eq_mod, Nat.and_two_pow_sub_one_eq_mod, h0, h1, dg, ← halves k n, Nat.mul_add]
  omega
/-- Four bits a digit, none above four: two of them added, no carry. -/
def nib : Nat → Nat → Prop
 | 0, _ => True
 | n + 1, x => x % 16 ≤ 4 ∧ nib n (x / 16)
theorem nib_dg (f : Nat → Nat) (hf : ∀ d, d < 2 ^ 4 → f d ≤ 4) : ∀ (n x : Nat), nib n (dg 4 f n x)
 | 0, _ => trivial
 | n + 1, x => by
  have hl := hf _ (Nat.mod_lt x (by decide))
  have h1 : (f (x % 2 ^ 4) + 2 ^ 4 * dg 4 f n (x / 2 ^ 4)) % 16 = f (x % 2 ^ 4) := by omega
  have h2 : (f (x % 2 ^ 4) + 2 ^ 4 * dg 4 f n (x / 2 ^ 4)) / 16 = dg 4 f n (x / 2 ^ 4) := by omega
  unfold nib dg
  rw [h1, h2]
  exact ⟨hl, nib_dg f hf n _⟩
theorem fold8 : ∀ (n x : Nat), nib (2 * n) x → x < 256 ^ n → (x / 16 + x) &&& mk 8 15 n = dg 8 (fun d => d / 16 + d % 16) n x
 | 0, x, _, _ => by simp [mk, dg]
 | n + 1, x, h, hx => by
  have e : 2 * (n + 1) = (2 * n + 1) + 1 := by omega
  rw [e] at h
  obtain ⟨h0, h1, h2⟩ := h
  have hd : x / 16 / 16 = x / 256 := by omega
  rw [hd] at h2
  have hx' : x / 256 < 256 ^ n := by rw [Nat.pow_succ] at hx; omega
  have ih := fold8 n (x / 256) h2 hx'
  have ha : x / 256 % 16 ≤ 4 := by
   cases n with
   | zero => simp at hx'; omega
   | succ m =>
    have e : 2 * (m + 1) = (2 * m + 1) + 1 := by omega
    rw [e] at h2
    exact h2.1
  have q1 : (x / 16 + x) / 2 ^ 8 = x / 256 / 16 + x / 256 := by omega
  have q2 : (x / 16 + x) % 2 ^ 8 % 2 ^ 4 = x % 256 / 16 + x % 256 % 16 := by omega
  have q3 : x / 2 ^ 8 = x / 256 := rfl
  have q4 : (x / 16 + x) % 2 ^ 8 &&& 15 = x % 256 / 16 + x % 256 % 16 := by
   rw [← q2]
   exact Nat.and_two_pow_sub_one_eq_mod _ 4
  rw [mk, and_digit 8 15 _ _ (by decide), q1, ih, q4, dg, q3]
theorem mod128 (y0 y1 y2 y3 y4 y5 y6 y7 x a b c : Nat) (h0 : y0 ≤ 8) (h1 : y1 ≤ 8) (h2 : y2 ≤ 8) (h3 : y3 ≤ 8) (h4 : y4 ≤ 8) (h5 : y5 ≤ 8) (h6 : y6 ≤ 8) (h7 : y7 ≤ 8)
  (hx : x = y0 + 256 * (y1 + 256 * (y2 + 256 * (y3 + 256 * (y4 + 256 * (y5 + 256 * (y6 + 256 * y7)))))))
  (ha : a = x + x / 256) (hb : b = a + a / 65536) (hc : c = b + b / 4294967296) : c < 18446744073709551616 ∧ c % 128 = y0 + y1 + y2 + y3 + y4 + y5 + y6 + y7 := by
 have ea : a = (y0 + y1) + 256 * ((y1 + y2) + 256 * ((y2 + y3) + 256 * ((y3 + y4) + 256 * ((y4 + y5) + 256 * ((y5 + y6) + 256 * ((y6 + y7) + 256 * y7)))))) := by omega
 have ea2 : a / 65536 = (y2 + y3) + 256 * ((y3 + y4) + 256 * ((y4 + y5) + 256 * ((y5 + y6) + 256 * ((y6 + y7) + 256 * y7)))) := by omega
 have eb : b = (y0 + y1 + y2 + y3) + 256 * ((y1 + y2 + y3 + y4) + 256 * ((y2 + y3 + y4 + y5) + 256 * ((y3 + y4 + y5 + y6) + 256 * ((y4 + y5 + y6 + y7) + 256 * ((y5 + y6 + y7) + 256 * ((y6 + y7) + 256 * y7)))))) := by omega
 have eb2 : b / 4294967296 = (y4 + y5 + y6 + y7) + 256 * ((y5 + y6 + y7) + 256 * ((y6 + y7) + 256 * y7)) := by omega
 clear ha hb hx ea ea2
 rw [eb2, eb] at hc
 omega
theorem dg_dg (k : Nat) (f g : Nat → Nat) (hf : ∀ d, d < 2 ^ k → f d < 2 ^ k) : ∀ (n x : Nat), dg k g n (dg k f n x) = dg k (fun d => g (f d)) n x
 | 0, _ => rfl
 | n + 1, x => by
  have hp : 0 < 2 ^ k := Nat.two_pow_pos k
  have hl := hf _ (Nat.mod_lt x hp)
  have h1 : (f (x % 2 ^ k) + 2 ^ k * dg k f n (x / 2 ^ k)) % 2 ^ k = f (x % 2 ^ k) := by
   rw [Nat.add_mul_mod_self_left, Nat.mod_eq_of_lt hl]
  have h2 : (f (x % 2 ^ k) + 2 ^ k * dg k f n (x / 2 ^ k)) / 2 ^ k = dg k f n (x / 2 ^ k) := by
   rw [Nat.add_mul_div_left _ _ hp, Nat.div_eq_of_lt hl, Nat.zero_add]
  rw [dg, dg, dg, h1, h2, dg_dg k f g hf n]
theorem dg_pair (k : Nat) (f : Nat → Nat) : ∀ (n x : Nat), dg k f (2 * n) x = dg (2 * k) (fun d => f (d % 2 ^ k) + 2 ^ k * f (d / 2 ^ k)) n x
 | 0, _ => rfl
 | n + 1, x => by
  have e : 2 * (n + 1) = (2 * n + 1) + 1 := by omega
  have e2 : 2 * k = k + k := by omega
  rw [e, dg, dg, dg_pair k f n, dg, e2]
  have h1 : x % 2 ^ (k + k) % 2 ^ k = x % 2 ^ k := by rw [Nat.pow_add, Nat.mod_mul_right_mod]
  have h2 : x % 2 ^ (k + k) / 2 ^ k = x / 2 ^ k % 2 ^ k := by rw [Nat.pow_add, Nat.mod_mul_right_div_self]
  have h3 : x / 2 ^ k / 2 ^ k = x / 2 ^ (k + k) := by rw [Nat.div_div_eq_div_mul, Nat.pow_add]
  rw [h1, h2, h3, Nat.mul_add, ← Nat.mul_assoc, ← Nat.pow_add, Nat.add_assoc]
theorem dg_step (f : Nat → Nat) (n x : Nat) : dg 8 f (n + 1) x = f (x % 256) + 256 * dg 8 f n (x / 256) := rfl
theorem ds_step (f : Nat → Nat) (n x : Nat) : ds 8 f (n + 1) x = f (x % 256) + ds 8 f n (x / 256) := rfl
theorem eight (x : Nat) : ∃ y0 y1 y2 y3 y4 y5 y6 y7 : Nat, y0 ≤ 8 ∧ y1 ≤ 8 ∧ y2 ≤ 8 ∧ y3 ≤ 8 ∧ y4 ≤ 8 ∧ y5 ≤ 8 ∧ y6 ≤ 8 ∧ y7 ≤ 8 ∧
  dg 8 (pc 8) 8 x = y0 + 256 * (y1 + 256 * (y2 + 256 * (y3 + 256 * (y4 + 256 * (y5 + 256 * (y6 + 256 * y7)))))) ∧ ds 8 (pc 8) 8 x = y0 + y1 + y2 + y3 + y4 + y5 + y6 + y7 := by
 have hp : ∀ d, pc 8 d ≤ 8 := pc_le 8
 generalize pc 8 = f at *
 refine ⟨f (x % 256), f (x / 256 % 256), f (x / 256 / 256 % 256), f (x / 256 / 256 / 256 % 256), f (x / 256 / 256 / 256 / 256 % 256), f (x / 256 / 256 / 256 / 256 / 256 % 256), f (x / 256 / 256 / 256 / 256 / 256 / 256 % 256), f (x / 256 / 256 / 256 / 256 / 256 / 256 / 256 % 256), hp _, hp _, hp _, hp _, hp _, hp _, hp _, hp _, ?_, ?_⟩
 ·
  rw [dg_step, dg_step, dg_step, dg_step, dg_step, dg_step, dg_step, dg_step, dg, Nat.mul_zero, Nat.add_zero]
 ·
  rw [ds_step, ds_step, ds_step, ds_step, ds_step, ds_step, ds_step, ds_step, ds, Nat.add_zero]
  simp only [← Nat.add_assoc]
/-- math/bits.OnesCount64, step by step. -/
theorem ones64 (x x1 x2 x3 a b c : Nat)
  (h1 : x1 = (x / 2 &&& 6148914691236517205) + (x &&& 6148914691236517205)) (h2 : x2 = (x1 / 4 &&& 3689348814741910323) + (x1 &&& 3689348814741910323))
  (h3 : x3 = (x2 / 16 + x2) &&& 1085102592571150095) (ha : a = x3 + x3 / 256) (hb : b = a + a / 65536) (hc : c = b + b / 4294967296) :
  x1 ≤ 12297829382473034410 ∧ x2 ≤ 7378697629483820646 ∧ x3 ≤ 1085102592571150095 ∧ c % 128 = cnt64 x := by
 have hx1 := halves 1 32 x
 have hx2 := halves 2 16 x1
 rw [show mk (2 * 1) (2 ^ 1 - 1) 32 = 6148914691236517205 by decide +kernel] at hx1
 rw [show mk (2 * 2) (2 ^ 2 - 1) 16 = 3689348814741910323 by decide +kernel] at hx2
 have e1 : x1 = dg 2 (pc 2) (2 * 16) x := (h1.trans hx1).trans (dg_congr 2 _ _ (by decide) 32 x)
 have e2 : x2 = dg 4 (fun d => d / 2 ^ 2 + d % 2 ^ 2) 16 x1 := h2.trans hx2
 rw [dg_pair] at e1
 rw [e1, dg_dg 4 _ _ (by decide +kernel), dg_congr 4 _ (pc 4) (by decide +kernel)] at e2
 have hx2l : x2 < 256 ^ 8 := by
  have q1 : x1 / 4 &&& 3689348814741910323 ≤ 3689348814741910323 := Nat.and_le_right
  have q2 : x1 &&& 3689348814741910323 ≤ 3689348814741910323 := Nat.and_le_right
  omega
 have hn : nib (2 * 8) x2 := by rw [e2]; exact nib_dg (pc 4) (fun d _ => pc_le 4 d) 16 x
 have e3 := fold8 8 x2 hn hx2l
 rw [show mk 8 15 8 = 1085102592571150095 by decide +kernel, ← h3, e2, dg_pair 4 (pc 4) 8, dg_dg 8 _ _ (by decide +kernel), dg_congr 8 _ (pc 8) (by decide +kernel)] at e3
 have e4 : cnt64 x = ds 8 (pc 8) 8 x := by rw [cnt_pc]; exact pc_ds 8 8 x
 have q1 : x / 2 &&& 6148914691236517205 ≤ 6148914691236517205 := Nat.and_le_right
 have q2 : x &&& 6148914691236517205 ≤ 6148914691236517205 := Nat.and_le_right
 have q3 : x1 / 4 &&& 3689348814741910323 ≤ 3689348814741910323 := Nat.and_le_right
 have q4 : x1 &&& 3689348814741910323 ≤ 3689348814741910323 := Nat.and_le_right
 have q5 : (x2 / 16 + x2) &&& 1085102592571150095 ≤ 1085102592571150095 := Nat.and_le_right
 rw [← h3] at q5
 obtain ⟨y0, y1, y2, y3, y4, y5, y6, y7, l0, l1, l2, l3, l4, l5, l6, l7, f3, f4⟩ := eight x
 rw [f3] at e3
 rw [f4] at e4
 have hm := mod128 y0 y1 y2 y3 y4 y5 y6 y7 x3 a b c l0 l1 l2 l3 l4 l5 l6 l7 e3 ha hb hc
 refine ⟨by omega, by omega, q5, ?_⟩
 rw [hm.2, e4]
end Go.Proofs.YtioiabfheeglgaaGreatDoor

namespace Go.Proofs.YtioiabfheeglgaaGreatDoor

theorem b64_zero : bits64 0 = [] := by decide +kernel
theorem low_bits (k m i : Nat) : (2 ^ k * (2 * m + 1)).testBit i = (decide (i = k) || (2 ^ (k + 1) * m).testBit i) := by
 rw [Nat.mul_comm, Nat.testBit_mul_two_pow, Nat.mul_comm (2 ^ (k + 1)), Nat.testBit_mul_two_pow]
 rcases Nat.lt_trichotomy i k with h | h | h
 ·
  have h1 : ¬ k ≤ i := by omega
  have h2 : ¬ k + 1 ≤ i := by omega
  simp [h1, h2]; omega
 ·
  subst h
  simp [Nat.testBit_zero]
 ·
  obtain ⟨j, rfl⟩ : ∃ j, i = k + (j + 1) := ⟨i - k - 1, by omega⟩
  have e : k + (j + 1) - k = j + 1 := by omega
  have e2 : k + (j + 1) - (k + 1) = j := by omega
  have d : (2 * m + 1) / 2 = m := by omega
  rw [e, e2, Nat.testBit_succ, d]
  simp
theorem low_and (k m : Nat) : (2 ^ k * (2 * m + 1)) &&& (2 ^ k * (2 * m + 1) - 1) = 2 ^ (k + 1) * m := by
 have hp : 0 < 2 ^ k := Nat.two_pow_pos k
 have e : 2 ^ k * (2 * m + 1) - 1 = 2 ^ (k + 1) * m + (2 ^ k - 1) := by
  rw [Nat.pow_succ, Nat.mul_add, Nat.mul_one, Nat.mul_assoc]
  omega
 have hlt : 2 ^ k - 1 < 2 ^ (k + 1) := by rw [Nat.pow_succ]; omega
 apply Nat.eq_of_testBit_eq
 intro i
 rw [Nat.testBit_and, low_bits, e, Nat.testBit_two_pow_mul_add _ hlt, Nat.mul_comm (2 ^ (k + 1)), Nat.testBit_mul_two_pow]
 by_cases h : i < k + 1
 ·
  have h1 : ¬ k + 1 ≤ i := by omega
  rw [if_pos h, Nat.testBit_two_pow_sub_one]
  simp [h1]
  omega
 ·
  have h1 : k + 1 ≤ i := by omega
  have h2 : ¬ i = k := by omega
  rw [if_neg h]
  simp [h1, h2]
theorem filter_cons (A B : Nat → Bool) (k d : Nat) (hA : ∀ i, A i = (decide (i = k) || B i)) (hB : ∀ i, i ≤ k → B i = false) :
  (List.range (k + (d + 1))).filter A = k :: (List.range (k + (d + 1))).filter B := by
 have h1 : (List.range k).filter A = [] := by
  rw [List.filter_eq_nil_iff]
  intro i hi
  have hi' : i < k := by simpa using hi
  rw [hA, hB i (by omega)]
  simp; omega
 have h2 : (List.range k).filter B = [] := by
  rw [List.filter_eq_nil_iff]
  intro i hi
  have hi' : i < k := by simpa using hi
  rw [hB i (by omega)]
  simp
 have h3 : ((List.range d).map (fun i => k + (i + 1))).filter A = ((List.range d).map (fun i => k + (i + 1))).filter B := by
  apply List.filter_congr
  intro i hi
  obtain ⟨j, _, rfl⟩ := List.mem_map.1 hi
  rw [hA]
  simp
 have e : List.range (k + (d + 1)) = List.range k ++ (k :: (List.range d).map (fun i => k + (i + 1))) := by
  rw [List.range_add, List.range_succ_eq_map, List.map_cons, List.map_map]
  rfl
 rw [e, List.filter_append, List.filter_append, h1, h2, List.filter_cons, List.filter_cons, h3, hA k, hB k (Nat.le_refl _)]
 simp
theorem b64_cons (k m : Nat) (hk : k < 64) : bits64 (2 ^ k * (2 * m + 1)) = k :: bits64 (2 ^ (k + 1) * m) := by
 unfold bits64
 have e : 64 = k + ((63 - k) + 1) := by omega
 rw [e]
 refine filter_cons _ _ k (63 - k) (fun i => low_bits k m i) (fun i hi => ?_)
 rw [Nat.mul_comm, Nat.testBit_mul_two_pow]
 have : ¬ k + 1 ≤ i := by omega
 simp [this]
/-- The least, and the others. -/
theorem rise64 (r : Nat) (h0 : r ≠ 0) (h : r < 18446744073709551616) : Lib.ctz 64 r < 64 ∧ bits64 r = Lib.ctz 64 r :: bits64 (r &&& (r - 1)) ∧ r &&& (r - 1) < r := by
 obtain ⟨m, hm, hk⟩ := Lib.ctzFrom_spec 64 r (by omega) (by simpa using h)
 have e : Lib.ctz 64 r = Lib.ctzFrom 64 r := by simp [Lib.ctz, h0]
 rw [e]
 generalize Lib.ctzFrom 64 r = k at *
 have hp : 0 < 2 ^ k := Nat.two_pow_pos k
 have ha : r &&& (r - 1) = 2 ^ (k + 1) * m := by rw [hm]; exact low_and k m
 refine ⟨hk, ?_, ?_⟩
 ·
  rw [ha, hm]; exact b64_cons k m hk
 ·
  rw [ha, hm, Nat.pow_succ, Nat.mul_add, Nat.mul_one, Nat.mul_assoc]; omega
theorem mem64 (s i : Nat) : i ∈ bits64 s ↔ i < 64 ∧ s.testBit i = true := by
 unfold bits64
 rw [List.mem_filter]
 simp
/-- The least number, -1 of none. -/
def firstN (s : Nat) : Int := if s = 0 then -1 else (Lib.ctz 64 s : Nat)
/-- A number's bit. -/
def bitI (i : Int) : Nat := if 0 ≤ i ∧ i < 64 then 2 ^ i.toNat else 0
def hasI (s : Nat) (i : Int) : Bool := s &&& bitI i != 0
def withI (s : Nat) (i : Int) : Nat := s ||| bitI i
def lessI (s : Nat) (i : Int) : Nat := s &&& (18446744073709551615 - bitI i)
theorem bit_lt (i : Int) : bitI i < 18446744073709551616 := by
 unfold bitI
 split
 ·
  rename_i h
  have : 2 ^ i.toNat ≤ 2 ^ 63 := Nat.pow_le_pow_right (by decide) (by omega)
  exact Nat.lt_of_le_of_lt this (by decide)
 ·
  decide
theorem with_lt (s : Nat) (i : Int) (h : s < 18446744073709551616) : withI s i < 18446744073709551616 := Nat.or_lt_two_pow (n := 64) h (bit_lt i)
theorem less_lt (s : Nat) (i : Int) (h : s < 18446744073709551616) : lessI s i < 18446744073709551616 := Nat.lt_of_le_of_lt Nat.and_le_left h
theorem bit_bit (i : Int) (j : Nat) : (bitI i).testBit j = decide (i = (j : Int) ∧ j < 64) := by
 unfold bitI
 split
 ·
  rename_i h
  rw [Nat.testBit_two_pow]
  congr 1
  apply propext
  omega
 ·
  rename_i h
  rw [Nat.zero_testBit]
  symm
  rw [decide_eq_false_iff_not]
  omega
theorem not_bit (x j : Nat) (hx : x < 18446744073709551616) : (18446744073709551615 - x).testBit j = (decide (j < 64) && !x.testBit j) := by
 have : 18446744073709551615 - x = 2 ^ 64 - (x + 1) := by omega
 rw [this, Nat.testBit_two_pow_sub_succ hx]
theorem has_bit (s : Nat) (i : Int) : hasI s i = (decide (0 ≤ i ∧ i < 64) && s.testBit i.toNat) := by
 unfold hasI bitI
 split
 ·
  rename_i h
  rw [decide_eq_true h, Bool.true_and]
  by_cases hb : s.testBit i.toNat = true
  ·
   rw [hb]
   have : s &&& 2 ^ i.toNat ≠ 0 := by
    intro h0
    have := congrArg (fun n => n.testBit i.toNat) h0
    simp [Nat.testBit_and, hb] at this
   simpa using this
  ·
   have hb' : s.testBit i.toNat = false := by simpa using hb
   rw [hb']
   have : s &&& 2 ^ i.toNat = 0 := by
    apply Nat.eq_of_testBit_eq
    intro j
    rw [Nat.testBit_and, Nat.testBit_two_pow, Nat.zero_testBit]
    by_cases h : i.toNat = j
    ·
     subst h; simp [hb']
    ·
     simp [h]
   simp [this]
 ·
  rename_i h
  rw [decide_eq_false h]
  simp
theorem with_bit (s : Nat) (i : Int) (j : Nat) : (withI s i).testBit j = (s.testBit j || decide (i = (j : Int) ∧ j < 64)) := by
 unfold withI
 rw [Nat.testBit_or, bit_bit]
theorem less_bit (s : Nat) (i : Int) (j : Nat) (hs : s < 18446744073709551616) : (lessI s i).testBit j = (s.testBit j && !decide (i = (j : Int) ∧ j < 64)) := by
 unfold lessI
 rw [Nat.testBit_and, not_bit _ _ (bit_lt i), bit_bit]
 by_cases h : j < 64
 ·
  simp [h]
 ·
  have : s.testBit j = false := Nat.testBit_lt_two_pow (Nat.lt_of_lt_of_le hs (Nat.pow_le_pow_right (n := 2) (i := 64) (by decide) (by omega)))
  simp [this]
def uptoI (n : Int) : Nat := if n < 0 then 0 else if 64 ≤ n then 18446744073709551615 else 2 ^ n.toNat - 1
def nextN (s : Nat) : Nat :=
 let c := (s + (s &&& (18446744073709551616 - s) % 18446744073709551616)) % 18446744073709551616
 if c = 0 then 0 else c ||| ((s ^^^ c) / 2 ^ Lib.ctz 64 s) / 4
end Go.Proofs.YtioiabfheeglgaaGreatDoor
