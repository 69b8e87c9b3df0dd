/- A world that has grown, one block aside; cells of numbers. -/
import Derived.Test.YtplihlmejnohnaaGreatDoorJ03Gen0
import Derived.Laws.BitsAllLaws
import Derived.IntWalk
namespace Go.Proofs.YtplihlmejnohnaaGreatDoor
open Go.RowKit

/-- The world has grown; of what was there, block B alone may have turned. -/
def Wa (B : Nat) (w w' : World) : Prop := w.grownBy w' (some B)
section
variable {B : Nat} {w w' w'' x : World}
theorem Wa.refl (B : Nat) (w : World) : Wa B w w := World.grownBy.refl _ _
theorem Wa.trans (h : Wa B w w') (k : Wa B w' w'') : Wa B w w'' := World.grownBy.trans h k
theorem Wa.alloc (h : Wa B w w') (o : Obj) : Wa B w (w'.alloc o) := h.trans (World.grownBy_alloc _ _ _)
theorem Wa.on (h : On w w') : Wa B w w' := ⟨h.os, h.tape, h.output, h.size, fun k hk _ => h.block k hk⟩
theorem Wa.setAt (h : Wa B w w') (i : Nat) (u : Value) : Wa B w (w'.setCell ⟨B, i, none⟩ u) := by
  refine ⟨h.os, h.tape, h.output, by rw [size_set]; exact h.size, fun k hk hne => ?_⟩
  exact (Below.heap_setCell _ _ _ _ (fun e => hne (by rw [e]))).trans (h.block k hk hne)
theorem Wa.setNew (h : Wa B w w') {N : Nat} (hN : w.heap.size ≤ N) (i : Nat) (u : Value) : Wa B w (w'.setCell ⟨N, i, none⟩ u) := by
  refine ⟨h.os, h.tape, h.output, by rw [size_set]; exact h.size, fun k hk hne => ?_⟩
  exact (Below.heap_setCell _ _ _ _ (fun e => by have e' : k = N := e; omega)).trans (h.block k hk hne)
theorem Wa.grown {v : Value} (h : Wa B w w') (hg : w'.grownBy w'' v.ownBlock) (hv : ∀ g, v.ownBlock = some g → w.heap.size ≤ g) : Wa B w w'' :=
  ⟨hg.os.trans h.os, hg.tape.trans h.tape, hg.output.trans h.output, Nat.le_trans h.size hg.size, fun k hk hne => (hg.block k (Nat.lt_of_lt_of_le hk h.size) (fun e => by have := hv k e.symm; omega)).trans (h.block k hk hne)⟩
theorem Wa.drew (h : Wa B w w') : Wa B w w'.drew := ⟨h.os, h.tape, h.output, h.size, h.block⟩
theorem Bk.wa {N : Nat} {cs : Array Value} (h : Bk w N cs) (k : Wa B w w') (hne : N ≠ B) : Bk w' N cs := by
  obtain ⟨T, e⟩ := h
  exact ⟨T, (k.block N (lt_of_block e) (fun h => hne (Option.some.inj h))).trans e⟩
theorem own_wa {base k n : Nat} {e : TypeId} {v : Value} {xs : List Value} (h : w.ownsRow base e k v n xs) (kk : Wa B w w') (hB : B < base) : w'.ownsRow base e k v n xs := by
  refine ⟨h.1, ?_⟩
  rcases h.2 with h2 | ⟨g, cap, cur, hv, hb, hh, r⟩
  · exact Or.inl h2
  · exact Or.inr ⟨g, cap, cur, hv, hb, (kk.block g (lt_of_block hh) (fun h => by have := Option.some.inj h; omega)).trans hh, r⟩
theorem Own2.wa {α : Type} {C : α → List Value} {k : Nat} {eo ei : TypeId} {base : Nat} {v : Value} {LL : List (List α)} (h : Own2 C k eo ei w base v LL) (kk : Wa B w w') (hB : B < base) : Own2 C k eo ei w' base v LL := by
  obtain ⟨vs, h1, h2, h3⟩ := h
  exact ⟨vs, h1, own_wa h2 kk hB, fun i u L a b => own_wa (h3 i u L a b) kk hB⟩
theorem On.wa (h : On x w) (k : Wa B w w') (hB : x.heap.size ≤ B) : On x w' :=
  ⟨k.os.trans h.os, k.tape.trans h.tape, k.output.trans h.output, Nat.le_trans h.size k.size, fun i hi => (k.block i (Nat.lt_of_lt_of_le hi h.size) (fun e => by have := Option.some.inj e; omega)).trans (h.block i hi)⟩
end
def intC (z : Int) : List Value := [.int .i64 z]
end Go.Proofs.YtplihlmejnohnaaGreatDoor

namespace Go.Proofs.YtplihlmejnohnaaGreatDoor
open Go.RowKit

theorem wrap_toInt (v : BitVec 64) : IntKind.i64.wrap (v.toNat : Nat) = v.toInt := by
  rw [IntKind.wrap_i64, BitVec.toInt_eq_toNat_cond]
  have := v.isLt
  split <;> omega
theorem band_eq (a b : Int) : bits .and .i64 a b = (BitVec.ofInt 64 a &&& BitVec.ofInt 64 b).toInt := wrap_toInt _
theorem bor_eq (a b : Int) : bits .or .i64 a b = (BitVec.ofInt 64 a ||| BitVec.ofInt 64 b).toInt := wrap_toInt _
theorem bxor_eq (a b : Int) : bits .xor .i64 a b = (BitVec.ofInt 64 a ^^^ BitVec.ofInt 64 b).toInt := wrap_toInt _
theorem wrap64_eq (n : Int) : wrap64 n = (BitVec.ofInt 64 n).toInt := by
  rw [BitVec.toInt_ofInt]; unfold wrap64; rw [Int.bmod_def]; split <;> omega
theorem toInt_of {a : Int} (h0 : -9223372036854775808 ≤ a) (h1 : a ≤ 9223372036854775807) : (BitVec.ofInt 64 a).toInt = a := by
  rw [← wrap64_eq]; unfold wrap64; omega

theorem nat_and_or : ∀ n a b : Nat, a < n → (a &&& b) + (a ||| b) = a + b
  | 0, a, b, h => by omega
  | n + 1, a, b, h => by
    by_cases ha : a = 0
    · subst ha; simp
    · have ih := nat_and_or n (a / 2) (b / 2) (by omega)
      rw [← Nat.and_div_two, ← Nat.or_div_two] at ih
      have m1 : (a &&& b) % 2 = (a % 2) &&& (b % 2) := Nat.and_mod_two_pow (n := 1)
      have m2 : (a ||| b) % 2 = (a % 2) ||| (b % 2) := Nat.or_mod_two_pow (n := 1)
      have m : (a &&& b) % 2 + (a ||| b) % 2 = a % 2 + b % 2 := by
        rw [m1, m2]
        rcases Nat.mod_two_eq_zero_or_one a with e1 | e1 <;> rcases Nat.mod_two_eq_zero_or_one b with e2 | e2 <;> rw [e1, e2] <;> rfl
      omega

theorem bv_and_or (x y : BitVec 64) : (x &&& y) + (x ||| y) = x + y := by
  apply BitVec.eq_of_toNat_eq
  simp only [BitVec.toNat_add, BitVec.toNat_and, BitVec.toNat_or]
  rw [nat_and_or (x.toNat + 1) x.toNat y.toNat (by omega)]

theorem bits_back (a b : Int) (h0 : -9223372036854775808 ≤ a) (h1 : a ≤ 9223372036854775807) : bits .xor .i64 (bits .xor .i64 a b) b = a := by
  rw [bxor_eq, bxor_eq, BitVec.ofInt_toInt, BitVec.xor_assoc, BitVec.xor_self, BitVec.xor_zero, toInt_of h0 h1]
theorem bits_sum (a b : Int) : wrap64 (bits .and .i64 a b + bits .or .i64 a b) = wrap64 (a + b) := by
  rw [band_eq, bor_eq, wrap64_eq, wrap64_eq, BitVec.ofInt_add, BitVec.ofInt_add, BitVec.ofInt_toInt, BitVec.ofInt_toInt, bv_and_or]
theorem bits_or (a b : Int) : bits .or .i64 (bits .and .i64 a b) (bits .xor .i64 a b) = bits .or .i64 a b := by
  rw [bor_eq, bor_eq, band_eq, bxor_eq, BitVec.ofInt_toInt, BitVec.ofInt_toInt]
  congr 1
  apply BitVec.eq_of_getLsbD_eq
  intro i _
  simp only [BitVec.getLsbD_or, BitVec.getLsbD_and, BitVec.getLsbD_xor]
  cases (BitVec.ofInt 64 a).getLsbD i <;> cases (BitVec.ofInt 64 b).getLsbD i <;> rfl

theorem i64_and31 (n : Int) : bits .and .i64 n 31 = n % 32 := by
  have h63 : (BitVec.ofInt 64 31).toNat = 2 ^ 5 - 1 := by decide
  have key : (BitVec.ofInt 64 n &&& BitVec.ofInt 64 31).toNat = (n % ((2 ^ 64 : Nat) : Int)).toNat % 2 ^ 5 := by
    rw [BitVec.toNat_and, BitVec.toNat_ofInt, h63, Nat.and_two_pow_sub_one_eq_mod]
  show IntKind.i64.wrap ((BitVec.ofInt 64 n &&& BitVec.ofInt 64 31).toNat : Nat) = n % 32
  rw [key, IntKind.wrap_i64]
  omega
theorem i64_and1 (n : Int) : bits .and .i64 n 1 = n % 2 := by
  have h63 : (BitVec.ofInt 64 1).toNat = 2 ^ 1 - 1 := by decide
  have key : (BitVec.ofInt 64 n &&& BitVec.ofInt 64 1).toNat = (n % ((2 ^ 64 : Nat) : Int)).toNat % 2 ^ 1 := by
    rw [BitVec.toNat_and, BitVec.toNat_ofInt, h63, Nat.and_two_pow_sub_one_eq_mod]
  show IntKind.i64.wrap ((BitVec.ofInt 64 n &&& BitVec.ofInt 64 1).toNat : Nat) = n % 2
  rw [key, IntKind.wrap_i64]
  omega
theorem i64_and255 (n : Int) : bits .and .i64 n 255 = n % 256 := by
  have h63 : (BitVec.ofInt 64 255).toNat = 2 ^ 8 - 1 := by decide
  have key : (BitVec.ofInt 64 n &&& BitVec.ofInt 64 255).toNat = (n % ((2 ^ 64 : Nat) : Int)).toNat % 2 ^ 8 := by
    rw [BitVec.toNat_and, BitVec.toNat_ofInt, h63, Nat.and_two_pow_sub_one_eq_mod]
  show IntKind.i64.wrap ((BitVec.ofInt 64 n &&& BitVec.ofInt 64 255).toNat : Nat) = n % 256
  rw [key, IntKind.wrap_i64]
  omega

theorem pow_bounds (m n : Nat) (h : m ≤ n) : (1 : Int) ≤ 2 ^ m ∧ (2 : Int) ^ m ≤ 2 ^ n := by
  have a := Nat.one_le_two_pow (n := m)
  have b := Nat.pow_le_pow_right (n := 2) (by decide) h
  have c : ((2 ^ m : Nat) : Int) = 2 ^ m := by simp
  have d : ((2 ^ n : Nat) : Int) = 2 ^ n := by simp
  omega

/-- A small number times a small power of two does not wrap. -/
theorem shl_small (a : Int) (m : Nat) (h0 : -2147483648 ≤ a) (h1 : a ≤ 2147483647) (hm : m ≤ 31) : wrap64 (a * 2 ^ m) = a * 2 ^ m := by
  obtain ⟨p1, p2⟩ := pow_bounds m 31 hm
  generalize (2 : Int) ^ m = p at *
  have u := Int.mul_le_mul_of_nonneg_right (show a ≤ 2147483648 by omega) (show 0 ≤ p by omega)
  have l := Int.mul_le_mul_of_nonneg_right (show -2147483648 ≤ a by omega) (show 0 ≤ p by omega)
  generalize a * p = x at *
  unfold wrap64
  omega
theorem shr_back (a : Int) (m : Nat) : a * 2 ^ m / 2 ^ m = a := Int.mul_ediv_cancel _ (by have := (pow_bounds m m (Nat.le_refl _)).1; omega)

/-- What is shifted up wraps to a multiple. -/
theorem wrap_dvd (n : Int) (m : Nat) (hm : m ≤ 63) : wrap64 (n * 2 ^ m) / 2 ^ m * 2 ^ m = wrap64 (n * 2 ^ m) := by
  apply Int.ediv_mul_cancel
  have e64 : (18446744073709551616 : Int) = 2 ^ m * 2 ^ (64 - m) := by
    rw [← Int.pow_add, show m + (64 - m) = 64 by omega]; rfl
  have e63 : (9223372036854775808 : Int) = 2 ^ m * 2 ^ (63 - m) := by
    rw [← Int.pow_add, show m + (63 - m) = 63 by omega]; rfl
  unfold wrap64
  rw [Int.emod_def]
  refine Int.dvd_sub (Int.dvd_sub (Int.dvd_add (Int.dvd_mul_left _ _) ?_) ?_) ?_
  · rw [e63]; exact Int.dvd_mul_right _ _
  · rw [e64, Int.mul_assoc]; exact Int.dvd_mul_right _ _
  · rw [e63]; exact Int.dvd_mul_right _ _
theorem wrap_wrap (n : Int) : wrap64 (wrap64 n) = wrap64 n := by unfold wrap64; omega
end Go.Proofs.YtplihlmejnohnaaGreatDoor
