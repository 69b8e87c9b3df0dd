/- A world that has grown, one block aside; cells of numbers. -/
import Derived.Test.YtacflahkofmcpaaGreatDoorJ14LexCut
import Derived.Laws.BitsAllLaws
import Derived.IntWalk
import Derived.Test.YtacflahkofmcpaaGreatDoorJ17WlSmallP
namespace Go.Proofs.YtacflahkofmcpaaGreatDoor.Wl
open Go.RowKit

/-- The world has grown; of what was there, block B alone may have turned. -/
def Wa (B : Nat) (w w' : World) : Prop := w.grownBy w' (some B)
section
variable {B : Nat} {w w' w'' x : World}
theorem Wa.refl (B : Nat) (w : World) : Wa B w w := World.grownBy.refl _ _
theorem Wa.trans (h : Wa B w w') (k : Wa B w' w'') : Wa B w w'' := World.grownBy.trans h k
theorem Wa.alloc (h : Wa B w w') (o : Obj) : Wa B w (w'.alloc o) := h.trans (World.grownBy_alloc _ _ _)
theorem Wa.on (h : On w w') : Wa B w w' := ⟨h.os, h.tape, h.output, h.size, fun k hk _ => h.block k hk⟩
theorem Wa.setAt (h : Wa B w w') (i : Nat) (u : Value) : Wa B w (w'.setCell ⟨B, i, none⟩ u) := by
  refine ⟨h.os, h.tape, h.output, by rw [size_set]; exact h.size, fun k hk hne => ?_⟩
  exact (Below.heap_setCell _ _ _ _ (fun e => hne (by rw [e]))).trans (h.block k hk hne)
theorem Wa.setNew (h : Wa B w w') {N : Nat} (hN : w.heap.size ≤ N) (i : Nat) (u : Value) : Wa B w (w'.setCell ⟨N, i, none⟩ u) := by
  refine ⟨h.os, h.tape, h.output, by rw [size_set]; exact h.size, fun k hk hne => ?_⟩
  exact (Below.heap_setCell _ _ _ _ (fun e => by have e' : k = N := e; omega)).trans (h.block k hk hne)
theorem Wa.grown {v : Value} (h : Wa B w w') (hg : w'.grownBy w'' v.ownBlock) (hv : ∀ g, v.ownBlock = some g → w.heap.size ≤ g) : Wa B w w'' :=
  ⟨hg.os.trans h.os, hg.tape.trans h.tape, hg.output.trans h.output, Nat.le_trans h.size hg.size, fun k hk hne => (hg.block k (Nat.lt_of_lt_of_le hk h.size) (fun e => by have := hv k e.symm; omega)).trans (h.block k hk hne)⟩
theorem Wa.drew (h : Wa B w w') : Wa B w w'.drew := ⟨h.os, h.tape, h.output, h.size, h.block⟩
theorem Bk.wa {N : Nat} {cs : Array Value} (h : Bk w N cs) (k : Wa B w w') (hne : N ≠ B) : Bk w' N cs := by
  obtain ⟨T, e⟩ := h
  exact ⟨T, (k.block N (lt_of_block e) (fun h => hne (Option.some.inj h))).trans e⟩
theorem own_wa {base k n : Nat} {e : TypeId} {v : Value} {xs : List Value} (h : w.ownsRow base e k v n xs) (kk : Wa B w w') (hB : B < base) : w'.ownsRow base e k v n xs := by
  refine ⟨h.1, ?_⟩
  rcases h.2 with h2 | ⟨g, cap, cur, hv, hb, hh, r⟩
  · exact Or.inl h2
  · exact Or.inr ⟨g, cap, cur, hv, hb, (kk.block g (lt_of_block hh) (fun h => by have := Option.some.inj h; omega)).trans hh, r⟩
theorem Own2.wa {α : Type} {C : α → List Value} {k : Nat} {eo ei : TypeId} {base : Nat} {v : Value} {LL : List (List α)} (h : Own2 C k eo ei w base v LL) (kk : Wa B w w') (hB : B < base) : Own2 C k eo ei w' base v LL := by
  obtain ⟨vs, h1, h2, h3⟩ := h
  exact ⟨vs, h1, own_wa h2 kk hB, fun i u L a b => own_wa (h3 i u L a b) kk hB⟩
theorem On.wa (h : On x w) (k : Wa B w w') (hB : x.heap.size ≤ B) : On x w' :=
  ⟨k.os.trans h.os, k.tape.trans h.tape, k.output.trans h.output, Nat.le_trans h.size k.size, fun i hi => (k.block i (Nat.lt_of_lt_of_le hi h.size) (fun e => by have := Option.some.inj e; omega)).trans (h.block i hi)⟩
end
def intC (z : Int) : List Value := [.int .i64 z]
end Go.Proofs.YtacflahkofmcpaaGreatDoor.Wl

namespace Go.Proofs.YtacflahkofmcpaaGreatDoor.Wl
open Go.RowKit

theorem wrap_toInt (v : BitVec 64) : IntKind.i64.wrap (v.toNat : Nat) = v.toInt := by
  rw [IntKind.wrap_i64, BitVec.toInt_eq_toNat_cond]
  have := v.isLt
  split <;> omega
theorem band_eq (a b : Int) : bits .and .i64 a b = (BitVec.ofInt 64 a &&& BitVec.ofInt 64 b).toInt := wrap_toInt _
theorem bor_eq (a b : Int) : bits .or .i64 a b = (BitVec.ofInt 64 a ||| BitVec.ofInt 64 b).toInt := wrap_toInt _
theorem bxor_eq (a b : Int) : bits .xor .i64 a b = (BitVec.ofInt 64 a ^^^ BitVec.ofInt 64 b).toInt := wrap_toInt _
theorem wrap64_eq (n : Int) : wrap64 n = (BitVec.ofInt 64 n).toInt := by
  rw [BitVec.toInt_ofInt]; unfold wrap64; rw [Int.bmod_def]; split <;> omega
theorem toInt_of {a : Int} (h0 : -9223372036854775808 ≤ a) (h1 : a ≤ 9223372036854775807) : (BitVec.ofInt 64 a).toInt = a := by
  rw [← wrap64_eq]; unfold wrap64; omega

theorem nat_and_or : ∀ n a b : Nat, a < n → (a &&& b) + (a ||| b) = a + b
  | 0, a, b, h => by omega
  | n + 1, a, b, h => by
    by_cases ha : a = 0
    · subst ha; simp
    · have ih := nat_and_or n (a / 2) (b / 2) (by omega)
      rw [← Nat.and_div_two, ← Nat.or_div_two] at ih
      have m1 : (a &&& b) % 2 = (a % 2) &&& (b % 2) := Nat.and_mod_two_pow (n := 1)
      have m2 : (a ||| b) % 2 = (a % 2) ||| (b % 2) := Nat.or_mod_two_pow (n := 1)
      have m : (a &&& b) % 2 + (a ||| b) % 2 = a % 2 + b % 2 := by
        rw [m1, m2]
        rcases Nat.mod_two_eq_zero_or_one a with e1 | e1 <;> rcases Nat.mod_two_eq_zero_or_one b with e2 | e2 <;> rw [e1, e2] <;> rfl
      omega

theorem bv_and_or (x y : BitVec 64) : (x &&& y) + (x ||| y) = x + y := by
  apply BitVec.eq_of_toNat_eq
  simp only [BitVec.toNat_add, BitVec.toNat_and, BitVec.toNat_or]
  rw [nat_and_or (x.toNat + 1) x.toNat y.toNat (by omega)]

theorem bits_back (a b : Int) (h0 : -9223372036854775808 ≤ a) (h1 : a ≤ 9223372036854775807) : bits .xor .i64 (bits .xor .i64 a b) b = a := by
  rw [bxor_eq, bxor_eq, BitVec.ofInt_toInt, BitVec.xor_assoc, BitVec.xor_self, BitVec.xor_zero, toInt_of h0 h1]
theorem bits_sum (a b : Int) : wrap64 (bits .and .i64 a b + bits .or .i64 a b) = wrap64 (a + b) := by
  rw [band_eq, bor_eq, wrap64_eq, wrap64_eq, BitVec.ofInt_add, BitVec.ofInt_add, BitVec.ofInt_toInt, BitVec.ofInt_toInt, bv_and_or]
theorem bits_or (a b : Int) : bits .or .i64 (bits .and .i64 a b) (bits .xor .i64 a b) = bits .or .i64 a b := by
  rw [bor_eq, bor_eq, band_eq, bxor_eq, BitVec.ofInt_toInt, BitVec.ofInt_toInt]
  congr 1
  apply BitVec.eq_of_getLsbD_eq
  intro i _
  simp only [BitVec.getLsbD_or, BitVec.getLsbD_and, BitVec.getLsbD_xor]
  cases (BitVec.ofInt 64 a).getLsbD i <;> cases (BitVec.ofInt 64 b).getLsbD i <;> rfl

theorem i64_and31 (n : Int) : bits .and .i64 n 31 = n % 32 := by
  have h63 : (BitVec.ofInt 64 31).toNat = 2 ^ 5 - 1 := by decide
  have key : (BitVec.ofInt 64 n &&& BitVec.ofInt 64 31).toNat = (n % ((2 ^ 64 : Nat) : Int)).toNat % 2 ^ 5 := by
    rw [BitVec.toNat_and, BitVec.toNat_ofInt, h63, Nat.and_two_pow_sub_one_eq_mod]
  show IntKind.i64.wrap ((BitVec.ofInt 64 n &&& BitVec.ofInt 64 31).toNat : Nat) = n % 32
  rw [key, IntKind.wrap_i64]
  omega
theorem i64_and1 (n : Int) : bits .and .i64 n 1 = n % 2 := by
  have h63 : (BitVec.ofInt 64 1).toNat = 2 ^ 1 - 1 := by decide
  have key : (BitVec.ofInt 64 n &&& BitVec.ofInt 64 1).toNat = (n % ((2 ^ 64 : Nat) : Int)).toNat % 2 ^ 1 := by
    rw [BitVec.toNat_and, BitVec.toNat_ofInt, h63, Nat.and_two_pow_sub_one_eq_mod]
  show IntKind.i64.wrap ((BitVec.ofInt 64 n &&& BitVec.ofInt 64 1).toNat : Nat) = n % 2
  rw [key, IntKind.wrap_i64]
  omega
theorem i64_and255 (n : Int) : bits .and .i64 n 255 = n % 256 := by
  have h63 : (BitVec.ofInt 64 255).toNat = 2 ^ 8 - 1 := by decide
  have key : (BitVec.ofInt 64 n &&& BitVec.ofInt 64 255).toNat = (n % ((2 ^ 64 : Nat) : Int)).toNat % 2 ^ 8 := by
    rw [BitVec.toNat_and, BitVec.toNat_ofInt, h63, Nat.and_two_pow_sub_one_eq_mod]
  show IntKind.i64.wrap ((BitVec.ofInt 64 n &&& BitVec.ofInt 64 255).toNat : Nat) = n % 256
  rw [key, IntKind.wrap_i64]
  omega

theorem pow_bounds (m n : Nat) (h : m ≤ n) : (1 : Int) ≤ 2 ^ m ∧ (2 : Int) ^ m ≤ 2 ^ n := by
  have a := Nat.one_le_two_pow (n := m)
  have b := Nat.pow_le_pow_right (n := 2) (by decide) h
  have c : ((2 ^ m : Nat) : Int) = 2 ^ m := by simp
  have d : ((2 ^ n : Nat) : Int) = 2 ^ n := by simp
  omega

/-- A small number times a small power of two does not wrap. -/
theorem shl_small (a : Int) (m : Nat) (h0 : -2147483648 ≤ a) (h1 : a ≤ 2147483647) (hm : m ≤ 31) : wrap64 (a * 2 ^ m) = a * 2 ^ m := by
  obtain ⟨p1, p2⟩ := pow_bounds m 31 hm
  generalize (2 : Int) ^ m = p at *
  have u := Int.mul_le_mul_of_nonneg_right (show a ≤ 2147483648 by omega) (show 0 ≤ p by omega)
  have l := Int.mul_le_mul_of_nonneg_right (show -2147483648 ≤ a by omega) (show 0 ≤ p by omega)
  generalize a * p = x at *
  unfold wrap64
  omega
theorem shr_back (a : Int) (m : Nat) : a * 2 ^ m / 2 ^ m = a := Int.mul_ediv_cancel _ (by have := (pow_bounds m m (Nat.le_refl _)).1; omega)

/-- What is shifted up wraps to a multiple. -/
theorem wrap_dvd (n : Int) (m : Nat) (hm : m ≤ 63) : wrap64 (n * 2 ^ m) / 2 ^ m * 2 ^ m = wrap64 (n * 2 ^ m) := by
  apply Int.ediv_mul_cancel
  have e64 : (18446744073709551616 : Int) = 2 ^ m * 2 ^ (64 - m) := by
    rw [← Int.pow_add, show m + (64 - m) = 64 by omega]; rfl
  have e63 : (9223372036854775808 : Int) = 2 ^ m * 2 ^ (63 - m) := by
    rw [← Int.pow_add, show m + (63 - m) = 63 by omega]; rfl
  unfold wrap64
  rw [Int.emod_def]
  refine Int.dvd_sub (Int.dvd_sub (Int.dvd_add (Int.dvd_mul_left _ _) ?_) ?_) ?_
  · rw [e63]; exact Int.dvd_mul_right _ _
  · rw [e64, Int.mul_assoc]; exact Int.dvd_mul_right _ _
  · rw [e63]; exact Int.dvd_mul_right _ _
theorem wrap_wrap (n : Int) : wrap64 (wrap64 n) = wrap64 n := by unfold wrap64; omega
end Go.Proofs.YtacflahkofmcpaaGreatDoor.Wl

namespace Go.Proofs.YtacflahkofmcpaaGreatDoor.Wl
open Go.RowKit

theorem i64_low (n : Int) (p : Nat) (m : Int) (hm : (BitVec.ofInt 64 m).toNat = 2 ^ p - 1) (hp : p ≤ 62) : ∃ k : Nat, k < 2 ^ p ∧ bits .and .i64 n m = (k : Int) ∧ (k : Int) = n % ((2 ^ p : Nat) : Int) := by
  have key : (BitVec.ofInt 64 n &&& BitVec.ofInt 64 m).toNat = (n % ((2 ^ 64 : Nat) : Int)).toNat % 2 ^ p := by
    rw [BitVec.toNat_and, BitVec.toNat_ofInt, hm, Nat.and_two_pow_sub_one_eq_mod]
  have hlt : (n % ((2 ^ 64 : Nat) : Int)).toNat % 2 ^ p < 2 ^ p := Nat.mod_lt _ (Nat.two_pow_pos p)
  have h62 : 2 ^ p ≤ 2 ^ 62 := Nat.pow_le_pow_right (by decide) hp
  refine ⟨_, hlt, ?_, ?_⟩
  · show IntKind.i64.wrap ((BitVec.ofInt 64 n &&& BitVec.ofInt 64 m).toNat : Nat) = _
    rw [key, IntKind.wrap_i64]
    generalize (n % ((2 ^ 64 : Nat) : Int)).toNat % 2 ^ p = x at *
    have : x < 2 ^ 62 := by omega
    omega
  · rw [Int.natCast_emod]
    have h0 : 0 ≤ n % ((2 ^ 64 : Nat) : Int) := Int.emod_nonneg _ (by decide)
    rw [Int.toNat_of_nonneg h0]
    have hd : ((2 ^ p : Nat) : Int) ∣ ((2 ^ 64 : Nat) : Int) := Int.natCast_dvd_natCast.2 (Nat.pow_dvd_pow 2 (by omega))
    exact Int.emod_emod_of_dvd n hd
theorem low2 (n : Int) : ∃ k : Nat, k < 4 ∧ bits .and .i64 n 3 = (k : Int) := by obtain ⟨k, h, e, _⟩ := i64_low n 2 3 (by decide) (by decide); exact ⟨k, h, e⟩
theorem low3 (n : Int) : ∃ k : Nat, k < 8 ∧ bits .and .i64 n 7 = (k : Int) := by obtain ⟨k, h, e, _⟩ := i64_low n 3 7 (by decide) (by decide); exact ⟨k, h, e⟩
theorem low4 (n : Int) : ∃ k : Nat, k < 16 ∧ bits .and .i64 n 15 = (k : Int) := by obtain ⟨k, h, e, _⟩ := i64_low n 4 15 (by decide) (by decide); exact ⟨k, h, e⟩
theorem low8 (n : Int) : ∃ k : Nat, k < 256 ∧ bits .and .i64 n 255 = (k : Int) := by obtain ⟨k, h, e, _⟩ := i64_low n 8 255 (by decide) (by decide); exact ⟨k, h, e⟩
theorem low16 (n : Int) : bits .and .i64 n 65535 = ((n % 65536).toNat : Int) := by
  obtain ⟨k, h, e, f⟩ := i64_low n 16 65535 (by decide) (by decide)
  have f' : (k : Int) = n % 65536 := f
  rw [e]; omega
end Go.Proofs.YtacflahkofmcpaaGreatDoor.Wl

namespace Go.Proofs.YtacflahkofmcpaaGreatDoor.Wl
open Go.RowKit

theorem nxt_in {zs : List Int} {i : Nat} (h : i < zs.length) : bits .and .i64 (zs[i]) 65535 = ((nxtV zs i : Nat) : Int) := by
  unfold nxtV
  rw [low16, List.getD_eq_getElem?_getD, List.getElem?_eq_getElem h]
  rfl
theorem nxt_out {zs : List Int} {i : Nat} (h : zs.length ≤ i) : nxtV zs i = 0 := by
  unfold nxtV
  rw [List.getD_eq_getElem?_getD, List.getElem?_eq_none h]
  rfl
set_option maxHeartbeats 2000000 in
theorem next_is (zs : List Int) (a : Option Addr) (cap i B Bl : Nat) (w0 w : World) (hi : i < 1000) (_hz : zs.length ≤ 9223372036854775807) (ba : Bk w B #[.int .i64 (i : Int)]) (bl : Bk w Bl #[.slice a zs.length cap]) (hne : B ≠ Bl) (hon : On w0 w) (hB : w0.heap.size ≤ B) (hr : Rd intC 1 w0 (.slice a zs.length cap) zs) :
    Calls Tryz.prog 22 #[.pointer (some ⟨B, 0, none⟩), .pointer (some ⟨Bl, 0, none⟩)] w fun e w' => e = .returned (.int .i64 (nxtV zs i : Nat)) ∧ w' = w.setCell ⟨B, 0, none⟩ (.int .i64 ((i + 1 : Nat) : Int)) := by
  have b0 := ba.at (i := 0) rfl
  have b1 := ba.fr 0
  have b2 := ba.lt
  have l0 := bl.at (i := 0) rfl
  have l2 := bl.lt
  have hne' : ¬ Bl = B := fun h => hne h.symm
  have ec : ((i + 1 : Nat) : Int) = (i : Int) + 1 := by omega
  rcases Nat.lt_or_ge i zs.length with hlt | hge
  · obtain ⟨g, off, rfl, hg, hcell⟩ := hr.at (List.getElem?_eq_getElem hlt)
    have hc0 : w.cell? ⟨g, off + i, none⟩ = some (.int .i64 zs[i]) := by
      refine (hon.cell (p := ⟨g, off + i, none⟩) hg).trans ?_
      have := hcell 0 _ rfl
      simpa using this
    have hgB : ¬ g = B := by omega
    have hgw := Nat.lt_of_lt_of_le hg hon.size
    have hv := nxt_in hlt
    clear hr hcell ba bl hon
    generalize nxtV zs i = V at *
    generalize zs[i] = z at *
    rw [ec]
    go_enter Tryz.func22, Tryz.ntmps22
    go_wp2
    go_ret
    exact ⟨rfl, rfl⟩
  · rw [nxt_out hge, ec]
    clear hr ba bl hon
    go_enter Tryz.func22, Tryz.ntmps22
    go_wp2
    go_ret
    exact ⟨rfl, rfl⟩
end Go.Proofs.YtacflahkofmcpaaGreatDoor.Wl

namespace Go.Proofs.YtacflahkofmcpaaGreatDoor.Wl
open Go.RowKit

structure Sx (w : World) (zs : List Int) (a : Option Addr) (cap : Nat) (c1 c2 : Value) (i : Nat) (wr : World) : Prop where
  bl : Bk wr w.heap.size #[.slice a zs.length cap]
  br : Bk wr (w.heap.size + 1) #[.string ⟨#[]⟩, .slice none 0 0, .slice none 0 0, .int .i64 0, .slice none 0 0]
  bt : Bk wr (w.heap.size + 1 + 1) #[.string ⟨#[116]⟩, c1, c2, .int .i64 0, .slice none 0 0]
  ba : Bk wr (w.heap.size + 1 + 1 + 1) #[.int .i64 (i : Int)]
  on : On w wr
section
variable {w wr wr' : World} {zs : List Int} {a : Option Addr} {cap : Nat} {c1 c2 : Value} {i : Nat}
theorem Sx.wa (h : Sx w zs a cap c1 c2 i wr) (k : Wa (w.heap.size + 1 + 1 + 1) wr wr') {j : Nat} (ba : Bk wr' (w.heap.size + 1 + 1 + 1) #[.int .i64 (j : Int)]) : Sx w zs a cap c1 c2 j wr' :=
  ⟨h.bl.wa k (by omega), h.br.wa k (by omega), h.bt.wa k (by omega), ba, h.on.wa k (by omega)⟩
theorem Sx.alloc (h : Sx w zs a cap c1 c2 i wr) (o : Obj) : Sx w zs a cap c1 c2 i (wr.alloc o) := ⟨h.bl.alloc o, h.br.alloc o, h.bt.alloc o, h.ba.alloc o, h.on.alloc o⟩
theorem Sx.drew (h : Sx w zs a cap c1 c2 i wr) : Sx w zs a cap c1 c2 i wr.drew := ⟨h.bl, h.br, h.bt, h.ba, h.on.drew⟩
theorem Sx.grown (h : Sx w zs a cap c1 c2 i wr) {v : Value} {base : Nat} (hg : wr.grownBy wr' v.ownBlock) (hb : w.heap.size + 1 + 1 + 1 < base) (hv : ∀ g, v.ownBlock = some g → base ≤ g) : Sx w zs a cap c1 c2 i wr' :=
  ⟨h.bl.grown hg (base := base) (by omega) hv, h.br.grown hg (base := base) (by omega) hv, h.bt.grown hg (base := base) (by omega) hv, h.ba.grown hg (base := base) (by omega) hv, h.on.grown hg (fun g hg => by have := hv g hg; omega)⟩
theorem Sx.step (h : Sx w zs a cap c1 c2 i wr) : Sx w zs a cap c1 c2 (i + 1) (wr.setCell ⟨w.heap.size + 1 + 1 + 1, 0, none⟩ (.int .i64 ((i + 1 : Nat) : Int))) :=
  h.wa ((Wa.refl _ _).setAt 0 _) (Bk.put (cs := [.int .i64 (i : Int)]) h.ba 0 _)
theorem Sx.size (h : Sx w zs a cap c1 c2 i wr) : w.heap.size + 1 + 1 + 1 < wr.heap.size := h.ba.lt
theorem Sx.put1 (h : Sx w zs a cap c1 c2 i wr) (v : Value) : Sx w zs a cap v c2 i (wr.setCell ⟨w.heap.size + 1 + 1, 1, none⟩ v) :=
  ⟨h.bl.far (by omega) _ _, h.br.far (by omega) _ _, Bk.put (cs := [.string ⟨#[116]⟩, c1, c2, .int .i64 0, .slice none 0 0]) h.bt 1 v, h.ba.far (by omega) _ _, h.on.setNew (by omega) v⟩
theorem Sx.put2 (h : Sx w zs a cap c1 c2 i wr) (v : Value) : Sx w zs a cap c1 v i (wr.setCell ⟨w.heap.size + 1 + 1, 2, none⟩ v) :=
  ⟨h.bl.far (by omega) _ _, h.br.far (by omega) _ _, Bk.put (cs := [.string ⟨#[116]⟩, c1, c2, .int .i64 0, .slice none 0 0]) h.bt 2 v, h.ba.far (by omega) _ _, h.on.setNew (by omega) v⟩
theorem sx_start (w : World) (zs : List Int) (a : Option Addr) (cap : Nat) (T1 T2 T3 T4 : TypeId) : Sx w zs a cap (.slice none 0 0) (.slice none 0 0) 0 ((((w.alloc (.cells #[.slice a zs.length cap] T1)).alloc (.cells #[.string ⟨#[]⟩, .slice none 0 0, .slice none 0 0, .int .i64 0, .slice none 0 0] T2)).alloc (.cells #[.string ⟨#[116]⟩, .slice none 0 0, .slice none 0 0, .int .i64 0, .slice none 0 0] T3)).alloc (.cells #[.int .i64 0] T4)) := by
  refine ⟨(((Bk.new w _ _).alloc _).alloc _).alloc _, ?_, ?_, ?_, ((((On.refl w).alloc _).alloc _).alloc _).alloc _⟩
  · have := Bk.new (w.alloc (.cells #[.slice a zs.length cap] T1)) #[.string ⟨#[]⟩, .slice none 0 0, .slice none 0 0, .int .i64 0, .slice none 0 0] T2
    rw [World.size_alloc] at this
    exact (this.alloc _).alloc _
  · have := Bk.new ((w.alloc (.cells #[.slice a zs.length cap] T1)).alloc (.cells #[.string ⟨#[]⟩, .slice none 0 0, .slice none 0 0, .int .i64 0, .slice none 0 0] T2)) #[.string ⟨#[116]⟩, .slice none 0 0, .slice none 0 0, .int .i64 0, .slice none 0 0] T3
    rw [World.size_alloc, World.size_alloc] at this
    exact this.alloc _
  · have := Bk.new (((w.alloc (.cells #[.slice a zs.length cap] T1)).alloc (.cells #[.string ⟨#[]⟩, .slice none 0 0, .slice none 0 0, .int .i64 0, .slice none 0 0] T2)).alloc (.cells #[.string ⟨#[116]⟩, .slice none 0 0, .slice none 0 0, .int .i64 0, .slice none 0 0] T3)) #[.int .i64 0] T4
    rw [World.size_alloc, World.size_alloc, World.size_alloc] at this
    exact this
end
abbrev thrO (w : World) (base : Nat) (v : Value) (LL : List (List InsT)) : Prop := Own2 insC 9 48 52 w base v LL
/-- The closure's next number, in such a world. -/
theorem Sx.next {w wr : World} {zs : List Int} {a : Option Addr} {cap : Nat} {c1 c2 : Value} {i : Nat} (h : Sx w zs a cap c1 c2 i wr) (hi : i < 1000) (hz : zs.length ≤ 9223372036854775807) (hr : Rd intC 1 w (.slice a zs.length cap) zs) :
    Calls Tryz.prog 22 #[.pointer (some ⟨w.heap.size + 1 + 1 + 1, 0, none⟩), .pointer (some ⟨w.heap.size, 0, none⟩)] wr fun e w' => e = .returned (.int .i64 (nxtV zs i : Nat)) ∧ Sx w zs a cap c1 c2 (i + 1) w' ∧ Wa (w.heap.size + 1 + 1 + 1) wr w' := by
  refine (next_is zs a cap i (w.heap.size + 1 + 1 + 1) w.heap.size w wr hi hz h.ba h.bl (by omega) h.on (by omega) hr).mono ?_
  rintro e w' ⟨rfl, rfl⟩
  exact ⟨rfl, h.step, (Wa.refl _ _).setAt 0 _⟩
end Go.Proofs.YtacflahkofmcpaaGreatDoor.Wl

namespace Go.Proofs.YtacflahkofmcpaaGreatDoor.Wl
open Go.RowKit

theorem infoIns : (Tryz.prog.info? 52).map (fun i => (i.zero, i.size, i.bytes)) = some (some (.agg #[.int .i64 0, .int .i64 0, .int .i64 0, .int .i64 0, .int .i64 0, .int .i64 0, .int .i64 0, .int .i64 0, .int .i64 0]), 9, 72) := by kernel_rfl
theorem infoThr : (Tryz.prog.info? 48).map (fun i => (i.zero, i.size, i.bytes)) = some (some (.slice none 0 0), 1, 24) := by kernel_rfl
theorem infoInit : (Tryz.prog.info? 55).map (fun i => (i.zero, i.size, i.bytes)) = some (some (.agg #[.int .i64 0, .int .i64 0]), 2, 16) := by kernel_rfl
abbrev iniO (w : World) (base : Nat) (v : Value) (L : List InitT) : Prop := w.ownsRow base 55 2 v L.length (L.flatMap iniC)
theorem news_at (w : World) (cs : Array Value) (e : TypeId) : ∀ (j : Nat) (u : Value), cs.toList[j]? = some u → (w.alloc (.cells cs e)).cell? ((⟨w.heap.size, 0, none⟩ : Addr).add j) = some u := by
  intro j u hu
  rw [new_cell]
  exact hu
theorem one_ini (x y : Int) : ∀ u ∈ iniC ⟨x, y⟩, u.oneCell' = true := by
  intro u hu
  simp only [iniC, List.mem_cons, List.not_mem_nil, or_false] at hu
  rcases hu with rfl | rfl <;> rfl
theorem one_max : 0 + 1 ≤ maxLen := by decide
theorem one_bytes : (0 + 1) * 16 ≤ 140737488355328 := by decide
theorem base_alloc {b : Nat} {w : World} (h : b ≤ w.heap.size) (o : Obj) : b ≤ (w.alloc o).heap.size := by simp; omega
theorem own_set {w : World} {base k n N : Nat} {e : TypeId} {v : Value} {xs : List Value} (h : w.ownsRow base e k v n xs) (hN : N < base) (i : Nat) (u : Value) : (w.setCell ⟨N, i, none⟩ u).ownsRow base e k v n xs :=
  ownsRow_setCell_other h (fun hg => by have := (h.lt N hg).1; omega) u
theorem Own2.set {α : Type} {C : α → List Value} {k : Nat} {eo ei : TypeId} {w : World} {base N : Nat} {v : Value} {LL : List (List α)} (h : Own2 C k eo ei w base v LL) (hN : N < base) (i : Nat) (u : Value) : Own2 C k eo ei (w.setCell ⟨N, i, none⟩ u) base v LL := by
  obtain ⟨vs, h1, h2, h3⟩ := h
  exact ⟨vs, h1, own_set h2 hN i u, fun j x L a b => own_set (h3 j x L a b) hN i u⟩
theorem own_puts {base k n N : Nat} {e : TypeId} {v : Value} {xs : List Value} : ∀ (vs : List Value) (w : World) (o : Nat), w.ownsRow base e k v n xs → N < base → (putCells w N o vs).ownsRow base e k v n xs
  | [], _, _, h, _ => h
  | u :: vs, _, o, h, hN => own_puts vs _ _ (own_set h hN o u) hN
theorem Own2.puts {α : Type} {C : α → List Value} {k : Nat} {eo ei : TypeId} {base N : Nat} {v : Value} {LL : List (List α)} : ∀ (vs : List Value) (w : World) (o : Nat), Own2 C k eo ei w base v LL → N < base → Own2 C k eo ei (putCells w N o vs) base v LL
  | [], _, _, h, _ => h
  | u :: vs, _, o, h, hN => Own2.puts vs _ _ (h.set hN o u) hN
theorem one_slice (a : Option Addr) (m c : Nat) : ∀ u ∈ [Value.slice a m c], u.oneCell' = true := by
  intro u hu
  simp only [List.mem_cons, List.not_mem_nil, or_false] at hu
  subst hu
  rfl
theorem none_own {b : Nat} : ∀ g, (Value.slice none 0 0).ownBlock = some g → b ≤ g := fun g h => by cases h
theorem news_two (w : World) (o : Obj) (cs : Array Value) (e : TypeId) : ∀ (j : Nat) (u : Value), cs.toList[j]? = some u → ((w.alloc o).alloc (.cells cs e)).cell? ((⟨w.heap.size + 1, 0, none⟩ : Addr).add j) = some u := by
  intro j u hu
  have := new_cell (w.alloc o) cs e j
  rw [World.size_alloc] at this
  rw [this]
  exact hu
theorem one_ins (x : InsT) : ∀ u ∈ insC x, u.oneCell' = true := by
  intro u hu
  simp only [insC, List.mem_cons, List.not_mem_nil, or_false] at hu
  rcases hu with rfl | rfl | rfl | rfl | rfl | rfl | rfl | rfl | rfl <;> rfl
theorem one_ins2 (x y : InsT) : ∀ u ∈ insC x ++ insC y, u.oneCell' = true := by
  intro u hu
  rcases List.mem_append.1 hu with h | h
  · exact one_ins x u h
  · exact one_ins y u h
abbrev zIns : Value := .agg #[.int .i64 0, .int .i64 0, .int .i64 0, .int .i64 0, .int .i64 0, .int .i64 0, .int .i64 0, .int .i64 0, .int .i64 0]
abbrev anyO (w : World) (base : Nat) (v : Value) (LL : List (List AtomT)) : Prop := Own2 atomC 4 59 58 w base v LL
/-- v is this test, in rows of its own. -/
def TOwn (w : World) (base : Nat) (v : Value) (t : TestT) : Prop :=
  ∃ a1 c1 a2 c2 a3 c3, v = .agg #[.string t.name, .slice a1 t.ini.length c1, .slice a2 t.thr.length c2, .int .i64 t.cond.k, .slice a3 t.cond.any.length c3] ∧ iniO w base (.slice a1 t.ini.length c1) t.ini ∧ thrO w base (.slice a2 t.thr.length c2) t.thr ∧ anyO w base (.slice a3 t.cond.any.length c3) t.cond.any
theorem Own2.mono {α : Type} {C : α → List Value} {k : Nat} {eo ei : TypeId} {w : World} {base base' : Nat} {v : Value} {LL : List (List α)} (h : Own2 C k eo ei w base v LL) (hb : base' ≤ base) : Own2 C k eo ei w base' v LL := by
  obtain ⟨vs, h1, h2, h3⟩ := h
  exact ⟨vs, h1, own_mono h2 hb, fun i u L a b => own_mono (h3 i u L a b) hb⟩
theorem flat_len {α : Type} {C : α → List Value} {k : Nat} (hC : ∀ x, (C x).length = k) : ∀ L : List α, (L.flatMap C).length = L.length * k
  | [] => by simp
  | x :: L => by rw [List.flatMap_cons, List.length_append, hC, flat_len hC L, List.length_cons, Nat.succ_mul, Nat.add_comm]
theorem own_bk {α : Type} {C : α → List Value} {k : Nat} (hC : ∀ x, (C x).length = k) {w : World} {N base : Nat} {e : TypeId} {L : List α} (h : w.heap[N]? = some (.cells (L.flatMap C).toArray e (0, 0))) (hb : base ≤ N) (hm : L.length ≤ maxLen) : w.ownsRow base e k (.slice (some ⟨N, 0, none⟩) L.length L.length) L.length (L.flatMap C) := by
  have hl := flat_len hC L
  refine ⟨hl, Or.inr ⟨N, L.length, _, rfl, hb, h, Nat.le_refl _, hm, by simpa using hl, ?_⟩⟩
  rw [List.take_of_length_le (by simp [hl])]
theorem any_new (W : World) (n base : Nat) (hn : W.heap.size = n) (hb : base ≤ n) (R1 R2 : List AtomT) (h1 : R1.length ≤ maxLen) (h2 : R2.length ≤ maxLen) (eo ei : TypeId) :
    Own2 atomC 4 eo ei (((W.alloc (.cells (R1.flatMap atomC).toArray ei)).alloc (.cells (R2.flatMap atomC).toArray ei)).alloc (.cells #[.slice (some ⟨n, 0, none⟩) R1.length R1.length, .slice (some ⟨n + 1, 0, none⟩) R2.length R2.length] eo)) base (.slice (some ⟨n + 1 + 1, 0, none⟩) 2 2) [R1, R2] := by
  subst hn
  have a1 := own_bk (C := atomC) (k := 4) (fun _ => rfl) (base := base) (L := R1) (heap_alloc_new W (.cells (R1.flatMap atomC).toArray ei)) hb h1
  have a2 := own_bk (C := atomC) (k := 4) (fun _ => rfl) (base := base) (L := R2) (heap_alloc_new (W.alloc (.cells (R1.flatMap atomC).toArray ei)) (.cells (R2.flatMap atomC).toArray ei)) (by rw [World.size_alloc]; omega) h2
  rw [World.size_alloc] at a2
  have a3 := own_bk (C := oneC) (k := 1) (fun _ => rfl) (base := base) (L := [.slice (some ⟨W.heap.size, 0, none⟩) R1.length R1.length, .slice (some ⟨W.heap.size + 1, 0, none⟩) R2.length R2.length]) (heap_alloc_new ((W.alloc (.cells (R1.flatMap atomC).toArray ei)).alloc (.cells (R2.flatMap atomC).toArray ei)) (.cells #[.slice (some ⟨W.heap.size, 0, none⟩) R1.length R1.length, .slice (some ⟨W.heap.size + 1, 0, none⟩) R2.length R2.length] eo)) (by rw [World.size_alloc, World.size_alloc]; omega) (by show 2 ≤ maxLen; decide)
  rw [World.size_alloc, World.size_alloc] at a3
  refine ⟨[.slice (some ⟨W.heap.size, 0, none⟩) R1.length R1.length, .slice (some ⟨W.heap.size + 1, 0, none⟩) R2.length R2.length], rfl, a3, fun i u L hi hL => ?_⟩
  match i, hi, hL with
  | 0, hi, hL =>
    simp only [List.getElem?_cons_zero, Option.some.injEq] at hi hL
    subst hi; subst hL
    exact (a1.alloc _).alloc _
  | 1, hi, hL =>
    simp only [List.getElem?_cons_succ, List.getElem?_cons_zero, Option.some.injEq] at hi hL
    subst hi; subst hL
    exact a2.alloc _
  | i + 2, hi, _ => simp at hi
end Go.Proofs.YtacflahkofmcpaaGreatDoor.Wl
