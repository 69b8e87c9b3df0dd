/- The lowest bits of a number. -/
import Derived.Test.YtplihlmejnohnaaGreatDoorJ13Math
import Derived.Test.YtplihlmejnohnaaGreatDoorJ00Heap
namespace Go.Proofs.YtplihlmejnohnaaGreatDoor
open Go.RowKit

theorem i64_low (n : Int) (p : Nat) (m : Int) (hm : (BitVec.ofInt 64 m).toNat = 2 ^ p - 1) (hp : p ≤ 62) : ∃ k : Nat, k < 2 ^ p ∧ bits .and .i64 n m = (k : Int) ∧ (k : Int) = n % ((2 ^ p : Nat) : Int) := by
  have key : (BitVec.ofInt 64 n &&& BitVec.ofInt 64 m).toNat = (n % ((2 ^ 64 : Nat) : Int)).toNat % 2 ^ p := by
    rw [BitVec.toNat_and, BitVec.toNat_ofInt, hm, Nat.and_two_pow_sub_one_eq_mod]
  have hlt : (n % ((2 ^ 64 : Nat) : Int)).toNat % 2 ^ p < 2 ^ p := Nat.mod_lt _ (Nat.two_pow_pos p)
  have h62 : 2 ^ p ≤ 2 ^ 62 := Nat.pow_le_pow_right (by decide) hp
  refine ⟨_, hlt, ?_, ?_⟩
  · show IntKind.i64.wrap ((BitVec.ofInt 64 n &&& BitVec.ofInt 64 m).toNat : Nat) = _
    rw [key, IntKind.wrap_i64]
    generalize (n % ((2 ^ 64 : Nat) : Int)).toNat % 2 ^ p = x at *
    have : x < 2 ^ 62 := by omega
    omega
  · rw [Int.natCast_emod]
    have h0 : 0 ≤ n % ((2 ^ 64 : Nat) : Int) := Int.emod_nonneg _ (by decide)
    rw [Int.toNat_of_nonneg h0]
    have hd : ((2 ^ p : Nat) : Int) ∣ ((2 ^ 64 : Nat) : Int) := Int.natCast_dvd_natCast.2 (Nat.pow_dvd_pow 2 (by omega))
    exact Int.emod_emod_of_dvd n hd
theorem low2 (n : Int) : ∃ k : Nat, k < 4 ∧ bits .and .i64 n 3 = (k : Int) := by obtain ⟨k, h, e, _⟩ := i64_low n 2 3 (by decide) (by decide); exact ⟨k, h, e⟩
theorem low3 (n : Int) : ∃ k : Nat, k < 8 ∧ bits .and .i64 n 7 = (k : Int) := by obtain ⟨k, h, e, _⟩ := i64_low n 3 7 (by decide) (by decide); exact ⟨k, h, e⟩
theorem low4 (n : Int) : ∃ k : Nat, k < 16 ∧ bits .and .i64 n 15 = (k : Int) := by obtain ⟨k, h, e, _⟩ := i64_low n 4 15 (by decide) (by decide); exact ⟨k, h, e⟩
theorem low8 (n : Int) : ∃ k : Nat, k < 256 ∧ bits .and .i64 n 255 = (k : Int) := by obtain ⟨k, h, e, _⟩ := i64_low n 8 255 (by decide) (by decide); exact ⟨k, h, e⟩
theorem low16 (n : Int) : bits .and .i64 n 65535 = ((n % 65536).toNat : Int) := by
  obtain ⟨k, h, e, f⟩ := i64_low n 16 65535 (by decide) (by decide)
  have f' : (k : Int) = n % 65536 := f
  rw [e]; omega
end Go.Proofs.YtplihlmejnohnaaGreatDoor

namespace Go.Proofs.YtplihlmejnohnaaGreatDoor

/-- The number at a place, its lowest bits. -/
def nxtV (l : List Int) (i : Nat) : Nat := (l.getD i 0 % 65536).toNat
theorem nxtV_lt (l : List Int) (i : Nat) : nxtV l i < 65536 := by unfold nxtV; omega
def opdOf (x : Nat) : Opd := if x / 256 % 3 = 0 then ⟨(x / 1024 % 2 : Nat), 0⟩ else ⟨-1, (x / 64 % 3 : Nat)⟩
def locOf (locs x : Nat) : Int := (120 + x / 16 % locs : Nat)
def regOf (x : Nat) : Int := (x / 2048 % 2 : Nat)
def insOf (locs x : Nat) : List InsT :=
  if x % 12 < 4 then [⟨1, 0, locOf locs x, opdOf x, 0, ⟨0, 0⟩, 0⟩]
  else if x % 12 < 8 then [⟨2, regOf x, locOf locs x, ⟨0, 0⟩, 0, ⟨0, 0⟩, 0⟩]
  else if x % 12 = 8 then [⟨3, 0, 0, ⟨0, 0⟩, 0, ⟨0, 0⟩, 0⟩]
  else if x % 12 = 9 then [⟨4, regOf x, locOf locs x, opdOf x, 0, ⟨-1, 1⟩, 0⟩]
  else if x % 12 = 10 then [⟨5, regOf x, 0, opdOf x, 6, ⟨-1, 1⟩, 0⟩]
  else [⟨6, 0, 0, opdOf x, 0, ⟨-1, 0⟩, 1⟩, ⟨1, 0, locOf locs x, ⟨-1, 2⟩, 0, ⟨0, 0⟩, 0⟩]
def memOf (x : Nat) : Nat := if x % 12 = 8 ∨ x % 12 = 10 then 0 else 1
/-- A thread: its instructions, the next number's place, how often memory was touched. -/
def rowFrom (l : List Int) (most locs : Nat) : Nat → Nat → Nat → List InsT × Nat × Nat
  | 0, at', mem => ([], at', mem)
  | k + 1, at', mem =>
    if mem < most then (insOf locs (nxtV l at') ++ (rowFrom l most locs k (at' + 1) (mem + memOf (nxtV l at'))).1, (rowFrom l most locs k (at' + 1) (mem + memOf (nxtV l at'))).2)
    else ([], at', mem)
def thrFrom (l : List Int) (most locs : Nat) : Nat → Nat → Nat → List (List InsT) × Nat
  | 0, at', _ => ([], at')
  | n + 1, at', mem =>
    ((rowFrom l most locs (nxtV l at' % 3 + 1) (at' + 1) mem).1 :: (thrFrom l most locs n (rowFrom l most locs (nxtV l at' % 3 + 1) (at' + 1) mem).2.1 (rowFrom l most locs (nxtV l at' % 3 + 1) (at' + 1) mem).2.2).1,
      (thrFrom l most locs n (rowFrom l most locs (nxtV l at' % 3 + 1) (at' + 1) mem).2.1 (rowFrom l most locs (nxtV l at' % 3 + 1) (at' + 1) mem).2.2).2)
def anyOf (x : Nat) : List (List AtomT) := [[⟨0, (x / 8 % 2 : Nat), 0, (x / 16 % 2 : Nat)⟩], [⟨-1, 0, 120, (x / 32 % 3 : Nat)⟩, ⟨1, 0, 0, (x / 128 % 2 : Nat)⟩]]
def condOf (x : Nat) : CondT := if x % 3 = 0 then ⟨(x / 3 % 2 + 1 : Nat), anyOf x⟩ else ⟨0, []⟩
def iniOf (l : List Int) : List InitT := if nxtV l 2 % 4 = 0 then [⟨120, (nxtV l 3 % 3 : Nat)⟩] else []
def iniTo (l : List Int) : Nat := if nxtV l 2 % 4 = 0 then 4 else 3
def thrOf (l : List Int) (most : Nat) : List (List InsT) × Nat := thrFrom l most (nxtV l 1 % 2 + 2) (nxtV l 0 % 2 + 2) (iniTo l) 0
def smallP (l : List Int) (most : Nat) : TestT := ⟨⟨#[116]⟩, iniOf l, (thrOf l most).1, condOf (nxtV l (thrOf l most).2)⟩

/-- Letters x, y, z alone. -/
def xyz (l : Int) : Prop := l = 0 ∨ l = 120 ∨ l = 121 ∨ l = 122
theorem locOf_xyz {locs : Nat} (h : locs = 2 ∨ locs = 3) (x : Nat) : xyz (locOf locs x) ∧ locOk (locOf locs x) = true := by
  unfold locOf xyz locOk
  rcases h with rfl | rfl <;> refine ⟨by omega, ?_⟩ <;> simp <;> omega
theorem opdOf_ok (x : Nat) : opdOk (opdOf x) = true := by
  unfold opdOf opdOk regOk
  split <;> simp <;> omega
theorem regOf_ok (x : Nat) : regOk (regOf x) = true := by
  unfold regOf regOk; simp; omega
theorem insOf_ok {locs : Nat} (h : locs = 2 ∨ locs = 3) (x : Nat) : (insOf locs x).all insOk = true ∧ (insOf locs x).length ≤ 2 ∧ (∀ i ∈ insOf locs x, xyz i.l) := by
  have hl := locOf_xyz h x
  have ho := opdOf_ok x
  have hr := regOf_ok x
  have h12 : opdOk ⟨-1, 1⟩ = true := by decide
  have h10 : opdOk ⟨-1, 0⟩ = true := by decide
  have h22 : opdOk ⟨-1, 2⟩ = true := by decide
  have hs : secOk 6 ⟨-1, 1⟩ = true := by decide
  have x0 : xyz 0 := Or.inl rfl
  unfold insOf
  repeat' split
  all_goals simp [insOk, hl, ho, hr, h12, h10, h22, hs, x0]
theorem insOf_skip {locs : Nat} (x : Nat) (r : List InsT) (h : skipBad r = false) : skipBad (insOf locs x ++ r) = false := by
  unfold insOf
  repeat' split
  all_goals simp [skipBad, h]
  omega
theorem rowFrom_ok (l : List Int) (most : Nat) {locs : Nat} (h : locs = 2 ∨ locs = 3) : ∀ k at' mem, ((rowFrom l most locs k at' mem).1.all insOk = true ∧ (rowFrom l most locs k at' mem).1.length ≤ 2 * k ∧ (∀ i ∈ (rowFrom l most locs k at' mem).1, xyz i.l)) ∧ skipBad (rowFrom l most locs k at' mem).1 = false
  | 0, at', mem => by simp [rowFrom, skipBad]
  | k + 1, at', mem => by
    unfold rowFrom
    split
    · obtain ⟨⟨a, b, c⟩, d⟩ := rowFrom_ok l most h k (at' + 1) (mem + memOf (nxtV l at'))
      obtain ⟨a', b', c'⟩ := insOf_ok h (nxtV l at')
      refine ⟨⟨by simp only [List.all_append, a, a', Bool.and_self], by simp only [List.length_append]; omega, fun i hi => ?_⟩, insOf_skip _ _ d⟩
      rcases List.mem_append.1 hi with hi | hi
      · exact c' i hi
      · exact c i hi
    · simp [skipBad]
theorem thrFrom_ok (l : List Int) (most : Nat) {locs : Nat} (h : locs = 2 ∨ locs = 3) : ∀ n at' mem, (thrFrom l most locs n at' mem).1.length = n ∧ ∀ L ∈ (thrFrom l most locs n at' mem).1, (L.all insOk = true ∧ L.length ≤ 6 ∧ (∀ i ∈ L, xyz i.l)) ∧ skipBad L = false
  | 0, at', mem => by simp [thrFrom]
  | n + 1, at', mem => by
    unfold thrFrom
    obtain ⟨ih1, ih2⟩ := thrFrom_ok l most h n (rowFrom l most locs (nxtV l at' % 3 + 1) (at' + 1) mem).2.1 (rowFrom l most locs (nxtV l at' % 3 + 1) (at' + 1) mem).2.2
    obtain ⟨⟨a, b, c⟩, d⟩ := rowFrom_ok l most h (nxtV l at' % 3 + 1) (at' + 1) mem
    refine ⟨by simp [ih1], fun L hL => ?_⟩
    rcases List.mem_cons.1 hL with rfl | hL
    · exact ⟨⟨a, by omega, c⟩, d⟩
    · exact ih2 L hL

/-- No letter but x, y, z. -/
def hiN (n : Nat) : Prop := ∃ a, a < 8 ∧ n = a * 8388608
theorem withL_hi {n : Nat} (h : hiN n) {l : Int} (hl : xyz l) : hiN (withL n l) := by
  obtain ⟨a, ha, rfl⟩ := h
  have key : ∀ (a : Fin 8), hiN (a.val * 8388608 ||| 8388608) ∧ hiN (a.val * 8388608 ||| 16777216) ∧ hiN (a.val * 8388608 ||| 33554432) := by
    have : ∀ (a : Fin 8), (∃ b : Fin 8, (a.val * 8388608 ||| 8388608) = b.val * 8388608) ∧ (∃ b : Fin 8, (a.val * 8388608 ||| 16777216) = b.val * 8388608) ∧ (∃ b : Fin 8, (a.val * 8388608 ||| 33554432) = b.val * 8388608) := by decide +kernel
    intro a
    obtain ⟨⟨b, hb⟩, ⟨c, hc⟩, ⟨d, hd⟩⟩ := this a
    exact ⟨⟨b, b.2, hb⟩, ⟨c, c.2, hc⟩, ⟨d, d.2, hd⟩⟩
  obtain ⟨k1, k2, k3⟩ := key ⟨a, ha⟩
  have e1 : (2 : Nat) ^ ((120 : Int) - 97).toNat = 8388608 := by decide
  have e2 : (2 : Nat) ^ ((121 : Int) - 97).toNat = 16777216 := by decide
  have e3 : (2 : Nat) ^ ((122 : Int) - 97).toNat = 33554432 := by decide
  rcases hl with rfl | rfl | rfl | rfl
  · exact ⟨a, ha, by unfold withL; rw [if_neg (by decide)]⟩
  · unfold withL; rw [if_pos (by decide), e1]; exact k1
  · unfold withL; rw [if_pos (by decide), e2]; exact k2
  · unfold withL; rw [if_pos (by decide), e3]; exact k3
theorem foldHi {α : Type} (f : α → Int) : ∀ (L : List α) (n : Nat), hiN n → (∀ x ∈ L, xyz (f x)) → hiN (L.foldl (fun n x => withL n (f x)) n)
  | [], _, h, _ => h
  | x :: L, n, h, hL => foldHi f L _ (withL_hi h (hL x (by simp))) (fun y hy => hL y (by simp [hy]))
theorem foldHi2 {α : Type} (f : α → Int) : ∀ (LL : List (List α)) (n : Nat), hiN n → (∀ L ∈ LL, ∀ x ∈ L, xyz (f x)) → hiN (LL.foldl (fun n L => L.foldl (fun n x => withL n (f x)) n) n)
  | [], _, h, _ => h
  | L :: LL, n, h, hL => foldHi2 f LL _ (foldHi f L n h (hL L (by simp))) (fun M hM => hL M (by simp [hM]))
theorem cnt_hi {n : Nat} (h : hiN n) : cntN n ≤ 3 := by
  obtain ⟨a, ha, rfl⟩ := h
  have : ∀ a : Fin 8, cntN (a.val * 8388608) ≤ 3 := by decide +kernel
  exact this ⟨a, ha⟩
theorem sumL_le : ∀ (LL : List (List InsT)) (m n : Nat), (∀ L ∈ LL, L.length ≤ m) → LL.foldl (fun n L => n + L.length) n ≤ n + m * LL.length
  | [], m, n, _ => by simp
  | L :: LL, m, n, h => by
    have := sumL_le LL m (n + L.length) (fun M hM => h M (by simp [hM]))
    have h1 := h L (by simp)
    simp only [List.foldl_cons, List.length_cons, Nat.mul_add, Nat.mul_one]
    omega

section
variable (l : List Int) (most : Nat)
theorem iniOf_ok : (iniOf l).all initOk = true ∧ (iniOf l).length ≤ 1 ∧ (∀ i ∈ iniOf l, xyz i.l) := by
  unfold iniOf; split <;> simp [initOk, locOk, xyz]
theorem condOf_ok (x : Nat) : condOk (condOf x) = true ∧ (∀ L ∈ (condOf x).any, ∀ i ∈ L, xyz i.l) := by
  unfold condOf anyOf
  split
  · refine ⟨?_, ?_⟩
    · simp [condOk, rowOk, atomOk, regOk, locOk]
      omega
    · simp [xyz]
  · simp [condOk]
theorem thrOf_ok : (thrOf l most).1.length = nxtV l 0 % 2 + 2 ∧ ∀ L ∈ (thrOf l most).1, (L.all insOk = true ∧ L.length ≤ 6 ∧ (∀ i ∈ L, xyz i.l)) ∧ skipBad L = false :=
  thrFrom_ok l most (by omega) _ _ _
/-- It may be. -/
theorem small_ok : testOk (smallP l most) = true := by
  obtain ⟨h1, h2⟩ := thrOf_ok l most
  unfold testOk smallP
  have hw : wordOk ⟨#[116]⟩ = true := by decide
  simp only [hw, (iniOf_ok l).1, (condOf_ok _).1, Bool.and_true, Bool.true_and, List.all_eq_true]
  intro L hL
  exact (h2 L hL).1.1
theorem small_locs : hiN (locsN (smallP l most)) := by
  unfold locsN smallP
  refine foldHi2 (fun x : AtomT => x.l) _ _ (foldHi2 (fun x : InsT => x.l) _ _ (foldHi (fun x : InitT => x.l) _ _ ⟨0, by omega, rfl⟩ (iniOf_ok l).2.2) ?_) ?_
  · exact fun L hL => ((thrOf_ok l most).2 L hL).1.2.2
  · exact (condOf_ok _).2
theorem big_thr (LL : List (List InsT)) (h1 : 1 ≤ LL.length) (h3 : LL.length ≤ 3) (h : ∀ L ∈ LL, L.length ≤ 6) : thrBig LL = false := by
  have hs : sumL LL ≤ 0 + 6 * LL.length := sumL_le LL 6 0 h
  have ha : LL.any (fun L => decide (10 < L.length)) = false := by
    rw [List.any_eq_false]
    intro L hL
    have := h L hL
    simp; omega
  unfold thrBig
  rw [ha]
  simp
  exact ⟨⟨by intro h; subst h; simp at h1, by omega⟩, by omega⟩
/-- It is small enough. -/
theorem small_check : checkT (smallP l most) = 0 := by
  obtain ⟨h1, h2⟩ := thrOf_ok l most
  have hb : bigT (smallP l most) = false := by
    have hc := cnt_hi (small_locs l most)
    unfold bigT
    have e1 : thrBig (smallP l most).thr = false := big_thr _ (by show 1 ≤ (thrOf l most).1.length; omega) (by show (thrOf l most).1.length ≤ 3; omega) (fun L hL => (h2 L hL).1.2.1)
    have e2 : condBig (smallP l most).cond.any = false := by
      show condBig (condOf _).any = false
      unfold condOf anyOf
      split <;> rfl
    have e3 : decide (20 < (smallP l most).name.size) = false := rfl
    rw [e1, e2, e3]
    simp
    omega
  have ht : twiceFrom 0 (smallP l most).ini = false := by
    show twiceFrom 0 (iniOf l) = false
    unfold iniOf
    split <;> simp [twiceFrom, withL]
  have hn : nowhere (smallP l most) = false := by
    unfold nowhere
    have e1 : (smallP l most).thr.any skipBad = false := by
      rw [List.any_eq_false]
      intro L hL
      rw [(h2 L hL).2]
      simp
    rw [e1]
    show (false || (condOf _).any.any fun L => L.any (farAtom (thrOf l most).1.length)) = false
    unfold condOf anyOf
    split
    · simp [farAtom, h1]; omega
    · simp
  unfold checkT
  rw [small_ok, hb, ht, hn]
  rfl
end
end Go.Proofs.YtplihlmejnohnaaGreatDoor
