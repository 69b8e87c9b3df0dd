/- The instruction of noughts (its texts lie in StepL). -/
import Derived.Test.YtplihlmejnohnaaGreatDoorJ06StepD
import Derived.Test.YtplihlmejnohnaaGreatDoorJ04StepA
import Derived.Test.YtplihlmejnohnaaGreatDoorJ02OwnR
import Derived.Deep.LoopGhost
import Derived.Laws.BitsAllLaws
import Derived.Deep.QuietTactic
import Derived.BigQuiet
import Derived.Lib.Tables
import Derived.Lib.BitFns
import Derived.Test.YtplihlmejnohnaaGreatDoorJ00Heap

namespace Go.Proofs.YtplihlmejnohnaaGreatDoor
open Go.RowKit

theorem withL_lt {n : Nat} (h : n < 67108864) (l : Int) : withL n l < 67108864 := by
  unfold withL
  split
  · exact Nat.or_lt_two_pow (n := 26) h (Nat.pow_lt_pow_right (by decide) (by omega))
  · exact h
theorem bor_at {n : Nat} {l : Int} (hn : n < 67108864) (h0 : 97 ≤ l) (h1 : l ≤ 122) : bits .or .u32 (n : Int) (2 ^ (l - 97).toNat % 4294967296) = (withL n l : Nat) := by
  unfold withL
  rw [if_pos ⟨h0, h1⟩]
  have hp : (2 : Nat) ^ (l - 97).toNat < 67108864 := Nat.pow_lt_pow_right (a := 2) (n := 26) (by decide) (by omega)
  have e : ((2 : Int) ^ (l - 97).toNat % 4294967296) = ((2 ^ (l - 97).toNat : Nat) : Int) := by
    have e' : ((2 ^ (l - 97).toNat : Nat) : Int) = (2 : Int) ^ (l - 97).toNat := by push_cast; rfl
    rw [← e']
    exact Int.emod_eq_of_lt (Int.natCast_nonneg _) (by omega)
  rw [e]
  exact u32_or_nat _ _ (by omega) (by omega)
set_option maxHeartbeats 1000000 in
theorem wwith_is (n : Nat) (l : Int) (hn : n < 67108864) (w : World) :
    Calls Tryz.prog 116 #[.int .u32 n, .int .i64 l] w fun e w' => e = .returned (.int .u32 (withL n l : Nat)) ∧ w' = w := by
  by_cases h0 : 97 ≤ l
  · by_cases h1 : l ≤ 122
    · have hb := bor_at hn h0 h1
      go_enter Tryz.func116, Tryz.ntmps116
      go_wp2
      go_ret
      exact ⟨rfl, rfl⟩
    · have e : withL n l = n := by unfold withL; rw [if_neg (by omega)]
      rw [e]
      go_enter Tryz.func116, Tryz.ntmps116
      go_wp2
      go_ret
      exact ⟨rfl, rfl⟩
  · have e : withL n l = n := by unfold withL; rw [if_neg (by omega)]
    rw [e]
    go_enter Tryz.func116, Tryz.ntmps116
    go_wp2
    go_ret
    exact ⟨rfl, rfl⟩
end Go.Proofs.YtplihlmejnohnaaGreatDoor

namespace Go.Proofs.YtplihlmejnohnaaGreatDoor
open Go.RowKit

theorem and255 (x : Nat) (h : x < 4294967296) : bits .and .u32 (x : Int) 255 = ((x % 256 : Nat) : Int) := by
  have := u32_and_nat x 255 h (by decide)
  rw [show x % 256 = x &&& 255 from (Nat.and_two_pow_sub_one_eq_mod x 8).symm]
  exact this
theorem wret_int {k : IntKind} {a b : Int} (h : a = b) : Ending.returned (.int k a) = .returned (.int k b) := by rw [h]
theorem pop_eq : ∀ m : Fin 256, Lib.pop8 (m.val : Int) = ((List.range 8).countP (fun i => m.val.testBit i) : Nat) := by decide +kernel
theorem pop_top : ∀ m : Fin 4, Lib.pop8 (m.val : Int) = ((List.range 2).countP (fun i => m.val.testBit i) : Nat) := by decide +kernel
theorem range26 : List.range 26 = List.range 8 ++ ((List.range 8).map (fun i => i + 8) ++ ((List.range 8).map (fun i => i + 16) ++ (List.range 2).map (fun i => i + 24))) := by decide +kernel
theorem bit_byte (n k i : Nat) (h : i < 8) : (n / 2 ^ k % 256).testBit i = n.testBit (i + k) := by
  rw [show 256 = 2 ^ 8 from rfl, Nat.testBit_mod_two_pow, Nat.testBit_div_two_pow]
  simp [h]
theorem count_byte (n k : Nat) : (List.range 8).countP (fun i => (n / 2 ^ k % 256).testBit i) = (List.range 8).countP (fun i => n.testBit (i + k)) :=
  List.countP_congr fun i hi => by rw [bit_byte n k i (by simpa using hi)]
theorem cnt_bytes (n m0 m1 m2 m3 : Nat) (hn : n < 67108864) (h0 : m0 = n / 16777216) (h1 : m1 = n / 65536 % 256) (h2 : m2 = n / 256 % 256) (h3 : m3 = n % 256) :
    (Lib.pop8 m0 + Lib.pop8 m1 + Lib.pop8 m2 + Lib.pop8 m3) % 256 = (cntN n : Nat) := by
  have e0 := pop_top ⟨m0, by omega⟩
  have e1 := pop_eq ⟨m1, by omega⟩
  have e2 := pop_eq ⟨m2, by omega⟩
  have e3 := pop_eq ⟨m3, by omega⟩
  simp only at e0 e1 e2 e3
  rw [e0, e1, e2, e3]
  have c1 := count_byte n 16
  have c2 := count_byte n 8
  have c3 := count_byte n 0
  have c0 : (List.range 2).countP (fun i => m0.testBit i) = (List.range 2).countP (fun i => n.testBit (i + 24)) :=
    List.countP_congr fun i hi => by rw [h0, show 16777216 = 2 ^ 24 from rfl, Nat.testBit_div_two_pow, Nat.add_comm]
  rw [show n / 2 ^ 16 % 256 = m1 from h1.symm] at c1
  rw [show n / 2 ^ 8 % 256 = m2 from h2.symm] at c2
  rw [show n / 2 ^ 0 % 256 = m3 by rw [h3, Nat.pow_zero, Nat.div_one]] at c3
  rw [c0, c1, c2, c3]
  unfold cntN
  rw [← List.countP_eq_length_filter, range26, List.countP_append, List.countP_append, List.countP_append, List.countP_map, List.countP_map, List.countP_map]
  simp only [Function.comp_def, Nat.add_zero]
  have l1 : ∀ (p : Nat → Bool) (k : Nat), (List.range k).countP p ≤ k := fun p k => by have := List.countP_le_length (p := p) (l := List.range k); simpa using this
  have b1 := l1 (fun i => n.testBit (i + 16)) 8
  have b2 := l1 (fun i => n.testBit (i + 8)) 8
  have b3 := l1 (fun i => n.testBit i) 8
  have b0 := l1 (fun i => n.testBit (i + 24)) 2
  omega
set_option maxHeartbeats 4000000 in
set_option maxRecDepth 20000 in
theorem wones_is (n : Nat) (hn : n < 67108864) (w : World) :
    Calls Tryz.prog 135 #[.int .u32 n] w fun e w' => e = .returned (.int .i64 (cntN n)) ∧ ∃ k, w' = w.drewN k := by
  obtain ⟨m0, hm0, H0, s0⟩ : ∃ m0 : Nat, m0 < 256 ∧ Hid (m0 = n / 16777216) ∧ (n : Int) / 16777216 = (m0 : Int) := ⟨n / 16777216, by omega, rfl, by omega⟩
  obtain ⟨m1, hm1, H1, s1⟩ : ∃ m1 : Nat, m1 < 256 ∧ Hid (m1 = n / 65536 % 256) ∧ bits .and .u32 ((n : Int) / 65536) 255 = (m1 : Int) := ⟨_, Nat.mod_lt _ (by decide), rfl, and255 (n / 65536) (by omega)⟩
  obtain ⟨m2, hm2, H2, s2⟩ : ∃ m2 : Nat, m2 < 256 ∧ Hid (m2 = n / 256 % 256) ∧ bits .and .u32 ((n : Int) / 256) 255 = (m2 : Int) := ⟨_, Nat.mod_lt _ (by decide), rfl, and255 (n / 256) (by omega)⟩
  obtain ⟨m3, hm3, H3, s3⟩ : ∃ m3 : Nat, m3 < 256 ∧ Hid (m3 = n % 256) ∧ bits .and .u32 (n : Int) 255 = (m3 : Int) := ⟨_, Nat.mod_lt _ (by decide), rfl, and255 n (by omega)⟩
  have b0 : (m0 : Int) ≤ 255 := by omega
  have b1 : (m1 : Int) ≤ 255 := by omega
  have b2 : (m2 : Int) ≤ 255 := by omega
  have b3 : (m3 : Int) ≤ 255 := by omega
  have c0 : (0 : Int) ≤ m0 := by omega
  have c1 : (0 : Int) ≤ m1 := by omega
  have c2 : (0 : Int) ≤ m2 := by omega
  have c3 : (0 : Int) ≤ m3 := by omega
  go_enter Tryz.func135, Tryz.ntmps135
  go_wp2
  simp only [List.append_eq, List.cons_append, List.nil_append, Lib.fold_pop8tab]
  go_quiet (fail)
  go_wp2
  go_ret
  exact ⟨wret_int (cnt_bytes n m0 m1 m2 m3 hn H0.out H1.out H2.out H3.out), _, rfl⟩
end Go.Proofs.YtplihlmejnohnaaGreatDoor

namespace Go.Proofs.YtplihlmejnohnaaGreatDoor
open Go.RowKit

theorem isRegister_is (n : Int) (w : World) :
    Calls Tryz.prog 147 #[.int .i64 n] w fun e w' => e = .returned (.bool (regOk n)) ∧ w' = w := by
  unfold regOk
  go_enter Tryz.func147, Tryz.ntmps147
  by_cases h0 : 0 ≤ n
  · go_wp2
    all_goals (try go_ret)
    all_goals exact ⟨by simp [h0], rfl⟩
  · go_wp2
    all_goals (try go_ret)
    all_goals exact ⟨by simp; intro h; omega, rfl⟩
theorem isLocation_is (n : Int) (w : World) :
    Calls Tryz.prog 126 #[.int .i64 n] w fun e w' => e = .returned (.bool (locOk n)) ∧ w' = w := by
  unfold locOk
  go_enter Tryz.func126, Tryz.ntmps126
  by_cases h0 : 97 ≤ n
  · go_wp2
    all_goals (try go_ret)
    all_goals exact ⟨by simp [h0], rfl⟩
  · go_wp2
    all_goals (try go_ret)
    all_goals exact ⟨by simp; intro h; omega, rfl⟩
set_option maxHeartbeats 400000 in
theorem okOperand_is (o : Opd) (w : World) :
    Calls Tryz.prog 146 #[.agg #[.int .i64 o.r, .int .i64 o.v]] w fun e w' => e = .returned (.bool (opdOk o)) ∧ On w w' := by
  obtain ⟨r, v⟩ := o
  unfold opdOk
  simp only
  have hR := fun W => isRegister_is r W
  cases h1 : (r == -1) with
  | true =>
    go_enter Tryz.func146, Tryz.ntmps146
    go_wp2
    all_goals (try go_ret)
    all_goals exact ⟨by simp, (On.refl w).alloc _⟩
  | false =>
    have hrr : ((r : Int) == r) = true := by simp
    cases h2 : (v == 0) with
    | true =>
      go_enter Tryz.func146, Tryz.ntmps146
      go_wp2_with fail
      refine (hR _).mono ?_
      rintro e w1 ⟨rfl, rfl⟩
      go_wp2
      all_goals (try go_ret)
      all_goals exact ⟨by simp, (On.refl w).alloc _⟩
    | false =>
      go_enter Tryz.func146, Tryz.ntmps146
      go_wp2
      all_goals (try go_ret)
      all_goals exact ⟨by simp, (On.refl w).alloc _⟩
end Go.Proofs.YtplihlmejnohnaaGreatDoor
