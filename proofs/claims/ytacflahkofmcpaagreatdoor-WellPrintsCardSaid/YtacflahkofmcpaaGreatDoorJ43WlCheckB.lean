/- Letters as bits: with, count. -/
import Derived.Test.YtacflahkofmcpaaGreatDoorJ09WlOwnR
import Derived.Deep.LoopGhost
import Derived.Laws.BitsAllLaws
import Derived.Deep.QuietTactic
import Derived.BigQuiet
import Derived.Lib.Tables
import Derived.Lib.BitFns
import Derived.Test.YtacflahkofmcpaaGreatDoorJ14WlAllA
namespace Go.Proofs.YtacflahkofmcpaaGreatDoor.Wl
open Go.RowKit

theorem withL_lt {n : Nat} (h : n < 67108864) (l : Int) : withL n l < 67108864 := by
  unfold withL
  split
  · exact Nat.or_lt_two_pow (n := 26) h (Nat.pow_lt_pow_right (by decide) (by omega))
  · exact h
theorem bor_at {n : Nat} {l : Int} (hn : n < 67108864) (h0 : 97 ≤ l) (h1 : l ≤ 122) : bits .or .u32 (n : Int) (2 ^ (l - 97).toNat % 4294967296) = (withL n l : Nat) := by
  unfold withL
  rw [if_pos ⟨h0, h1⟩]
  have hp : (2 : Nat) ^ (l - 97).toNat < 67108864 := Nat.pow_lt_pow_right (a := 2) (n := 26) (by decide) (by omega)
  have e : ((2 : Int) ^ (l - 97).toNat % 4294967296) = ((2 ^ (l - 97).toNat : Nat) : Int) := by
    have e' : ((2 ^ (l - 97).toNat : Nat) : Int) = (2 : Int) ^ (l - 97).toNat := by push_cast; rfl
    rw [← e']
    exact Int.emod_eq_of_lt (Int.natCast_nonneg _) (by omega)
  rw [e]
  exact u32_or_nat _ _ (by omega) (by omega)
set_option maxHeartbeats 1000000 in
theorem with_is (n : Nat) (l : Int) (hn : n < 67108864) (w : World) :
    Calls Tryz.prog 107 #[.int .u32 n, .int .i64 l] w fun e w' => e = .returned (.int .u32 (withL n l : Nat)) ∧ w' = w := by
  by_cases h0 : 97 ≤ l
  · by_cases h1 : l ≤ 122
    · have hb := bor_at hn h0 h1
      go_enter Tryz.func107, Tryz.ntmps107
      go_wp2
      go_ret
      exact ⟨rfl, rfl⟩
    · have e : withL n l = n := by unfold withL; rw [if_neg (by omega)]
      rw [e]
      go_enter Tryz.func107, Tryz.ntmps107
      go_wp2
      go_ret
      exact ⟨rfl, rfl⟩
  · have e : withL n l = n := by unfold withL; rw [if_neg (by omega)]
    rw [e]
    go_enter Tryz.func107, Tryz.ntmps107
    go_wp2
    go_ret
    exact ⟨rfl, rfl⟩
end Go.Proofs.YtacflahkofmcpaaGreatDoor.Wl

namespace Go.Proofs.YtacflahkofmcpaaGreatDoor.Wl
open Go.RowKit

theorem and255 (x : Nat) (h : x < 4294967296) : bits .and .u32 (x : Int) 255 = ((x % 256 : Nat) : Int) := by
  have := u32_and_nat x 255 h (by decide)
  rw [show x % 256 = x &&& 255 from (Nat.and_two_pow_sub_one_eq_mod x 8).symm]
  exact this
theorem ret_int {k : IntKind} {a b : Int} (h : a = b) : Ending.returned (.int k a) = .returned (.int k b) := by rw [h]
theorem pop_eq : ∀ m : Fin 256, Lib.pop8 (m.val : Int) = ((List.range 8).countP (fun i => m.val.testBit i) : Nat) := by decide +kernel
theorem pop_top : ∀ m : Fin 4, Lib.pop8 (m.val : Int) = ((List.range 2).countP (fun i => m.val.testBit i) : Nat) := by decide +kernel
theorem range26 : List.range 26 = List.range 8 ++ ((List.range 8).map (fun i => i + 8) ++ ((List.range 8).map (fun i => i + 16) ++ (List.range 2).map (fun i => i + 24))) := by decide +kernel
theorem bit_byte (n k i : Nat) (h : i < 8) : (n / 2 ^ k % 256).testBit i = n.testBit (i + k) := by
  rw [show 256 = 2 ^ 8 from rfl, Nat.testBit_mod_two_pow, Nat.testBit_div_two_pow]
  simp [h]
theorem count_byte (n k : Nat) : (List.range 8).countP (fun i => (n / 2 ^ k % 256).testBit i) = (List.range 8).countP (fun i => n.testBit (i + k)) :=
  List.countP_congr fun i hi => by rw [bit_byte n k i (by simpa using hi)]
theorem cnt_bytes (n m0 m1 m2 m3 : Nat) (hn : n < 67108864) (h0 : m0 = n / 16777216) (h1 : m1 = n / 65536 % 256) (h2 : m2 = n / 256 % 256) (h3 : m3 = n % 256) :
    (Lib.pop8 m0 + Lib.pop8 m1 + Lib.pop8 m2 + Lib.pop8 m3) % 256 = (cntN n : Nat) := by
  have e0 := pop_top ⟨m0, by omega⟩
  have e1 := pop_eq ⟨m1, by omega⟩
  have e2 := pop_eq ⟨m2, by omega⟩
  have e3 := pop_eq ⟨m3, by omega⟩
  simp only at e0 e1 e2 e3
  rw [e0, e1, e2, e3]
  have c1 := count_byte n 16
  have c2 := count_byte n 8
  have c3 := count_byte n 0
  have c0 : (List.range 2).countP (fun i => m0.testBit i) = (List.range 2).countP (fun i => n.testBit (i + 24)) :=
    List.countP_congr fun i hi => by rw [h0, show 16777216 = 2 ^ 24 from rfl, Nat.testBit_div_two_pow, Nat.add_comm]
  rw [show n / 2 ^ 16 % 256 = m1 from h1.symm] at c1
  rw [show n / 2 ^ 8 % 256 = m2 from h2.symm] at c2
  rw [show n / 2 ^ 0 % 256 = m3 by rw [h3, Nat.pow_zero, Nat.div_one]] at c3
  rw [c0, c1, c2, c3]
  unfold cntN
  rw [← List.countP_eq_length_filter, range26, List.countP_append, List.countP_append, List.countP_append, List.countP_map, List.countP_map, List.countP_map]
  simp only [Function.comp_def, Nat.add_zero]
  have l1 : ∀ (p : Nat → Bool) (k : Nat), (List.range k).countP p ≤ k := fun p k => by have := List.countP_le_length (p := p) (l := List.range k); simpa using this
  have b1 := l1 (fun i => n.testBit (i + 16)) 8
  have b2 := l1 (fun i => n.testBit (i + 8)) 8
  have b3 := l1 (fun i => n.testBit i) 8
  have b0 := l1 (fun i => n.testBit (i + 24)) 2
  omega
set_option maxHeartbeats 4000000 in
set_option maxRecDepth 20000 in
theorem ones_is (n : Nat) (hn : n < 67108864) (w : World) :
    Calls Tryz.prog 147 #[.int .u32 n] w fun e w' => e = .returned (.int .i64 (cntN n)) ∧ ∃ k, w' = w.drewN k := by
  obtain ⟨m0, hm0, H0, s0⟩ : ∃ m0 : Nat, m0 < 256 ∧ Hid (m0 = n / 16777216) ∧ (n : Int) / 16777216 = (m0 : Int) := ⟨n / 16777216, by omega, rfl, by omega⟩
  obtain ⟨m1, hm1, H1, s1⟩ : ∃ m1 : Nat, m1 < 256 ∧ Hid (m1 = n / 65536 % 256) ∧ bits .and .u32 ((n : Int) / 65536) 255 = (m1 : Int) := ⟨_, Nat.mod_lt _ (by decide), rfl, and255 (n / 65536) (by omega)⟩
  obtain ⟨m2, hm2, H2, s2⟩ : ∃ m2 : Nat, m2 < 256 ∧ Hid (m2 = n / 256 % 256) ∧ bits .and .u32 ((n : Int) / 256) 255 = (m2 : Int) := ⟨_, Nat.mod_lt _ (by decide), rfl, and255 (n / 256) (by omega)⟩
  obtain ⟨m3, hm3, H3, s3⟩ : ∃ m3 : Nat, m3 < 256 ∧ Hid (m3 = n % 256) ∧ bits .and .u32 (n : Int) 255 = (m3 : Int) := ⟨_, Nat.mod_lt _ (by decide), rfl, and255 n (by omega)⟩
  have b0 : (m0 : Int) ≤ 255 := by omega
  have b1 : (m1 : Int) ≤ 255 := by omega
  have b2 : (m2 : Int) ≤ 255 := by omega
  have b3 : (m3 : Int) ≤ 255 := by omega
  have c0 : (0 : Int) ≤ m0 := by omega
  have c1 : (0 : Int) ≤ m1 := by omega
  have c2 : (0 : Int) ≤ m2 := by omega
  have c3 : (0 : Int) ≤ m3 := by omega
  go_enter Tryz.func147, Tryz.ntmps147
  go_wp2
  simp only [List.append_eq, List.cons_append, List.nil_append, Lib.fold_pop8tab]
  go_quiet (fail)
  go_wp2
  go_ret
  exact ⟨ret_int (cnt_bytes n m0 m1 m2 m3 hn H0.out H1.out H2.out H3.out), _, rfl⟩
end Go.Proofs.YtacflahkofmcpaaGreatDoor.Wl

namespace Go.Proofs.YtacflahkofmcpaaGreatDoor.Wl
open Go.RowKit

theorem count_is (n : Nat) (hn : n < 67108864) (w : World) :
    Calls Tryz.prog 105 #[.int .u32 n] w fun e w' => e = .returned (.int .i64 (cntN n)) ∧ On w w' := by
  go_enter Tryz.func105, Tryz.ntmps105
  go_wp2_with (go_at_call 147; refine (ones_is n hn _).mono ?_; rintro e w1 ⟨rfl, kk, rfl⟩)
  go_ret
  exact ⟨rfl, (On.refl w).drewN kk⟩

set_option maxHeartbeats 1000000 in
set_option maxRecDepth 8000 in
theorem threadsBig_is (LL : List (List InsT)) (a : Option Addr) (c : Nat) (w : World) (h : Rd2 insC 9 w (.slice a LL.length c) LL) :
    Calls Tryz.prog 103 #[.slice a LL.length c] w fun e w' => e = .returned (.bool (thrBig LL)) ∧ w' = w := by
  obtain ⟨_, _, _, _, hm⟩ := h.slice
  have HR : Hid (Rd2 insC 9 w (.slice a LL.length c) LL) := h
  clear h
  obtain ⟨B, hB⟩ : ∃ B, B = thrBig LL := ⟨_, rfl⟩
  rw [← hB]
  unfold thrBig at hB
  rcases Nat.eq_zero_or_pos LL.length with h0 | h0
  · rw [h0]
    rw [h0] at hB
    simp at hB
    subst hB
    go_enter Tryz.func103, Tryz.ntmps103
    go_wp2
    go_ret
    exact ⟨rfl, rfl⟩
  · have z0 : ((LL.length : Int) == 0) = false := by simpa using (by omega : ¬ (LL.length : Int) = 0)
    have z1 : (LL.length == 0) = false := by simpa using (by intro h; subst h; simp at h0 : ¬ LL = [])
    rw [z1, Bool.false_or] at hB
    by_cases h4 : 4 < LL.length
    · rw [decide_eq_true h4, Bool.true_or] at hB
      subst hB
      clear z1
      go_enter Tryz.func103, Tryz.ntmps103
      go_wp2
      go_ret
      exact ⟨rfl, rfl⟩
    · rw [decide_eq_false h4, Bool.false_or] at hB
      have HB : Hid (B = (LL.any (fun L => decide (10 < L.length)) || decide (24 < LL.foldl (fun n L => n + L.length) 0))) := hB
      clear hB z1
      go_enter Tryz.func103, Tryz.ntmps103
      go_wp2
      go_loopg [3, 16] LL.length (fun gg s3 s16 wr => ∃ n s : Nat, n ≤ LL.length ∧ gg = LL.length - n ∧ s16 = .int .i64 n ∧ s3 = .int .i64 s ∧ s ≤ 10 * n ∧ wr = w ∧ Hid (B = ((LL.drop n).any (fun L => decide (10 < L.length)) || decide (24 < (LL.drop n).foldl (fun n L => n + L.length) s))))
      case atStart => exact ⟨0, 0, Nat.zero_le _, rfl, rfl, rfl, Nat.le_refl _, rfl, HB⟩
      case round =>
        clear HB
        obtain ⟨n, s, hn, hk, rfl, rfl, hs, rfl, HB⟩ := hrel
        rcases Nat.lt_or_ge n LL.length with hlt | hge
        · obtain ⟨x, hx⟩ : ∃ x, LL[n]? = some x := ⟨_, List.getElem?_eq_getElem hlt⟩
          obtain ⟨g, off, rfl, hg, ax, cx, u0, hxm, _⟩ := HR.out.row hx
          have hd : Hid (LL.drop n = x :: LL.drop (n + 1)) := drop_at hx
          clear hx
          by_cases h10 : 10 < x.length
          · have hb : B = true := by rw [HB.out, hd.out, List.any_cons, decide_eq_true h10]; rfl
            subst hb
            go_wp2
            go_ret
            exact ⟨rfl, rfl⟩
          · have HB2 : Hid (B = ((LL.drop (n + 1)).any (fun L => decide (10 < L.length)) || decide (24 < (LL.drop (n + 1)).foldl (fun n L => n + L.length) (s + x.length)))) := by
              show B = _
              rw [HB.out, hd.out, List.any_cons, decide_eq_false h10, Bool.false_or, List.foldl_cons]
            clear HB hd
            go_wp2
            go_roundg (LL.length - (n + 1))
            case measure => omega
            case rel => exact ⟨n + 1, s + x.length, by omega, rfl, by go_num, by go_num, by omega, rfl, HB2⟩
        · have hb : B = decide (24 < s) := by rw [HB.out, List.drop_of_length_le hge]; rfl
          clear HB
          by_cases h24 : 24 < s
          · obtain rfl : B = true := hb.trans (decide_eq_true h24)
            clear hb
            go_wp2
            go_ret
            exact ⟨ret_bool (decide_eq_true (by omega)), rfl⟩
          · obtain rfl : B = false := hb.trans (decide_eq_false h24)
            clear hb
            go_wp2
            go_ret
            exact ⟨ret_bool (decide_eq_false (by omega)), rfl⟩

set_option maxHeartbeats 1000000 in
set_option maxRecDepth 8000 in
theorem condBig_is (k : Int) (LL : List (List AtomT)) (a : Option Addr) (c : Nat) (w : World) (h : Rd2 atomC 4 w (.slice a LL.length c) LL) :
    Calls Tryz.prog 106 #[.agg #[.int .i64 k, .slice a LL.length c]] w fun e w' => e = .returned (.bool (condBig LL)) ∧ On w w' := by
  obtain ⟨_, _, _, _, hm⟩ := h.slice
  obtain ⟨W0, hW0⟩ : ∃ W0, W0 = w.alloc (.cells #[.int .i64 k, .slice a LL.length c] 26) := ⟨_, rfl⟩
  have HO : Hid (On w W0) := by rw [hW0]; exact (On.refl w).alloc _
  have HR : Hid (Rd2 atomC 4 W0 (.slice a LL.length c) LL) := h.on HO.out
  have BK : Bk W0 w.heap.size #[.int .i64 k, .slice a LL.length c] := by rw [hW0]; exact Bk.new w _ _
  have x1 := BK.at (i := 1) rfl
  have s1 := BK.lt
  clear h
  obtain ⟨B, hB⟩ : ∃ B, B = condBig LL := ⟨_, rfl⟩
  rw [← hB]
  unfold condBig at hB
  have HB : Hid (B = (LL.any (fun L => decide (8 < L.length)) || decide (8 < LL.length))) := hB
  clear hB BK
  go_enter Tryz.func106, Tryz.ntmps106
  go_wp2
  rw [← hW0]
  clear hW0
  go_loopg [8] LL.length (fun gg s8 wr => ∃ n : Nat, n ≤ LL.length ∧ gg = LL.length - n ∧ s8 = .int .i64 n ∧ wr = W0 ∧ Hid (B = ((LL.drop n).any (fun L => decide (8 < L.length)) || decide (8 < LL.length))))
  case atStart => exact ⟨0, Nat.zero_le _, rfl, rfl, rfl, HB⟩
  case round =>
    clear HB
    obtain ⟨n, hn, hk, rfl, rfl, HB⟩ := hrel
    rcases Nat.lt_or_ge n LL.length with hlt | hge
    · obtain ⟨x, hx⟩ : ∃ x, LL[n]? = some x := ⟨_, List.getElem?_eq_getElem hlt⟩
      obtain ⟨g, off, rfl, hg, ax, cx, u0, hxm, _⟩ := HR.out.row hx
      have hd : Hid (LL.drop n = x :: LL.drop (n + 1)) := drop_at hx
      clear hx
      by_cases h10 : 8 < x.length
      · have hb : B = true := by rw [HB.out, hd.out, List.any_cons, decide_eq_true h10]; rfl
        subst hb
        go_wp2
        go_ret
        exact ⟨rfl, HO.out⟩
      · have HB2 : Hid (B = ((LL.drop (n + 1)).any (fun L => decide (8 < L.length)) || decide (8 < LL.length))) := by
          show B = _
          rw [HB.out, hd.out, List.any_cons, decide_eq_false h10, Bool.false_or]
        clear HB hd
        go_wp2
        go_roundg (LL.length - (n + 1))
        case measure => omega
        case rel => exact ⟨n + 1, by omega, rfl, by go_num, rfl, HB2⟩
    · have hb : B = decide (8 < LL.length) := by rw [HB.out, List.drop_of_length_le hge]; rfl
      clear HB
      by_cases h24 : 8 < LL.length
      · obtain rfl : B = true := hb.trans (decide_eq_true h24)
        clear hb
        go_wp2
        go_ret
        exact ⟨ret_bool (decide_eq_true (by omega)), HO.out⟩
      · obtain rfl : B = false := hb.trans (decide_eq_false h24)
        clear hb
        go_wp2
        go_ret
        exact ⟨ret_bool (decide_eq_false (by omega)), HO.out⟩
end Go.Proofs.YtacflahkofmcpaaGreatDoor.Wl

namespace Go.Proofs.YtacflahkofmcpaaGreatDoor.Wl
open Go.RowKit

set_option maxHeartbeats 2000000 in
set_option maxRecDepth 8000 in
theorem twice_is (L : List InitT) (a : Option Addr) (c : Nat) (w : World) (h : Rd iniC 2 w (.slice a L.length c) L) :
    Calls Tryz.prog 62 #[.slice a L.length c] w fun e w' => e = .returned (.bool (twiceFrom 0 L)) ∧ On w w' := by
  obtain ⟨_, _, _, _, hm⟩ := h.slice
  have HR : Hid (Rd iniC 2 w (.slice a L.length c) L) := h
  clear h
  obtain ⟨B, hB⟩ : ∃ B, B = twiceFrom 0 L := ⟨_, rfl⟩
  rw [← hB]
  have HB : Hid (B = twiceFrom 0 (L.drop 0)) := hB
  clear hB
  go_enter Tryz.func62, Tryz.ntmps62
  go_wp2
  go_loopg [3, 9] L.length (fun gg s3 s9 wr => ∃ n s : Nat, n ≤ L.length ∧ gg = L.length - n ∧ s9 = .int .i64 n ∧ s3 = .int .u32 s ∧ s < 67108864 ∧ Hid (On w wr) ∧ Hid (B = twiceFrom s (L.drop n)))
  case atStart => exact ⟨0, 0, Nat.zero_le _, rfl, rfl, rfl, by decide, On.refl w, HB⟩
  case round =>
    clear HB
    obtain ⟨n, s, hn, hk, rfl, rfl, hs, HO, HB⟩ := hrel
    rcases Nat.lt_or_ge n L.length with hlt | hge
    · obtain ⟨x, hx⟩ : ∃ x, L[n]? = some x := ⟨_, List.getElem?_eq_getElem hlt⟩
      obtain ⟨g, off, rfl, hg, hcell⟩ := (HR.out.on HO.out).at hx
      have u0 : wr.cell? ⟨g, off + n * 2, none⟩ = _ := hcell 0 _ rfl
      have u1 : wr.cell? ⟨g, off + n * 2 + 1, none⟩ = _ := hcell 1 _ rfl
      have hd : Hid (L.drop n = x :: L.drop (n + 1)) := drop_at hx
      have hW := fun W => with_is s x.l hs W
      have hwl := withL_lt hs x.l
      clear hx hcell
      have HB2 : Hid (B = if withL s x.l == s then true else twiceFrom (withL s x.l) (L.drop (n + 1))) := by
        show B = _
        rw [HB.out, hd.out, twiceFrom]
      generalize withL s x.l = s' at *
      by_cases h1 : s' = s
      · have hb : B = true := by rw [HB2.out, h1]; simp
        subst hb
        subst h1
        go_wp2_with (go_at_call 107; refine (hW _).mono ?_; rintro e w1 ⟨rfl, rfl⟩)
        go_ret
        exact ⟨rfl, HO.out.trans (by repeat' (first | exact On.refl _ | refine On.alloc ?_ _ | refine On.setNew ?_ (Nat.le_refl _) _))⟩
      · have hb : Hid (B = twiceFrom s' (L.drop (n + 1))) := by
          show B = _
          rw [HB2.out]; simp [h1]
        have hne : ((s' : Int) == s) = false := by simpa using (by omega : ¬ (s' : Int) = s)
        go_wp2_with (go_at_call 107; refine (hW _).mono ?_; rintro e w1 ⟨rfl, rfl⟩)
        go_roundg (L.length - (n + 1))
        case measure => omega
        case rel => exact ⟨n + 1, s', by omega, rfl, by go_num, rfl, hwl, HO.out.trans (by repeat' (first | exact On.refl _ | refine On.alloc ?_ _ | refine On.setNew ?_ (Nat.le_refl _) _)), hb⟩
    · have hb : B = false := by rw [HB.out, List.drop_of_length_le hge]; rfl
      subst hb
      go_wp2
      go_ret
      exact ⟨rfl, HO.out⟩

set_option maxHeartbeats 4000000 in
set_option maxRecDepth 8000 in
theorem skips_is (L : List InsT) (a : Option Addr) (c : Nat) (w : World) (h : Rd insC 9 w (.slice a L.length c) L) :
    Calls Tryz.prog 108 #[.slice a L.length c] w fun e w' => e = .returned (.bool (skipBad L)) ∧ On w w' := by
  obtain ⟨_, _, _, _, hm⟩ := h.slice
  have HR : Hid (Rd insC 9 w (.slice a L.length c) L) := h
  clear h
  obtain ⟨B, hB⟩ : ∃ B, B = skipBad L := ⟨_, rfl⟩
  rw [← hB]
  have HB : Hid (B = skipBad (L.drop 0)) := hB
  clear hB
  go_enter Tryz.func108, Tryz.ntmps108
  go_wp2
  go_loopg [8] L.length (fun gg s8 wr => ∃ n : Nat, n ≤ L.length ∧ gg = L.length - n ∧ s8 = .int .i64 n ∧ Hid (On w wr) ∧ Hid (B = skipBad (L.drop n)))
  case atStart => exact ⟨0, Nat.zero_le _, rfl, rfl, On.refl w, HB⟩
  case round =>
    clear HB
    obtain ⟨n, hn, hk, rfl, HO, HB⟩ := hrel
    rcases Nat.lt_or_ge n L.length with hlt | hge
    · obtain ⟨x, hx⟩ : ∃ x, L[n]? = some x := ⟨_, List.getElem?_eq_getElem hlt⟩
      obtain ⟨g, off, rfl, hg, hcell⟩ := (HR.out.on HO.out).at hx
      have hd : Hid (L.drop n = x :: L.drop (n + 1)) := drop_at hx
      obtain ⟨k, r, l, ⟨ar, av⟩, o, ⟨br, bv⟩, m⟩ := x
      have u0 : wr.cell? ⟨g, off + n * 9, none⟩ = _ := hcell 0 _ rfl
      have u1 : wr.cell? ⟨g, off + n * 9 + 1, none⟩ = _ := hcell 1 _ rfl
      have u2 : wr.cell? ⟨g, off + n * 9 + 2, none⟩ = _ := hcell 2 _ rfl
      have u3 : wr.cell? ⟨g, off + n * 9 + 3, none⟩ = _ := hcell 3 _ rfl
      have u4 : wr.cell? ⟨g, off + n * 9 + 4, none⟩ = _ := hcell 4 _ rfl
      have u5 : wr.cell? ⟨g, off + n * 9 + 5, none⟩ = _ := hcell 5 _ rfl
      have u6 : wr.cell? ⟨g, off + n * 9 + 6, none⟩ = _ := hcell 6 _ rfl
      have u7 : wr.cell? ⟨g, off + n * 9 + 7, none⟩ = _ := hcell 7 _ rfl
      have u8 : wr.cell? ⟨g, off + n * 9 + 8, none⟩ = _ := hcell 8 _ rfl
      simp only at u0 u1 u2 u3 u4 u5 u6 u7 u8
      clear hx hcell
      have HB2 : Hid (B = ((k == 6 && (m == 0 || decide (((L.drop (n + 1)).length : Int) < m))) || skipBad (L.drop (n + 1)))) := by
        show B = _
        rw [HB.out, hd.out, skipBad]
      have hlen : (L.drop (n + 1)).length = L.length - (n + 1) := List.length_drop
      clear HB hd
      by_cases h6 : k = 6
      · subst h6
        by_cases h0 : m = 0
        · have hb : B = true := by rw [HB2.out, h0]; rfl
          subst hb
          subst h0
          go_wp2
          go_ret
          exact ⟨rfl, HO.out.trans (by repeat' (first | exact On.refl _ | refine On.alloc ?_ _ | refine On.setNew ?_ (Nat.le_refl _) _))⟩
        · have m0 : (m == 0) = false := by simpa using h0
          by_cases hlm : ((L.length : Int) - n - 1 < m)
          · have hb : B = true := by
              rw [HB2.out, m0, hlen, decide_eq_true (by omega)]; rfl
            subst hb
            clear HB2 hlen
            go_wp2
            go_ret
            exact ⟨rfl, HO.out.trans (by repeat' (first | exact On.refl _ | refine On.alloc ?_ _ | refine On.setNew ?_ (Nat.le_refl _) _))⟩
          · have hb : Hid (B = skipBad (L.drop (n + 1))) := by
              show B = _
              rw [HB2.out, m0, hlen, decide_eq_false (by omega)]; rfl
            clear HB2 hlen
            go_wp2
            go_roundg (L.length - (n + 1))
            case measure => omega
            case rel => exact ⟨n + 1, by omega, rfl, by go_num, HO.out.trans (by repeat' (first | exact On.refl _ | refine On.alloc ?_ _ | refine On.setNew ?_ (Nat.le_refl _) _)), hb⟩
      · have k6 : (k == 6) = false := by simpa using h6
        have hb : Hid (B = skipBad (L.drop (n + 1))) := by
          show B = _
          rw [HB2.out, k6]; rfl
        clear HB2 hlen
        go_wp2
        go_roundg (L.length - (n + 1))
        case measure => omega
        case rel => exact ⟨n + 1, by omega, rfl, by go_num, HO.out.trans (by repeat' (first | exact On.refl _ | refine On.alloc ?_ _ | refine On.setNew ?_ (Nat.le_refl _) _)), hb⟩
    · have hb : B = false := by rw [HB.out, List.drop_of_length_le hge]; rfl
      subst hb
      go_wp2
      go_ret
      exact ⟨rfl, HO.out⟩
end Go.Proofs.YtacflahkofmcpaaGreatDoor.Wl
