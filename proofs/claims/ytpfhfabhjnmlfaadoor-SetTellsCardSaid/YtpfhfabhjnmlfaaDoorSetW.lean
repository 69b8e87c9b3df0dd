/- Few numbers in one word: the program's package set. -/
import Derived.Test.YtpfhfabhjnmlfaaDoorSetQ
import Derived.Test.YtpfhfabhjnmlfaaDoorPuts
import Derived.Test.YtpfhfabhjnmlfaaDoorMathB
import Derived.Laws.BitsAllLaws
import Derived.Laws.ShiftsVarLaws
import Derived.Deep.QuietTactic
import Derived.BigQuiet
namespace Go.Proofs.YtpfhfabhjnmlfaaDoor
open Go.RowKit

abbrev S64 (s : Nat) : Value := .int .u64 s
theorem ret_int {k : IntKind} {a b : Int} (h : a = b) : Ending.returned (.int k a) = .returned (.int k b) := by rw [h]
theorem ret_bool {a b : Bool} (h : a = b) : Ending.returned (.bool a) = .returned (.bool b) := by rw [h]
theorem bit_val (i : Int) (h0 : 0 ≤ i) (h1 : i < 64) : IntKind.u64.wrap (2 ^ i.toNat) = ((bitI i : Nat) : Int) := by
  have hm : min i.toNat 64 = i.toNat := by omega
  have hv := u64_shl_one_var i h0
  rw [hm] at hv
  rw [IntKind.wrap_u64, hv]
  unfold bitI
  have h2 : ¬ 64 ≤ i := by omega
  simp [h0, h1, h2]
set_option maxHeartbeats 1000000 in
theorem bit_is (i : Int) (w : World) :
    Calls Tryd.prog 18 #[.int .i64 i] w fun e w' => e = .returned (.int .u64 (bitI i)) ∧ w' = w := by
  by_cases h0 : i < 0
  · have e : bitI i = 0 := by unfold bitI; rw [if_neg (by omega)]
    rw [e]
    go_enter Tryd.func18, Tryd.ntmps18
    go_wp2
    go_ret
    exact ⟨rfl, rfl⟩
  · by_cases h1 : 64 ≤ i
    · have e : bitI i = 0 := by unfold bitI; rw [if_neg (by omega)]
      rw [e]
      go_enter Tryd.func18, Tryd.ntmps18
      go_wp2
      go_ret
      exact ⟨rfl, rfl⟩
    · have e := bit_val i (by omega) (by omega)
      go_enter Tryd.func18, Tryd.ntmps18
      go_wp2
      go_ret
      exact ⟨rfl, rfl⟩
theorem has_int (s : Nat) (i : Int) (hs : s < 18446744073709551616) : (bits .and .u64 (s : Int) ((bitI i : Nat) : Int) != 0) = hasI s i := by
  rw [u64_and_nat s _ hs (bit_lt i)]
  unfold hasI
  cases h : (s &&& bitI i) with
  | zero => rfl
  | succ n =>
    have h1 : (((n + 1 : Nat) : Int) == 0) = false := by rw [beq_eq_false_iff_ne]; omega
    have h2 : (n + 1 == 0) = false := rfl
    rw [bne, bne, h1, h2]
set_option maxHeartbeats 1000000 in
theorem has_is (s : Nat) (i : Int) (hs : s < 18446744073709551616) (w : World) :
    Calls Tryd.prog 8 #[.int .u64 s, .int .i64 i] w fun e w' => e = .returned (.bool (hasI s i)) ∧ w' = w := by
  have e := has_int s i hs
  have hb := bit_is i w
  generalize bitI i = b at *
  generalize hasI s i = h at *
  go_enter Tryd.func8, Tryd.ntmps8
  go_wp2_with fail
  refine hb.mono ?_
  rintro _ _ ⟨rfl, rfl⟩
  go_wp2
  go_ret
  exact ⟨rfl, rfl⟩
set_option maxHeartbeats 1000000 in
theorem with_is (s : Nat) (i : Int) (hs : s < 18446744073709551616) (w : World) :
    Calls Tryd.prog 10 #[.int .u64 s, .int .i64 i] w fun e w' => e = .returned (.int .u64 (withI s i)) ∧ w' = w := by
  have e := u64_or_nat s _ hs (bit_lt i)
  have hb := bit_is i w
  go_enter Tryd.func10, Tryd.ntmps10
  go_wp2_with fail
  refine hb.mono ?_
  rintro _ _ ⟨rfl, rfl⟩
  go_wp2
  go_ret
  exact ⟨rfl, rfl⟩
set_option maxHeartbeats 1000000 in
theorem less_is (s : Nat) (i : Int) (hs : s < 18446744073709551616) (w : World) :
    Calls Tryd.prog 11 #[.int .u64 s, .int .i64 i] w fun e w' => e = .returned (.int .u64 (lessI s i)) ∧ w' = w := by
  have e := u64_andNot_nat s _ hs (bit_lt i)
  have hb := bit_is i w
  go_enter Tryd.func11, Tryd.ntmps11
  go_wp2_with fail
  refine hb.mono ?_
  rintro _ _ ⟨rfl, rfl⟩
  go_wp2
  go_ret
  exact ⟨rfl, rfl⟩
theorem ones_steps (n : Nat) (hn : n < 18446744073709551616) : ∃ x1 x2 x3 a b c : Nat,
    IntKind.u64.wrap (bits .and .u64 ((n : Int) / 2) 6148914691236517205 + bits .and .u64 (n : Int) 6148914691236517205) = (x1 : Int) ∧
    IntKind.u64.wrap (bits .and .u64 ((x1 : Int) / 4) 3689348814741910323 + bits .and .u64 (x1 : Int) 3689348814741910323) = (x2 : Int) ∧
    bits .and .u64 (IntKind.u64.wrap ((x2 : Int) / 16 + (x2 : Int))) 1085102592571150095 = (x3 : Int) ∧
    IntKind.u64.wrap ((x3 : Int) + (x3 : Int) / 256) = (a : Int) ∧ IntKind.u64.wrap ((a : Int) + (a : Int) / 65536) = (b : Int) ∧ IntKind.u64.wrap ((b : Int) + (b : Int) / 4294967296) = (c : Int) ∧
    bits .and .i64 (c : Int) 127 = (cnt64 n : Nat) ∧ c ≤ 9223372036854775807 ∧ IntKind.i64.wrap (c : Int) = c := by
  obtain ⟨x1, h1⟩ : ∃ x1, x1 = (n / 2 &&& 6148914691236517205) + (n &&& 6148914691236517205) := ⟨_, rfl⟩
  obtain ⟨x2, h2⟩ : ∃ x2, x2 = (x1 / 4 &&& 3689348814741910323) + (x1 &&& 3689348814741910323) := ⟨_, rfl⟩
  obtain ⟨x3, h3⟩ : ∃ x3, x3 = (x2 / 16 + x2) &&& 1085102592571150095 := ⟨_, rfl⟩
  obtain ⟨a, ha⟩ : ∃ a, a = x3 + x3 / 256 := ⟨_, rfl⟩
  obtain ⟨b, hb⟩ : ∃ b, b = a + a / 65536 := ⟨_, rfl⟩
  obtain ⟨c, hc⟩ : ∃ c, c = b + b / 4294967296 := ⟨_, rfl⟩
  obtain ⟨b1, b2, b3, hcn⟩ := ones64 n x1 x2 x3 a b c h1 h2 h3 ha hb hc
  have hcl : c ≤ 9223372036854775807 := by omega
  refine ⟨x1, x2, x3, a, b, c, ?_, ?_, ?_, ?_, ?_, ?_, ?_, hcl, ?_⟩
  · have e1 : bits .and .u64 ((n / 2 : Nat) : Int) 6148914691236517205 = _ := u64_and_nat (n / 2) 6148914691236517205 (by omega) (by decide)
    have e2 : bits .and .u64 (n : Int) 6148914691236517205 = _ := u64_and_nat n 6148914691236517205 hn (by decide)
    rw [show ((n / 2 : Nat) : Int) = (n : Int) / 2 by omega] at e1
    rw [IntKind.wrap_u64]
    omega
  · have e1 : bits .and .u64 ((x1 / 4 : Nat) : Int) 3689348814741910323 = _ := u64_and_nat (x1 / 4) 3689348814741910323 (by omega) (by decide)
    have e2 : bits .and .u64 (x1 : Int) 3689348814741910323 = _ := u64_and_nat x1 3689348814741910323 (by omega) (by decide)
    rw [show ((x1 / 4 : Nat) : Int) = (x1 : Int) / 4 by omega] at e1
    rw [IntKind.wrap_u64]
    omega
  · have e1 : bits .and .u64 ((x2 / 16 + x2 : Nat) : Int) 1085102592571150095 = _ := u64_and_nat (x2 / 16 + x2) 1085102592571150095 (by omega) (by decide)
    rw [IntKind.wrap_u64, show ((x2 : Int) / 16 + (x2 : Int)) % 18446744073709551616 = ((x2 / 16 + x2 : Nat) : Int) by omega]
    omega
  · rw [IntKind.wrap_u64]; omega
  · rw [IntKind.wrap_u64]; omega
  · rw [IntKind.wrap_u64]; omega
  · obtain ⟨k, _, hk, hk2⟩ := i64_low (c : Int) 7 127 (by decide) (by decide)
    rw [hk, ← hcn]
    omega
  · rw [IntKind.wrap_i64]; omega
set_option maxHeartbeats 4000000 in
theorem ones_is (n : Nat) (hn : n < 18446744073709551616) (w : World) :
    Calls Tryd.prog 19 #[.int .u64 n] w fun e w' => e = .returned (.int .i64 (cnt64 n)) ∧ w' = w := by
  obtain ⟨x1, x2, x3, a, b, c, s1, s2, s3, s4, s5, s6, s7, s8, s9⟩ := ones_steps n hn
  go_enter Tryd.func19, Tryd.ntmps19
  go_wp2
  go_ret
  exact ⟨rfl, rfl⟩
set_option maxHeartbeats 1000000 in
theorem len_is (s : Nat) (hs : s < 18446744073709551616) (w : World) :
    Calls Tryd.prog 9 #[.int .u64 s] w fun e w' => e = .returned (.int .i64 (cnt64 s)) ∧ w' = w := by
  have hb := ones_is s hs w
  go_enter Tryd.func9, Tryd.ntmps9
  go_wp2_with fail
  refine hb.mono ?_
  rintro _ _ ⟨rfl, rfl⟩
  go_wp2
  go_ret
  exact ⟨rfl, rfl⟩
/-- The table lies where TrailingZeros64 looks. -/
structure Dt (w : World) : Prop where
  tab : ∀ j, j < 64 → w.cell? ⟨0, j, none⟩ = some (.int .u8 (Lib.deBruijn64tab.getD j 0 : Nat))
  lt : 0 < w.heap.size
theorem Dt.on {w w' : World} (h : Dt w) (k : On w w') : Dt w' := ⟨fun j hj => (k.cell (p := ⟨0, j, none⟩) h.lt).trans (h.tab j hj), Nat.lt_of_lt_of_le h.lt k.size⟩
theorem tz_key (x a : Nat) (hx : x < 18446744073709551616) (hx0 : x ≠ 0) (hlow : x &&& (18446744073709551616 - x) = a) :
    bits BinOp.and IntKind.u64 (x : Int) (-(x : Int) % 18446744073709551616) * 285870213051353865 % 18446744073709551616 / 288230376151711744 = ((a * 285870213051353865 % 18446744073709551616 / 288230376151711744 : Nat) : Int) := by
  have e1 : -(x : Int) % 18446744073709551616 = ((18446744073709551616 - x : Nat) : Int) := by omega
  rw [e1, u64_and_nat x _ (by omega) (by omega), hlow]
  omega
set_option maxHeartbeats 1000000 in
theorem tz_core (x k idx : Nat) (w : World) (hx0 : ((x : Int) == 0) = false) (key : bits BinOp.and IntKind.u64 (x : Int) (-(x : Int) % 18446744073709551616) * 285870213051353865 % 18446744073709551616 / 288230376151711744 = (idx : Int))
    (hi : idx < 64) (hk : k < 64) (hcell : w.cell? ⟨0, idx, none⟩ = some (.int .u8 k)) (_ : 0 < w.heap.size) :
    Calls Tryd.prog 20 #[.int .u64 x] w fun e w' => e = .returned (.int .i64 k) ∧ w' = w := by
  go_enter Tryd.func20, Tryd.ntmps20
  go_wp2_with (simp only [IntKind.wrap_u64])
  go_ret
  exact ⟨rfl, rfl⟩
theorem tz_is (x : Nat) (hx : x < 18446744073709551616) (hx0 : x ≠ 0) (w : World) (hd : Dt w) :
    Calls Tryd.prog 20 #[.int .u64 x] w fun e w' => e = .returned (.int .i64 (Lib.ctz 64 x : Nat)) ∧ w' = w := by
  obtain ⟨hlow, hk⟩ := Lib.lowest_bit 64 x hx0 (by omega)
  obtain ⟨hi, htab⟩ := Lib.deBruijn64_at _ hk
  have hcell := hd.tab _ hi
  rw [htab] at hcell
  exact tz_core x _ _ w (by simp; omega) (tz_key x _ hx hx0 hlow) hi hk hcell hd.lt
set_option maxHeartbeats 1000000 in
theorem first_is (s : Nat) (hs : s < 18446744073709551616) (w : World) (hd : Dt w) :
    Calls Tryd.prog 15 #[.int .u64 s] w fun e w' => e = .returned (.int .i64 (firstN s)) ∧ w' = w := by
  by_cases h0 : s = 0
  · subst h0
    have e : firstN 0 = -1 := rfl
    rw [e]
    go_enter Tryd.func15, Tryd.ntmps15
    go_wp2
    go_ret
    exact ⟨rfl, rfl⟩
  · have hT := tz_is s hs h0 w hd
    have e : firstN s = (Lib.ctz 64 s : Nat) := by unfold firstN; rw [if_neg h0]
    rw [e]
    generalize Lib.ctz 64 s = k at *
    have hr0 : ((s : Int) == 0) = false := by simpa using (by omega : ¬ (s : Int) = 0)
    go_enter Tryd.func15, Tryd.ntmps15
    go_wp2_with fail
    refine hT.mono ?_
    rintro _ _ ⟨rfl, rfl⟩
    go_wp2
    go_ret
    exact ⟨rfl, rfl⟩
def intV (n : Nat) : Value := .int .i64 n
theorem infoInt : (Tryd.prog.info? 3).map (fun i => (i.zero, i.size, i.bytes)) = some (some (.int .i64 0), 1, 8) := by kernel_rfl
theorem and_less (r : Nat) (h : r < 18446744073709551616) (h0 : r ≠ 0) : bits .and .u64 (r : Int) ((r : Int) - 1) = ((r &&& (r - 1) : Nat) : Int) := by
  have := u64_and_nat r (r - 1) (by omega) (by omega)
  rw [← this]
  congr 1
  omega
set_option maxHeartbeats 4000000 in
set_option maxRecDepth 8000 in
theorem list_is (n : Nat) (hn : n < 18446744073709551616) (w : World) (hd : Dt w) :
    Calls Tryd.prog 7 #[.int .u64 n] w fun e w' => ∃ a c, e = .returned (.slice a (bits64 n).length c) ∧ w'.ownsRow w.heap.size 3 1 (.slice a (bits64 n).length c) (bits64 n).length ((bits64 n).map intV) ∧ On w w' := by
  obtain ⟨i0, hi, hz0, hz1, hz2⟩ := info_parts infoInt
  have HD : Hid (Dt w) := hd
  have hcl : (bits64 n).length ≤ 64 := cnt_le n
  obtain ⟨LT, hLT⟩ : ∃ LT, LT = bits64 n := ⟨_, rfl⟩
  have hC := fun W => len_is n hn W
  unfold cnt64 at hC
  rw [← hLT] at hcl hC ⊢
  have HL : Hid (LT = [] ++ bits64 n) := hLT
  clear hLT hd
  go_enter Tryd.func7, Tryd.ntmps7
  go_wp2_with fail
  refine (hC _).mono ?_
  rintro e w1 ⟨rfl, rfl⟩
  obtain ⟨w2, hmk, hown, hgr⟩ := run_make_own (P := Tryd.prog) w1 w1.heap.size 24 3 i0 (.int .i64 0) 1 Tryd.underlying24 hi hz0 hz1 .i64 .i64 LT.length (by rw [hz2]; omega) (by unfold maxLen; omega) (Nat.le_refl _)
  have K2 : Hid (On w1 w2) := (On.refl w1).grownNone hgr
  clear hgr hC
  go_wp2
  clear hmk
  go_loopg [0, 3] n (fun gg s0 s3 wr => ∃ (r : Nat) (L : List Nat), gg = r ∧ s0 = .int .u64 r ∧ r < 18446744073709551616 ∧ wr.ownsRow w1.heap.size 3 1 s3 L.length (L.map intV) ∧ L.length ≤ 64 ∧ Hid (On w1 wr) ∧ Hid (LT = L ++ bits64 r))
  case atStart => exact ⟨n, [], rfl, rfl, hn, hown, by decide, K2, HL⟩
  case round =>
    clear HL K2 hown
    obtain ⟨r, L, hg, rfl, hr, hown, hL26, HO, HL⟩ := hrel
    by_cases h0 : r = 0
    · subst h0
      have e : LT = L := by rw [HL.out, b64_zero]; simp
      subst e
      obtain ⟨a, c, rfl⟩ := own_slice hown
      go_wp2
      go_ret
      exact ⟨a, c, rfl, hown, HO.out⟩
    · obtain ⟨hk, hb, hless⟩ := rise64 r h0 hr
      have hT := first_is r hr wr (HD.out.on HO.out)
      have hf : firstN r = (Lib.ctz 64 r : Nat) := by unfold firstN; rw [if_neg h0]
      rw [hf] at hT
      have hand := and_less r hr h0
      have HL2 : Hid (LT = (L ++ [Lib.ctz 64 r]) ++ bits64 (r &&& (r - 1))) := by
        show LT = _
        rw [HL.out, hb]
        simp
      have hr2 : (r &&& (r - 1)) < 18446744073709551616 := by omega
      have h26 : (L ++ [Lib.ctz 64 r]).length ≤ 64 := by
        have := congrArg List.length HL2.out
        rw [List.length_append] at this
        omega
      have hr0 : ((r : Int) == 0) = false := by simpa using (by omega : ¬ (r : Int) = 0)
      clear HL hb hf
      generalize Lib.ctz 64 r = k at *
      generalize r &&& (r - 1) = r2 at *
      have hlt : ∀ g, u3.ownBlock = some g → w1.heap.size ≤ g := fun g hg => (hown.lt g hg).1
      go_wp2_with fail
      refine hT.mono ?_
      rintro e w3 ⟨rfl, rfl⟩
      go_wp2_with (at_builtin; refine wpList_append_own _ rfl _ _ 24 rfl w1.heap.size 3 i0 (.int .i64 0) 1 8 Tryd.underlying24 hi hz0 hz1 hz2 rfl (by decide) _ _ _ rfl (hown.alloc _) ⟨w3.heap.size, 0, none⟩ 1 1 [intV k] rfl rfl ?c1 ?c2 ?c3 ?c4 ?c5 ?_)
      case c1 =>
        intro j u hu
        rw [new_cell]
        exact hu
      case c2 =>
        intro u hu
        simp only [List.mem_cons, List.not_mem_nil, or_false] at hu
        subst hu
        rfl
      case c3 => unfold maxLen; omega
      case c4 => omega
      case c5 => simp only [World.size_alloc]; have := HO.out.size; omega
      intro v' w4 hown4 hg4 _
      go_wp2
      go_roundg r2
      case measure => omega
      case rel =>
        exact ⟨r2, L ++ [k], rfl, rfl, hr2, by simpa using hown4, h26, (HO.out.alloc _).grown hg4 hlt, HL2⟩
end Go.Proofs.YtpfhfabhjnmlfaaDoor
