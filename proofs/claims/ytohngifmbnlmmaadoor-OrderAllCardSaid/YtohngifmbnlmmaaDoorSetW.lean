/- Few numbers in one word: the program's package set: the least one, all of them. -/
import Derived.Test.YtohngifmbnlmmaaDoorSetA
namespace Go.Proofs.YtohngifmbnlmmaaDoor
open Go.RowKit

/-- The table lies where TrailingZeros64 looks. -/
structure Dt (w : World) : Prop where
  tab : ∀ j, j < 64 → w.cell? ⟨0, j, none⟩ = some (.int .u8 (Lib.deBruijn64tab.getD j 0 : Nat))
  lt : 0 < w.heap.size
theorem Dt.on {w w' : World} (h : Dt w) (k : On w w') : Dt w' := ⟨fun j hj => (k.cell (p := ⟨0, j, none⟩) h.lt).trans (h.tab j hj), Nat.lt_of_lt_of_le h.lt k.size⟩
theorem tz_key (x a : Nat) (hx : x < 18446744073709551616) (hx0 : x ≠ 0) (hlow : x &&& (18446744073709551616 - x) = a) :
    bits BinOp.and IntKind.u64 (x : Int) (-(x : Int) % 18446744073709551616) * 285870213051353865 % 18446744073709551616 / 288230376151711744 = ((a * 285870213051353865 % 18446744073709551616 / 288230376151711744 : Nat) : Int) := by
  have e1 : -(x : Int) % 18446744073709551616 = ((18446744073709551616 - x : Nat) : Int) := by omega
  rw [e1, u64_and_nat x _ (by omega) (by omega), hlow]
  omega
set_option maxHeartbeats 1000000 in
theorem tz_core (x k idx : Nat) (w : World) (hx0 : ((x : Int) == 0) = false) (key : bits BinOp.and IntKind.u64 (x : Int) (-(x : Int) % 18446744073709551616) * 285870213051353865 % 18446744073709551616 / 288230376151711744 = (idx : Int))
    (hi : idx < 64) (hk : k < 64) (hcell : w.cell? ⟨0, idx, none⟩ = some (.int .u8 k)) (_ : 0 < w.heap.size) :
    Calls Tryd.prog 43 #[.int .u64 x] w fun e w' => e = .returned (.int .i64 k) ∧ w' = w := by
  go_enter Tryd.func43, Tryd.ntmps43
  go_wp2_with (simp only [IntKind.wrap_u64])
  go_ret
  exact ⟨rfl, rfl⟩
theorem tz_is (x : Nat) (hx : x < 18446744073709551616) (hx0 : x ≠ 0) (w : World) (hd : Dt w) :
    Calls Tryd.prog 43 #[.int .u64 x] w fun e w' => e = .returned (.int .i64 (Lib.ctz 64 x : Nat)) ∧ w' = w := by
  obtain ⟨hlow, hk⟩ := Lib.lowest_bit 64 x hx0 (by omega)
  obtain ⟨hi, htab⟩ := Lib.deBruijn64_at _ hk
  have hcell := hd.tab _ hi
  rw [htab] at hcell
  exact tz_core x _ _ w (by simp; omega) (tz_key x _ hx hx0 hlow) hi hk hcell hd.lt
set_option maxHeartbeats 1000000 in
theorem first_is (s : Nat) (hs : s < 18446744073709551616) (w : World) (hd : Dt w) :
    Calls Tryd.prog 39 #[.int .u64 s] w fun e w' => e = .returned (.int .i64 (firstN s)) ∧ w' = w := by
  by_cases h0 : s = 0
  · subst h0
    have e : firstN 0 = -1 := rfl
    rw [e]
    go_enter Tryd.func39, Tryd.ntmps39
    go_wp2
    go_ret
    exact ⟨rfl, rfl⟩
  · have hT := tz_is s hs h0 w hd
    have e : firstN s = (Lib.ctz 64 s : Nat) := by unfold firstN; rw [if_neg h0]
    rw [e]
    generalize Lib.ctz 64 s = k at *
    have hr0 : ((s : Int) == 0) = false := by simpa using (by omega : ¬ (s : Int) = 0)
    go_enter Tryd.func39, Tryd.ntmps39
    go_wp2_with fail
    refine hT.mono ?_
    rintro _ _ ⟨rfl, rfl⟩
    go_wp2
    go_ret
    exact ⟨rfl, rfl⟩
def intV (n : Nat) : Value := .int .i64 n
theorem infoInt : (Tryd.prog.info? 3).map (fun i => (i.zero, i.size, i.bytes)) = some (some (.int .i64 0), 1, 8) := by kernel_rfl
theorem and_less (r : Nat) (h : r < 18446744073709551616) (h0 : r ≠ 0) : bits .and .u64 (r : Int) ((r : Int) - 1) = ((r &&& (r - 1) : Nat) : Int) := by
  have := u64_and_nat r (r - 1) (by omega) (by omega)
  rw [← this]
  congr 1
  omega
set_option maxHeartbeats 4000000 in
set_option maxRecDepth 8000 in
theorem list_is (n : Nat) (hn : n < 18446744073709551616) (w : World) (hd : Dt w) :
    Calls Tryd.prog 42 #[.int .u64 n] w fun e w' => ∃ a c, e = .returned (.slice a (bits64 n).length c) ∧ w'.ownsRow w.heap.size 3 1 (.slice a (bits64 n).length c) (bits64 n).length ((bits64 n).map intV) ∧ On w w' := by
  obtain ⟨i0, hi, hz0, hz1, hz2⟩ := info_parts infoInt
  have HD : Hid (Dt w) := hd
  have hcl : (bits64 n).length ≤ 64 := cnt_le n
  obtain ⟨LT, hLT⟩ : ∃ LT, LT = bits64 n := ⟨_, rfl⟩
  have hC := fun W => len_is n hn W
  unfold cnt64 at hC
  rw [← hLT] at hcl hC ⊢
  have HL : Hid (LT = [] ++ bits64 n) := hLT
  clear hLT hd
  go_enter Tryd.func42, Tryd.ntmps42
  go_wp2_with fail
  refine (hC _).mono ?_
  rintro e w1 ⟨rfl, rfl⟩
  obtain ⟨w2, hmk, hown, hgr⟩ := run_make_own (P := Tryd.prog) w1 w1.heap.size 36 3 i0 (.int .i64 0) 1 Tryd.underlying36 hi hz0 hz1 .i64 .i64 LT.length (by rw [hz2]; omega) (by unfold maxLen; omega) (Nat.le_refl _)
  have K2 : Hid (On w1 w2) := (On.refl w1).grownNone hgr
  clear hgr hC
  go_wp2
  clear hmk
  go_loopg [0, 3] n (fun gg s0 s3 wr => ∃ (r : Nat) (L : List Nat), gg = r ∧ s0 = .int .u64 r ∧ r < 18446744073709551616 ∧ wr.ownsRow w1.heap.size 3 1 s3 L.length (L.map intV) ∧ L.length ≤ 64 ∧ Hid (On w1 wr) ∧ Hid (LT = L ++ bits64 r))
  case atStart => exact ⟨n, [], rfl, rfl, hn, hown, by decide, K2, HL⟩
  case round =>
    clear HL K2 hown
    obtain ⟨r, L, hg, rfl, hr, hown, hL26, HO, HL⟩ := hrel
    by_cases h0 : r = 0
    · subst h0
      have e : LT = L := by rw [HL.out, b64_zero]; simp
      subst e
      obtain ⟨a, c, rfl⟩ := own_slice hown
      go_wp2
      go_ret
      exact ⟨a, c, rfl, hown, HO.out⟩
    · obtain ⟨hk, hb, hless⟩ := rise64 r h0 hr
      have hT := first_is r hr wr (HD.out.on HO.out)
      have hf : firstN r = (Lib.ctz 64 r : Nat) := by unfold firstN; rw [if_neg h0]
      rw [hf] at hT
      have hand := and_less r hr h0
      have HL2 : Hid (LT = (L ++ [Lib.ctz 64 r]) ++ bits64 (r &&& (r - 1))) := by
        show LT = _
        rw [HL.out, hb]
        simp
      have hr2 : (r &&& (r - 1)) < 18446744073709551616 := by omega
      have h26 : (L ++ [Lib.ctz 64 r]).length ≤ 64 := by
        have := congrArg List.length HL2.out
        rw [List.length_append] at this
        omega
      have hr0 : ((r : Int) == 0) = false := by simpa using (by omega : ¬ (r : Int) = 0)
      clear HL hb hf
      generalize Lib.ctz 64 r = k at *
      generalize r &&& (r - 1) = r2 at *
      have hlt : ∀ g, u3.ownBlock = some g → w1.heap.size ≤ g := fun g hg => (hown.lt g hg).1
      go_wp2_with fail
      refine hT.mono ?_
      rintro e w3 ⟨rfl, rfl⟩
      go_wp2_with (at_builtin; refine wpList_append_own _ rfl _ _ 36 rfl w1.heap.size 3 i0 (.int .i64 0) 1 8 Tryd.underlying36 hi hz0 hz1 hz2 rfl (by decide) _ _ _ rfl (hown.alloc _) ⟨w3.heap.size, 0, none⟩ 1 1 [intV k] rfl rfl ?c1 ?c2 ?c3 ?c4 ?c5 ?_)
      case c1 =>
        intro j u hu
        rw [new_cell]
        exact hu
      case c2 =>
        intro u hu
        simp only [List.mem_cons, List.not_mem_nil, or_false] at hu
        subst hu
        rfl
      case c3 => unfold maxLen; omega
      case c4 => omega
      case c5 => simp only [World.size_alloc]; have := HO.out.size; omega
      intro v' w4 hown4 hg4 _
      go_wp2
      go_roundg r2
      case measure => omega
      case rel =>
        exact ⟨r2, L ++ [k], rfl, rfl, hr2, by simpa using hown4, h26, (HO.out.alloc _).grown hg4 hlt, HL2⟩
end Go.Proofs.YtohngifmbnlmmaaDoor
