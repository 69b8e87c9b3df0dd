/- Proved: for every byte and every int the law LexOne of layer 2 returns true and leaves its arguments as they were; the condition is that the listed package-level variables hold what the program's text lays, to which the card ties them. -/
import Derived.Test.YtoipapbdepobjaaDoorLexRow
import Derived.Test.YtoipapbdepobjaaDoorRefAllW
import Derived.Test.YtoipapbdepobjaaDoorLift2
namespace Go.Proofs.YtoipapbdepobjaaDoor
open Go.ChangeShapes Go.WideShapes Go.ChangeAt Go.WideMaps Go.WideElems Go.RowKit

theorem ones_at {c : Nat} (h : oneN c = true) : ∃ j, ∃ hj : j < 12, (ones[j]'hj).toNat = c := by
  simp only [oneN, Bool.or_eq_true, beq_iff_eq] at h
  rcases h with ((((((((((h | h) | h) | h) | h) | h) | h) | h) | h) | h) | h) | h
  · exact ⟨0, by decide, h.symm⟩
  · exact ⟨1, by decide, h.symm⟩
  · exact ⟨2, by decide, h.symm⟩
  · exact ⟨3, by decide, h.symm⟩
  · exact ⟨4, by decide, h.symm⟩
  · exact ⟨5, by decide, h.symm⟩
  · exact ⟨6, by decide, h.symm⟩
  · exact ⟨7, by decide, h.symm⟩
  · exact ⟨8, by decide, h.symm⟩
  · exact ⟨9, by decide, h.symm⟩
  · exact ⟨10, by decide, h.symm⟩
  · exact ⟨11, by decide, h.symm⟩

set_option maxHeartbeats 2000000 in
set_option maxRecDepth 8000 in
theorem one_32 (n : Int) (N L E P : Nat) (hand : bits .and .i64 n 7 = (N : Int)) (hN : N ≤ 7) 
    (hF : E = 0 ∧ P = 0 ∧ L = 1) (w : World) (hw : Lw w)
    (hA : ∀ w1, Lw w1 → Calls Tryd.prog 9 #[.string (rowS N 32)] w1 fun e w' => ∃ ao cap, e = .returned (.tuple #[.slice ao L cap, .agg #[.int .i64 E, .int .i64 P]]) ∧ On w1 w')
    (hB : ∀ w1, Calls Tryd.prog 10 #[.string (rowS N 32)] w1 fun e w' => ∃ ao cap, e = .returned (.tuple #[.slice ao L cap, .agg #[.int .i64 E, .int .i64 P]]) ∧ On w1 w') :
    Calls Tryd.prog 3 #[.int .u8 32, .int .i64 n] w fun e w' => e = .returned (.bool true) ∧ On w w' := by
  have hmk := fun w1 => run_make_row' (P := Tryd.prog) 22 5 (.int .u8 0) 1 Tryd.underlying22 infoB rfl .i64 .i64 (N + 1) (by omega) (by omega) w1
  have ec : ((N + 1 : Nat) : Int) = (N : Int) + 1 := by omega
  rw [ec] at hmk
  have hAw := fun w1 (h : Lw w1) => awake_any w1 h
  have HF : Hid _ := hF
  clear hF ec
  go_enter Tryd.func3, Tryd.ntmps3
  go_wp2_with fail
  go_loopg [21] (N + 1) (fun k iv wr => ∃ j : Nat, k = N + 1 - j ∧ iv = .int .i64 j ∧ j ≤ N + 1 ∧ wr.rowIs w.heap.size 5 (N + 1) (fun i => if i < j then .int .u8 32 else .int .u8 0) ∧ On w wr)
  case atStart => exact ⟨0, rfl, rfl, Nat.zero_le _, (World.rowIs_made w (.int .u8 0) (N + 1) 5).congr (fun i _ => by simp), (On.refl _).alloc _⟩
  case round =>
    obtain ⟨j, hk, rfl, hj, hrow, hon⟩ := hrel
    by_cases hlt : j < N + 1
    · have hcell := hrow.cell hlt
      have hfr := hrow.frozen j
      simp only [Nat.lt_irrefl, if_false] at hcell
      go_wp2_with fail
      go_roundg (N + 1 - (j + 1))
      case measure => omega
      case rel =>
        refine ⟨j + 1, rfl, by go_num, by omega, (hrow.set j (.int .u8 32)).congr (fun i hi => ?_), hon.setNew (Nat.le_refl _) _⟩
        by_cases h1 : i = j
        · subst h1; simp
        · by_cases h2 : i < j
          · simp [h1, h2, Nat.lt_succ_of_lt h2]
          · simp [h1, h2, show ¬ i < j + 1 by omega]
    · have hjN : j = N + 1 := by omega
      subst hjN
      have hrow2 : wr.rowIs w.heap.size 5 (N + 1) (fun _ => .int .u8 32) := hrow.congr (fun i hi => by simp [hi])
      have hcell := hrow2.cell (show N < N + 1 by omega)
      have hfr := hrow2.frozen N
      have hrow3 : (wr.setCell ⟨w.heap.size, N, none⟩ (.int .u8 32)).rowIs w.heap.size 5 (N + 1) (fun i => if i = N then .int .u8 ((32 : Nat) : Int) else .int .u8 32) := hrow2.set N (.int .u8 32)
      have hcv := conv_row N 32 w.heap.size _ (by omega) hrow3
      have hon3 : On w (wr.setCell ⟨w.heap.size, N, none⟩ (.int .u8 32)) := hon.setNew (Nat.le_refl _) _
      have hL3 := hw.on hon3
      clear hmk hrow hrow2 hon
      go_wp2_with fail
      refine (hA _ hL3).mono ?_
      rintro e w1 ⟨ao1, cap1, rfl, hO1⟩
      have hrow4 : (w1.alloc (.cells #[.int .i64 E, .int .i64 P] 26)).rowIs w.heap.size 5 (N + 1) (fun i => if i = N then .int .u8 ((32 : Nat) : Int) else .int .u8 32) := (hrow3.of_block (hO1.block w.heap.size hrow3.lt)).alloc _
      have hcv2 := conv_row N 32 w.heap.size _ (by omega) hrow4
      clear hcv hcell hfr
      go_wp2_with fail
      refine (hB _).mono ?_
      rintro e w2 ⟨ao2, cap2, rfl, hO2⟩
      have y0 := (hO2.cell (p := ⟨w1.heap.size, 0, none⟩) (by simp)).trans (cell_new w1 #[.int .i64 E, .int .i64 P] 26 w1.heap.size 0 rfl)
      have y1 := (hO2.cell (p := ⟨w1.heap.size, 1, none⟩) (by simp)).trans (cell_new w1 #[.int .i64 E, .int .i64 P] 26 w1.heap.size 1 rfl)
      have hz : w1.heap.size < w2.heap.size := Nat.lt_of_lt_of_le (by simp) hO2.size
      have hq : On w (w2.alloc (.cells #[.int .i64 E, .int .i64 P] 26)) := (hon3.trans (hO1.alloc _)).trans (hO2.alloc _)
      have x0 : (w2.alloc (.cells #[.int .i64 E, .int .i64 P] 26)).cell? ⟨w1.heap.size, 0, none⟩ = some (.int .i64 E) := (((On.refl w2).alloc _).cell (p := ⟨w1.heap.size, 0, none⟩) hz).trans y0
      have x1 : (w2.alloc (.cells #[.int .i64 E, .int .i64 P] 26)).cell? ⟨w1.heap.size, 1, none⟩ = some (.int .i64 P) := (((On.refl w2).alloc _).cell (p := ⟨w1.heap.size, 1, none⟩) hz).trans y1
      have HX : Hid ((w2.alloc (.cells #[.int .i64 E, .int .i64 P] 26)).cell? ⟨w1.heap.size, 0, none⟩ = some (.int .i64 E) ∧ (w2.alloc (.cells #[.int .i64 E, .int .i64 P] 26)).cell? ⟨w1.heap.size, 1, none⟩ = some (.int .i64 P)) := ⟨x0, x1⟩
      clear hcv2 hrow3 hrow4 hO1 hO2 hA hB x0 x1
      go_wp2_with fail
      go_loopg [12, 13] 12 (fun kq bv iv wx => ∃ (i : Nat) (b : Bool), kq = 12 - i ∧ iv = .int .i64 i ∧ bv = .bool b ∧ i ≤ 12 ∧ (b = true ↔ false = true ∨ ∃ j, j < i ∧ ∃ hj : j < 12, (ones[j]'hj).toNat = 32) ∧ (wx.cell? ⟨w1.heap.size, 0, none⟩ = some (.int .i64 E) ∧ wx.cell? ⟨w1.heap.size, 1, none⟩ = some (.int .i64 P)) ∧ On w wx)
      case atStart => exact ⟨0, false, rfl, rfl, rfl, by omega, ⟨fun h => Or.inl h, fun h => h.elim id (fun ⟨j, h0, _⟩ => absurd h0 (by omega))⟩, HX.out, hq⟩
      case round =>
        obtain ⟨i, b, hk4, rfl, rfl, hi4, hbi, ⟨z0, z1⟩, hox⟩ := hrel
        have HBI : Hid (b = true ↔ false = true ∨ ∃ j, j < i ∧ ∃ hj : j < 12, (ones[j]'hj).toNat = 32) := hbi
        clear hbi y0 y1 HX hq
        by_cases hlt4 : i < 12
        · cases b with
          | true =>
            go_wp2_with fail
            go_roundg (12 - (i + 1))
            case measure => omega
            case rel => exact ⟨i + 1, true, rfl, by go_num, rfl, by omega, ⟨fun _ => (HBI.out.1 (by first | rfl | trivial)).elim (fun h => absurd h (by simp)) (fun ⟨j, h0, h1⟩ => Or.inr ⟨j, by omega, h1⟩), fun _ => rfl⟩, ⟨z0, z1⟩, hox⟩
          | false =>
            have HE : Hid ((ones[i]'hlt4).toNat = ((⟨#[123, 125, 59, 58, 61, 43, 45, 42, 38, 124, 94, 60]⟩ : ByteArray)[i]'hlt4).toNat) := rfl
            obtain ⟨e4, he4⟩ : ∃ e4, ((⟨#[123, 125, 59, 58, 61, 43, 45, 42, 38, 124, 94, 60]⟩ : ByteArray)[i]'hlt4).toNat = e4 := ⟨_, rfl⟩
            have HE4 : Hid ((ones[i]'hlt4).toNat = e4) := HE.out.trans he4
            clear HE
            by_cases hec : e4 = 32
            · have heq : ((e4 : Int) == (32 : Int)) = true := by rw [hec]; simp
              have HEC : Hid (e4 = 32) := hec
              clear hec
              go_wp2_with fail
              go_roundg (12 - (i + 1))
              case measure => omega
              case rel => exact ⟨i + 1, true, rfl, by go_num, rfl, by omega, ⟨fun _ => Or.inr ⟨i, by omega, hlt4, HE4.out.trans HEC.out⟩, fun _ => rfl⟩, ⟨z0, z1⟩, hox⟩
            · have heq : ((e4 : Int) == (32 : Int)) = false := by rw [beq_eq_false_iff_ne]; omega
              have HEC : Hid (e4 ≠ 32) := hec
              clear hec
              go_wp2_with fail
              go_roundg (12 - (i + 1))
              case measure => omega
              case rel =>
                refine ⟨i + 1, false, rfl, by go_num, rfl, by omega, ⟨fun h => (by cases h), fun h => ?_⟩, ⟨z0, z1⟩, hox⟩
                have hh := HBI.out.2 (h.elim (fun h => absurd h (by simp)) (fun ⟨j, h0, hj, h1⟩ => Or.inr ⟨j, (by have : j ≠ i := (fun hji => by subst hji; exact HEC.out (HE4.out.symm.trans h1)); omega), hj, h1⟩))
                exact absurd hh (by simp)
        · have hi12 : i = 12 := by omega
          subst hi12
          have hLx := hw.on hox
          obtain ⟨g1, g2, g3⟩ := HF.out
          subst g1 g2 g3
          clear HBI HF
          cases b with
          | true =>
            go_wp2_with fail
            refine (hAw _ hLx).mono ?_
            rintro e w5 ⟨rfl, hO5⟩
            go_wp2_with fail
            go_ret
            exact ⟨rfl, hox.trans hO5⟩
          | false =>
            go_wp2_with fail
            refine (hAw _ hLx).mono ?_
            rintro e w5 ⟨rfl, hO5⟩
            go_wp2_with fail
            go_ret
            exact ⟨rfl, hox.trans hO5⟩

set_option maxHeartbeats 2000000 in
set_option maxRecDepth 8000 in
theorem one_9 (n : Int) (N L E P : Nat) (hand : bits .and .i64 n 7 = (N : Int)) (hN : N ≤ 7) 
    (hF : E = 0 ∧ P = 0 ∧ L = 1) (w : World) (hw : Lw w)
    (hA : ∀ w1, Lw w1 → Calls Tryd.prog 9 #[.string (rowS N 9)] w1 fun e w' => ∃ ao cap, e = .returned (.tuple #[.slice ao L cap, .agg #[.int .i64 E, .int .i64 P]]) ∧ On w1 w')
    (hB : ∀ w1, Calls Tryd.prog 10 #[.string (rowS N 9)] w1 fun e w' => ∃ ao cap, e = .returned (.tuple #[.slice ao L cap, .agg #[.int .i64 E, .int .i64 P]]) ∧ On w1 w') :
    Calls Tryd.prog 3 #[.int .u8 9, .int .i64 n] w fun e w' => e = .returned (.bool true) ∧ On w w' := by
  have hmk := fun w1 => run_make_row' (P := Tryd.prog) 22 5 (.int .u8 0) 1 Tryd.underlying22 infoB rfl .i64 .i64 (N + 1) (by omega) (by omega) w1
  have ec : ((N + 1 : Nat) : Int) = (N : Int) + 1 := by omega
  rw [ec] at hmk
  have hAw := fun w1 (h : Lw w1) => awake_any w1 h
  have HF : Hid _ := hF
  clear hF ec
  go_enter Tryd.func3, Tryd.ntmps3
  go_wp2_with fail
  go_loopg [21] (N + 1) (fun k iv wr => ∃ j : Nat, k = N + 1 - j ∧ iv = .int .i64 j ∧ j ≤ N + 1 ∧ wr.rowIs w.heap.size 5 (N + 1) (fun i => if i < j then .int .u8 32 else .int .u8 0) ∧ On w wr)
  case atStart => exact ⟨0, rfl, rfl, Nat.zero_le _, (World.rowIs_made w (.int .u8 0) (N + 1) 5).congr (fun i _ => by simp), (On.refl _).alloc _⟩
  case round =>
    obtain ⟨j, hk, rfl, hj, hrow, hon⟩ := hrel
    by_cases hlt : j < N + 1
    · have hcell := hrow.cell hlt
      have hfr := hrow.frozen j
      simp only [Nat.lt_irrefl, if_false] at hcell
      go_wp2_with fail
      go_roundg (N + 1 - (j + 1))
      case measure => omega
      case rel =>
        refine ⟨j + 1, rfl, by go_num, by omega, (hrow.set j (.int .u8 32)).congr (fun i hi => ?_), hon.setNew (Nat.le_refl _) _⟩
        by_cases h1 : i = j
        · subst h1; simp
        · by_cases h2 : i < j
          · simp [h1, h2, Nat.lt_succ_of_lt h2]
          · simp [h1, h2, show ¬ i < j + 1 by omega]
    · have hjN : j = N + 1 := by omega
      subst hjN
      have hrow2 : wr.rowIs w.heap.size 5 (N + 1) (fun _ => .int .u8 32) := hrow.congr (fun i hi => by simp [hi])
      have hcell := hrow2.cell (show N < N + 1 by omega)
      have hfr := hrow2.frozen N
      have hrow3 : (wr.setCell ⟨w.heap.size, N, none⟩ (.int .u8 9)).rowIs w.heap.size 5 (N + 1) (fun i => if i = N then .int .u8 ((9 : Nat) : Int) else .int .u8 32) := hrow2.set N (.int .u8 9)
      have hcv := conv_row N 9 w.heap.size _ (by omega) hrow3
      have hon3 : On w (wr.setCell ⟨w.heap.size, N, none⟩ (.int .u8 9)) := hon.setNew (Nat.le_refl _) _
      have hL3 := hw.on hon3
      clear hmk hrow hrow2 hon
      go_wp2_with fail
      refine (hA _ hL3).mono ?_
      rintro e w1 ⟨ao1, cap1, rfl, hO1⟩
      have hrow4 : (w1.alloc (.cells #[.int .i64 E, .int .i64 P] 26)).rowIs w.heap.size 5 (N + 1) (fun i => if i = N then .int .u8 ((9 : Nat) : Int) else .int .u8 32) := (hrow3.of_block (hO1.block w.heap.size hrow3.lt)).alloc _
      have hcv2 := conv_row N 9 w.heap.size _ (by omega) hrow4
      clear hcv hcell hfr
      go_wp2_with fail
      refine (hB _).mono ?_
      rintro e w2 ⟨ao2, cap2, rfl, hO2⟩
      have y0 := (hO2.cell (p := ⟨w1.heap.size, 0, none⟩) (by simp)).trans (cell_new w1 #[.int .i64 E, .int .i64 P] 26 w1.heap.size 0 rfl)
      have y1 := (hO2.cell (p := ⟨w1.heap.size, 1, none⟩) (by simp)).trans (cell_new w1 #[.int .i64 E, .int .i64 P] 26 w1.heap.size 1 rfl)
      have hz : w1.heap.size < w2.heap.size := Nat.lt_of_lt_of_le (by simp) hO2.size
      have hq : On w (w2.alloc (.cells #[.int .i64 E, .int .i64 P] 26)) := (hon3.trans (hO1.alloc _)).trans (hO2.alloc _)
      have x0 : (w2.alloc (.cells #[.int .i64 E, .int .i64 P] 26)).cell? ⟨w1.heap.size, 0, none⟩ = some (.int .i64 E) := (((On.refl w2).alloc _).cell (p := ⟨w1.heap.size, 0, none⟩) hz).trans y0
      have x1 : (w2.alloc (.cells #[.int .i64 E, .int .i64 P] 26)).cell? ⟨w1.heap.size, 1, none⟩ = some (.int .i64 P) := (((On.refl w2).alloc _).cell (p := ⟨w1.heap.size, 1, none⟩) hz).trans y1
      have HX : Hid ((w2.alloc (.cells #[.int .i64 E, .int .i64 P] 26)).cell? ⟨w1.heap.size, 0, none⟩ = some (.int .i64 E) ∧ (w2.alloc (.cells #[.int .i64 E, .int .i64 P] 26)).cell? ⟨w1.heap.size, 1, none⟩ = some (.int .i64 P)) := ⟨x0, x1⟩
      clear hcv2 hrow3 hrow4 hO1 hO2 hA hB x0 x1
      go_wp2_with fail
      go_loopg [12, 13] 12 (fun kq bv iv wx => ∃ (i : Nat) (b : Bool), kq = 12 - i ∧ iv = .int .i64 i ∧ bv = .bool b ∧ i ≤ 12 ∧ (b = true ↔ false = true ∨ ∃ j, j < i ∧ ∃ hj : j < 12, (ones[j]'hj).toNat = 9) ∧ (wx.cell? ⟨w1.heap.size, 0, none⟩ = some (.int .i64 E) ∧ wx.cell? ⟨w1.heap.size, 1, none⟩ = some (.int .i64 P)) ∧ On w wx)
      case atStart => exact ⟨0, false, rfl, rfl, rfl, by omega, ⟨fun h => Or.inl h, fun h => h.elim id (fun ⟨j, h0, _⟩ => absurd h0 (by omega))⟩, HX.out, hq⟩
      case round =>
        obtain ⟨i, b, hk4, rfl, rfl, hi4, hbi, ⟨z0, z1⟩, hox⟩ := hrel
        have HBI : Hid (b = true ↔ false = true ∨ ∃ j, j < i ∧ ∃ hj : j < 12, (ones[j]'hj).toNat = 9) := hbi
        clear hbi y0 y1 HX hq
        by_cases hlt4 : i < 12
        · cases b with
          | true =>
            go_wp2_with fail
            go_roundg (12 - (i + 1))
            case measure => omega
            case rel => exact ⟨i + 1, true, rfl, by go_num, rfl, by omega, ⟨fun _ => (HBI.out.1 (by first | rfl | trivial)).elim (fun h => absurd h (by simp)) (fun ⟨j, h0, h1⟩ => Or.inr ⟨j, by omega, h1⟩), fun _ => rfl⟩, ⟨z0, z1⟩, hox⟩
          | false =>
            have HE : Hid ((ones[i]'hlt4).toNat = ((⟨#[123, 125, 59, 58, 61, 43, 45, 42, 38, 124, 94, 60]⟩ : ByteArray)[i]'hlt4).toNat) := rfl
            obtain ⟨e4, he4⟩ : ∃ e4, ((⟨#[123, 125, 59, 58, 61, 43, 45, 42, 38, 124, 94, 60]⟩ : ByteArray)[i]'hlt4).toNat = e4 := ⟨_, rfl⟩
            have HE4 : Hid ((ones[i]'hlt4).toNat = e4) := HE.out.trans he4
            clear HE
            by_cases hec : e4 = 9
            · have heq : ((e4 : Int) == (9 : Int)) = true := by rw [hec]; simp
              have HEC : Hid (e4 = 9) := hec
              clear hec
              go_wp2_with fail
              go_roundg (12 - (i + 1))
              case measure => omega
              case rel => exact ⟨i + 1, true, rfl, by go_num, rfl, by omega, ⟨fun _ => Or.inr ⟨i, by omega, hlt4, HE4.out.trans HEC.out⟩, fun _ => rfl⟩, ⟨z0, z1⟩, hox⟩
            · have heq : ((e4 : Int) == (9 : Int)) = false := by rw [beq_eq_false_iff_ne]; omega
              have HEC : Hid (e4 ≠ 9) := hec
              clear hec
              go_wp2_with fail
              go_roundg (12 - (i + 1))
              case measure => omega
              case rel =>
                refine ⟨i + 1, false, rfl, by go_num, rfl, by omega, ⟨fun h => (by cases h), fun h => ?_⟩, ⟨z0, z1⟩, hox⟩
                have hh := HBI.out.2 (h.elim (fun h => absurd h (by simp)) (fun ⟨j, h0, hj, h1⟩ => Or.inr ⟨j, (by have : j ≠ i := (fun hji => by subst hji; exact HEC.out (HE4.out.symm.trans h1)); omega), hj, h1⟩))
                exact absurd hh (by simp)
        · have hi12 : i = 12 := by omega
          subst hi12
          have hLx := hw.on hox
          obtain ⟨g1, g2, g3⟩ := HF.out
          subst g1 g2 g3
          clear HBI HF
          cases b with
          | true =>
            go_wp2_with fail
            refine (hAw _ hLx).mono ?_
            rintro e w5 ⟨rfl, hO5⟩
            go_wp2_with fail
            go_ret
            exact ⟨rfl, hox.trans hO5⟩
          | false =>
            go_wp2_with fail
            refine (hAw _ hLx).mono ?_
            rintro e w5 ⟨rfl, hO5⟩
            go_wp2_with fail
            go_ret
            exact ⟨rfl, hox.trans hO5⟩

set_option maxHeartbeats 2000000 in
set_option maxRecDepth 8000 in
theorem one_10 (n : Int) (N L E P : Nat) (hand : bits .and .i64 n 7 = (N : Int)) (hN : N ≤ 7) 
    (hF : E = 0 ∧ P = 0 ∧ L = 1) (w : World) (hw : Lw w)
    (hA : ∀ w1, Lw w1 → Calls Tryd.prog 9 #[.string (rowS N 10)] w1 fun e w' => ∃ ao cap, e = .returned (.tuple #[.slice ao L cap, .agg #[.int .i64 E, .int .i64 P]]) ∧ On w1 w')
    (hB : ∀ w1, Calls Tryd.prog 10 #[.string (rowS N 10)] w1 fun e w' => ∃ ao cap, e = .returned (.tuple #[.slice ao L cap, .agg #[.int .i64 E, .int .i64 P]]) ∧ On w1 w') :
    Calls Tryd.prog 3 #[.int .u8 10, .int .i64 n] w fun e w' => e = .returned (.bool true) ∧ On w w' := by
  have hmk := fun w1 => run_make_row' (P := Tryd.prog) 22 5 (.int .u8 0) 1 Tryd.underlying22 infoB rfl .i64 .i64 (N + 1) (by omega) (by omega) w1
  have ec : ((N + 1 : Nat) : Int) = (N : Int) + 1 := by omega
  rw [ec] at hmk
  have hAw := fun w1 (h : Lw w1) => awake_any w1 h
  have HF : Hid _ := hF
  clear hF ec
  go_enter Tryd.func3, Tryd.ntmps3
  go_wp2_with fail
  go_loopg [21] (N + 1) (fun k iv wr => ∃ j : Nat, k = N + 1 - j ∧ iv = .int .i64 j ∧ j ≤ N + 1 ∧ wr.rowIs w.heap.size 5 (N + 1) (fun i => if i < j then .int .u8 32 else .int .u8 0) ∧ On w wr)
  case atStart => exact ⟨0, rfl, rfl, Nat.zero_le _, (World.rowIs_made w (.int .u8 0) (N + 1) 5).congr (fun i _ => by simp), (On.refl _).alloc _⟩
  case round =>
    obtain ⟨j, hk, rfl, hj, hrow, hon⟩ := hrel
    by_cases hlt : j < N + 1
    · have hcell := hrow.cell hlt
      have hfr := hrow.frozen j
      simp only [Nat.lt_irrefl, if_false] at hcell
      go_wp2_with fail
      go_roundg (N + 1 - (j + 1))
      case measure => omega
      case rel =>
        refine ⟨j + 1, rfl, by go_num, by omega, (hrow.set j (.int .u8 32)).congr (fun i hi => ?_), hon.setNew (Nat.le_refl _) _⟩
        by_cases h1 : i = j
        · subst h1; simp
        · by_cases h2 : i < j
          · simp [h1, h2, Nat.lt_succ_of_lt h2]
          · simp [h1, h2, show ¬ i < j + 1 by omega]
    · have hjN : j = N + 1 := by omega
      subst hjN
      have hrow2 : wr.rowIs w.heap.size 5 (N + 1) (fun _ => .int .u8 32) := hrow.congr (fun i hi => by simp [hi])
      have hcell := hrow2.cell (show N < N + 1 by omega)
      have hfr := hrow2.frozen N
      have hrow3 : (wr.setCell ⟨w.heap.size, N, none⟩ (.int .u8 10)).rowIs w.heap.size 5 (N + 1) (fun i => if i = N then .int .u8 ((10 : Nat) : Int) else .int .u8 32) := hrow2.set N (.int .u8 10)
      have hcv := conv_row N 10 w.heap.size _ (by omega) hrow3
      have hon3 : On w (wr.setCell ⟨w.heap.size, N, none⟩ (.int .u8 10)) := hon.setNew (Nat.le_refl _) _
      have hL3 := hw.on hon3
      clear hmk hrow hrow2 hon
      go_wp2_with fail
      refine (hA _ hL3).mono ?_
      rintro e w1 ⟨ao1, cap1, rfl, hO1⟩
      have hrow4 : (w1.alloc (.cells #[.int .i64 E, .int .i64 P] 26)).rowIs w.heap.size 5 (N + 1) (fun i => if i = N then .int .u8 ((10 : Nat) : Int) else .int .u8 32) := (hrow3.of_block (hO1.block w.heap.size hrow3.lt)).alloc _
      have hcv2 := conv_row N 10 w.heap.size _ (by omega) hrow4
      clear hcv hcell hfr
      go_wp2_with fail
      refine (hB _).mono ?_
      rintro e w2 ⟨ao2, cap2, rfl, hO2⟩
      have y0 := (hO2.cell (p := ⟨w1.heap.size, 0, none⟩) (by simp)).trans (cell_new w1 #[.int .i64 E, .int .i64 P] 26 w1.heap.size 0 rfl)
      have y1 := (hO2.cell (p := ⟨w1.heap.size, 1, none⟩) (by simp)).trans (cell_new w1 #[.int .i64 E, .int .i64 P] 26 w1.heap.size 1 rfl)
      have hz : w1.heap.size < w2.heap.size := Nat.lt_of_lt_of_le (by simp) hO2.size
      have hq : On w (w2.alloc (.cells #[.int .i64 E, .int .i64 P] 26)) := (hon3.trans (hO1.alloc _)).trans (hO2.alloc _)
      have x0 : (w2.alloc (.cells #[.int .i64 E, .int .i64 P] 26)).cell? ⟨w1.heap.size, 0, none⟩ = some (.int .i64 E) := (((On.refl w2).alloc _).cell (p := ⟨w1.heap.size, 0, none⟩) hz).trans y0
      have x1 : (w2.alloc (.cells #[.int .i64 E, .int .i64 P] 26)).cell? ⟨w1.heap.size, 1, none⟩ = some (.int .i64 P) := (((On.refl w2).alloc _).cell (p := ⟨w1.heap.size, 1, none⟩) hz).trans y1
      have HX : Hid ((w2.alloc (.cells #[.int .i64 E, .int .i64 P] 26)).cell? ⟨w1.heap.size, 0, none⟩ = some (.int .i64 E) ∧ (w2.alloc (.cells #[.int .i64 E, .int .i64 P] 26)).cell? ⟨w1.heap.size, 1, none⟩ = some (.int .i64 P)) := ⟨x0, x1⟩
      clear hcv2 hrow3 hrow4 hO1 hO2 hA hB x0 x1
      go_wp2_with fail
      go_loopg [12, 13] 12 (fun kq bv iv wx => ∃ (i : Nat) (b : Bool), kq = 12 - i ∧ iv = .int .i64 i ∧ bv = .bool b ∧ i ≤ 12 ∧ (b = true ↔ false = true ∨ ∃ j, j < i ∧ ∃ hj : j < 12, (ones[j]'hj).toNat = 10) ∧ (wx.cell? ⟨w1.heap.size, 0, none⟩ = some (.int .i64 E) ∧ wx.cell? ⟨w1.heap.size, 1, none⟩ = some (.int .i64 P)) ∧ On w wx)
      case atStart => exact ⟨0, false, rfl, rfl, rfl, by omega, ⟨fun h => Or.inl h, fun h => h.elim id (fun ⟨j, h0, _⟩ => absurd h0 (by omega))⟩, HX.out, hq⟩
      case round =>
        obtain ⟨i, b, hk4, rfl, rfl, hi4, hbi, ⟨z0, z1⟩, hox⟩ := hrel
        have HBI : Hid (b = true ↔ false = true ∨ ∃ j, j < i ∧ ∃ hj : j < 12, (ones[j]'hj).toNat = 10) := hbi
        clear hbi y0 y1 HX hq
        by_cases hlt4 : i < 12
        · cases b with
          | true =>
            go_wp2_with fail
            go_roundg (12 - (i + 1))
            case measure => omega
            case rel => exact ⟨i + 1, true, rfl, by go_num, rfl, by omega, ⟨fun _ => (HBI.out.1 (by first | rfl | trivial)).elim (fun h => absurd h (by simp)) (fun ⟨j, h0, h1⟩ => Or.inr ⟨j, by omega, h1⟩), fun _ => rfl⟩, ⟨z0, z1⟩, hox⟩
          | false =>
            have HE : Hid ((ones[i]'hlt4).toNat = ((⟨#[123, 125, 59, 58, 61, 43, 45, 42, 38, 124, 94, 60]⟩ : ByteArray)[i]'hlt4).toNat) := rfl
            obtain ⟨e4, he4⟩ : ∃ e4, ((⟨#[123, 125, 59, 58, 61, 43, 45, 42, 38, 124, 94, 60]⟩ : ByteArray)[i]'hlt4).toNat = e4 := ⟨_, rfl⟩
            have HE4 : Hid ((ones[i]'hlt4).toNat = e4) := HE.out.trans he4
            clear HE
            by_cases hec : e4 = 10
            · have heq : ((e4 : Int) == (10 : Int)) = true := by rw [hec]; simp
              have HEC : Hid (e4 = 10) := hec
              clear hec
              go_wp2_with fail
              go_roundg (12 - (i + 1))
              case measure => omega
              case rel => exact ⟨i + 1, true, rfl, by go_num, rfl, by omega, ⟨fun _ => Or.inr ⟨i, by omega, hlt4, HE4.out.trans HEC.out⟩, fun _ => rfl⟩, ⟨z0, z1⟩, hox⟩
            · have heq : ((e4 : Int) == (10 : Int)) = false := by rw [beq_eq_false_iff_ne]; omega
              have HEC : Hid (e4 ≠ 10) := hec
              clear hec
              go_wp2_with fail
              go_roundg (12 - (i + 1))
              case measure => omega
              case rel =>
                refine ⟨i + 1, false, rfl, by go_num, rfl, by omega, ⟨fun h => (by cases h), fun h => ?_⟩, ⟨z0, z1⟩, hox⟩
                have hh := HBI.out.2 (h.elim (fun h => absurd h (by simp)) (fun ⟨j, h0, hj, h1⟩ => Or.inr ⟨j, (by have : j ≠ i := (fun hji => by subst hji; exact HEC.out (HE4.out.symm.trans h1)); omega), hj, h1⟩))
                exact absurd hh (by simp)
        · have hi12 : i = 12 := by omega
          subst hi12
          have hLx := hw.on hox
          obtain ⟨g1, g2, g3⟩ := HF.out
          subst g1 g2 g3
          clear HBI HF
          cases b with
          | true =>
            go_wp2_with fail
            refine (hAw _ hLx).mono ?_
            rintro e w5 ⟨rfl, hO5⟩
            go_wp2_with fail
            go_ret
            exact ⟨rfl, hox.trans hO5⟩
          | false =>
            go_wp2_with fail
            refine (hAw _ hLx).mono ?_
            rintro e w5 ⟨rfl, hO5⟩
            go_wp2_with fail
            go_ret
            exact ⟨rfl, hox.trans hO5⟩

set_option maxHeartbeats 2000000 in
set_option maxRecDepth 8000 in
theorem one_35 (n : Int) (N L E P : Nat) (hand : bits .and .i64 n 7 = (N : Int)) (hN : N ≤ 7) 
    (hF : E = 0 ∧ P = 0 ∧ L = 1) (w : World) (hw : Lw w)
    (hA : ∀ w1, Lw w1 → Calls Tryd.prog 9 #[.string (rowS N 35)] w1 fun e w' => ∃ ao cap, e = .returned (.tuple #[.slice ao L cap, .agg #[.int .i64 E, .int .i64 P]]) ∧ On w1 w')
    (hB : ∀ w1, Calls Tryd.prog 10 #[.string (rowS N 35)] w1 fun e w' => ∃ ao cap, e = .returned (.tuple #[.slice ao L cap, .agg #[.int .i64 E, .int .i64 P]]) ∧ On w1 w') :
    Calls Tryd.prog 3 #[.int .u8 35, .int .i64 n] w fun e w' => e = .returned (.bool true) ∧ On w w' := by
  have hmk := fun w1 => run_make_row' (P := Tryd.prog) 22 5 (.int .u8 0) 1 Tryd.underlying22 infoB rfl .i64 .i64 (N + 1) (by omega) (by omega) w1
  have ec : ((N + 1 : Nat) : Int) = (N : Int) + 1 := by omega
  rw [ec] at hmk
  have hAw := fun w1 (h : Lw w1) => awake_any w1 h
  have HF : Hid _ := hF
  clear hF ec
  go_enter Tryd.func3, Tryd.ntmps3
  go_wp2_with fail
  go_loopg [21] (N + 1) (fun k iv wr => ∃ j : Nat, k = N + 1 - j ∧ iv = .int .i64 j ∧ j ≤ N + 1 ∧ wr.rowIs w.heap.size 5 (N + 1) (fun i => if i < j then .int .u8 32 else .int .u8 0) ∧ On w wr)
  case atStart => exact ⟨0, rfl, rfl, Nat.zero_le _, (World.rowIs_made w (.int .u8 0) (N + 1) 5).congr (fun i _ => by simp), (On.refl _).alloc _⟩
  case round =>
    obtain ⟨j, hk, rfl, hj, hrow, hon⟩ := hrel
    by_cases hlt : j < N + 1
    · have hcell := hrow.cell hlt
      have hfr := hrow.frozen j
      simp only [Nat.lt_irrefl, if_false] at hcell
      go_wp2_with fail
      go_roundg (N + 1 - (j + 1))
      case measure => omega
      case rel =>
        refine ⟨j + 1, rfl, by go_num, by omega, (hrow.set j (.int .u8 32)).congr (fun i hi => ?_), hon.setNew (Nat.le_refl _) _⟩
        by_cases h1 : i = j
        · subst h1; simp
        · by_cases h2 : i < j
          · simp [h1, h2, Nat.lt_succ_of_lt h2]
          · simp [h1, h2, show ¬ i < j + 1 by omega]
    · have hjN : j = N + 1 := by omega
      subst hjN
      have hrow2 : wr.rowIs w.heap.size 5 (N + 1) (fun _ => .int .u8 32) := hrow.congr (fun i hi => by simp [hi])
      have hcell := hrow2.cell (show N < N + 1 by omega)
      have hfr := hrow2.frozen N
      have hrow3 : (wr.setCell ⟨w.heap.size, N, none⟩ (.int .u8 35)).rowIs w.heap.size 5 (N + 1) (fun i => if i = N then .int .u8 ((35 : Nat) : Int) else .int .u8 32) := hrow2.set N (.int .u8 35)
      have hcv := conv_row N 35 w.heap.size _ (by omega) hrow3
      have hon3 : On w (wr.setCell ⟨w.heap.size, N, none⟩ (.int .u8 35)) := hon.setNew (Nat.le_refl _) _
      have hL3 := hw.on hon3
      clear hmk hrow hrow2 hon
      go_wp2_with fail
      refine (hA _ hL3).mono ?_
      rintro e w1 ⟨ao1, cap1, rfl, hO1⟩
      have hrow4 : (w1.alloc (.cells #[.int .i64 E, .int .i64 P] 26)).rowIs w.heap.size 5 (N + 1) (fun i => if i = N then .int .u8 ((35 : Nat) : Int) else .int .u8 32) := (hrow3.of_block (hO1.block w.heap.size hrow3.lt)).alloc _
      have hcv2 := conv_row N 35 w.heap.size _ (by omega) hrow4
      clear hcv hcell hfr
      go_wp2_with fail
      refine (hB _).mono ?_
      rintro e w2 ⟨ao2, cap2, rfl, hO2⟩
      have y0 := (hO2.cell (p := ⟨w1.heap.size, 0, none⟩) (by simp)).trans (cell_new w1 #[.int .i64 E, .int .i64 P] 26 w1.heap.size 0 rfl)
      have y1 := (hO2.cell (p := ⟨w1.heap.size, 1, none⟩) (by simp)).trans (cell_new w1 #[.int .i64 E, .int .i64 P] 26 w1.heap.size 1 rfl)
      have hz : w1.heap.size < w2.heap.size := Nat.lt_of_lt_of_le (by simp) hO2.size
      have hq : On w (w2.alloc (.cells #[.int .i64 E, .int .i64 P] 26)) := (hon3.trans (hO1.alloc _)).trans (hO2.alloc _)
      have x0 : (w2.alloc (.cells #[.int .i64 E, .int .i64 P] 26)).cell? ⟨w1.heap.size, 0, none⟩ = some (.int .i64 E) := (((On.refl w2).alloc _).cell (p := ⟨w1.heap.size, 0, none⟩) hz).trans y0
      have x1 : (w2.alloc (.cells #[.int .i64 E, .int .i64 P] 26)).cell? ⟨w1.heap.size, 1, none⟩ = some (.int .i64 P) := (((On.refl w2).alloc _).cell (p := ⟨w1.heap.size, 1, none⟩) hz).trans y1
      have HX : Hid ((w2.alloc (.cells #[.int .i64 E, .int .i64 P] 26)).cell? ⟨w1.heap.size, 0, none⟩ = some (.int .i64 E) ∧ (w2.alloc (.cells #[.int .i64 E, .int .i64 P] 26)).cell? ⟨w1.heap.size, 1, none⟩ = some (.int .i64 P)) := ⟨x0, x1⟩
      clear hcv2 hrow3 hrow4 hO1 hO2 hA hB x0 x1
      go_wp2_with fail
      go_loopg [12, 13] 12 (fun kq bv iv wx => ∃ (i : Nat) (b : Bool), kq = 12 - i ∧ iv = .int .i64 i ∧ bv = .bool b ∧ i ≤ 12 ∧ (b = true ↔ false = true ∨ ∃ j, j < i ∧ ∃ hj : j < 12, (ones[j]'hj).toNat = 35) ∧ (wx.cell? ⟨w1.heap.size, 0, none⟩ = some (.int .i64 E) ∧ wx.cell? ⟨w1.heap.size, 1, none⟩ = some (.int .i64 P)) ∧ On w wx)
      case atStart => exact ⟨0, false, rfl, rfl, rfl, by omega, ⟨fun h => Or.inl h, fun h => h.elim id (fun ⟨j, h0, _⟩ => absurd h0 (by omega))⟩, HX.out, hq⟩
      case round =>
        obtain ⟨i, b, hk4, rfl, rfl, hi4, hbi, ⟨z0, z1⟩, hox⟩ := hrel
        have HBI : Hid (b = true ↔ false = true ∨ ∃ j, j < i ∧ ∃ hj : j < 12, (ones[j]'hj).toNat = 35) := hbi
        clear hbi y0 y1 HX hq
        by_cases hlt4 : i < 12
        · cases b with
          | true =>
            go_wp2_with fail
            go_roundg (12 - (i + 1))
            case measure => omega
            case rel => exact ⟨i + 1, true, rfl, by go_num, rfl, by omega, ⟨fun _ => (HBI.out.1 (by first | rfl | trivial)).elim (fun h => absurd h (by simp)) (fun ⟨j, h0, h1⟩ => Or.inr ⟨j, by omega, h1⟩), fun _ => rfl⟩, ⟨z0, z1⟩, hox⟩
          | false =>
            have HE : Hid ((ones[i]'hlt4).toNat = ((⟨#[123, 125, 59, 58, 61, 43, 45, 42, 38, 124, 94, 60]⟩ : ByteArray)[i]'hlt4).toNat) := rfl
            obtain ⟨e4, he4⟩ : ∃ e4, ((⟨#[123, 125, 59, 58, 61, 43, 45, 42, 38, 124, 94, 60]⟩ : ByteArray)[i]'hlt4).toNat = e4 := ⟨_, rfl⟩
            have HE4 : Hid ((ones[i]'hlt4).toNat = e4) := HE.out.trans he4
            clear HE
            by_cases hec : e4 = 35
            · have heq : ((e4 : Int) == (35 : Int)) = true := by rw [hec]; simp
              have HEC : Hid (e4 = 35) := hec
              clear hec
              go_wp2_with fail
              go_roundg (12 - (i + 1))
              case measure => omega
              case rel => exact ⟨i + 1, true, rfl, by go_num, rfl, by omega, ⟨fun _ => Or.inr ⟨i, by omega, hlt4, HE4.out.trans HEC.out⟩, fun _ => rfl⟩, ⟨z0, z1⟩, hox⟩
            · have heq : ((e4 : Int) == (35 : Int)) = false := by rw [beq_eq_false_iff_ne]; omega
              have HEC : Hid (e4 ≠ 35) := hec
              clear hec
              go_wp2_with fail
              go_roundg (12 - (i + 1))
              case measure => omega
              case rel =>
                refine ⟨i + 1, false, rfl, by go_num, rfl, by omega, ⟨fun h => (by cases h), fun h => ?_⟩, ⟨z0, z1⟩, hox⟩
                have hh := HBI.out.2 (h.elim (fun h => absurd h (by simp)) (fun ⟨j, h0, hj, h1⟩ => Or.inr ⟨j, (by have : j ≠ i := (fun hji => by subst hji; exact HEC.out (HE4.out.symm.trans h1)); omega), hj, h1⟩))
                exact absurd hh (by simp)
        · have hi12 : i = 12 := by omega
          subst hi12
          have hLx := hw.on hox
          obtain ⟨g1, g2, g3⟩ := HF.out
          subst g1 g2 g3
          clear HBI HF
          cases b with
          | true =>
            go_wp2_with fail
            refine (hAw _ hLx).mono ?_
            rintro e w5 ⟨rfl, hO5⟩
            go_wp2_with fail
            go_ret
            exact ⟨rfl, hox.trans hO5⟩
          | false =>
            go_wp2_with fail
            refine (hAw _ hLx).mono ?_
            rintro e w5 ⟨rfl, hO5⟩
            go_wp2_with fail
            go_ret
            exact ⟨rfl, hox.trans hO5⟩

set_option maxHeartbeats 2000000 in
set_option maxRecDepth 8000 in
theorem one_let (n : Int) (N k L E P : Nat) (hand : bits .and .i64 n 7 = (N : Int)) (hN : N ≤ 7) (hk : k ≤ 255) (h1 : 97 ≤ k) (h2 : k ≤ 122)
    (hF : E = 0 ∧ P = 0) (w : World) (hw : Lw w)
    (hA : ∀ w1, Lw w1 → Calls Tryd.prog 9 #[.string (rowS N k)] w1 fun e w' => ∃ ao cap, e = .returned (.tuple #[.slice ao L cap, .agg #[.int .i64 E, .int .i64 P]]) ∧ On w1 w')
    (hB : ∀ w1, Calls Tryd.prog 10 #[.string (rowS N k)] w1 fun e w' => ∃ ao cap, e = .returned (.tuple #[.slice ao L cap, .agg #[.int .i64 E, .int .i64 P]]) ∧ On w1 w') :
    Calls Tryd.prog 3 #[.int .u8 k, .int .i64 n] w fun e w' => e = .returned (.bool true) ∧ On w w' := by
  have e32 : ((k : Int) == 32) = false := by rw [beq_eq_false_iff_ne]; omega
  have e9 : ((k : Int) == 9) = false := by rw [beq_eq_false_iff_ne]; omega
  have e10 : ((k : Int) == 10) = false := by rw [beq_eq_false_iff_ne]; omega
  have e35 : ((k : Int) == 35) = false := by rw [beq_eq_false_iff_ne]; omega
  have hmk := fun w1 => run_make_row' (P := Tryd.prog) 22 5 (.int .u8 0) 1 Tryd.underlying22 infoB rfl .i64 .i64 (N + 1) (by omega) (by omega) w1
  have ec : ((N + 1 : Nat) : Int) = (N : Int) + 1 := by omega
  rw [ec] at hmk
  have hAw := fun w1 (h : Lw w1) => awake_any w1 h
  have HF : Hid _ := hF
  clear hF ec
  go_enter Tryd.func3, Tryd.ntmps3
  go_wp2_with fail
  go_loopg [21] (N + 1) (fun k iv wr => ∃ j : Nat, k = N + 1 - j ∧ iv = .int .i64 j ∧ j ≤ N + 1 ∧ wr.rowIs w.heap.size 5 (N + 1) (fun i => if i < j then .int .u8 32 else .int .u8 0) ∧ On w wr)
  case atStart => exact ⟨0, rfl, rfl, Nat.zero_le _, (World.rowIs_made w (.int .u8 0) (N + 1) 5).congr (fun i _ => by simp), (On.refl _).alloc _⟩
  case round =>
    obtain ⟨j, hk, rfl, hj, hrow, hon⟩ := hrel
    by_cases hlt : j < N + 1
    · have hcell := hrow.cell hlt
      have hfr := hrow.frozen j
      simp only [Nat.lt_irrefl, if_false] at hcell
      go_wp2_with fail
      go_roundg (N + 1 - (j + 1))
      case measure => omega
      case rel =>
        refine ⟨j + 1, rfl, by go_num, by omega, (hrow.set j (.int .u8 32)).congr (fun i hi => ?_), hon.setNew (Nat.le_refl _) _⟩
        by_cases h1 : i = j
        · subst h1; simp
        · by_cases h2 : i < j
          · simp [h1, h2, Nat.lt_succ_of_lt h2]
          · simp [h1, h2, show ¬ i < j + 1 by omega]
    · have hjN : j = N + 1 := by omega
      subst hjN
      have hrow2 : wr.rowIs w.heap.size 5 (N + 1) (fun _ => .int .u8 32) := hrow.congr (fun i hi => by simp [hi])
      have hcell := hrow2.cell (show N < N + 1 by omega)
      have hfr := hrow2.frozen N
      have hrow3 : (wr.setCell ⟨w.heap.size, N, none⟩ (.int .u8 k)).rowIs w.heap.size 5 (N + 1) (fun i => if i = N then .int .u8 ((k : Nat) : Int) else .int .u8 32) := hrow2.set N (.int .u8 k)
      have hcv := conv_row N k w.heap.size _ (by omega) hrow3
      have hon3 : On w (wr.setCell ⟨w.heap.size, N, none⟩ (.int .u8 k)) := hon.setNew (Nat.le_refl _) _
      have hL3 := hw.on hon3
      clear hmk hrow hrow2 hon
      go_wp2_with fail
      refine (hA _ hL3).mono ?_
      rintro e w1 ⟨ao1, cap1, rfl, hO1⟩
      have hrow4 : (w1.alloc (.cells #[.int .i64 E, .int .i64 P] 26)).rowIs w.heap.size 5 (N + 1) (fun i => if i = N then .int .u8 ((k : Nat) : Int) else .int .u8 32) := (hrow3.of_block (hO1.block w.heap.size hrow3.lt)).alloc _
      have hcv2 := conv_row N k w.heap.size _ (by omega) hrow4
      clear hcv hcell hfr
      go_wp2_with fail
      refine (hB _).mono ?_
      rintro e w2 ⟨ao2, cap2, rfl, hO2⟩
      have y0 := (hO2.cell (p := ⟨w1.heap.size, 0, none⟩) (by simp)).trans (cell_new w1 #[.int .i64 E, .int .i64 P] 26 w1.heap.size 0 rfl)
      have y1 := (hO2.cell (p := ⟨w1.heap.size, 1, none⟩) (by simp)).trans (cell_new w1 #[.int .i64 E, .int .i64 P] 26 w1.heap.size 1 rfl)
      have hz : w1.heap.size < w2.heap.size := Nat.lt_of_lt_of_le (by simp) hO2.size
      have hq : On w (w2.alloc (.cells #[.int .i64 E, .int .i64 P] 26)) := (hon3.trans (hO1.alloc _)).trans (hO2.alloc _)
      have x0 : (w2.alloc (.cells #[.int .i64 E, .int .i64 P] 26)).cell? ⟨w1.heap.size, 0, none⟩ = some (.int .i64 E) := (((On.refl w2).alloc _).cell (p := ⟨w1.heap.size, 0, none⟩) hz).trans y0
      have x1 : (w2.alloc (.cells #[.int .i64 E, .int .i64 P] 26)).cell? ⟨w1.heap.size, 1, none⟩ = some (.int .i64 P) := (((On.refl w2).alloc _).cell (p := ⟨w1.heap.size, 1, none⟩) hz).trans y1
      have HX : Hid ((w2.alloc (.cells #[.int .i64 E, .int .i64 P] 26)).cell? ⟨w1.heap.size, 0, none⟩ = some (.int .i64 E) ∧ (w2.alloc (.cells #[.int .i64 E, .int .i64 P] 26)).cell? ⟨w1.heap.size, 1, none⟩ = some (.int .i64 P)) := ⟨x0, x1⟩
      clear hcv2 hrow3 hrow4 hO1 hO2 hA hB x0 x1
      go_wp2_with fail
      go_loopg [12, 13] 12 (fun kq bv iv wx => ∃ (i : Nat) (b : Bool), kq = 12 - i ∧ iv = .int .i64 i ∧ bv = .bool b ∧ i ≤ 12 ∧ (b = true ↔ true = true ∨ ∃ j, j < i ∧ ∃ hj : j < 12, (ones[j]'hj).toNat = k) ∧ (wx.cell? ⟨w1.heap.size, 0, none⟩ = some (.int .i64 E) ∧ wx.cell? ⟨w1.heap.size, 1, none⟩ = some (.int .i64 P)) ∧ On w wx)
      case atStart => exact ⟨0, true, rfl, rfl, rfl, by omega, ⟨fun h => Or.inl h, fun h => h.elim id (fun ⟨j, h0, _⟩ => absurd h0 (by omega))⟩, HX.out, hq⟩
      case round =>
        obtain ⟨i, b, hk4, rfl, rfl, hi4, hbi, ⟨z0, z1⟩, hox⟩ := hrel
        have HBI : Hid (b = true ↔ true = true ∨ ∃ j, j < i ∧ ∃ hj : j < 12, (ones[j]'hj).toNat = k) := hbi
        clear hbi y0 y1 HX hq
        by_cases hlt4 : i < 12
        · cases b with
          | true =>
            go_wp2_with fail
            go_roundg (12 - (i + 1))
            case measure => omega
            case rel => exact ⟨i + 1, true, rfl, by go_num, rfl, by omega, ⟨fun _ => Or.inl (by first | rfl | trivial), fun _ => rfl⟩, ⟨z0, z1⟩, hox⟩
          | false =>
            have HE : Hid ((ones[i]'hlt4).toNat = ((⟨#[123, 125, 59, 58, 61, 43, 45, 42, 38, 124, 94, 60]⟩ : ByteArray)[i]'hlt4).toNat) := rfl
            obtain ⟨e4, he4⟩ : ∃ e4, ((⟨#[123, 125, 59, 58, 61, 43, 45, 42, 38, 124, 94, 60]⟩ : ByteArray)[i]'hlt4).toNat = e4 := ⟨_, rfl⟩
            have HE4 : Hid ((ones[i]'hlt4).toNat = e4) := HE.out.trans he4
            clear HE
            by_cases hec : e4 = k
            · have heq : ((e4 : Int) == (k : Int)) = true := by rw [hec]; simp
              have HEC : Hid (e4 = k) := hec
              clear hec
              go_wp2_with fail
              go_roundg (12 - (i + 1))
              case measure => omega
              case rel => exact ⟨i + 1, true, rfl, by go_num, rfl, by omega, ⟨fun _ => Or.inr ⟨i, by omega, hlt4, HE4.out.trans HEC.out⟩, fun _ => rfl⟩, ⟨z0, z1⟩, hox⟩
            · have heq : ((e4 : Int) == (k : Int)) = false := by rw [beq_eq_false_iff_ne]; omega
              have HEC : Hid (e4 ≠ k) := hec
              clear hec
              go_wp2_with fail
              go_roundg (12 - (i + 1))
              case measure => omega
              case rel =>
                refine ⟨i + 1, false, rfl, by go_num, rfl, by omega, ⟨fun h => (by cases h), fun h => ?_⟩, ⟨z0, z1⟩, hox⟩
                have hh := HBI.out.2 (h.elim (fun h => Or.inl (by first | exact h | trivial)) (fun ⟨j, h0, hj, h1⟩ => Or.inr ⟨j, (by have : j ≠ i := (fun hji => by subst hji; exact HEC.out (HE4.out.symm.trans h1)); omega), hj, h1⟩))
                exact absurd hh (by simp)
        · have hi12 : i = 12 := by omega
          subst hi12
          have hLx := hw.on hox
          obtain ⟨g1, g2⟩ := HF.out
          subst g1 g2
          have hbt : b = true := HBI.out.2 (Or.inl rfl)
          subst hbt
          clear HBI HF
          go_wp2_with fail
          refine (hAw _ hLx).mono ?_
          rintro e w5 ⟨rfl, hO5⟩
          go_wp2_with fail
          go_ret
          exact ⟨rfl, hox.trans hO5⟩

set_option maxHeartbeats 2000000 in
set_option maxRecDepth 8000 in
theorem one_dig (n : Int) (N k L E P : Nat) (hand : bits .and .i64 n 7 = (N : Int)) (hN : N ≤ 7) (hk : k ≤ 255) (h1 : 48 ≤ k) (h2 : k ≤ 57)
    (hF : E = 0 ∧ P = 0) (w : World) (hw : Lw w)
    (hA : ∀ w1, Lw w1 → Calls Tryd.prog 9 #[.string (rowS N k)] w1 fun e w' => ∃ ao cap, e = .returned (.tuple #[.slice ao L cap, .agg #[.int .i64 E, .int .i64 P]]) ∧ On w1 w')
    (hB : ∀ w1, Calls Tryd.prog 10 #[.string (rowS N k)] w1 fun e w' => ∃ ao cap, e = .returned (.tuple #[.slice ao L cap, .agg #[.int .i64 E, .int .i64 P]]) ∧ On w1 w') :
    Calls Tryd.prog 3 #[.int .u8 k, .int .i64 n] w fun e w' => e = .returned (.bool true) ∧ On w w' := by
  have e32 : ((k : Int) == 32) = false := by rw [beq_eq_false_iff_ne]; omega
  have e9 : ((k : Int) == 9) = false := by rw [beq_eq_false_iff_ne]; omega
  have e10 : ((k : Int) == 10) = false := by rw [beq_eq_false_iff_ne]; omega
  have e35 : ((k : Int) == 35) = false := by rw [beq_eq_false_iff_ne]; omega
  have d57 : decide ((k : Int) ≤ 57) = true := by simp; omega
  have hmk := fun w1 => run_make_row' (P := Tryd.prog) 22 5 (.int .u8 0) 1 Tryd.underlying22 infoB rfl .i64 .i64 (N + 1) (by omega) (by omega) w1
  have ec : ((N + 1 : Nat) : Int) = (N : Int) + 1 := by omega
  rw [ec] at hmk
  have hAw := fun w1 (h : Lw w1) => awake_any w1 h
  have HF : Hid _ := hF
  clear hF ec
  go_enter Tryd.func3, Tryd.ntmps3
  go_wp2_with fail
  go_loopg [21] (N + 1) (fun k iv wr => ∃ j : Nat, k = N + 1 - j ∧ iv = .int .i64 j ∧ j ≤ N + 1 ∧ wr.rowIs w.heap.size 5 (N + 1) (fun i => if i < j then .int .u8 32 else .int .u8 0) ∧ On w wr)
  case atStart => exact ⟨0, rfl, rfl, Nat.zero_le _, (World.rowIs_made w (.int .u8 0) (N + 1) 5).congr (fun i _ => by simp), (On.refl _).alloc _⟩
  case round =>
    obtain ⟨j, hk, rfl, hj, hrow, hon⟩ := hrel
    by_cases hlt : j < N + 1
    · have hcell := hrow.cell hlt
      have hfr := hrow.frozen j
      simp only [Nat.lt_irrefl, if_false] at hcell
      go_wp2_with fail
      go_roundg (N + 1 - (j + 1))
      case measure => omega
      case rel =>
        refine ⟨j + 1, rfl, by go_num, by omega, (hrow.set j (.int .u8 32)).congr (fun i hi => ?_), hon.setNew (Nat.le_refl _) _⟩
        by_cases h1 : i = j
        · subst h1; simp
        · by_cases h2 : i < j
          · simp [h1, h2, Nat.lt_succ_of_lt h2]
          · simp [h1, h2, show ¬ i < j + 1 by omega]
    · have hjN : j = N + 1 := by omega
      subst hjN
      have hrow2 : wr.rowIs w.heap.size 5 (N + 1) (fun _ => .int .u8 32) := hrow.congr (fun i hi => by simp [hi])
      have hcell := hrow2.cell (show N < N + 1 by omega)
      have hfr := hrow2.frozen N
      have hrow3 : (wr.setCell ⟨w.heap.size, N, none⟩ (.int .u8 k)).rowIs w.heap.size 5 (N + 1) (fun i => if i = N then .int .u8 ((k : Nat) : Int) else .int .u8 32) := hrow2.set N (.int .u8 k)
      have hcv := conv_row N k w.heap.size _ (by omega) hrow3
      have hon3 : On w (wr.setCell ⟨w.heap.size, N, none⟩ (.int .u8 k)) := hon.setNew (Nat.le_refl _) _
      have hL3 := hw.on hon3
      clear hmk hrow hrow2 hon
      go_wp2_with fail
      refine (hA _ hL3).mono ?_
      rintro e w1 ⟨ao1, cap1, rfl, hO1⟩
      have hrow4 : (w1.alloc (.cells #[.int .i64 E, .int .i64 P] 26)).rowIs w.heap.size 5 (N + 1) (fun i => if i = N then .int .u8 ((k : Nat) : Int) else .int .u8 32) := (hrow3.of_block (hO1.block w.heap.size hrow3.lt)).alloc _
      have hcv2 := conv_row N k w.heap.size _ (by omega) hrow4
      clear hcv hcell hfr
      go_wp2_with fail
      refine (hB _).mono ?_
      rintro e w2 ⟨ao2, cap2, rfl, hO2⟩
      have y0 := (hO2.cell (p := ⟨w1.heap.size, 0, none⟩) (by simp)).trans (cell_new w1 #[.int .i64 E, .int .i64 P] 26 w1.heap.size 0 rfl)
      have y1 := (hO2.cell (p := ⟨w1.heap.size, 1, none⟩) (by simp)).trans (cell_new w1 #[.int .i64 E, .int .i64 P] 26 w1.heap.size 1 rfl)
      have hz : w1.heap.size < w2.heap.size := Nat.lt_of_lt_of_le (by simp) hO2.size
      have hq : On w (w2.alloc (.cells #[.int .i64 E, .int .i64 P] 26)) := (hon3.trans (hO1.alloc _)).trans (hO2.alloc _)
      have x0 : (w2.alloc (.cells #[.int .i64 E, .int .i64 P] 26)).cell? ⟨w1.heap.size, 0, none⟩ = some (.int .i64 E) := (((On.refl w2).alloc _).cell (p := ⟨w1.heap.size, 0, none⟩) hz).trans y0
      have x1 : (w2.alloc (.cells #[.int .i64 E, .int .i64 P] 26)).cell? ⟨w1.heap.size, 1, none⟩ = some (.int .i64 P) := (((On.refl w2).alloc _).cell (p := ⟨w1.heap.size, 1, none⟩) hz).trans y1
      have HX : Hid ((w2.alloc (.cells #[.int .i64 E, .int .i64 P] 26)).cell? ⟨w1.heap.size, 0, none⟩ = some (.int .i64 E) ∧ (w2.alloc (.cells #[.int .i64 E, .int .i64 P] 26)).cell? ⟨w1.heap.size, 1, none⟩ = some (.int .i64 P)) := ⟨x0, x1⟩
      clear hcv2 hrow3 hrow4 hO1 hO2 hA hB x0 x1
      go_wp2_with fail
      go_loopg [12, 13] 12 (fun kq bv iv wx => ∃ (i : Nat) (b : Bool), kq = 12 - i ∧ iv = .int .i64 i ∧ bv = .bool b ∧ i ≤ 12 ∧ (b = true ↔ true = true ∨ ∃ j, j < i ∧ ∃ hj : j < 12, (ones[j]'hj).toNat = k) ∧ (wx.cell? ⟨w1.heap.size, 0, none⟩ = some (.int .i64 E) ∧ wx.cell? ⟨w1.heap.size, 1, none⟩ = some (.int .i64 P)) ∧ On w wx)
      case atStart => exact ⟨0, true, rfl, rfl, rfl, by omega, ⟨fun h => Or.inl h, fun h => h.elim id (fun ⟨j, h0, _⟩ => absurd h0 (by omega))⟩, HX.out, hq⟩
      case round =>
        obtain ⟨i, b, hk4, rfl, rfl, hi4, hbi, ⟨z0, z1⟩, hox⟩ := hrel
        have HBI : Hid (b = true ↔ true = true ∨ ∃ j, j < i ∧ ∃ hj : j < 12, (ones[j]'hj).toNat = k) := hbi
        clear hbi y0 y1 HX hq
        by_cases hlt4 : i < 12
        · cases b with
          | true =>
            go_wp2_with fail
            go_roundg (12 - (i + 1))
            case measure => omega
            case rel => exact ⟨i + 1, true, rfl, by go_num, rfl, by omega, ⟨fun _ => Or.inl (by first | rfl | trivial), fun _ => rfl⟩, ⟨z0, z1⟩, hox⟩
          | false =>
            have HE : Hid ((ones[i]'hlt4).toNat = ((⟨#[123, 125, 59, 58, 61, 43, 45, 42, 38, 124, 94, 60]⟩ : ByteArray)[i]'hlt4).toNat) := rfl
            obtain ⟨e4, he4⟩ : ∃ e4, ((⟨#[123, 125, 59, 58, 61, 43, 45, 42, 38, 124, 94, 60]⟩ : ByteArray)[i]'hlt4).toNat = e4 := ⟨_, rfl⟩
            have HE4 : Hid ((ones[i]'hlt4).toNat = e4) := HE.out.trans he4
            clear HE
            by_cases hec : e4 = k
            · have heq : ((e4 : Int) == (k : Int)) = true := by rw [hec]; simp
              have HEC : Hid (e4 = k) := hec
              clear hec
              go_wp2_with fail
              go_roundg (12 - (i + 1))
              case measure => omega
              case rel => exact ⟨i + 1, true, rfl, by go_num, rfl, by omega, ⟨fun _ => Or.inr ⟨i, by omega, hlt4, HE4.out.trans HEC.out⟩, fun _ => rfl⟩, ⟨z0, z1⟩, hox⟩
            · have heq : ((e4 : Int) == (k : Int)) = false := by rw [beq_eq_false_iff_ne]; omega
              have HEC : Hid (e4 ≠ k) := hec
              clear hec
              go_wp2_with fail
              go_roundg (12 - (i + 1))
              case measure => omega
              case rel =>
                refine ⟨i + 1, false, rfl, by go_num, rfl, by omega, ⟨fun h => (by cases h), fun h => ?_⟩, ⟨z0, z1⟩, hox⟩
                have hh := HBI.out.2 (h.elim (fun h => Or.inl (by first | exact h | trivial)) (fun ⟨j, h0, hj, h1⟩ => Or.inr ⟨j, (by have : j ≠ i := (fun hji => by subst hji; exact HEC.out (HE4.out.symm.trans h1)); omega), hj, h1⟩))
                exact absurd hh (by simp)
        · have hi12 : i = 12 := by omega
          subst hi12
          have hLx := hw.on hox
          obtain ⟨g1, g2⟩ := HF.out
          subst g1 g2
          have hbt : b = true := HBI.out.2 (Or.inl rfl)
          subst hbt
          clear HBI HF
          go_wp2_with fail
          refine (hAw _ hLx).mono ?_
          rintro e w5 ⟨rfl, hO5⟩
          go_wp2_with fail
          go_ret
          exact ⟨rfl, hox.trans hO5⟩

set_option maxHeartbeats 2000000 in
set_option maxRecDepth 8000 in
theorem one_low (n : Int) (N k L E P : Nat) (hand : bits .and .i64 n 7 = (N : Int)) (hN : N ≤ 7) (hk : k ≤ 255) (h1 : k < 48) (hn : k ≠ 32 ∧ k ≠ 9 ∧ k ≠ 10 ∧ k ≠ 35)
    (hF : (oneN k = true → E = 0 ∧ P = 0) ∧ (oneN k = false → E = 4 ∧ P = N)) (w : World) (hw : Lw w)
    (hA : ∀ w1, Lw w1 → Calls Tryd.prog 9 #[.string (rowS N k)] w1 fun e w' => ∃ ao cap, e = .returned (.tuple #[.slice ao L cap, .agg #[.int .i64 E, .int .i64 P]]) ∧ On w1 w')
    (hB : ∀ w1, Calls Tryd.prog 10 #[.string (rowS N k)] w1 fun e w' => ∃ ao cap, e = .returned (.tuple #[.slice ao L cap, .agg #[.int .i64 E, .int .i64 P]]) ∧ On w1 w') :
    Calls Tryd.prog 3 #[.int .u8 k, .int .i64 n] w fun e w' => e = .returned (.bool true) ∧ On w w' := by
  have e32 : ((k : Int) == 32) = false := by rw [beq_eq_false_iff_ne]; omega
  have e9 : ((k : Int) == 9) = false := by rw [beq_eq_false_iff_ne]; omega
  have e10 : ((k : Int) == 10) = false := by rw [beq_eq_false_iff_ne]; omega
  have e35 : ((k : Int) == 35) = false := by rw [beq_eq_false_iff_ne]; omega
  clear hn
  have hmk := fun w1 => run_make_row' (P := Tryd.prog) 22 5 (.int .u8 0) 1 Tryd.underlying22 infoB rfl .i64 .i64 (N + 1) (by omega) (by omega) w1
  have ec : ((N + 1 : Nat) : Int) = (N : Int) + 1 := by omega
  rw [ec] at hmk
  have hAw := fun w1 (h : Lw w1) => awake_any w1 h
  have HF : Hid _ := hF
  clear hF ec
  go_enter Tryd.func3, Tryd.ntmps3
  go_wp2_with fail
  go_loopg [21] (N + 1) (fun k iv wr => ∃ j : Nat, k = N + 1 - j ∧ iv = .int .i64 j ∧ j ≤ N + 1 ∧ wr.rowIs w.heap.size 5 (N + 1) (fun i => if i < j then .int .u8 32 else .int .u8 0) ∧ On w wr)
  case atStart => exact ⟨0, rfl, rfl, Nat.zero_le _, (World.rowIs_made w (.int .u8 0) (N + 1) 5).congr (fun i _ => by simp), (On.refl _).alloc _⟩
  case round =>
    obtain ⟨j, hk, rfl, hj, hrow, hon⟩ := hrel
    by_cases hlt : j < N + 1
    · have hcell := hrow.cell hlt
      have hfr := hrow.frozen j
      simp only [Nat.lt_irrefl, if_false] at hcell
      go_wp2_with fail
      go_roundg (N + 1 - (j + 1))
      case measure => omega
      case rel =>
        refine ⟨j + 1, rfl, by go_num, by omega, (hrow.set j (.int .u8 32)).congr (fun i hi => ?_), hon.setNew (Nat.le_refl _) _⟩
        by_cases h1 : i = j
        · subst h1; simp
        · by_cases h2 : i < j
          · simp [h1, h2, Nat.lt_succ_of_lt h2]
          · simp [h1, h2, show ¬ i < j + 1 by omega]
    · have hjN : j = N + 1 := by omega
      subst hjN
      have hrow2 : wr.rowIs w.heap.size 5 (N + 1) (fun _ => .int .u8 32) := hrow.congr (fun i hi => by simp [hi])
      have hcell := hrow2.cell (show N < N + 1 by omega)
      have hfr := hrow2.frozen N
      have hrow3 : (wr.setCell ⟨w.heap.size, N, none⟩ (.int .u8 k)).rowIs w.heap.size 5 (N + 1) (fun i => if i = N then .int .u8 ((k : Nat) : Int) else .int .u8 32) := hrow2.set N (.int .u8 k)
      have hcv := conv_row N k w.heap.size _ (by omega) hrow3
      have hon3 : On w (wr.setCell ⟨w.heap.size, N, none⟩ (.int .u8 k)) := hon.setNew (Nat.le_refl _) _
      have hL3 := hw.on hon3
      clear hmk hrow hrow2 hon
      go_wp2_with fail
      refine (hA _ hL3).mono ?_
      rintro e w1 ⟨ao1, cap1, rfl, hO1⟩
      have hrow4 : (w1.alloc (.cells #[.int .i64 E, .int .i64 P] 26)).rowIs w.heap.size 5 (N + 1) (fun i => if i = N then .int .u8 ((k : Nat) : Int) else .int .u8 32) := (hrow3.of_block (hO1.block w.heap.size hrow3.lt)).alloc _
      have hcv2 := conv_row N k w.heap.size _ (by omega) hrow4
      clear hcv hcell hfr
      go_wp2_with fail
      refine (hB _).mono ?_
      rintro e w2 ⟨ao2, cap2, rfl, hO2⟩
      have y0 := (hO2.cell (p := ⟨w1.heap.size, 0, none⟩) (by simp)).trans (cell_new w1 #[.int .i64 E, .int .i64 P] 26 w1.heap.size 0 rfl)
      have y1 := (hO2.cell (p := ⟨w1.heap.size, 1, none⟩) (by simp)).trans (cell_new w1 #[.int .i64 E, .int .i64 P] 26 w1.heap.size 1 rfl)
      have hz : w1.heap.size < w2.heap.size := Nat.lt_of_lt_of_le (by simp) hO2.size
      have hq : On w (w2.alloc (.cells #[.int .i64 E, .int .i64 P] 26)) := (hon3.trans (hO1.alloc _)).trans (hO2.alloc _)
      have x0 : (w2.alloc (.cells #[.int .i64 E, .int .i64 P] 26)).cell? ⟨w1.heap.size, 0, none⟩ = some (.int .i64 E) := (((On.refl w2).alloc _).cell (p := ⟨w1.heap.size, 0, none⟩) hz).trans y0
      have x1 : (w2.alloc (.cells #[.int .i64 E, .int .i64 P] 26)).cell? ⟨w1.heap.size, 1, none⟩ = some (.int .i64 P) := (((On.refl w2).alloc _).cell (p := ⟨w1.heap.size, 1, none⟩) hz).trans y1
      have HX : Hid ((w2.alloc (.cells #[.int .i64 E, .int .i64 P] 26)).cell? ⟨w1.heap.size, 0, none⟩ = some (.int .i64 E) ∧ (w2.alloc (.cells #[.int .i64 E, .int .i64 P] 26)).cell? ⟨w1.heap.size, 1, none⟩ = some (.int .i64 P)) := ⟨x0, x1⟩
      clear hcv2 hrow3 hrow4 hO1 hO2 hA hB x0 x1
      go_wp2_with fail
      go_loopg [12, 13] 12 (fun kq bv iv wx => ∃ (i : Nat) (b : Bool), kq = 12 - i ∧ iv = .int .i64 i ∧ bv = .bool b ∧ i ≤ 12 ∧ (b = true ↔ false = true ∨ ∃ j, j < i ∧ ∃ hj : j < 12, (ones[j]'hj).toNat = k) ∧ (wx.cell? ⟨w1.heap.size, 0, none⟩ = some (.int .i64 E) ∧ wx.cell? ⟨w1.heap.size, 1, none⟩ = some (.int .i64 P)) ∧ On w wx)
      case atStart => exact ⟨0, false, rfl, rfl, rfl, by omega, ⟨fun h => Or.inl h, fun h => h.elim id (fun ⟨j, h0, _⟩ => absurd h0 (by omega))⟩, HX.out, hq⟩
      case round =>
        obtain ⟨i, b, hk4, rfl, rfl, hi4, hbi, ⟨z0, z1⟩, hox⟩ := hrel
        have HBI : Hid (b = true ↔ false = true ∨ ∃ j, j < i ∧ ∃ hj : j < 12, (ones[j]'hj).toNat = k) := hbi
        clear hbi y0 y1 HX hq
        by_cases hlt4 : i < 12
        · cases b with
          | true =>
            go_wp2_with fail
            go_roundg (12 - (i + 1))
            case measure => omega
            case rel => exact ⟨i + 1, true, rfl, by go_num, rfl, by omega, ⟨fun _ => (HBI.out.1 (by first | rfl | trivial)).elim (fun h => absurd h (by simp)) (fun ⟨j, h0, h1⟩ => Or.inr ⟨j, by omega, h1⟩), fun _ => rfl⟩, ⟨z0, z1⟩, hox⟩
          | false =>
            have HE : Hid ((ones[i]'hlt4).toNat = ((⟨#[123, 125, 59, 58, 61, 43, 45, 42, 38, 124, 94, 60]⟩ : ByteArray)[i]'hlt4).toNat) := rfl
            obtain ⟨e4, he4⟩ : ∃ e4, ((⟨#[123, 125, 59, 58, 61, 43, 45, 42, 38, 124, 94, 60]⟩ : ByteArray)[i]'hlt4).toNat = e4 := ⟨_, rfl⟩
            have HE4 : Hid ((ones[i]'hlt4).toNat = e4) := HE.out.trans he4
            clear HE
            by_cases hec : e4 = k
            · have heq : ((e4 : Int) == (k : Int)) = true := by rw [hec]; simp
              have HEC : Hid (e4 = k) := hec
              clear hec
              go_wp2_with fail
              go_roundg (12 - (i + 1))
              case measure => omega
              case rel => exact ⟨i + 1, true, rfl, by go_num, rfl, by omega, ⟨fun _ => Or.inr ⟨i, by omega, hlt4, HE4.out.trans HEC.out⟩, fun _ => rfl⟩, ⟨z0, z1⟩, hox⟩
            · have heq : ((e4 : Int) == (k : Int)) = false := by rw [beq_eq_false_iff_ne]; omega
              have HEC : Hid (e4 ≠ k) := hec
              clear hec
              go_wp2_with fail
              go_roundg (12 - (i + 1))
              case measure => omega
              case rel =>
                refine ⟨i + 1, false, rfl, by go_num, rfl, by omega, ⟨fun h => (by cases h), fun h => ?_⟩, ⟨z0, z1⟩, hox⟩
                have hh := HBI.out.2 (h.elim (fun h => absurd h (by simp)) (fun ⟨j, h0, hj, h1⟩ => Or.inr ⟨j, (by have : j ≠ i := (fun hji => by subst hji; exact HEC.out (HE4.out.symm.trans h1)); omega), hj, h1⟩))
                exact absurd hh (by simp)
        · have hi12 : i = 12 := by omega
          subst hi12
          have hLx := hw.on hox
          cases b with
          | true =>
            have h1 : oneN k = true := by
              rcases HBI.out.1 rfl with h | ⟨j, _, hj, h⟩
              · cases h
              · rw [← h]; exact ones_has ⟨j, hj⟩
            obtain ⟨g1, g2⟩ := HF.out.1 h1
            subst g1 g2
            clear HBI HF h1
            go_wp2_with fail
            refine (hAw _ hLx).mono ?_
            rintro e w5 ⟨rfl, hO5⟩
            go_wp2_with fail
            go_ret
            exact ⟨rfl, hox.trans hO5⟩
          | false =>
            have h1 : oneN k = false := ones_none (fun j hj h => by have := HBI.out.2 (Or.inr ⟨j, hj, hj, h⟩); cases this)
            obtain ⟨g1, g2⟩ := HF.out.2 h1
            subst g1 g2
            clear HBI HF h1
            go_wp2_with fail
            refine (hAw _ hLx).mono ?_
            rintro e w5 ⟨rfl, hO5⟩
            go_wp2_with fail
            go_ret
            exact ⟨rfl, hox.trans hO5⟩

set_option maxHeartbeats 2000000 in
set_option maxRecDepth 8000 in
theorem one_mid (n : Int) (N k L E P : Nat) (hand : bits .and .i64 n 7 = (N : Int)) (hN : N ≤ 7) (hk : k ≤ 255) (h1 : 57 < k) (h2 : k < 97)
    (hF : (oneN k = true → E = 0 ∧ P = 0) ∧ (oneN k = false → E = 4 ∧ P = N)) (w : World) (hw : Lw w)
    (hA : ∀ w1, Lw w1 → Calls Tryd.prog 9 #[.string (rowS N k)] w1 fun e w' => ∃ ao cap, e = .returned (.tuple #[.slice ao L cap, .agg #[.int .i64 E, .int .i64 P]]) ∧ On w1 w')
    (hB : ∀ w1, Calls Tryd.prog 10 #[.string (rowS N k)] w1 fun e w' => ∃ ao cap, e = .returned (.tuple #[.slice ao L cap, .agg #[.int .i64 E, .int .i64 P]]) ∧ On w1 w') :
    Calls Tryd.prog 3 #[.int .u8 k, .int .i64 n] w fun e w' => e = .returned (.bool true) ∧ On w w' := by
  have e32 : ((k : Int) == 32) = false := by rw [beq_eq_false_iff_ne]; omega
  have e9 : ((k : Int) == 9) = false := by rw [beq_eq_false_iff_ne]; omega
  have e10 : ((k : Int) == 10) = false := by rw [beq_eq_false_iff_ne]; omega
  have e35 : ((k : Int) == 35) = false := by rw [beq_eq_false_iff_ne]; omega
  have d57 : decide ((k : Int) ≤ 57) = false := by simp; omega
  have hmk := fun w1 => run_make_row' (P := Tryd.prog) 22 5 (.int .u8 0) 1 Tryd.underlying22 infoB rfl .i64 .i64 (N + 1) (by omega) (by omega) w1
  have ec : ((N + 1 : Nat) : Int) = (N : Int) + 1 := by omega
  rw [ec] at hmk
  have hAw := fun w1 (h : Lw w1) => awake_any w1 h
  have HF : Hid _ := hF
  clear hF ec
  go_enter Tryd.func3, Tryd.ntmps3
  go_wp2_with fail
  go_loopg [21] (N + 1) (fun k iv wr => ∃ j : Nat, k = N + 1 - j ∧ iv = .int .i64 j ∧ j ≤ N + 1 ∧ wr.rowIs w.heap.size 5 (N + 1) (fun i => if i < j then .int .u8 32 else .int .u8 0) ∧ On w wr)
  case atStart => exact ⟨0, rfl, rfl, Nat.zero_le _, (World.rowIs_made w (.int .u8 0) (N + 1) 5).congr (fun i _ => by simp), (On.refl _).alloc _⟩
  case round =>
    obtain ⟨j, hk, rfl, hj, hrow, hon⟩ := hrel
    by_cases hlt : j < N + 1
    · have hcell := hrow.cell hlt
      have hfr := hrow.frozen j
      simp only [Nat.lt_irrefl, if_false] at hcell
      go_wp2_with fail
      go_roundg (N + 1 - (j + 1))
      case measure => omega
      case rel =>
        refine ⟨j + 1, rfl, by go_num, by omega, (hrow.set j (.int .u8 32)).congr (fun i hi => ?_), hon.setNew (Nat.le_refl _) _⟩
        by_cases h1 : i = j
        · subst h1; simp
        · by_cases h2 : i < j
          · simp [h1, h2, Nat.lt_succ_of_lt h2]
          · simp [h1, h2, show ¬ i < j + 1 by omega]
    · have hjN : j = N + 1 := by omega
      subst hjN
      have hrow2 : wr.rowIs w.heap.size 5 (N + 1) (fun _ => .int .u8 32) := hrow.congr (fun i hi => by simp [hi])
      have hcell := hrow2.cell (show N < N + 1 by omega)
      have hfr := hrow2.frozen N
      have hrow3 : (wr.setCell ⟨w.heap.size, N, none⟩ (.int .u8 k)).rowIs w.heap.size 5 (N + 1) (fun i => if i = N then .int .u8 ((k : Nat) : Int) else .int .u8 32) := hrow2.set N (.int .u8 k)
      have hcv := conv_row N k w.heap.size _ (by omega) hrow3
      have hon3 : On w (wr.setCell ⟨w.heap.size, N, none⟩ (.int .u8 k)) := hon.setNew (Nat.le_refl _) _
      have hL3 := hw.on hon3
      clear hmk hrow hrow2 hon
      go_wp2_with fail
      refine (hA _ hL3).mono ?_
      rintro e w1 ⟨ao1, cap1, rfl, hO1⟩
      have hrow4 : (w1.alloc (.cells #[.int .i64 E, .int .i64 P] 26)).rowIs w.heap.size 5 (N + 1) (fun i => if i = N then .int .u8 ((k : Nat) : Int) else .int .u8 32) := (hrow3.of_block (hO1.block w.heap.size hrow3.lt)).alloc _
      have hcv2 := conv_row N k w.heap.size _ (by omega) hrow4
      clear hcv hcell hfr
      go_wp2_with fail
      refine (hB _).mono ?_
      rintro e w2 ⟨ao2, cap2, rfl, hO2⟩
      have y0 := (hO2.cell (p := ⟨w1.heap.size, 0, none⟩) (by simp)).trans (cell_new w1 #[.int .i64 E, .int .i64 P] 26 w1.heap.size 0 rfl)
      have y1 := (hO2.cell (p := ⟨w1.heap.size, 1, none⟩) (by simp)).trans (cell_new w1 #[.int .i64 E, .int .i64 P] 26 w1.heap.size 1 rfl)
      have hz : w1.heap.size < w2.heap.size := Nat.lt_of_lt_of_le (by simp) hO2.size
      have hq : On w (w2.alloc (.cells #[.int .i64 E, .int .i64 P] 26)) := (hon3.trans (hO1.alloc _)).trans (hO2.alloc _)
      have x0 : (w2.alloc (.cells #[.int .i64 E, .int .i64 P] 26)).cell? ⟨w1.heap.size, 0, none⟩ = some (.int .i64 E) := (((On.refl w2).alloc _).cell (p := ⟨w1.heap.size, 0, none⟩) hz).trans y0
      have x1 : (w2.alloc (.cells #[.int .i64 E, .int .i64 P] 26)).cell? ⟨w1.heap.size, 1, none⟩ = some (.int .i64 P) := (((On.refl w2).alloc _).cell (p := ⟨w1.heap.size, 1, none⟩) hz).trans y1
      have HX : Hid ((w2.alloc (.cells #[.int .i64 E, .int .i64 P] 26)).cell? ⟨w1.heap.size, 0, none⟩ = some (.int .i64 E) ∧ (w2.alloc (.cells #[.int .i64 E, .int .i64 P] 26)).cell? ⟨w1.heap.size, 1, none⟩ = some (.int .i64 P)) := ⟨x0, x1⟩
      clear hcv2 hrow3 hrow4 hO1 hO2 hA hB x0 x1
      go_wp2_with fail
      go_loopg [12, 13] 12 (fun kq bv iv wx => ∃ (i : Nat) (b : Bool), kq = 12 - i ∧ iv = .int .i64 i ∧ bv = .bool b ∧ i ≤ 12 ∧ (b = true ↔ false = true ∨ ∃ j, j < i ∧ ∃ hj : j < 12, (ones[j]'hj).toNat = k) ∧ (wx.cell? ⟨w1.heap.size, 0, none⟩ = some (.int .i64 E) ∧ wx.cell? ⟨w1.heap.size, 1, none⟩ = some (.int .i64 P)) ∧ On w wx)
      case atStart => exact ⟨0, false, rfl, rfl, rfl, by omega, ⟨fun h => Or.inl h, fun h => h.elim id (fun ⟨j, h0, _⟩ => absurd h0 (by omega))⟩, HX.out, hq⟩
      case round =>
        obtain ⟨i, b, hk4, rfl, rfl, hi4, hbi, ⟨z0, z1⟩, hox⟩ := hrel
        have HBI : Hid (b = true ↔ false = true ∨ ∃ j, j < i ∧ ∃ hj : j < 12, (ones[j]'hj).toNat = k) := hbi
        clear hbi y0 y1 HX hq
        by_cases hlt4 : i < 12
        · cases b with
          | true =>
            go_wp2_with fail
            go_roundg (12 - (i + 1))
            case measure => omega
            case rel => exact ⟨i + 1, true, rfl, by go_num, rfl, by omega, ⟨fun _ => (HBI.out.1 (by first | rfl | trivial)).elim (fun h => absurd h (by simp)) (fun ⟨j, h0, h1⟩ => Or.inr ⟨j, by omega, h1⟩), fun _ => rfl⟩, ⟨z0, z1⟩, hox⟩
          | false =>
            have HE : Hid ((ones[i]'hlt4).toNat = ((⟨#[123, 125, 59, 58, 61, 43, 45, 42, 38, 124, 94, 60]⟩ : ByteArray)[i]'hlt4).toNat) := rfl
            obtain ⟨e4, he4⟩ : ∃ e4, ((⟨#[123, 125, 59, 58, 61, 43, 45, 42, 38, 124, 94, 60]⟩ : ByteArray)[i]'hlt4).toNat = e4 := ⟨_, rfl⟩
            have HE4 : Hid ((ones[i]'hlt4).toNat = e4) := HE.out.trans he4
            clear HE
            by_cases hec : e4 = k
            · have heq : ((e4 : Int) == (k : Int)) = true := by rw [hec]; simp
              have HEC : Hid (e4 = k) := hec
              clear hec
              go_wp2_with fail
              go_roundg (12 - (i + 1))
              case measure => omega
              case rel => exact ⟨i + 1, true, rfl, by go_num, rfl, by omega, ⟨fun _ => Or.inr ⟨i, by omega, hlt4, HE4.out.trans HEC.out⟩, fun _ => rfl⟩, ⟨z0, z1⟩, hox⟩
            · have heq : ((e4 : Int) == (k : Int)) = false := by rw [beq_eq_false_iff_ne]; omega
              have HEC : Hid (e4 ≠ k) := hec
              clear hec
              go_wp2_with fail
              go_roundg (12 - (i + 1))
              case measure => omega
              case rel =>
                refine ⟨i + 1, false, rfl, by go_num, rfl, by omega, ⟨fun h => (by cases h), fun h => ?_⟩, ⟨z0, z1⟩, hox⟩
                have hh := HBI.out.2 (h.elim (fun h => absurd h (by simp)) (fun ⟨j, h0, hj, h1⟩ => Or.inr ⟨j, (by have : j ≠ i := (fun hji => by subst hji; exact HEC.out (HE4.out.symm.trans h1)); omega), hj, h1⟩))
                exact absurd hh (by simp)
        · have hi12 : i = 12 := by omega
          subst hi12
          have hLx := hw.on hox
          cases b with
          | true =>
            have h1 : oneN k = true := by
              rcases HBI.out.1 rfl with h | ⟨j, _, hj, h⟩
              · cases h
              · rw [← h]; exact ones_has ⟨j, hj⟩
            obtain ⟨g1, g2⟩ := HF.out.1 h1
            subst g1 g2
            clear HBI HF h1
            go_wp2_with fail
            refine (hAw _ hLx).mono ?_
            rintro e w5 ⟨rfl, hO5⟩
            go_wp2_with fail
            go_ret
            exact ⟨rfl, hox.trans hO5⟩
          | false =>
            have h1 : oneN k = false := ones_none (fun j hj h => by have := HBI.out.2 (Or.inr ⟨j, hj, hj, h⟩); cases this)
            obtain ⟨g1, g2⟩ := HF.out.2 h1
            subst g1 g2
            clear HBI HF h1
            go_wp2_with fail
            refine (hAw _ hLx).mono ?_
            rintro e w5 ⟨rfl, hO5⟩
            go_wp2_with fail
            go_ret
            exact ⟨rfl, hox.trans hO5⟩

set_option maxHeartbeats 2000000 in
set_option maxRecDepth 8000 in
theorem one_high (n : Int) (N k L E P : Nat) (hand : bits .and .i64 n 7 = (N : Int)) (hN : N ≤ 7) (hk : k ≤ 255) (h1 : 122 < k)
    (hF : (oneN k = true → E = 0 ∧ P = 0) ∧ (oneN k = false → E = 4 ∧ P = N)) (w : World) (hw : Lw w)
    (hA : ∀ w1, Lw w1 → Calls Tryd.prog 9 #[.string (rowS N k)] w1 fun e w' => ∃ ao cap, e = .returned (.tuple #[.slice ao L cap, .agg #[.int .i64 E, .int .i64 P]]) ∧ On w1 w')
    (hB : ∀ w1, Calls Tryd.prog 10 #[.string (rowS N k)] w1 fun e w' => ∃ ao cap, e = .returned (.tuple #[.slice ao L cap, .agg #[.int .i64 E, .int .i64 P]]) ∧ On w1 w') :
    Calls Tryd.prog 3 #[.int .u8 k, .int .i64 n] w fun e w' => e = .returned (.bool true) ∧ On w w' := by
  have e32 : ((k : Int) == 32) = false := by rw [beq_eq_false_iff_ne]; omega
  have e9 : ((k : Int) == 9) = false := by rw [beq_eq_false_iff_ne]; omega
  have e10 : ((k : Int) == 10) = false := by rw [beq_eq_false_iff_ne]; omega
  have e35 : ((k : Int) == 35) = false := by rw [beq_eq_false_iff_ne]; omega
  have d57 : decide ((k : Int) ≤ 57) = false := by simp; omega
  have d122 : decide ((k : Int) ≤ 122) = false := by simp; omega
  have hmk := fun w1 => run_make_row' (P := Tryd.prog) 22 5 (.int .u8 0) 1 Tryd.underlying22 infoB rfl .i64 .i64 (N + 1) (by omega) (by omega) w1
  have ec : ((N + 1 : Nat) : Int) = (N : Int) + 1 := by omega
  rw [ec] at hmk
  have hAw := fun w1 (h : Lw w1) => awake_any w1 h
  have HF : Hid _ := hF
  clear hF ec
  go_enter Tryd.func3, Tryd.ntmps3
  go_wp2_with fail
  go_loopg [21] (N + 1) (fun k iv wr => ∃ j : Nat, k = N + 1 - j ∧ iv = .int .i64 j ∧ j ≤ N + 1 ∧ wr.rowIs w.heap.size 5 (N + 1) (fun i => if i < j then .int .u8 32 else .int .u8 0) ∧ On w wr)
  case atStart => exact ⟨0, rfl, rfl, Nat.zero_le _, (World.rowIs_made w (.int .u8 0) (N + 1) 5).congr (fun i _ => by simp), (On.refl _).alloc _⟩
  case round =>
    obtain ⟨j, hk, rfl, hj, hrow, hon⟩ := hrel
    by_cases hlt : j < N + 1
    · have hcell := hrow.cell hlt
      have hfr := hrow.frozen j
      simp only [Nat.lt_irrefl, if_false] at hcell
      go_wp2_with fail
      go_roundg (N + 1 - (j + 1))
      case measure => omega
      case rel =>
        refine ⟨j + 1, rfl, by go_num, by omega, (hrow.set j (.int .u8 32)).congr (fun i hi => ?_), hon.setNew (Nat.le_refl _) _⟩
        by_cases h1 : i = j
        · subst h1; simp
        · by_cases h2 : i < j
          · simp [h1, h2, Nat.lt_succ_of_lt h2]
          · simp [h1, h2, show ¬ i < j + 1 by omega]
    · have hjN : j = N + 1 := by omega
      subst hjN
      have hrow2 : wr.rowIs w.heap.size 5 (N + 1) (fun _ => .int .u8 32) := hrow.congr (fun i hi => by simp [hi])
      have hcell := hrow2.cell (show N < N + 1 by omega)
      have hfr := hrow2.frozen N
      have hrow3 : (wr.setCell ⟨w.heap.size, N, none⟩ (.int .u8 k)).rowIs w.heap.size 5 (N + 1) (fun i => if i = N then .int .u8 ((k : Nat) : Int) else .int .u8 32) := hrow2.set N (.int .u8 k)
      have hcv := conv_row N k w.heap.size _ (by omega) hrow3
      have hon3 : On w (wr.setCell ⟨w.heap.size, N, none⟩ (.int .u8 k)) := hon.setNew (Nat.le_refl _) _
      have hL3 := hw.on hon3
      clear hmk hrow hrow2 hon
      go_wp2_with fail
      refine (hA _ hL3).mono ?_
      rintro e w1 ⟨ao1, cap1, rfl, hO1⟩
      have hrow4 : (w1.alloc (.cells #[.int .i64 E, .int .i64 P] 26)).rowIs w.heap.size 5 (N + 1) (fun i => if i = N then .int .u8 ((k : Nat) : Int) else .int .u8 32) := (hrow3.of_block (hO1.block w.heap.size hrow3.lt)).alloc _
      have hcv2 := conv_row N k w.heap.size _ (by omega) hrow4
      clear hcv hcell hfr
      go_wp2_with fail
      refine (hB _).mono ?_
      rintro e w2 ⟨ao2, cap2, rfl, hO2⟩
      have y0 := (hO2.cell (p := ⟨w1.heap.size, 0, none⟩) (by simp)).trans (cell_new w1 #[.int .i64 E, .int .i64 P] 26 w1.heap.size 0 rfl)
      have y1 := (hO2.cell (p := ⟨w1.heap.size, 1, none⟩) (by simp)).trans (cell_new w1 #[.int .i64 E, .int .i64 P] 26 w1.heap.size 1 rfl)
      have hz : w1.heap.size < w2.heap.size := Nat.lt_of_lt_of_le (by simp) hO2.size
      have hq : On w (w2.alloc (.cells #[.int .i64 E, .int .i64 P] 26)) := (hon3.trans (hO1.alloc _)).trans (hO2.alloc _)
      have x0 : (w2.alloc (.cells #[.int .i64 E, .int .i64 P] 26)).cell? ⟨w1.heap.size, 0, none⟩ = some (.int .i64 E) := (((On.refl w2).alloc _).cell (p := ⟨w1.heap.size, 0, none⟩) hz).trans y0
      have x1 : (w2.alloc (.cells #[.int .i64 E, .int .i64 P] 26)).cell? ⟨w1.heap.size, 1, none⟩ = some (.int .i64 P) := (((On.refl w2).alloc _).cell (p := ⟨w1.heap.size, 1, none⟩) hz).trans y1
      have HX : Hid ((w2.alloc (.cells #[.int .i64 E, .int .i64 P] 26)).cell? ⟨w1.heap.size, 0, none⟩ = some (.int .i64 E) ∧ (w2.alloc (.cells #[.int .i64 E, .int .i64 P] 26)).cell? ⟨w1.heap.size, 1, none⟩ = some (.int .i64 P)) := ⟨x0, x1⟩
      clear hcv2 hrow3 hrow4 hO1 hO2 hA hB x0 x1
      go_wp2_with fail
      go_loopg [12, 13] 12 (fun kq bv iv wx => ∃ (i : Nat) (b : Bool), kq = 12 - i ∧ iv = .int .i64 i ∧ bv = .bool b ∧ i ≤ 12 ∧ (b = true ↔ false = true ∨ ∃ j, j < i ∧ ∃ hj : j < 12, (ones[j]'hj).toNat = k) ∧ (wx.cell? ⟨w1.heap.size, 0, none⟩ = some (.int .i64 E) ∧ wx.cell? ⟨w1.heap.size, 1, none⟩ = some (.int .i64 P)) ∧ On w wx)
      case atStart => exact ⟨0, false, rfl, rfl, rfl, by omega, ⟨fun h => Or.inl h, fun h => h.elim id (fun ⟨j, h0, _⟩ => absurd h0 (by omega))⟩, HX.out, hq⟩
      case round =>
        obtain ⟨i, b, hk4, rfl, rfl, hi4, hbi, ⟨z0, z1⟩, hox⟩ := hrel
        have HBI : Hid (b = true ↔ false = true ∨ ∃ j, j < i ∧ ∃ hj : j < 12, (ones[j]'hj).toNat = k) := hbi
        clear hbi y0 y1 HX hq
        by_cases hlt4 : i < 12
        · cases b with
          | true =>
            go_wp2_with fail
            go_roundg (12 - (i + 1))
            case measure => omega
            case rel => exact ⟨i + 1, true, rfl, by go_num, rfl, by omega, ⟨fun _ => (HBI.out.1 (by first | rfl | trivial)).elim (fun h => absurd h (by simp)) (fun ⟨j, h0, h1⟩ => Or.inr ⟨j, by omega, h1⟩), fun _ => rfl⟩, ⟨z0, z1⟩, hox⟩
          | false =>
            have HE : Hid ((ones[i]'hlt4).toNat = ((⟨#[123, 125, 59, 58, 61, 43, 45, 42, 38, 124, 94, 60]⟩ : ByteArray)[i]'hlt4).toNat) := rfl
            obtain ⟨e4, he4⟩ : ∃ e4, ((⟨#[123, 125, 59, 58, 61, 43, 45, 42, 38, 124, 94, 60]⟩ : ByteArray)[i]'hlt4).toNat = e4 := ⟨_, rfl⟩
            have HE4 : Hid ((ones[i]'hlt4).toNat = e4) := HE.out.trans he4
            clear HE
            by_cases hec : e4 = k
            · have heq : ((e4 : Int) == (k : Int)) = true := by rw [hec]; simp
              have HEC : Hid (e4 = k) := hec
              clear hec
              go_wp2_with fail
              go_roundg (12 - (i + 1))
              case measure => omega
              case rel => exact ⟨i + 1, true, rfl, by go_num, rfl, by omega, ⟨fun _ => Or.inr ⟨i, by omega, hlt4, HE4.out.trans HEC.out⟩, fun _ => rfl⟩, ⟨z0, z1⟩, hox⟩
            · have heq : ((e4 : Int) == (k : Int)) = false := by rw [beq_eq_false_iff_ne]; omega
              have HEC : Hid (e4 ≠ k) := hec
              clear hec
              go_wp2_with fail
              go_roundg (12 - (i + 1))
              case measure => omega
              case rel =>
                refine ⟨i + 1, false, rfl, by go_num, rfl, by omega, ⟨fun h => (by cases h), fun h => ?_⟩, ⟨z0, z1⟩, hox⟩
                have hh := HBI.out.2 (h.elim (fun h => absurd h (by simp)) (fun ⟨j, h0, hj, h1⟩ => Or.inr ⟨j, (by have : j ≠ i := (fun hji => by subst hji; exact HEC.out (HE4.out.symm.trans h1)); omega), hj, h1⟩))
                exact absurd hh (by simp)
        · have hi12 : i = 12 := by omega
          subst hi12
          have hLx := hw.on hox
          cases b with
          | true =>
            have h1 : oneN k = true := by
              rcases HBI.out.1 rfl with h | ⟨j, _, hj, h⟩
              · cases h
              · rw [← h]; exact ones_has ⟨j, hj⟩
            obtain ⟨g1, g2⟩ := HF.out.1 h1
            subst g1 g2
            clear HBI HF h1
            go_wp2_with fail
            refine (hAw _ hLx).mono ?_
            rintro e w5 ⟨rfl, hO5⟩
            go_wp2_with fail
            go_ret
            exact ⟨rfl, hox.trans hO5⟩
          | false =>
            have h1 : oneN k = false := ones_none (fun j hj h => by have := HBI.out.2 (Or.inr ⟨j, hj, hj, h⟩); cases this)
            obtain ⟨g1, g2⟩ := HF.out.2 h1
            subst g1 g2
            clear HBI HF h1
            go_wp2_with fail
            refine (hAw _ hLx).mono ?_
            rintro e w5 ⟨rfl, hO5⟩
            go_wp2_with fail
            go_ret
            exact ⟨rfl, hox.trans hO5⟩

theorem lexOne_walk (c n : Int) (c0 : 0 ≤ c) (c1 : c ≤ 255) (w : World) (hw : Lw w) :
    Calls Tryd.prog 3 #[.int .u8 c, .int .i64 n] w fun e w' => e = .returned (.bool true) ∧ On w w' := by
  obtain ⟨k, hk⟩ : ∃ k : Nat, c = (k : Int) := ⟨c.toNat, by omega⟩
  subst hk
  obtain ⟨N, hN⟩ : ∃ N : Nat, n % 8 = (N : Int) := ⟨(n % 8).toNat, by omega⟩
  have hN7 : N ≤ 7 := by omega
  have hand : bits .and .i64 n 7 = (N : Int) := (i64_and7' n).trans hN
  have hk : k ≤ 255 := by omega
  have hA : ∀ w1, Lw w1 → Calls Tryd.prog 9 #[.string (rowS N k)] w1 fun e w' => ∃ ao cap, e = .returned (.tuple #[.slice ao (tsA (rowS N k)).length cap, .agg #[.int .i64 (ecA (rowS N k)), .int .i64 (epA (rowS N k))]]) ∧ On w1 w' := fun w1 h =>
    (all_is (rowS N k) (by rw [rowS_size]; omega) w1 h).mono fun e w' ⟨v, h1, h2, h3⟩ => by
      obtain ⟨ao, cap, rfl⟩ := h2.len
      exact ⟨ao, cap, h1, h3⟩
  have hB : ∀ w1, Calls Tryd.prog 10 #[.string (rowS N k)] w1 fun e w' => ∃ ao cap, e = .returned (.tuple #[.slice ao (tsA (rowS N k)).length cap, .agg #[.int .i64 (ecA (rowS N k)), .int .i64 (epA (rowS N k))]]) ∧ On w1 w' := fun w1 =>
    (rall_is (rowS N k) (by rw [rowS_size]; omega) w1).mono fun e w' ⟨v, h1, h2, h3⟩ => by
      obtain ⟨ao, cap, rfl⟩ := h2.len
      exact ⟨ao, cap, h1, h3⟩
  by_cases hbl : k = 35 ∨ blN k = true
  · obtain ⟨t1, t2, t3⟩ := row_blank N k hk hbl
    have h4 : ¬ 4000 < N + 1 := by omega
    rw [if_neg h4] at t1 t2 t3
    have hF : ecA (rowS N k) = 0 ∧ epA (rowS N k) = 0 ∧ (tsA (rowS N k)).length = 1 := ⟨t2, t3, by rw [t1]; rfl⟩
    clear t1 t2 t3
    have hcs : k = 32 ∨ k = 9 ∨ k = 10 ∨ k = 35 := by
      rcases hbl with h | h
      · exact Or.inr (Or.inr (Or.inr h))
      · simp only [blN, Bool.or_eq_true, beq_iff_eq] at h
        omega
    rcases hcs with rfl | rfl | rfl | rfl
    · exact one_32 n N _ _ _ hand hN7 hF w hw hA hB
    · exact one_9 n N _ _ _ hand hN7 hF w hw hA hB
    · exact one_10 n N _ _ _ hand hN7 hF w hw hA hB
    · exact one_35 n N _ _ _ hand hN7 hF w hw hA hB
  · have hn : k ≠ 32 ∧ k ≠ 9 ∧ k ≠ 10 ∧ k ≠ 35 := by
      refine ⟨?_, ?_, ?_, ?_⟩ <;> intro h <;> apply hbl <;> subst h <;> decide
    by_cases h1 : 97 ≤ k ∧ k ≤ 122
    · exact one_let n N k _ _ _ hand hN7 hk h1.1 h1.2 (row_some N k hN7 hk hbl (Or.inl (by simp [letN, h1.1, h1.2]))) w hw hA hB
    · have e1 : letN k = false := by
        simp only [letN, Bool.and_eq_false_iff, decide_eq_false_iff_not]
        omega
      by_cases h2 : 48 ≤ k ∧ k ≤ 57
      · exact one_dig n N k _ _ _ hand hN7 hk h2.1 h2.2 (row_some N k hN7 hk hbl (Or.inr (Or.inl (by simp [digN, h2.1, h2.2])))) w hw hA hB
      · have e2 : digN k = false := by
          simp only [digN, Bool.and_eq_false_iff, decide_eq_false_iff_not]
          omega
        have hF : (oneN k = true → ecA (rowS N k) = 0 ∧ epA (rowS N k) = 0) ∧ (oneN k = false → ecA (rowS N k) = 4 ∧ epA (rowS N k) = N) :=
          ⟨fun h => row_some N k hN7 hk hbl (Or.inr (Or.inr h)), fun h => ⟨(row_none N k hN7 hk hbl e1 e2 h).2.1, (row_none N k hN7 hk hbl e1 e2 h).2.2⟩⟩
        rcases (show k < 48 ∨ (57 < k ∧ k < 97) ∨ 122 < k from by omega) with h | ⟨h, h'⟩ | h
        · exact one_low n N k _ _ _ hand hN7 hk h hn hF w hw hA hB
        · exact one_mid n N k _ _ _ hand hN7 hk h h' hF w hw hA hB
        · exact one_high n N k _ _ _ hand hN7 hk h hF w hw hA hB

set_option maxRecDepth 100000 in
theorem lexOne_lifted (os : Os) (started : os.Started) (H : Type) (enc : TypeId × Value → H) :
    ReturnsInHanded {} Tryd.checked os 3 .any (fun w args => (Rows.lexOneSpec.pre enc Tryd.prog Tryd.f3 [] false w args ∧ laidMetH Tryd.prog laidL w) ∧ sizedMet enc Tryd.prog Tryd.f3 (OpenSpec.ofChange Rows.lexOneSpec) false w args)
      (Rows.lexOneSpec.post enc Tryd.prog Tryd.f3 false true false false) := by
  refine returnsInHanded_of_change_and (C := Tryd.checked) (X := fun w _ => laidMetH Tryd.prog laidL w) (fun _ _ _ hh h => h.of_heap hh) own started (by kernel_rfl) Tryd.func3
    (ChangeSpec.witness_shaped (enc := enc) (C := Tryd.checked) (os := os) (X := fun w _ => laidMetH Tryd.prog laidL w) false (World.doorLaid Tryd.prog 400 os) #[.int .u8 0, .int .i64 0] 8 rfl (World.shaped_of_RefB (by kernel_rfl) (by kernel_rfl)) (by kernel_rfl) (by kernel_rfl) (by kernel_rfl) (door_met os _)) ?_
  intro W base args ds gs before hval0 hW _ _ hL _
  have hval : ∀ (j : Nat) t v, Tryd.f3.params[j]? = some t → args[j]? = some v → Value.okWide Tryd.prog W .any base t v := hval0
  have hW' := hW
  obtain ⟨p, q, hA0, hV, rfl, hfz, hnd⟩ := hW
  have hA : DataW.TrodAll enc Tryd.prog W 0 (fun _ => true) true Tryd.f3.params.toList args.toList ds p := hA0
  rw [Tryd.params3] at hA hval
  obtain ⟨v0, v1, d0, d1, p0, p1, rfl, rfl, rfl, h0, h1⟩ := trodAll_two hA
  obtain ⟨rfl, rfl⟩ := trodVars_none hV
  obtain ⟨c, rfl, rfl, rfl, wc⟩ := open_int Tryd.underlying5 (hval 0 5 v0 rfl rfl) h0
  obtain ⟨c0, c1⟩ := bd8 wc
  obtain ⟨n, rfl, rfl, rfl, wn⟩ := open_int Tryd.underlying3 (hval 1 3 v1 rfl rfl) h1
  obtain ⟨n0, n1⟩ := bd wn
  clear hA0 hval0
  simp only [List.append_nil] at hW'
  refine (lexOne_walk c n c0 c1 W (of_laid hL)).mono fun e W' ⟨he, hw⟩ => ?_
  subst he
  refine ⟨_, rfl, _, _, _, [], [], [], hW', ?_, ?_, rfl, Below.frame hw _, fun h => by cases h⟩
  · exact trodAll_mk1 (shut_bool Tryd.underlying4 _)
  · exact trodAll_mk2 (shut_int Tryd.underlying5 wc) (shut_int Tryd.underlying3 wn)

theorem lexOne_said : Rows.LexOneSaid :=
  OpenClaim.holds_of_wide 3 Tryd.f3 rfl rfl rfl rfl rfl rfl rfl ⟨rfl, rfl, rfl, rfl, rfl⟩ rfl rfl rfl rfl rfl (by kernel_rfl) Tryd.func3 (by kernel_rfl)
    (of_decide_eq_true (by kernel_rfl)) (by unfold Func.isWrapper; first | (rw [if_pos (by decide +kernel)]; kernel_rfl) | (rw [if_neg (by decide +kernel)]; exact ⟨rfl, rfl⟩))
    (fun os started H enc _ => lexOne_lifted os started H enc)

theorem lexOne_card : Rows.LexOneCardSaid :=
  Claim7.holds_tied_plain_at .later [] [.data, .data, .data, .sentinel, .sentinel] true (true, "e778a03b216b4ff87b621aaa108ee97d2984d4c2323c08988875fd2d4addd431") true
    lexOne_said (fun _ h => by cases h) (by kernel_rfl) (fun _ h => by cases h) lexOne_row_tie rfl ⟨rfl, rfl⟩ (by kernel_rfl) rfl
    (fun f fn hf hfn => by
      obtain rfl : f = 3 := Option.some.inj ((show Tryd.prog.funcNamed "jacquard/jacquardlaw2.LexOne" = some 3 by kernel_rfl).symm.trans hf) |>.symm
      obtain rfl : fn = Tryd.f3 := (Option.some.inj (Tryd.func3.symm.trans hfn)).symm
      exact ⟨by kernel_rfl, fun j t ht => by
        rw [Tryd.params3] at ht
        have hm : t ∈ [5, 3] := by simpa using Array.mem_of_getElem? ht
        have hall : ([5, 3].all fun u => !Tryd.prog.wantsStandIn u) = true := by kernel_rfl
        exact (show Tryd.prog.wantsStandIn t = false by simpa using List.all_eq_true.1 hall t hm)⟩)
    (by kernel_rfl)
#print axioms lexOne_card

end Go.Proofs.YtoipapbdepobjaaDoor
