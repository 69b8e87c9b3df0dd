/- Proved: for every int and every byte the law LexBounds of layer 2 returns true and leaves its arguments as they were; the condition is that the listed package-level variables hold what the program's text lays, to which the card ties them. -/
import Derived.Test.YtoipapbdepobjabDoorLexAwake
import Derived.Test.YtoipapbdepobjabDoorLexBlank
import Derived.Test.YtoipapbdepobjabDoorLift2
import Derived.Deep.OwnRows
import Derived.Laws.IdiomStrings
namespace Go.Proofs.YtoipapbdepobjabDoor
open Go.ChangeShapes Go.WideShapes Go.ChangeAt Go.WideMaps Go.WideElems Go.RowKit

theorem i64_and15 (n : Int) : bits .and .i64 n 15 = n % 16 := by
  have h63 : (BitVec.ofInt 64 15).toNat = 2 ^ 4 - 1 := by decide
  have key : (BitVec.ofInt 64 n &&& BitVec.ofInt 64 15).toNat = (n % ((2 ^ 64 : Nat) : Int)).toNat % 2 ^ 4 := by
    rw [BitVec.toNat_and, BitVec.toNat_ofInt, h63, Nat.and_two_pow_sub_one_eq_mod]
  show IntKind.i64.wrap ((BitVec.ofInt 64 n &&& BitVec.ofInt 64 15).toNat : Nat) = n % 16
  rw [key, IntKind.wrap_i64]
  omega
theorem u8_and3_all : ∀ c : Fin 256, bits .and .u8 (c.val : Int) 3 = 0 ∨ bits .and .u8 (c.val : Int) 3 = 1 ∨ bits .and .u8 (c.val : Int) 3 = 2 ∨ bits .and .u8 (c.val : Int) 3 = 3 := by decide +kernel

theorem infoU8 : (Tryd.prog.info? 5).map (fun i => (i.zero, i.size, i.bytes)) = some (some (.int .u8 0), 1, 1) := by kernel_rfl

/-- What All answers of n bytes that stand between tokens. -/
theorem rep_short (n : Nat) (c : UInt8) (hc : c.toNat = 35 ∨ blN c.toNat = true) (h : n ≤ 4000) : tsA (rep n c) = [⟨4, ⟨#[]⟩, n⟩] ∧ ecA (rep n c) = 0 ∧ epA (rep n c) = 0 := by
  have hs : ¬ 4000 < (rep n c).size := by rw [rep_size]; omega
  unfold tsA ecA epA tsS ecS epS
  simp only [hs, if_false, rep_al n c hc, if_true, and_self]
theorem rep_long (n : Nat) (c : UInt8) (h : 4000 < n) : tsA (rep n c) = [] ∧ ecA (rep n c) = 2 ∧ epA (rep n c) = 4000 := by
  have hs : 4000 < (rep n c).size := by rw [rep_size]; exact h
  unfold tsA ecA epA
  simp only [hs, if_true, and_self]

/-- A row of n bytes c reads as that text. -/
theorem conv_rep (n : Nat) (c : UInt8) (B : Nat) (w : World) (h : w.rowIs B 5 n (fun _ => .int .u8 (c.toNat : Int))) :
    (convert 33 9 (.slice (some ⟨B, 0, none⟩) n n)).run Tryd.prog w = .ok (.string (rep n c)) w := by
  have e := run_convert_bytes_back (P := Tryd.prog) w 33 9 5 ⟨B, 0, none⟩ n (List.replicate n c) Tryd.underlying33 Tryd.underlying5 Tryd.underlying9 (fun j hj => by
    rw [Addr.add_lit, Nat.zero_add, h.cell (by simpa using hj)]
    simp)
  rw [List.length_replicate] at e
  exact e

set_option maxHeartbeats 1000000 in
set_option maxRecDepth 4000 in
theorem bounds_0l (n c : Int) (N : Nat) (hn : n % 16 + 3992 = (N : Int)) (hN : 4000 < N) (hc : bits .and .u8 c 3 = 0) (w : World) (hw : Lw w) :
    Calls Tryd.prog 4 #[.int .i64 n, .int .u8 c] w fun e w' => e = .returned (.bool true) ∧ On w w' := by
  have hand : bits .and .i64 n 15 = n % 16 := i64_and15 n
  have hadd : n % 16 + 3992 = (N : Int) := hn
  have hN0 : 3992 ≤ N := by omega
  have hN1 : N ≤ 4007 := by omega
  have hmk := fun w1 => run_make_row' (P := Tryd.prog) 33 5 (.int .u8 0) 1 Tryd.underlying33 infoU8 rfl .i64 .i64 N (by omega) (by omega) w1
  have hA : ∀ w1, Lw w1 → Calls Tryd.prog 5 #[.string (rep N 32)] w1 fun e w' => ∃ ao cap, e = .returned (.tuple #[.slice ao 0 cap, .agg #[.int .i64 2, .int .i64 4000]]) ∧ On w1 w' := by
    intro w1 h1
    refine (all_is (rep N 32) (by rw [rep_size]; omega) w1 h1).mono ?_
    rintro e w' ⟨v, rfl, hT, hO⟩
    obtain ⟨t1, t2, t3⟩ := rep_long N 32 hN
    rw [t1] at hT
    rw [t2, t3]
    rcases hT with ⟨rfl, _⟩ | ⟨g, cap, rfl, _⟩
    · exact ⟨none, 0, rfl, hO⟩
    · exact ⟨_, cap, rfl, hO⟩
  have hE : ∀ w1, Lw w1 → Calls Tryd.prog 5 #[.string ⟨#[]⟩] w1 fun e w' => ∃ g cap : Nat, e = .returned (.tuple #[.slice (some ⟨g, 0, none⟩) 1 cap, .agg #[.int .i64 0, .int .i64 0]]) ∧ On w1 w' := by
    intro w1 h1
    refine (all_is (rep 0 32) (by decide) w1 h1).mono ?_
    rintro e w' ⟨v, rfl, hT, hO⟩
    obtain ⟨t1, t2, t3⟩ := rep_short 0 32 (by decide) (by decide)
    rw [t1] at hT
    rw [t2, t3]
    obtain ⟨g, cap, rfl, h1, h2, h3⟩ := hT.some (by simp)
    exact ⟨g, cap, rfl, hO⟩
  have hAw := fun w1 (h : Lw w1) => awake_any w1 h
  clear hn
  go_enter Tryd.func4, Tryd.ntmps4
  go_wp2
  go_loopg [18] N (fun k iv wr => ∃ j : Nat, k = N - j ∧ iv = .int .i64 j ∧ j ≤ N ∧ wr.rowIs w.heap.size 5 N (fun i => if i < j then .int .u8 32 else .int .u8 0) ∧ On w wr)
  case atStart => exact ⟨0, rfl, rfl, Nat.zero_le _, (World.rowIs_made w (.int .u8 0) N 5).congr (fun i _ => by simp), (On.refl _).alloc _⟩
  case round =>
    obtain ⟨j, hk, rfl, hj, hrow, hon⟩ := hrel
    by_cases hlt : j < N
    · have hcell := hrow.cell hlt
      have hfr := hrow.frozen j
      simp only [Nat.lt_irrefl, if_false] at hcell
      go_wp2
      go_roundg (N - (j + 1))
      case measure => omega
      case rel =>
        refine ⟨j + 1, rfl, by go_num, by omega, (hrow.set j (.int .u8 32)).congr (fun i hi => ?_), hon.setNew (Nat.le_refl _) _⟩
        by_cases h1 : i = j
        · subst h1; simp
        · by_cases h2 : i < j
          · simp [h1, h2, Nat.lt_succ_of_lt h2]
          · simp [h1, h2, show ¬ i < j + 1 by omega]
    · have hjN : j = N := by omega
      subst hjN
      have hcv := conv_rep j 32 w.heap.size wr (hrow.congr (fun i hi => by simp [hi]))
      have hLr := hw.on hon
      clear hmk hrow
      go_wp2_with (first | (go_at_call 5; refine (hE _ hL2).mono ?_; rintro e w3 ⟨g3, cap3, rfl, hO3⟩; have hL3 : Lw (w3.alloc (.cells #[.int .i64 0, .int .i64 0] 25)) := hL2.on (hO3.alloc _); have y0 := (hO3.cell (p := ⟨w2.heap.size, 0, none⟩) (by simp)).trans (cell_new w2 #[.int .i64 2, .int .i64 4000] 25 w2.heap.size 0 rfl); have y1 := (hO3.cell (p := ⟨w2.heap.size, 1, none⟩) (by simp)).trans (cell_new w2 #[.int .i64 2, .int .i64 4000] 25 w2.heap.size 1 rfl); have hz3 : w2.heap.size < w3.heap.size := Nat.lt_of_lt_of_le (by simp) hO3.size) | (go_at_call 5; refine (hA _ hLr).mono ?_; rintro e w2 ⟨ao, cap, rfl, hO2⟩; have hL2 : Lw (w2.alloc (.cells #[.int .i64 2, .int .i64 4000] 25)) := hLr.on (hO2.alloc _)) | (go_at_call 6; refine (hAw _ hL3).mono ?_; rintro e w4 ⟨rfl, hw4⟩))
      go_ret
      exact ⟨rfl, (((hon.trans (hO2.alloc _)).trans (hO3.alloc _)).trans hw4)⟩

set_option maxHeartbeats 1000000 in
set_option maxRecDepth 4000 in
theorem bounds_0s (n c : Int) (N : Nat) (hn : n % 16 + 3992 = (N : Int)) (hN : N ≤ 4000) (hc : bits .and .u8 c 3 = 0) (w : World) (hw : Lw w) :
    Calls Tryd.prog 4 #[.int .i64 n, .int .u8 c] w fun e w' => e = .returned (.bool true) ∧ On w w' := by
  have hand : bits .and .i64 n 15 = n % 16 := i64_and15 n
  have hadd : n % 16 + 3992 = (N : Int) := hn
  have hN0 : 3992 ≤ N := by omega
  have hN1 : N ≤ 4007 := by omega
  have hmk := fun w1 => run_make_row' (P := Tryd.prog) 33 5 (.int .u8 0) 1 Tryd.underlying33 infoU8 rfl .i64 .i64 N (by omega) (by omega) w1
  have hA : ∀ w1, Lw w1 → Calls Tryd.prog 5 #[.string (rep N 32)] w1 fun e w' => ∃ g cap : Nat, e = .returned (.tuple #[.slice (some ⟨g, 0, none⟩) 1 cap, .agg #[.int .i64 0, .int .i64 0]]) ∧ 1 ≤ cap ∧ g < w'.heap.size ∧ w'.cell? ⟨g, 0, none⟩ = some (.int .i64 4) ∧ w'.cell? ⟨g, 1, none⟩ = some (.string ⟨#[]⟩) ∧ w'.cell? ⟨g, 2, none⟩ = some (.int .i64 N) ∧ On w1 w' := by
    intro w1 h1
    refine (all_is (rep N 32) (by rw [rep_size]; omega) w1 h1).mono ?_
    rintro e w' ⟨v, rfl, hT, hO⟩
    obtain ⟨t1, t2, t3⟩ := rep_short N 32 (by decide) hN
    rw [t1] at hT
    rw [t2, t3]
    obtain ⟨g, cap, rfl, h1, h2, h3⟩ := hT.some (by simp)
    exact ⟨g, cap, rfl, h1, h2, h3 0 _ rfl, h3 1 _ rfl, h3 2 _ rfl, hO⟩
  have hE : ∀ w1, Lw w1 → Calls Tryd.prog 5 #[.string ⟨#[]⟩] w1 fun e w' => ∃ g cap : Nat, e = .returned (.tuple #[.slice (some ⟨g, 0, none⟩) 1 cap, .agg #[.int .i64 0, .int .i64 0]]) ∧ On w1 w' := by
    intro w1 h1
    refine (all_is (rep 0 32) (by decide) w1 h1).mono ?_
    rintro e w' ⟨v, rfl, hT, hO⟩
    obtain ⟨t1, t2, t3⟩ := rep_short 0 32 (by decide) (by decide)
    rw [t1] at hT
    rw [t2, t3]
    obtain ⟨g, cap, rfl, h1, h2, h3⟩ := hT.some (by simp)
    exact ⟨g, cap, rfl, hO⟩
  have hAw := fun w1 (h : Lw w1) => awake_any w1 h
  clear hn
  go_enter Tryd.func4, Tryd.ntmps4
  go_wp2
  go_loopg [18] N (fun k iv wr => ∃ j : Nat, k = N - j ∧ iv = .int .i64 j ∧ j ≤ N ∧ wr.rowIs w.heap.size 5 N (fun i => if i < j then .int .u8 32 else .int .u8 0) ∧ On w wr)
  case atStart => exact ⟨0, rfl, rfl, Nat.zero_le _, (World.rowIs_made w (.int .u8 0) N 5).congr (fun i _ => by simp), (On.refl _).alloc _⟩
  case round =>
    obtain ⟨j, hk, rfl, hj, hrow, hon⟩ := hrel
    by_cases hlt : j < N
    · have hcell := hrow.cell hlt
      have hfr := hrow.frozen j
      simp only [Nat.lt_irrefl, if_false] at hcell
      go_wp2
      go_roundg (N - (j + 1))
      case measure => omega
      case rel =>
        refine ⟨j + 1, rfl, by go_num, by omega, (hrow.set j (.int .u8 32)).congr (fun i hi => ?_), hon.setNew (Nat.le_refl _) _⟩
        by_cases h1 : i = j
        · subst h1; simp
        · by_cases h2 : i < j
          · simp [h1, h2, Nat.lt_succ_of_lt h2]
          · simp [h1, h2, show ¬ i < j + 1 by omega]
    · have hjN : j = N := by omega
      subst hjN
      have hcv := conv_rep j 32 w.heap.size wr (hrow.congr (fun i hi => by simp [hi]))
      have hLr := hw.on hon
      clear hmk hrow
      go_wp2_with (first | (go_at_call 5; refine (hE _ hL2).mono ?_; rintro e w3 ⟨g3, cap3, rfl, hO3⟩; have hL3 : Lw (w3.alloc (.cells #[.int .i64 0, .int .i64 0] 25)) := hL2.on (hO3.alloc _); have y0 := (hO3.cell (p := ⟨w2.heap.size, 0, none⟩) (by simp)).trans (cell_new w2 #[.int .i64 0, .int .i64 0] 25 w2.heap.size 0 rfl); have hz3 : w2.heap.size < w3.heap.size := Nat.lt_of_lt_of_le (by simp) hO3.size; have o3 : On w2 w3 := ((On.refl w2).alloc _).trans hO3; have z0 := (o3.cell (p := ⟨g, 0, none⟩) hg).trans x0; have z1 := (o3.cell (p := ⟨g, 1, none⟩) hg).trans x1; have z2 := (o3.cell (p := ⟨g, 2, none⟩) hg).trans x2; have hg3 : g < w3.heap.size := Nat.lt_trans hg hz3) | (go_at_call 5; refine (hA _ hLr).mono ?_; rintro e w2 ⟨g, cap, rfl, hcap, hg, x0, x1, x2, hO2⟩; have hL2 : Lw (w2.alloc (.cells #[.int .i64 0, .int .i64 0] 25)) := hLr.on (hO2.alloc _)) | (go_at_call 6; refine (hAw _ hL3).mono ?_; rintro e w4 ⟨rfl, hw4⟩))
      go_ret
      exact ⟨rfl, (((hon.trans (hO2.alloc _)).trans (hO3.alloc _)).trans hw4)⟩

set_option maxHeartbeats 1000000 in
set_option maxRecDepth 4000 in
theorem bounds_1l (n c : Int) (N : Nat) (hn : n % 16 + 3992 = (N : Int)) (hN : 4000 < N) (hc : bits .and .u8 c 3 = 1) (w : World) (hw : Lw w) :
    Calls Tryd.prog 4 #[.int .i64 n, .int .u8 c] w fun e w' => e = .returned (.bool true) ∧ On w w' := by
  have hand : bits .and .i64 n 15 = n % 16 := i64_and15 n
  have hadd : n % 16 + 3992 = (N : Int) := hn
  have hN0 : 3992 ≤ N := by omega
  have hN1 : N ≤ 4007 := by omega
  have hmk := fun w1 => run_make_row' (P := Tryd.prog) 33 5 (.int .u8 0) 1 Tryd.underlying33 infoU8 rfl .i64 .i64 N (by omega) (by omega) w1
  have hA : ∀ w1, Lw w1 → Calls Tryd.prog 5 #[.string (rep N 9)] w1 fun e w' => ∃ ao cap, e = .returned (.tuple #[.slice ao 0 cap, .agg #[.int .i64 2, .int .i64 4000]]) ∧ On w1 w' := by
    intro w1 h1
    refine (all_is (rep N 9) (by rw [rep_size]; omega) w1 h1).mono ?_
    rintro e w' ⟨v, rfl, hT, hO⟩
    obtain ⟨t1, t2, t3⟩ := rep_long N 9 hN
    rw [t1] at hT
    rw [t2, t3]
    rcases hT with ⟨rfl, _⟩ | ⟨g, cap, rfl, _⟩
    · exact ⟨none, 0, rfl, hO⟩
    · exact ⟨_, cap, rfl, hO⟩
  have hE : ∀ w1, Lw w1 → Calls Tryd.prog 5 #[.string ⟨#[]⟩] w1 fun e w' => ∃ g cap : Nat, e = .returned (.tuple #[.slice (some ⟨g, 0, none⟩) 1 cap, .agg #[.int .i64 0, .int .i64 0]]) ∧ On w1 w' := by
    intro w1 h1
    refine (all_is (rep 0 32) (by decide) w1 h1).mono ?_
    rintro e w' ⟨v, rfl, hT, hO⟩
    obtain ⟨t1, t2, t3⟩ := rep_short 0 32 (by decide) (by decide)
    rw [t1] at hT
    rw [t2, t3]
    obtain ⟨g, cap, rfl, h1, h2, h3⟩ := hT.some (by simp)
    exact ⟨g, cap, rfl, hO⟩
  have hAw := fun w1 (h : Lw w1) => awake_any w1 h
  clear hn
  go_enter Tryd.func4, Tryd.ntmps4
  go_wp2
  go_loopg [18] N (fun k iv wr => ∃ j : Nat, k = N - j ∧ iv = .int .i64 j ∧ j ≤ N ∧ wr.rowIs w.heap.size 5 N (fun i => if i < j then .int .u8 9 else .int .u8 0) ∧ On w wr)
  case atStart => exact ⟨0, rfl, rfl, Nat.zero_le _, (World.rowIs_made w (.int .u8 0) N 5).congr (fun i _ => by simp), (On.refl _).alloc _⟩
  case round =>
    obtain ⟨j, hk, rfl, hj, hrow, hon⟩ := hrel
    by_cases hlt : j < N
    · have hcell := hrow.cell hlt
      have hfr := hrow.frozen j
      simp only [Nat.lt_irrefl, if_false] at hcell
      go_wp2
      go_roundg (N - (j + 1))
      case measure => omega
      case rel =>
        refine ⟨j + 1, rfl, by go_num, by omega, (hrow.set j (.int .u8 9)).congr (fun i hi => ?_), hon.setNew (Nat.le_refl _) _⟩
        by_cases h1 : i = j
        · subst h1; simp
        · by_cases h2 : i < j
          · simp [h1, h2, Nat.lt_succ_of_lt h2]
          · simp [h1, h2, show ¬ i < j + 1 by omega]
    · have hjN : j = N := by omega
      subst hjN
      have hcv := conv_rep j 9 w.heap.size wr (hrow.congr (fun i hi => by simp [hi]))
      have hLr := hw.on hon
      clear hmk hrow
      go_wp2_with (first | (go_at_call 5; refine (hE _ hL2).mono ?_; rintro e w3 ⟨g3, cap3, rfl, hO3⟩; have hL3 : Lw (w3.alloc (.cells #[.int .i64 0, .int .i64 0] 25)) := hL2.on (hO3.alloc _); have y0 := (hO3.cell (p := ⟨w2.heap.size, 0, none⟩) (by simp)).trans (cell_new w2 #[.int .i64 2, .int .i64 4000] 25 w2.heap.size 0 rfl); have y1 := (hO3.cell (p := ⟨w2.heap.size, 1, none⟩) (by simp)).trans (cell_new w2 #[.int .i64 2, .int .i64 4000] 25 w2.heap.size 1 rfl); have hz3 : w2.heap.size < w3.heap.size := Nat.lt_of_lt_of_le (by simp) hO3.size) | (go_at_call 5; refine (hA _ hLr).mono ?_; rintro e w2 ⟨ao, cap, rfl, hO2⟩; have hL2 : Lw (w2.alloc (.cells #[.int .i64 2, .int .i64 4000] 25)) := hLr.on (hO2.alloc _)) | (go_at_call 6; refine (hAw _ hL3).mono ?_; rintro e w4 ⟨rfl, hw4⟩))
      go_ret
      exact ⟨rfl, (((hon.trans (hO2.alloc _)).trans (hO3.alloc _)).trans hw4)⟩

set_option maxHeartbeats 1000000 in
set_option maxRecDepth 4000 in
theorem bounds_1s (n c : Int) (N : Nat) (hn : n % 16 + 3992 = (N : Int)) (hN : N ≤ 4000) (hc : bits .and .u8 c 3 = 1) (w : World) (hw : Lw w) :
    Calls Tryd.prog 4 #[.int .i64 n, .int .u8 c] w fun e w' => e = .returned (.bool true) ∧ On w w' := by
  have hand : bits .and .i64 n 15 = n % 16 := i64_and15 n
  have hadd : n % 16 + 3992 = (N : Int) := hn
  have hN0 : 3992 ≤ N := by omega
  have hN1 : N ≤ 4007 := by omega
  have hmk := fun w1 => run_make_row' (P := Tryd.prog) 33 5 (.int .u8 0) 1 Tryd.underlying33 infoU8 rfl .i64 .i64 N (by omega) (by omega) w1
  have hA : ∀ w1, Lw w1 → Calls Tryd.prog 5 #[.string (rep N 9)] w1 fun e w' => ∃ g cap : Nat, e = .returned (.tuple #[.slice (some ⟨g, 0, none⟩) 1 cap, .agg #[.int .i64 0, .int .i64 0]]) ∧ 1 ≤ cap ∧ g < w'.heap.size ∧ w'.cell? ⟨g, 0, none⟩ = some (.int .i64 4) ∧ w'.cell? ⟨g, 1, none⟩ = some (.string ⟨#[]⟩) ∧ w'.cell? ⟨g, 2, none⟩ = some (.int .i64 N) ∧ On w1 w' := by
    intro w1 h1
    refine (all_is (rep N 9) (by rw [rep_size]; omega) w1 h1).mono ?_
    rintro e w' ⟨v, rfl, hT, hO⟩
    obtain ⟨t1, t2, t3⟩ := rep_short N 9 (by decide) hN
    rw [t1] at hT
    rw [t2, t3]
    obtain ⟨g, cap, rfl, h1, h2, h3⟩ := hT.some (by simp)
    exact ⟨g, cap, rfl, h1, h2, h3 0 _ rfl, h3 1 _ rfl, h3 2 _ rfl, hO⟩
  have hE : ∀ w1, Lw w1 → Calls Tryd.prog 5 #[.string ⟨#[]⟩] w1 fun e w' => ∃ g cap : Nat, e = .returned (.tuple #[.slice (some ⟨g, 0, none⟩) 1 cap, .agg #[.int .i64 0, .int .i64 0]]) ∧ On w1 w' := by
    intro w1 h1
    refine (all_is (rep 0 32) (by decide) w1 h1).mono ?_
    rintro e w' ⟨v, rfl, hT, hO⟩
    obtain ⟨t1, t2, t3⟩ := rep_short 0 32 (by decide) (by decide)
    rw [t1] at hT
    rw [t2, t3]
    obtain ⟨g, cap, rfl, h1, h2, h3⟩ := hT.some (by simp)
    exact ⟨g, cap, rfl, hO⟩
  have hAw := fun w1 (h : Lw w1) => awake_any w1 h
  clear hn
  go_enter Tryd.func4, Tryd.ntmps4
  go_wp2
  go_loopg [18] N (fun k iv wr => ∃ j : Nat, k = N - j ∧ iv = .int .i64 j ∧ j ≤ N ∧ wr.rowIs w.heap.size 5 N (fun i => if i < j then .int .u8 9 else .int .u8 0) ∧ On w wr)
  case atStart => exact ⟨0, rfl, rfl, Nat.zero_le _, (World.rowIs_made w (.int .u8 0) N 5).congr (fun i _ => by simp), (On.refl _).alloc _⟩
  case round =>
    obtain ⟨j, hk, rfl, hj, hrow, hon⟩ := hrel
    by_cases hlt : j < N
    · have hcell := hrow.cell hlt
      have hfr := hrow.frozen j
      simp only [Nat.lt_irrefl, if_false] at hcell
      go_wp2
      go_roundg (N - (j + 1))
      case measure => omega
      case rel =>
        refine ⟨j + 1, rfl, by go_num, by omega, (hrow.set j (.int .u8 9)).congr (fun i hi => ?_), hon.setNew (Nat.le_refl _) _⟩
        by_cases h1 : i = j
        · subst h1; simp
        · by_cases h2 : i < j
          · simp [h1, h2, Nat.lt_succ_of_lt h2]
          · simp [h1, h2, show ¬ i < j + 1 by omega]
    · have hjN : j = N := by omega
      subst hjN
      have hcv := conv_rep j 9 w.heap.size wr (hrow.congr (fun i hi => by simp [hi]))
      have hLr := hw.on hon
      clear hmk hrow
      go_wp2_with (first | (go_at_call 5; refine (hE _ hL2).mono ?_; rintro e w3 ⟨g3, cap3, rfl, hO3⟩; have hL3 : Lw (w3.alloc (.cells #[.int .i64 0, .int .i64 0] 25)) := hL2.on (hO3.alloc _); have y0 := (hO3.cell (p := ⟨w2.heap.size, 0, none⟩) (by simp)).trans (cell_new w2 #[.int .i64 0, .int .i64 0] 25 w2.heap.size 0 rfl); have hz3 : w2.heap.size < w3.heap.size := Nat.lt_of_lt_of_le (by simp) hO3.size; have o3 : On w2 w3 := ((On.refl w2).alloc _).trans hO3; have z0 := (o3.cell (p := ⟨g, 0, none⟩) hg).trans x0; have z1 := (o3.cell (p := ⟨g, 1, none⟩) hg).trans x1; have z2 := (o3.cell (p := ⟨g, 2, none⟩) hg).trans x2; have hg3 : g < w3.heap.size := Nat.lt_trans hg hz3) | (go_at_call 5; refine (hA _ hLr).mono ?_; rintro e w2 ⟨g, cap, rfl, hcap, hg, x0, x1, x2, hO2⟩; have hL2 : Lw (w2.alloc (.cells #[.int .i64 0, .int .i64 0] 25)) := hLr.on (hO2.alloc _)) | (go_at_call 6; refine (hAw _ hL3).mono ?_; rintro e w4 ⟨rfl, hw4⟩))
      go_ret
      exact ⟨rfl, (((hon.trans (hO2.alloc _)).trans (hO3.alloc _)).trans hw4)⟩

set_option maxHeartbeats 1000000 in
set_option maxRecDepth 4000 in
theorem bounds_2l (n c : Int) (N : Nat) (hn : n % 16 + 3992 = (N : Int)) (hN : 4000 < N) (hc : bits .and .u8 c 3 = 2) (w : World) (hw : Lw w) :
    Calls Tryd.prog 4 #[.int .i64 n, .int .u8 c] w fun e w' => e = .returned (.bool true) ∧ On w w' := by
  have hand : bits .and .i64 n 15 = n % 16 := i64_and15 n
  have hadd : n % 16 + 3992 = (N : Int) := hn
  have hN0 : 3992 ≤ N := by omega
  have hN1 : N ≤ 4007 := by omega
  have hmk := fun w1 => run_make_row' (P := Tryd.prog) 33 5 (.int .u8 0) 1 Tryd.underlying33 infoU8 rfl .i64 .i64 N (by omega) (by omega) w1
  have hA : ∀ w1, Lw w1 → Calls Tryd.prog 5 #[.string (rep N 10)] w1 fun e w' => ∃ ao cap, e = .returned (.tuple #[.slice ao 0 cap, .agg #[.int .i64 2, .int .i64 4000]]) ∧ On w1 w' := by
    intro w1 h1
    refine (all_is (rep N 10) (by rw [rep_size]; omega) w1 h1).mono ?_
    rintro e w' ⟨v, rfl, hT, hO⟩
    obtain ⟨t1, t2, t3⟩ := rep_long N 10 hN
    rw [t1] at hT
    rw [t2, t3]
    rcases hT with ⟨rfl, _⟩ | ⟨g, cap, rfl, _⟩
    · exact ⟨none, 0, rfl, hO⟩
    · exact ⟨_, cap, rfl, hO⟩
  have hE : ∀ w1, Lw w1 → Calls Tryd.prog 5 #[.string ⟨#[]⟩] w1 fun e w' => ∃ g cap : Nat, e = .returned (.tuple #[.slice (some ⟨g, 0, none⟩) 1 cap, .agg #[.int .i64 0, .int .i64 0]]) ∧ On w1 w' := by
    intro w1 h1
    refine (all_is (rep 0 32) (by decide) w1 h1).mono ?_
    rintro e w' ⟨v, rfl, hT, hO⟩
    obtain ⟨t1, t2, t3⟩ := rep_short 0 32 (by decide) (by decide)
    rw [t1] at hT
    rw [t2, t3]
    obtain ⟨g, cap, rfl, h1, h2, h3⟩ := hT.some (by simp)
    exact ⟨g, cap, rfl, hO⟩
  have hAw := fun w1 (h : Lw w1) => awake_any w1 h
  clear hn
  go_enter Tryd.func4, Tryd.ntmps4
  go_wp2
  go_loopg [18] N (fun k iv wr => ∃ j : Nat, k = N - j ∧ iv = .int .i64 j ∧ j ≤ N ∧ wr.rowIs w.heap.size 5 N (fun i => if i < j then .int .u8 10 else .int .u8 0) ∧ On w wr)
  case atStart => exact ⟨0, rfl, rfl, Nat.zero_le _, (World.rowIs_made w (.int .u8 0) N 5).congr (fun i _ => by simp), (On.refl _).alloc _⟩
  case round =>
    obtain ⟨j, hk, rfl, hj, hrow, hon⟩ := hrel
    by_cases hlt : j < N
    · have hcell := hrow.cell hlt
      have hfr := hrow.frozen j
      simp only [Nat.lt_irrefl, if_false] at hcell
      go_wp2
      go_roundg (N - (j + 1))
      case measure => omega
      case rel =>
        refine ⟨j + 1, rfl, by go_num, by omega, (hrow.set j (.int .u8 10)).congr (fun i hi => ?_), hon.setNew (Nat.le_refl _) _⟩
        by_cases h1 : i = j
        · subst h1; simp
        · by_cases h2 : i < j
          · simp [h1, h2, Nat.lt_succ_of_lt h2]
          · simp [h1, h2, show ¬ i < j + 1 by omega]
    · have hjN : j = N := by omega
      subst hjN
      have hcv := conv_rep j 10 w.heap.size wr (hrow.congr (fun i hi => by simp [hi]))
      have hLr := hw.on hon
      clear hmk hrow
      go_wp2_with (first | (go_at_call 5; refine (hE _ hL2).mono ?_; rintro e w3 ⟨g3, cap3, rfl, hO3⟩; have hL3 : Lw (w3.alloc (.cells #[.int .i64 0, .int .i64 0] 25)) := hL2.on (hO3.alloc _); have y0 := (hO3.cell (p := ⟨w2.heap.size, 0, none⟩) (by simp)).trans (cell_new w2 #[.int .i64 2, .int .i64 4000] 25 w2.heap.size 0 rfl); have y1 := (hO3.cell (p := ⟨w2.heap.size, 1, none⟩) (by simp)).trans (cell_new w2 #[.int .i64 2, .int .i64 4000] 25 w2.heap.size 1 rfl); have hz3 : w2.heap.size < w3.heap.size := Nat.lt_of_lt_of_le (by simp) hO3.size) | (go_at_call 5; refine (hA _ hLr).mono ?_; rintro e w2 ⟨ao, cap, rfl, hO2⟩; have hL2 : Lw (w2.alloc (.cells #[.int .i64 2, .int .i64 4000] 25)) := hLr.on (hO2.alloc _)) | (go_at_call 6; refine (hAw _ hL3).mono ?_; rintro e w4 ⟨rfl, hw4⟩))
      go_ret
      exact ⟨rfl, (((hon.trans (hO2.alloc _)).trans (hO3.alloc _)).trans hw4)⟩

set_option maxHeartbeats 1000000 in
set_option maxRecDepth 4000 in
theorem bounds_2s (n c : Int) (N : Nat) (hn : n % 16 + 3992 = (N : Int)) (hN : N ≤ 4000) (hc : bits .and .u8 c 3 = 2) (w : World) (hw : Lw w) :
    Calls Tryd.prog 4 #[.int .i64 n, .int .u8 c] w fun e w' => e = .returned (.bool true) ∧ On w w' := by
  have hand : bits .and .i64 n 15 = n % 16 := i64_and15 n
  have hadd : n % 16 + 3992 = (N : Int) := hn
  have hN0 : 3992 ≤ N := by omega
  have hN1 : N ≤ 4007 := by omega
  have hmk := fun w1 => run_make_row' (P := Tryd.prog) 33 5 (.int .u8 0) 1 Tryd.underlying33 infoU8 rfl .i64 .i64 N (by omega) (by omega) w1
  have hA : ∀ w1, Lw w1 → Calls Tryd.prog 5 #[.string (rep N 10)] w1 fun e w' => ∃ g cap : Nat, e = .returned (.tuple #[.slice (some ⟨g, 0, none⟩) 1 cap, .agg #[.int .i64 0, .int .i64 0]]) ∧ 1 ≤ cap ∧ g < w'.heap.size ∧ w'.cell? ⟨g, 0, none⟩ = some (.int .i64 4) ∧ w'.cell? ⟨g, 1, none⟩ = some (.string ⟨#[]⟩) ∧ w'.cell? ⟨g, 2, none⟩ = some (.int .i64 N) ∧ On w1 w' := by
    intro w1 h1
    refine (all_is (rep N 10) (by rw [rep_size]; omega) w1 h1).mono ?_
    rintro e w' ⟨v, rfl, hT, hO⟩
    obtain ⟨t1, t2, t3⟩ := rep_short N 10 (by decide) hN
    rw [t1] at hT
    rw [t2, t3]
    obtain ⟨g, cap, rfl, h1, h2, h3⟩ := hT.some (by simp)
    exact ⟨g, cap, rfl, h1, h2, h3 0 _ rfl, h3 1 _ rfl, h3 2 _ rfl, hO⟩
  have hE : ∀ w1, Lw w1 → Calls Tryd.prog 5 #[.string ⟨#[]⟩] w1 fun e w' => ∃ g cap : Nat, e = .returned (.tuple #[.slice (some ⟨g, 0, none⟩) 1 cap, .agg #[.int .i64 0, .int .i64 0]]) ∧ On w1 w' := by
    intro w1 h1
    refine (all_is (rep 0 32) (by decide) w1 h1).mono ?_
    rintro e w' ⟨v, rfl, hT, hO⟩
    obtain ⟨t1, t2, t3⟩ := rep_short 0 32 (by decide) (by decide)
    rw [t1] at hT
    rw [t2, t3]
    obtain ⟨g, cap, rfl, h1, h2, h3⟩ := hT.some (by simp)
    exact ⟨g, cap, rfl, hO⟩
  have hAw := fun w1 (h : Lw w1) => awake_any w1 h
  clear hn
  go_enter Tryd.func4, Tryd.ntmps4
  go_wp2
  go_loopg [18] N (fun k iv wr => ∃ j : Nat, k = N - j ∧ iv = .int .i64 j ∧ j ≤ N ∧ wr.rowIs w.heap.size 5 N (fun i => if i < j then .int .u8 10 else .int .u8 0) ∧ On w wr)
  case atStart => exact ⟨0, rfl, rfl, Nat.zero_le _, (World.rowIs_made w (.int .u8 0) N 5).congr (fun i _ => by simp), (On.refl _).alloc _⟩
  case round =>
    obtain ⟨j, hk, rfl, hj, hrow, hon⟩ := hrel
    by_cases hlt : j < N
    · have hcell := hrow.cell hlt
      have hfr := hrow.frozen j
      simp only [Nat.lt_irrefl, if_false] at hcell
      go_wp2
      go_roundg (N - (j + 1))
      case measure => omega
      case rel =>
        refine ⟨j + 1, rfl, by go_num, by omega, (hrow.set j (.int .u8 10)).congr (fun i hi => ?_), hon.setNew (Nat.le_refl _) _⟩
        by_cases h1 : i = j
        · subst h1; simp
        · by_cases h2 : i < j
          · simp [h1, h2, Nat.lt_succ_of_lt h2]
          · simp [h1, h2, show ¬ i < j + 1 by omega]
    · have hjN : j = N := by omega
      subst hjN
      have hcv := conv_rep j 10 w.heap.size wr (hrow.congr (fun i hi => by simp [hi]))
      have hLr := hw.on hon
      clear hmk hrow
      go_wp2_with (first | (go_at_call 5; refine (hE _ hL2).mono ?_; rintro e w3 ⟨g3, cap3, rfl, hO3⟩; have hL3 : Lw (w3.alloc (.cells #[.int .i64 0, .int .i64 0] 25)) := hL2.on (hO3.alloc _); have y0 := (hO3.cell (p := ⟨w2.heap.size, 0, none⟩) (by simp)).trans (cell_new w2 #[.int .i64 0, .int .i64 0] 25 w2.heap.size 0 rfl); have hz3 : w2.heap.size < w3.heap.size := Nat.lt_of_lt_of_le (by simp) hO3.size; have o3 : On w2 w3 := ((On.refl w2).alloc _).trans hO3; have z0 := (o3.cell (p := ⟨g, 0, none⟩) hg).trans x0; have z1 := (o3.cell (p := ⟨g, 1, none⟩) hg).trans x1; have z2 := (o3.cell (p := ⟨g, 2, none⟩) hg).trans x2; have hg3 : g < w3.heap.size := Nat.lt_trans hg hz3) | (go_at_call 5; refine (hA _ hLr).mono ?_; rintro e w2 ⟨g, cap, rfl, hcap, hg, x0, x1, x2, hO2⟩; have hL2 : Lw (w2.alloc (.cells #[.int .i64 0, .int .i64 0] 25)) := hLr.on (hO2.alloc _)) | (go_at_call 6; refine (hAw _ hL3).mono ?_; rintro e w4 ⟨rfl, hw4⟩))
      go_ret
      exact ⟨rfl, (((hon.trans (hO2.alloc _)).trans (hO3.alloc _)).trans hw4)⟩

set_option maxHeartbeats 1000000 in
set_option maxRecDepth 4000 in
theorem bounds_3l (n c : Int) (N : Nat) (hn : n % 16 + 3992 = (N : Int)) (hN : 4000 < N) (hc : bits .and .u8 c 3 = 3) (w : World) (hw : Lw w) :
    Calls Tryd.prog 4 #[.int .i64 n, .int .u8 c] w fun e w' => e = .returned (.bool true) ∧ On w w' := by
  have hand : bits .and .i64 n 15 = n % 16 := i64_and15 n
  have hadd : n % 16 + 3992 = (N : Int) := hn
  have hN0 : 3992 ≤ N := by omega
  have hN1 : N ≤ 4007 := by omega
  have hmk := fun w1 => run_make_row' (P := Tryd.prog) 33 5 (.int .u8 0) 1 Tryd.underlying33 infoU8 rfl .i64 .i64 N (by omega) (by omega) w1
  have hA : ∀ w1, Lw w1 → Calls Tryd.prog 5 #[.string (rep N 35)] w1 fun e w' => ∃ ao cap, e = .returned (.tuple #[.slice ao 0 cap, .agg #[.int .i64 2, .int .i64 4000]]) ∧ On w1 w' := by
    intro w1 h1
    refine (all_is (rep N 35) (by rw [rep_size]; omega) w1 h1).mono ?_
    rintro e w' ⟨v, rfl, hT, hO⟩
    obtain ⟨t1, t2, t3⟩ := rep_long N 35 hN
    rw [t1] at hT
    rw [t2, t3]
    rcases hT with ⟨rfl, _⟩ | ⟨g, cap, rfl, _⟩
    · exact ⟨none, 0, rfl, hO⟩
    · exact ⟨_, cap, rfl, hO⟩
  have hE : ∀ w1, Lw w1 → Calls Tryd.prog 5 #[.string ⟨#[]⟩] w1 fun e w' => ∃ g cap : Nat, e = .returned (.tuple #[.slice (some ⟨g, 0, none⟩) 1 cap, .agg #[.int .i64 0, .int .i64 0]]) ∧ On w1 w' := by
    intro w1 h1
    refine (all_is (rep 0 32) (by decide) w1 h1).mono ?_
    rintro e w' ⟨v, rfl, hT, hO⟩
    obtain ⟨t1, t2, t3⟩ := rep_short 0 32 (by decide) (by decide)
    rw [t1] at hT
    rw [t2, t3]
    obtain ⟨g, cap, rfl, h1, h2, h3⟩ := hT.some (by simp)
    exact ⟨g, cap, rfl, hO⟩
  have hAw := fun w1 (h : Lw w1) => awake_any w1 h
  clear hn
  go_enter Tryd.func4, Tryd.ntmps4
  go_wp2
  go_loopg [18] N (fun k iv wr => ∃ j : Nat, k = N - j ∧ iv = .int .i64 j ∧ j ≤ N ∧ wr.rowIs w.heap.size 5 N (fun i => if i < j then .int .u8 35 else .int .u8 0) ∧ On w wr)
  case atStart => exact ⟨0, rfl, rfl, Nat.zero_le _, (World.rowIs_made w (.int .u8 0) N 5).congr (fun i _ => by simp), (On.refl _).alloc _⟩
  case round =>
    obtain ⟨j, hk, rfl, hj, hrow, hon⟩ := hrel
    by_cases hlt : j < N
    · have hcell := hrow.cell hlt
      have hfr := hrow.frozen j
      simp only [Nat.lt_irrefl, if_false] at hcell
      go_wp2
      go_roundg (N - (j + 1))
      case measure => omega
      case rel =>
        refine ⟨j + 1, rfl, by go_num, by omega, (hrow.set j (.int .u8 35)).congr (fun i hi => ?_), hon.setNew (Nat.le_refl _) _⟩
        by_cases h1 : i = j
        · subst h1; simp
        · by_cases h2 : i < j
          · simp [h1, h2, Nat.lt_succ_of_lt h2]
          · simp [h1, h2, show ¬ i < j + 1 by omega]
    · have hjN : j = N := by omega
      subst hjN
      have hcv := conv_rep j 35 w.heap.size wr (hrow.congr (fun i hi => by simp [hi]))
      have hLr := hw.on hon
      clear hmk hrow
      go_wp2_with (first | (go_at_call 5; refine (hE _ hL2).mono ?_; rintro e w3 ⟨g3, cap3, rfl, hO3⟩; have hL3 : Lw (w3.alloc (.cells #[.int .i64 0, .int .i64 0] 25)) := hL2.on (hO3.alloc _); have y0 := (hO3.cell (p := ⟨w2.heap.size, 0, none⟩) (by simp)).trans (cell_new w2 #[.int .i64 2, .int .i64 4000] 25 w2.heap.size 0 rfl); have y1 := (hO3.cell (p := ⟨w2.heap.size, 1, none⟩) (by simp)).trans (cell_new w2 #[.int .i64 2, .int .i64 4000] 25 w2.heap.size 1 rfl); have hz3 : w2.heap.size < w3.heap.size := Nat.lt_of_lt_of_le (by simp) hO3.size) | (go_at_call 5; refine (hA _ hLr).mono ?_; rintro e w2 ⟨ao, cap, rfl, hO2⟩; have hL2 : Lw (w2.alloc (.cells #[.int .i64 2, .int .i64 4000] 25)) := hLr.on (hO2.alloc _)) | (go_at_call 6; refine (hAw _ hL3).mono ?_; rintro e w4 ⟨rfl, hw4⟩))
      go_ret
      exact ⟨rfl, (((hon.trans (hO2.alloc _)).trans (hO3.alloc _)).trans hw4)⟩

set_option maxHeartbeats 1000000 in
set_option maxRecDepth 4000 in
theorem bounds_3s (n c : Int) (N : Nat) (hn : n % 16 + 3992 = (N : Int)) (hN : N ≤ 4000) (hc : bits .and .u8 c 3 = 3) (w : World) (hw : Lw w) :
    Calls Tryd.prog 4 #[.int .i64 n, .int .u8 c] w fun e w' => e = .returned (.bool true) ∧ On w w' := by
  have hand : bits .and .i64 n 15 = n % 16 := i64_and15 n
  have hadd : n % 16 + 3992 = (N : Int) := hn
  have hN0 : 3992 ≤ N := by omega
  have hN1 : N ≤ 4007 := by omega
  have hmk := fun w1 => run_make_row' (P := Tryd.prog) 33 5 (.int .u8 0) 1 Tryd.underlying33 infoU8 rfl .i64 .i64 N (by omega) (by omega) w1
  have hA : ∀ w1, Lw w1 → Calls Tryd.prog 5 #[.string (rep N 35)] w1 fun e w' => ∃ g cap : Nat, e = .returned (.tuple #[.slice (some ⟨g, 0, none⟩) 1 cap, .agg #[.int .i64 0, .int .i64 0]]) ∧ 1 ≤ cap ∧ g < w'.heap.size ∧ w'.cell? ⟨g, 0, none⟩ = some (.int .i64 4) ∧ w'.cell? ⟨g, 1, none⟩ = some (.string ⟨#[]⟩) ∧ w'.cell? ⟨g, 2, none⟩ = some (.int .i64 N) ∧ On w1 w' := by
    intro w1 h1
    refine (all_is (rep N 35) (by rw [rep_size]; omega) w1 h1).mono ?_
    rintro e w' ⟨v, rfl, hT, hO⟩
    obtain ⟨t1, t2, t3⟩ := rep_short N 35 (by decide) hN
    rw [t1] at hT
    rw [t2, t3]
    obtain ⟨g, cap, rfl, h1, h2, h3⟩ := hT.some (by simp)
    exact ⟨g, cap, rfl, h1, h2, h3 0 _ rfl, h3 1 _ rfl, h3 2 _ rfl, hO⟩
  have hE : ∀ w1, Lw w1 → Calls Tryd.prog 5 #[.string ⟨#[]⟩] w1 fun e w' => ∃ g cap : Nat, e = .returned (.tuple #[.slice (some ⟨g, 0, none⟩) 1 cap, .agg #[.int .i64 0, .int .i64 0]]) ∧ On w1 w' := by
    intro w1 h1
    refine (all_is (rep 0 32) (by decide) w1 h1).mono ?_
    rintro e w' ⟨v, rfl, hT, hO⟩
    obtain ⟨t1, t2, t3⟩ := rep_short 0 32 (by decide) (by decide)
    rw [t1] at hT
    rw [t2, t3]
    obtain ⟨g, cap, rfl, h1, h2, h3⟩ := hT.some (by simp)
    exact ⟨g, cap, rfl, hO⟩
  have hAw := fun w1 (h : Lw w1) => awake_any w1 h
  clear hn
  go_enter Tryd.func4, Tryd.ntmps4
  go_wp2
  go_loopg [18] N (fun k iv wr => ∃ j : Nat, k = N - j ∧ iv = .int .i64 j ∧ j ≤ N ∧ wr.rowIs w.heap.size 5 N (fun i => if i < j then .int .u8 35 else .int .u8 0) ∧ On w wr)
  case atStart => exact ⟨0, rfl, rfl, Nat.zero_le _, (World.rowIs_made w (.int .u8 0) N 5).congr (fun i _ => by simp), (On.refl _).alloc _⟩
  case round =>
    obtain ⟨j, hk, rfl, hj, hrow, hon⟩ := hrel
    by_cases hlt : j < N
    · have hcell := hrow.cell hlt
      have hfr := hrow.frozen j
      simp only [Nat.lt_irrefl, if_false] at hcell
      go_wp2
      go_roundg (N - (j + 1))
      case measure => omega
      case rel =>
        refine ⟨j + 1, rfl, by go_num, by omega, (hrow.set j (.int .u8 35)).congr (fun i hi => ?_), hon.setNew (Nat.le_refl _) _⟩
        by_cases h1 : i = j
        · subst h1; simp
        · by_cases h2 : i < j
          · simp [h1, h2, Nat.lt_succ_of_lt h2]
          · simp [h1, h2, show ¬ i < j + 1 by omega]
    · have hjN : j = N := by omega
      subst hjN
      have hcv := conv_rep j 35 w.heap.size wr (hrow.congr (fun i hi => by simp [hi]))
      have hLr := hw.on hon
      clear hmk hrow
      go_wp2_with (first | (go_at_call 5; refine (hE _ hL2).mono ?_; rintro e w3 ⟨g3, cap3, rfl, hO3⟩; have hL3 : Lw (w3.alloc (.cells #[.int .i64 0, .int .i64 0] 25)) := hL2.on (hO3.alloc _); have y0 := (hO3.cell (p := ⟨w2.heap.size, 0, none⟩) (by simp)).trans (cell_new w2 #[.int .i64 0, .int .i64 0] 25 w2.heap.size 0 rfl); have hz3 : w2.heap.size < w3.heap.size := Nat.lt_of_lt_of_le (by simp) hO3.size; have o3 : On w2 w3 := ((On.refl w2).alloc _).trans hO3; have z0 := (o3.cell (p := ⟨g, 0, none⟩) hg).trans x0; have z1 := (o3.cell (p := ⟨g, 1, none⟩) hg).trans x1; have z2 := (o3.cell (p := ⟨g, 2, none⟩) hg).trans x2; have hg3 : g < w3.heap.size := Nat.lt_trans hg hz3) | (go_at_call 5; refine (hA _ hLr).mono ?_; rintro e w2 ⟨g, cap, rfl, hcap, hg, x0, x1, x2, hO2⟩; have hL2 : Lw (w2.alloc (.cells #[.int .i64 0, .int .i64 0] 25)) := hLr.on (hO2.alloc _)) | (go_at_call 6; refine (hAw _ hL3).mono ?_; rintro e w4 ⟨rfl, hw4⟩))
      go_ret
      exact ⟨rfl, (((hon.trans (hO2.alloc _)).trans (hO3.alloc _)).trans hw4)⟩

theorem lexBounds_walk (n c : Int) (c0 : 0 ≤ c) (c1 : c ≤ 255) (w : World) (hw : Lw w) :
    Calls Tryd.prog 4 #[.int .i64 n, .int .u8 c] w fun e w' => e = .returned (.bool true) ∧ On w w' := by
  obtain ⟨N, hN⟩ : ∃ N : Nat, n % 16 + 3992 = (N : Int) := ⟨(n % 16 + 3992).toNat, by omega⟩
  obtain ⟨k, hk⟩ : ∃ k : Nat, c = (k : Int) := ⟨c.toNat, by omega⟩
  subst hk
  rcases u8_and3_all ⟨k, by omega⟩ with h | h | h | h
  · by_cases hl : 4000 < N
    · exact bounds_0l n k N hN hl h w hw
    · exact bounds_0s n k N hN (by omega) h w hw
  · by_cases hl : 4000 < N
    · exact bounds_1l n k N hN hl h w hw
    · exact bounds_1s n k N hN (by omega) h w hw
  · by_cases hl : 4000 < N
    · exact bounds_2l n k N hN hl h w hw
    · exact bounds_2s n k N hN (by omega) h w hw
  · by_cases hl : 4000 < N
    · exact bounds_3l n k N hN hl h w hw
    · exact bounds_3s n k N hN (by omega) h w hw

set_option maxRecDepth 100000 in
theorem lexBounds_lifted (os : Os) (started : os.Started) (H : Type) (enc : TypeId × Value → H) :
    ReturnsInHanded {} Tryd.checked os 4 .any (fun w args => (Rows.lexBoundsSpec.pre enc Tryd.prog Tryd.f4 [] false w args ∧ laidMetH Tryd.prog laidL w) ∧ sizedMet enc Tryd.prog Tryd.f4 (OpenSpec.ofChange Rows.lexBoundsSpec) false w args)
      (Rows.lexBoundsSpec.post enc Tryd.prog Tryd.f4 false true false false) := by
  refine returnsInHanded_of_change_and (C := Tryd.checked) (X := fun w _ => laidMetH Tryd.prog laidL w) (fun _ _ _ hh h => h.of_heap hh) own started (by kernel_rfl) Tryd.func4
    (ChangeSpec.witness_shaped (enc := enc) (C := Tryd.checked) (os := os) (X := fun w _ => laidMetH Tryd.prog laidL w) false (World.doorLaid Tryd.prog 400 os) #[.int .i64 0, .int .u8 0] 8 rfl (World.shaped_of_RefB (by kernel_rfl) (by kernel_rfl)) (by kernel_rfl) (by kernel_rfl) (by kernel_rfl) (door_met os _)) ?_
  intro W base args ds gs before hval0 hW _ _ hL _
  have hval : ∀ (j : Nat) t v, Tryd.f4.params[j]? = some t → args[j]? = some v → Value.okWide Tryd.prog W .any base t v := hval0
  have hW' := hW
  obtain ⟨p, q, hA0, hV, rfl, hfz, hnd⟩ := hW
  have hA : DataW.TrodAll enc Tryd.prog W 0 (fun _ => true) true Tryd.f4.params.toList args.toList ds p := hA0
  rw [Tryd.params4] at hA hval
  obtain ⟨v0, v1, d0, d1, p0, p1, rfl, rfl, rfl, h0, h1⟩ := trodAll_two hA
  obtain ⟨rfl, rfl⟩ := trodVars_none hV
  obtain ⟨n, rfl, rfl, rfl, wn⟩ := open_int Tryd.underlying3 (hval 0 3 v0 rfl rfl) h0
  obtain ⟨n0, n1⟩ := bd wn
  obtain ⟨c, rfl, rfl, rfl, wc⟩ := open_int Tryd.underlying5 (hval 1 5 v1 rfl rfl) h1
  obtain ⟨c0, c1⟩ := bd8 wc
  clear hA0 hval0
  simp only [List.append_nil] at hW'
  refine (lexBounds_walk n c c0 c1 W (of_laid hL)).mono fun e W' ⟨he, hw⟩ => ?_
  subst he
  refine ⟨_, rfl, _, _, _, [], [], [], hW', ?_, ?_, rfl, Below.frame hw _, fun h => by cases h⟩
  · exact trodAll_mk1 (shut_bool Tryd.underlying4 _)
  · exact trodAll_mk2 (shut_int Tryd.underlying3 wn) (shut_int Tryd.underlying5 wc)

theorem lexBounds_said : Rows.LexBoundsSaid :=
  OpenClaim.holds_of_wide 4 Tryd.f4 rfl rfl rfl rfl rfl rfl rfl ⟨rfl, rfl, rfl, rfl, rfl⟩ rfl rfl rfl rfl rfl (by kernel_rfl) Tryd.func4 (by kernel_rfl)
    (of_decide_eq_true (by kernel_rfl)) (by unfold Func.isWrapper; first | (rw [if_pos (by decide +kernel)]; kernel_rfl) | (rw [if_neg (by decide +kernel)]; exact ⟨rfl, rfl⟩))
    (fun os started H enc _ => lexBounds_lifted os started H enc)

theorem lexBounds_card : Rows.LexBoundsCardSaid :=
  Claim7.holds_tied_plain_at .later [] [.data, .data, .data, .sentinel, .sentinel] true (true, "f3e856ae91a836c0e664ecad47f984a19cbc480cd0f4dca8862d8683e4a4ac6a") true
    lexBounds_said (fun _ h => by cases h) (by kernel_rfl) (fun _ h => by cases h) lexBounds_row_tie rfl ⟨rfl, rfl⟩ (by kernel_rfl) rfl
    (fun f fn hf hfn => by
      obtain rfl : f = 4 := Option.some.inj ((show Tryd.prog.funcNamed "jacquard/jacquardlaw2.LexBounds" = some 4 by kernel_rfl).symm.trans hf) |>.symm
      obtain rfl : fn = Tryd.f4 := (Option.some.inj (Tryd.func4.symm.trans hfn)).symm
      exact ⟨by kernel_rfl, fun j t ht => by
        rw [Tryd.params4] at ht
        have hm : t ∈ [3, 5] := by simpa using Array.mem_of_getElem? ht
        have hall : ([3, 5].all fun u => !Tryd.prog.wantsStandIn u) = true := by kernel_rfl
        exact (show Tryd.prog.wantsStandIn t = false by simpa using List.all_eq_true.1 hall t hm)⟩)
    (by kernel_rfl)
#print axioms lexBounds_card

end Go.Proofs.YtoipapbdepobjabDoor
