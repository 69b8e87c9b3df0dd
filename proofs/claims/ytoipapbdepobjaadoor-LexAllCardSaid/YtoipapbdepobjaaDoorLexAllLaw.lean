/- Proved: for every string the law LexAll of layer 2 returns true and leaves its argument as it was; the condition is that the listed package-level variables hold what the program's text lays, to which the card ties them. -/
import Derived.Test.YtoipapbdepobjaaDoorLexStep
import Derived.Test.YtoipapbdepobjaaDoorLexReadW
import Derived.Test.YtoipapbdepobjaaDoorRefAllW
import Derived.Test.YtoipapbdepobjaaDoorLift2
import Derived.BigQuiet
namespace Go.Proofs.YtoipapbdepobjaaDoor
open Go.ChangeShapes Go.WideShapes Go.ChangeAt Go.WideMaps Go.WideElems Go.RowKit
open Go.ChangeMaps (open_string shut_string)

theorem kdEnd {s : ByteArray} {a : Nat} (h : a ≤ s.size) (hk : kd s a = 4) : pl s a = s.size ∧ tx s a = ⟨#[]⟩ ∧ to s a = s.size := by
  have e : suf s (pl s a) = [] := kind_end.1 hk
  have h1 := pl_le h
  have h2 : (suf s (pl s a)).length = 0 := by rw [e]; rfl
  rw [suf_length] at h2
  have h3 : sz s a = 0 := by unfold sz; rw [e]; rfl
  have h4 : tx s a = ⟨#[]⟩ := by
    apply bytes_ext
    rw [tx_list, e, List.take_nil]
  refine ⟨by omega, h4, ?_⟩
  unfold to
  omega
theorem overEnd (s : ByteArray) : kd s s.size = 4 ∧ pl s s.size = s.size ∧ tx s s.size = ⟨#[]⟩ ∧ eC pB s s.size = 0 := by
  have hs : suf s s.size = [] := suf_ge (Nat.le_refl _)
  have hp : pl s s.size = s.size := by unfold pl; rw [hs]; rfl
  have hk : kd s s.size = 4 := by unfold kd; rw [hp, hs]; rfl
  exact ⟨hk, hp, (kdEnd (Nat.le_refl _) hk).2.1, by unfold eC; rw [hk]; simp⟩
theorem twoT (w : World) (cs ds : Array Value) (T U : TypeId) (j : Nat) : ((w.alloc (.cells cs T)).alloc (.cells ds U)).cell? ⟨w.heap.size, j, none⟩ = cs[j]? := by
  rw [← cell_new w cs T w.heap.size j rfl]
  exact World.cell?_of_block (Below.heap_alloc _ _ _ (by simp))
theorem twoE (w : World) (cs ds : Array Value) (T U : TypeId) (j : Nat) : ((w.alloc (.cells cs T)).alloc (.cells ds U)).cell? ⟨w.heap.size + 1, j, none⟩ = ds[j]? := cell_new _ _ _ _ _ (by simp)

set_option maxHeartbeats 1000000 in
set_option maxRecDepth 8000 in
theorem lexAll_long (s : ByteArray) (hs : s.size ≤ 140737488351232) (hl : 4000 < s.size) (w : World) (hw : Lw w) :
    Calls Tryd.prog 7 #[.string s] w fun e w' => e = .returned (.bool true) ∧ On w w' := by
  have hA := all_long s hl hs w
  have hB := fun w1 => rall_long s hl hs w1
  have hAw := fun w1 (h : Lw w1) => awake_any w1 h
  have hl' : (4000 : Int) < s.size := by omega
  go_enter Tryd.func7, Tryd.ntmps7
  go_wp2_with fail
  refine hA.mono ?_
  rintro e w1 ⟨rfl, hO1⟩
  go_wp2_with fail
  refine (hB _).mono ?_
  rintro e w2 ⟨rfl, hO2⟩
  have y0 := (hO2.cell (p := ⟨w1.heap.size, 0, none⟩) (by simp)).trans (cell_new w1 #[.int .i64 2, .int .i64 4000] 26 w1.heap.size 0 rfl)
  have y1 := (hO2.cell (p := ⟨w1.heap.size, 1, none⟩) (by simp)).trans (cell_new w1 #[.int .i64 2, .int .i64 4000] 26 w1.heap.size 1 rfl)
  have hz : w1.heap.size < w2.heap.size := Nat.lt_of_lt_of_le (by simp) hO2.size
  go_wp2_with fail
  refine wp_loop_rounds 1 ?_
  rw [rounds_succ]
  go_wp2_with fail
  refine (hAw _ (hw.on ((hO1.alloc _).trans (hO2.alloc _)))).mono ?_
  rintro e w3 ⟨rfl, hO3⟩
  go_wp2_with fail
  go_ret
  exact ⟨rfl, ((hO1.alloc _).trans (hO2.alloc _)).trans hO3⟩

set_option maxHeartbeats 4000000 in
set_option maxRecDepth 8000 in
theorem lexAll_err (s : ByteArray) (hs : s.size ≤ 140737488351232) (hl : s.size ≤ 4000) (he : ecA s ≠ 0) (w : World) (hw : Lw w) :
    Calls Tryd.prog 7 #[.string s] w fun e w' => e = .returned (.bool true) ∧ On w w' := by
  have shape : ∀ w1 w' v, Tks w' v (tsA s) → On w1 w' → ∃ ao cap, v = .slice ao 0 cap := by
    intro w1 w' v hT _
    rw [ts_err he] at hT
    exact hT.len
  have hA : Calls Tryd.prog 9 #[.string s] w fun e w' => ∃ ao cap, e = .returned (.tuple #[.slice ao 0 cap, .agg #[.int .i64 (ecA s), .int .i64 (epA s)]]) ∧ On w w' :=
    (all_is s hs w hw).mono fun e w' ⟨v, h1, h2, h3⟩ => by
      obtain ⟨ao, cap, rfl⟩ := shape _ _ v h2 h3
      exact ⟨ao, cap, h1, h3⟩
  have hB : ∀ w1, Calls Tryd.prog 10 #[.string s] w1 fun e w' => ∃ ao cap, e = .returned (.tuple #[.slice ao 0 cap, .agg #[.int .i64 (ecA s), .int .i64 (epA s)]]) ∧ On w1 w' := fun w1 =>
    (rall_is s hs w1).mono fun e w' ⟨v, h1, h2, h3⟩ => by
      obtain ⟨ao, cap, rfl⟩ := shape _ _ v h2 h3
      exact ⟨ao, cap, h1, h3⟩
  have hAw := fun w1 (h : Lw w1) => awake_any w1 h
  have hl' : ¬ (4000 : Int) < s.size := by omega
  clear shape he
  go_enter Tryd.func7, Tryd.ntmps7
  go_wp2_with fail
  refine hA.mono ?_
  rintro e w1 ⟨ao1, cap1, rfl, hO1⟩
  go_wp2_with fail
  refine (hB _).mono ?_
  rintro e w2 ⟨ao2, cap2, rfl, hO2⟩
  have y0 := (hO2.cell (p := ⟨w1.heap.size, 0, none⟩) (by simp)).trans (cell_new w1 #[.int .i64 (ecA s), .int .i64 (epA s)] 26 w1.heap.size 0 rfl)
  have y1 := (hO2.cell (p := ⟨w1.heap.size, 1, none⟩) (by simp)).trans (cell_new w1 #[.int .i64 (ecA s), .int .i64 (epA s)] 26 w1.heap.size 1 rfl)
  have hz : w1.heap.size < w2.heap.size := Nat.lt_of_lt_of_le (by simp) hO2.size
  have hq' : On w (w2.alloc (.cells #[.int .i64 (ecA s), .int .i64 (epA s)] 26)) := (hO1.alloc _).trans (hO2.alloc _)
  go_wp2_with fail
  refine wp_loop_rounds 1 ?_
  rw [rounds_succ]
  clear y0 y1 hO1 hO2 hA hB
  go_wp2_with fail
  obtain ⟨wq, hwq⟩ : ∃ wq, w2.alloc (.cells #[.int .i64 (ecA s), .int .i64 (epA s)] 26) = wq := ⟨_, rfl⟩
  rw [hwq] at hq' ⊢
  have hq := hq'
  clear hwq hq' hz
  refine (new_is wq s).mono ?_
  rintro e w4 ⟨rfl, hl4, hw4⟩
  have hq4 := hq.trans hw4
  have hBq : w.heap.size ≤ wq.heap.size := hq.size
  have hsz3 : 2 < w.heap.size := lt_of_var gTab hw.tab
  go_wp2_with fail
  go_loopg [9, 10] (s.size + 1) (fun k av iv wr => ∃ a r n : Nat, k = s.size + 1 - a ∧ av = .int .i64 a ∧ iv = .int .i64 n ∧ n ≤ a ∧ Inv s a r ∧ Lx wr wq.heap.size s a r ∧ On w wr)
  case atStart => exact ⟨0, 0, 0, rfl, rfl, rfl, Nat.le_refl _, ⟨Nat.le_refl _, by omega, Nat.zero_le _, Nat.zero_le _⟩, hl4, hq4⟩
  case round =>
    obtain ⟨a, r, n, hk, rfl, rfl, hna, hinv, hlx, hon⟩ := hrel
    have h4 := hinv.h4
    have h3 := hinv.h3
    have h2 := hinv.h2
    have hbn : n ≤ s.size := by omega
    have hLw := hw.on hon
    have hlb := hlx.lt
    have hN := fun w1 (h1 : Lx w1 wq.heap.size s a r) (h2 : Lw w1) => next_is w1 wq.heap.size s a r hs hinv h1 (by omega) h2
    have hRN := fun w1 => rnext_is s a hs h4 w1
    unfold tkV erV at hN
    unfold tkV erV rtoV at hRN
    clear hl4 hq4 hw4 hq
    by_cases h0 : eC pB s a = 0
    · simp only [h0, if_true] at hN hRN
      have HST : Hid (kd s a ≠ 4 → a < to s a) := fun h => to_gt (eC_kd h0) h
      have HTL : Hid (to s a ≤ s.size) := to_le h4
      have HEND : Hid (kd s a = 4 → pl s a = s.size ∧ tx s a = ⟨#[]⟩ ∧ to s a = s.size) := fun h => kdEnd h4 h
      have hN2 := fun w1 r2 (hi : Inv s s.size r2) (h1 : Lx w1 wq.heap.size s s.size r2) (h2 : Lw w1) => next_is w1 wq.heap.size s s.size r2 hs hi h1 (by omega) h2
      obtain ⟨o1, o2, o3, o4⟩ := overEnd s
      unfold tkV erV at hN2
      simp only [o1, o2, o3, o4, if_true] at hN2
      clear o1 o2 o3 o4
      have hbT : to s a ≤ 140737488351232 := Nat.le_trans HTL.out hs
      obtain ⟨K, hKK⟩ : ∃ K, kd s a = K := ⟨_, rfl⟩
      obtain ⟨x, hx⟩ : ∃ x, tx s a = x := ⟨_, rfl⟩
      obtain ⟨p, hp⟩ : ∃ p, pl s a = p := ⟨_, rfl⟩
      obtain ⟨T, hT⟩ : ∃ T, to s a = T := ⟨_, rfl⟩
      simp only [hKK, hx, hp, hT] at hN hRN HST HTL HEND hbT
      clear hKK hx hp hT
      have hR : ∀ w1 r2, Lx w1 wq.heap.size s T r2 → Calls Tryd.prog 14 #[.pointer (some ⟨wq.heap.size, 0, none⟩)] w1 fun e w' => e = .returned (.int .i64 r2) ∧ w' = w1 := fun w1 r2 h => read_is w1 _ s T r2 h
      by_cases hk4 : K = 4
      · obtain ⟨g1, g2, g3⟩ := HEND.out hk4
        subst hk4 g1 g2 g3
        have hN2 : ∀ w1 r2, Inv s s.size r2 → Lx w1 wq.heap.size s s.size r2 → Lw w1 → Calls Tryd.prog 15 #[.pointer (some ⟨wq.heap.size, 0, none⟩)] w1 fun e w' => e = .returned (.tuple #[.agg #[.int .i64 4, .string ⟨#[]⟩, .int .i64 s.size], .agg #[.int .i64 0, .int .i64 0]]) ∧ Wr wq.heap.size w1 w' := fun w1 r2 hi h1 h2 => (hN2 w1 r2 hi h1 h2).mono fun e w' ⟨q1, _, _, q4⟩ => ⟨q1, q4⟩
        clear HST HTL HEND
        go_wp2_with fail
        refine (hN _ hlx hLw).mono ?_
        rintro e w2 ⟨rfl, hl2, _, hw2⟩
        obtain ⟨r2, hi2, hl2⟩ := hl2 trivial
        have hbq2 := hl2.lt
        have hl2' : Lx ((w2.alloc (.cells #[.int .i64 4, .string ⟨#[]⟩, .int .i64 s.size] 34)).alloc (.cells #[.int .i64 0, .int .i64 0] 26)) wq.heap.size s s.size r2 := (hl2.alloc _).alloc _
        have hLw2' : Lw ((w2.alloc (.cells #[.int .i64 4, .string ⟨#[]⟩, .int .i64 s.size] 34)).alloc (.cells #[.int .i64 0, .int .i64 0] 26)) := (hLw.wr hw2 (by omega)).on (((On.refl _).alloc _).alloc _)
        go_wp2_with fail
        refine (hRN _).mono ?_
        rintro e w3 ⟨rfl, hO3⟩
        have d0 := (hO3.cell (p := ⟨w2.heap.size, 0, none⟩) (by simp; omega)).trans (twoT w2 #[.int .i64 4, .string ⟨#[]⟩, .int .i64 s.size] #[.int .i64 0, .int .i64 0] 34 26 0)
        have d1 := (hO3.cell (p := ⟨w2.heap.size, 1, none⟩) (by simp; omega)).trans (twoT w2 #[.int .i64 4, .string ⟨#[]⟩, .int .i64 s.size] #[.int .i64 0, .int .i64 0] 34 26 1)
        have d2 := (hO3.cell (p := ⟨w2.heap.size, 2, none⟩) (by simp; omega)).trans (twoT w2 #[.int .i64 4, .string ⟨#[]⟩, .int .i64 s.size] #[.int .i64 0, .int .i64 0] 34 26 2)
        have de0 := (hO3.cell (p := ⟨w2.heap.size + 1, 0, none⟩) (by simp)).trans (twoE w2 #[.int .i64 4, .string ⟨#[]⟩, .int .i64 s.size] #[.int .i64 0, .int .i64 0] 34 26 0)
        have de1 := (hO3.cell (p := ⟨w2.heap.size + 1, 1, none⟩) (by simp)).trans (twoE w2 #[.int .i64 4, .string ⟨#[]⟩, .int .i64 s.size] #[.int .i64 0, .int .i64 0] 34 26 1)
        have hz3 : w2.heap.size + 1 < w3.heap.size := Nat.lt_of_lt_of_le (by simp) hO3.size
        have hz3' := Nat.lt_succ_of_lt hz3
        have hz4 : w2.heap.size < w3.heap.size := Nat.lt_of_succ_lt hz3
        have hz4' := Nat.lt_succ_of_lt hz4
        have hl3' : Lx ((w3.alloc (.cells #[.int .i64 4, .string ⟨#[]⟩, .int .i64 s.size] 34)).alloc (.cells #[.int .i64 0, .int .i64 0] 26)) wq.heap.size s s.size r2 := ((hl2'.on hO3).alloc _).alloc _
        have hLw3' : Lw ((w3.alloc (.cells #[.int .i64 4, .string ⟨#[]⟩, .int .i64 s.size] 34)).alloc (.cells #[.int .i64 0, .int .i64 0] 26)) := hLw2'.on ((hO3.alloc _).alloc _)
        have j1 := hi2.h1
        have j2 := hi2.h2
        have j3 := hi2.h3
        have hon3 := (((hon.trans' hw2 hBq).alloc (.cells #[.int .i64 4, .string ⟨#[]⟩, .int .i64 s.size] 34)).alloc (.cells #[.int .i64 0, .int .i64 0] 26)).trans ((hO3.alloc (.cells #[.int .i64 4, .string ⟨#[]⟩, .int .i64 s.size] 34)).alloc (.cells #[.int .i64 0, .int .i64 0] 26))
        go_wp2_with fail
        refine (hR _ r2 hl3').mono ?_
        rintro e w9 ⟨rfl, rfl⟩
        go_wp2_with fail
        refine (hN2 _ r2 hi2 hl3' hLw3').mono ?_
        rintro e w5 ⟨rfl, hw5⟩
        have y0 := hw5.cell (twoT w3 #[.int .i64 4, .string ⟨#[]⟩, .int .i64 s.size] #[.int .i64 0, .int .i64 0] 34 26 0) (by simp; omega)
        have y1 := hw5.cell (twoT w3 #[.int .i64 4, .string ⟨#[]⟩, .int .i64 s.size] #[.int .i64 0, .int .i64 0] 34 26 1) (by simp; omega)
        have y2 := hw5.cell (twoT w3 #[.int .i64 4, .string ⟨#[]⟩, .int .i64 s.size] #[.int .i64 0, .int .i64 0] 34 26 2) (by simp; omega)
        have ye0 := hw5.cell (twoE w3 #[.int .i64 4, .string ⟨#[]⟩, .int .i64 s.size] #[.int .i64 0, .int .i64 0] 34 26 0) (by simp; omega)
        have ye1 := hw5.cell (twoE w3 #[.int .i64 4, .string ⟨#[]⟩, .int .i64 s.size] #[.int .i64 0, .int .i64 0] 34 26 1) (by simp; omega)
        have hz5 : w3.heap.size + 1 < w5.heap.size := Nat.lt_of_lt_of_le (by simp) hw5.size
        have hz5' := Nat.lt_succ_of_lt hz5
        have hz6 : w3.heap.size < w5.heap.size := Nat.lt_of_succ_lt hz5
        have hz6' := Nat.lt_succ_of_lt hz6
        have hLw5 : Lw ((w5.alloc (.cells #[.int .i64 4, .string ⟨#[]⟩, .int .i64 s.size] 34)).alloc (.cells #[.int .i64 0, .int .i64 0] 26)) := (hLw3'.wr hw5 (by omega)).on (((On.refl _).alloc _).alloc _)
        have hon5 := (((hon3.trans' hw5 hBq).alloc (.cells #[.int .i64 4, .string ⟨#[]⟩, .int .i64 s.size] 34)).alloc (.cells #[.int .i64 0, .int .i64 0] 26))
        go_wp2_with fail
        refine (hAw _ hLw5).mono ?_
        rintro e w6 ⟨rfl, hO6⟩
        go_wp2_with fail
        go_ret
        exact ⟨rfl, hon5.trans hO6⟩
      · have hkb : ((K : Int) == 4) = false := by rw [beq_eq_false_iff_ne]; omega
        clear hN2
        go_wp2_with fail
        refine (hN _ hlx hLw).mono ?_
        rintro e w2 ⟨rfl, hl2, _, hw2⟩
        obtain ⟨r2, hi2, hl2⟩ := hl2 trivial
        have hbq2 := hl2.lt
        have hl2' : Lx ((w2.alloc (.cells #[.int .i64 K, .string x, .int .i64 p] 34)).alloc (.cells #[.int .i64 0, .int .i64 0] 26)) wq.heap.size s T r2 := (hl2.alloc _).alloc _
        have hLw2' : Lw ((w2.alloc (.cells #[.int .i64 K, .string x, .int .i64 p] 34)).alloc (.cells #[.int .i64 0, .int .i64 0] 26)) := (hLw.wr hw2 (by omega)).on (((On.refl _).alloc _).alloc _)
        go_wp2_with fail
        refine (hRN _).mono ?_
        rintro e w3 ⟨rfl, hO3⟩
        have d0 := (hO3.cell (p := ⟨w2.heap.size, 0, none⟩) (by simp; omega)).trans (twoT w2 #[.int .i64 K, .string x, .int .i64 p] #[.int .i64 0, .int .i64 0] 34 26 0)
        have d1 := (hO3.cell (p := ⟨w2.heap.size, 1, none⟩) (by simp; omega)).trans (twoT w2 #[.int .i64 K, .string x, .int .i64 p] #[.int .i64 0, .int .i64 0] 34 26 1)
        have d2 := (hO3.cell (p := ⟨w2.heap.size, 2, none⟩) (by simp; omega)).trans (twoT w2 #[.int .i64 K, .string x, .int .i64 p] #[.int .i64 0, .int .i64 0] 34 26 2)
        have de0 := (hO3.cell (p := ⟨w2.heap.size + 1, 0, none⟩) (by simp)).trans (twoE w2 #[.int .i64 K, .string x, .int .i64 p] #[.int .i64 0, .int .i64 0] 34 26 0)
        have de1 := (hO3.cell (p := ⟨w2.heap.size + 1, 1, none⟩) (by simp)).trans (twoE w2 #[.int .i64 K, .string x, .int .i64 p] #[.int .i64 0, .int .i64 0] 34 26 1)
        have hz3 : w2.heap.size + 1 < w3.heap.size := Nat.lt_of_lt_of_le (by simp) hO3.size
        have hz3' := Nat.lt_succ_of_lt hz3
        have hz4 : w2.heap.size < w3.heap.size := Nat.lt_of_succ_lt hz3
        have hz4' := Nat.lt_succ_of_lt hz4
        have hl3' : Lx ((w3.alloc (.cells #[.int .i64 K, .string x, .int .i64 p] 34)).alloc (.cells #[.int .i64 0, .int .i64 0] 26)) wq.heap.size s T r2 := ((hl2'.on hO3).alloc _).alloc _
        have hLw3' : Lw ((w3.alloc (.cells #[.int .i64 K, .string x, .int .i64 p] 34)).alloc (.cells #[.int .i64 0, .int .i64 0] 26)) := hLw2'.on ((hO3.alloc _).alloc _)
        have j1 := hi2.h1
        have j2 := hi2.h2
        have j3 := hi2.h3
        have hon3 := (((hon.trans' hw2 hBq).alloc (.cells #[.int .i64 K, .string x, .int .i64 p] 34)).alloc (.cells #[.int .i64 0, .int .i64 0] 26)).trans ((hO3.alloc (.cells #[.int .i64 K, .string x, .int .i64 p] 34)).alloc (.cells #[.int .i64 0, .int .i64 0] 26))
        go_wp2_with fail
        refine (hR _ r2 hl3').mono ?_
        rintro e w9 ⟨rfl, rfl⟩
        go_wp2_with fail
        go_roundg (s.size + 1 - T)
        case measure => have := HST.out hk4; have := hi2.h4; omega
        case rel => exact ⟨T, r2, n + 1, rfl, rfl, by go_num, by have := HST.out hk4; omega, hi2, hl3', hon3⟩
    · simp only [h0, if_false] at hN hRN
      have hpa := pl_ge s a
      have hps := pl_le (s := s) h4
      obtain ⟨C, hCC⟩ : ∃ C, eC pB s a = C := ⟨_, rfl⟩
      obtain ⟨p, hp⟩ : ∃ p, pl s a = p := ⟨_, rfl⟩
      rw [hp] at hpa hps
      simp only [hCC, hp] at hN hRN
      have hC0 : C ≠ 0 := by omega
      have hC : ((C : Int) != 0) = true := by simp; omega
      have hC' : ((C : Int) == 0) = false := by rw [beq_eq_false_iff_ne]; omega
      have hrp : r ≤ p + 1 := by omega
      have hR : ∀ w1, Lx w1 wq.heap.size s a r → Calls Tryd.prog 14 #[.pointer (some ⟨wq.heap.size, 0, none⟩)] w1 fun e w' => e = .returned (.int .i64 r) ∧ w' = w1 := fun w1 h => read_is w1 _ s a r h
      clear hCC hp h0
      go_wp2_with fail
      refine (hN _ hlx hLw).mono ?_
      rintro e w2 ⟨rfl, _, hl2, hw2⟩
      have hl2 := hl2 hC0
      have hbq2 := hl2.lt
      have hl2' : Lx ((w2.alloc (.cells #[.int .i64 0, .string ⟨#[]⟩, .int .i64 0] 34)).alloc (.cells #[.int .i64 C, .int .i64 p] 26)) wq.heap.size s a r := (hl2.alloc _).alloc _
      have hLw2' : Lw ((w2.alloc (.cells #[.int .i64 0, .string ⟨#[]⟩, .int .i64 0] 34)).alloc (.cells #[.int .i64 C, .int .i64 p] 26)) := (hLw.wr hw2 (by omega)).on (((On.refl _).alloc _).alloc _)
      go_wp2_with fail
      refine (hRN _).mono ?_
      rintro e w3 ⟨rfl, hO3⟩
      have d0 := (hO3.cell (p := ⟨w2.heap.size, 0, none⟩) (by simp; omega)).trans (twoT w2 #[.int .i64 0, .string ⟨#[]⟩, .int .i64 0] #[.int .i64 C, .int .i64 p] 34 26 0)
      have d1 := (hO3.cell (p := ⟨w2.heap.size, 1, none⟩) (by simp; omega)).trans (twoT w2 #[.int .i64 0, .string ⟨#[]⟩, .int .i64 0] #[.int .i64 C, .int .i64 p] 34 26 1)
      have d2 := (hO3.cell (p := ⟨w2.heap.size, 2, none⟩) (by simp; omega)).trans (twoT w2 #[.int .i64 0, .string ⟨#[]⟩, .int .i64 0] #[.int .i64 C, .int .i64 p] 34 26 2)
      have de0 := (hO3.cell (p := ⟨w2.heap.size + 1, 0, none⟩) (by simp)).trans (twoE w2 #[.int .i64 0, .string ⟨#[]⟩, .int .i64 0] #[.int .i64 C, .int .i64 p] 34 26 0)
      have de1 := (hO3.cell (p := ⟨w2.heap.size + 1, 1, none⟩) (by simp)).trans (twoE w2 #[.int .i64 0, .string ⟨#[]⟩, .int .i64 0] #[.int .i64 C, .int .i64 p] 34 26 1)
      have hz3 : w2.heap.size + 1 < w3.heap.size := Nat.lt_of_lt_of_le (by simp) hO3.size
      have hz3' := Nat.lt_succ_of_lt hz3
      have hz4 : w2.heap.size < w3.heap.size := Nat.lt_of_succ_lt hz3
      have hz4' := Nat.lt_succ_of_lt hz4
      have hl3' : Lx ((w3.alloc (.cells #[.int .i64 0, .string ⟨#[]⟩, .int .i64 0] 34)).alloc (.cells #[.int .i64 C, .int .i64 p] 26)) wq.heap.size s a r := ((hl2'.on hO3).alloc _).alloc _
      have hLw3' : Lw ((w3.alloc (.cells #[.int .i64 0, .string ⟨#[]⟩, .int .i64 0] 34)).alloc (.cells #[.int .i64 C, .int .i64 p] 26)) := hLw2'.on ((hO3.alloc _).alloc _)
      have hon3 := (((hon.trans' hw2 hBq).alloc (.cells #[.int .i64 0, .string ⟨#[]⟩, .int .i64 0] 34)).alloc (.cells #[.int .i64 C, .int .i64 p] 26)).trans ((hO3.alloc (.cells #[.int .i64 0, .string ⟨#[]⟩, .int .i64 0] 34)).alloc (.cells #[.int .i64 C, .int .i64 p] 26))
      go_wp2_with fail
      refine (hR _ hl3').mono ?_
      rintro e w9 ⟨rfl, rfl⟩
      go_wp2_with fail
      refine (hN _ hl3' hLw3').mono ?_
      rintro e w5 ⟨rfl, _, _, hw5⟩
      have y0 := hw5.cell (twoT w3 #[.int .i64 0, .string ⟨#[]⟩, .int .i64 0] #[.int .i64 C, .int .i64 p] 34 26 0) (by simp; omega)
      have y1 := hw5.cell (twoT w3 #[.int .i64 0, .string ⟨#[]⟩, .int .i64 0] #[.int .i64 C, .int .i64 p] 34 26 1) (by simp; omega)
      have y2 := hw5.cell (twoT w3 #[.int .i64 0, .string ⟨#[]⟩, .int .i64 0] #[.int .i64 C, .int .i64 p] 34 26 2) (by simp; omega)
      have ye0 := hw5.cell (twoE w3 #[.int .i64 0, .string ⟨#[]⟩, .int .i64 0] #[.int .i64 C, .int .i64 p] 34 26 0) (by simp; omega)
      have ye1 := hw5.cell (twoE w3 #[.int .i64 0, .string ⟨#[]⟩, .int .i64 0] #[.int .i64 C, .int .i64 p] 34 26 1) (by simp; omega)
      have hz5 : w3.heap.size + 1 < w5.heap.size := Nat.lt_of_lt_of_le (by simp) hw5.size
      have hz5' := Nat.lt_succ_of_lt hz5
      have hz6 : w3.heap.size < w5.heap.size := Nat.lt_of_succ_lt hz5
      have hz6' := Nat.lt_succ_of_lt hz6
      have hLw5 : Lw ((w5.alloc (.cells #[.int .i64 0, .string ⟨#[]⟩, .int .i64 0] 34)).alloc (.cells #[.int .i64 C, .int .i64 p] 26)) := (hLw3'.wr hw5 (by omega)).on (((On.refl _).alloc _).alloc _)
      have hon5 := (((hon3.trans' hw5 hBq).alloc (.cells #[.int .i64 0, .string ⟨#[]⟩, .int .i64 0] 34)).alloc (.cells #[.int .i64 C, .int .i64 p] 26))
      go_wp2_with fail
      refine (hAw _ hLw5).mono ?_
      rintro e w6 ⟨rfl, hO6⟩
      go_wp2_with fail
      go_ret
      exact ⟨rfl, hon5.trans hO6⟩

set_option maxHeartbeats 4000000 in
set_option maxRecDepth 8000 in
theorem lexAll_ok (s : ByteArray) (hs : s.size ≤ 140737488351232) (hl : s.size ≤ 4000) (he : ecA s = 0) (w : World) (hw : Lw w) :
    Calls Tryd.prog 7 #[.string s] w fun e w' => e = .returned (.bool true) ∧ On w w' := by
  obtain ⟨h4000, hal, hep⟩ := ts_ok he
  obtain ⟨ts, hts⟩ : ∃ ts, tsA s = ts := ⟨_, rfl⟩
  have hne := (al_ne (Nat.zero_le _) hal).1
  have hcnt : ts.length ≤ 4001 := by
    have := al_count pB s s.size 0 (by omega) (Nat.zero_le _)
    rw [hal, hts] at this
    simp only at this
    omega
  have hA : Calls Tryd.prog 9 #[.string s] w fun e w' => ∃ g cap : Nat, e = .returned (.tuple #[.slice (some ⟨g, 0, none⟩) ts.length cap, .agg #[.int .i64 0, .int .i64 0]]) ∧ g < w'.heap.size ∧ ts.length ≤ cap ∧ (∀ i u, (tksC ts)[i]? = some u → w'.cell? ⟨g, i, none⟩ = some u) ∧ On w w' := by
    refine (all_is s hs w hw).mono ?_
    rintro e w' ⟨v, rfl, hT, hO⟩
    rw [he, hep]
    obtain ⟨g, cap, rfl, h1, h2, h3⟩ := hT.some hne
    rw [hts] at h1 h3 ⊢
    exact ⟨g, cap, rfl, h2, h1, h3, hO⟩
  have hB : ∀ w1, Calls Tryd.prog 10 #[.string s] w1 fun e w' => ∃ g cap : Nat, e = .returned (.tuple #[.slice (some ⟨g, 0, none⟩) ts.length cap, .agg #[.int .i64 0, .int .i64 0]]) ∧ g < w'.heap.size ∧ ts.length ≤ cap ∧ (∀ i u, (tksC ts)[i]? = some u → w'.cell? ⟨g, i, none⟩ = some u) ∧ On w1 w' := by
    intro w1
    refine (rall_is s hs w1).mono ?_
    rintro e w' ⟨v, rfl, hT, hO⟩
    rw [he, hep]
    obtain ⟨g, cap, rfl, h1, h2, h3⟩ := hT.some hne
    rw [hts] at h1 h3 ⊢
    exact ⟨g, cap, rfl, h2, h1, h3, hO⟩
  have hAw := fun w1 (h : Lw w1) => awake_any w1 h
  have hl' : ¬ (4000 : Int) < s.size := by omega
  clear he hal hep hts hne
  go_enter Tryd.func7, Tryd.ntmps7
  go_wp2_with fail
  refine hA.mono ?_
  rintro e w1 ⟨g1, cap1, rfl, hg1, hcap1, hcell1, hO1⟩
  go_wp2_with fail
  refine (hB _).mono ?_
  rintro e w2 ⟨g2, cap2, rfl, hg2, hcap2, hcell2, hO2⟩
  have y0 := (hO2.cell (p := ⟨w1.heap.size, 0, none⟩) (by simp)).trans (cell_new w1 #[.int .i64 0, .int .i64 0] 26 w1.heap.size 0 rfl)
  have y1 := (hO2.cell (p := ⟨w1.heap.size, 1, none⟩) (by simp)).trans (cell_new w1 #[.int .i64 0, .int .i64 0] 26 w1.heap.size 1 rfl)
  have hz : w1.heap.size < w2.heap.size := Nat.lt_of_lt_of_le (by simp) hO2.size
  have hq' : On w (w2.alloc (.cells #[.int .i64 0, .int .i64 0] 26)) := (hO1.alloc _).trans (hO2.alloc _)
  have o12 : On w1 w2 := ((On.refl w1).alloc _).trans hO2
  clear hA hB
  go_wp2_with fail
  go_loopg [7] ts.length (fun k iv wx => ∃ n : Nat, k = ts.length - n ∧ iv = .int .i64 n ∧ n ≤ ts.length ∧ On w wx ∧ On w2 wx)
  case atStart => exact ⟨0, rfl, rfl, Nat.zero_le _, hq', (On.refl _).alloc _⟩
  case round =>
    obtain ⟨n, hk', rfl, hn', hq, hox⟩ := hrel
    by_cases hlt' : n < ts.length
    · obtain ⟨t, ht⟩ : ∃ t, ts[n]? = some t := ⟨_, List.getElem?_eq_getElem hlt'⟩
      obtain ⟨d0, d1, d2⟩ := cells_at hcell1 hg1 (o12.trans hox) ht
      obtain ⟨c0, c1, c2⟩ := cells_at hcell2 hg2 hox ht
      clear ht
      go_wp2_with fail
      go_quiet (fail)
      go_wp2_with fail
      go_roundg (ts.length - (n + 1))
      case measure => omega
      case rel => exact ⟨n + 1, rfl, by go_num, by omega, ⟨hq.os, hq.tape, hq.output, hq.size, hq.block⟩, ⟨hox.os, hox.tape, hox.output, hox.size, hox.block⟩⟩
    · obtain ⟨wq, hwq⟩ : ∃ wq, wr = wq := ⟨_, rfl⟩
      rw [hwq] at hq ⊢
      clear hwq hox y0 y1 hz hq' o12 hcell1 hcell2 hO1 hO2 hg1 hg2
      go_wp2_with fail
      refine (new_is wq s).mono ?_
      rintro e w4 ⟨rfl, hl4, hw4⟩
      have hq4 := hq.trans hw4
      have hBq : w.heap.size ≤ wq.heap.size := hq.size
      have hsz3 : 2 < w.heap.size := lt_of_var gTab hw.tab
      go_wp2_with fail
      go_loopg [9, 10] (s.size + 1) (fun k av iv wr => ∃ a r n : Nat, k = s.size + 1 - a ∧ av = .int .i64 a ∧ iv = .int .i64 n ∧ n ≤ a ∧ Inv s a r ∧ Lx wr wq.heap.size s a r ∧ On w wr)
      case atStart => exact ⟨0, 0, 0, rfl, rfl, rfl, Nat.le_refl _, ⟨Nat.le_refl _, by omega, Nat.zero_le _, Nat.zero_le _⟩, hl4, hq4⟩
      case round =>
        obtain ⟨a, r, n, hk, rfl, rfl, hna, hinv, hlx, hon⟩ := hrel
        have h4 := hinv.h4
        have h3 := hinv.h3
        have h2 := hinv.h2
        have hbn : n ≤ s.size := by omega
        have hLw := hw.on hon
        have hlb := hlx.lt
        have hN := fun w1 (h1 : Lx w1 wq.heap.size s a r) (h2 : Lw w1) => next_is w1 wq.heap.size s a r hs hinv h1 (by omega) h2
        have hRN := fun w1 => rnext_is s a hs h4 w1
        unfold tkV erV at hN
        unfold tkV erV rtoV at hRN
        clear hl4 hq4 hw4 hq
        by_cases h0 : eC pB s a = 0
        · simp only [h0, if_true] at hN hRN
          have HST : Hid (kd s a ≠ 4 → a < to s a) := fun h => to_gt (eC_kd h0) h
          have HTL : Hid (to s a ≤ s.size) := to_le h4
          have HEND : Hid (kd s a = 4 → pl s a = s.size ∧ tx s a = ⟨#[]⟩ ∧ to s a = s.size) := fun h => kdEnd h4 h
          have hN2 := fun w1 r2 (hi : Inv s s.size r2) (h1 : Lx w1 wq.heap.size s s.size r2) (h2 : Lw w1) => next_is w1 wq.heap.size s s.size r2 hs hi h1 (by omega) h2
          obtain ⟨o1, o2, o3, o4⟩ := overEnd s
          unfold tkV erV at hN2
          simp only [o1, o2, o3, o4, if_true] at hN2
          clear o1 o2 o3 o4
          have hbT : to s a ≤ 140737488351232 := Nat.le_trans HTL.out hs
          obtain ⟨K, hKK⟩ : ∃ K, kd s a = K := ⟨_, rfl⟩
          obtain ⟨x, hx⟩ : ∃ x, tx s a = x := ⟨_, rfl⟩
          obtain ⟨p, hp⟩ : ∃ p, pl s a = p := ⟨_, rfl⟩
          obtain ⟨T, hT⟩ : ∃ T, to s a = T := ⟨_, rfl⟩
          simp only [hKK, hx, hp, hT] at hN hRN HST HTL HEND hbT
          clear hKK hx hp hT
          have hR : ∀ w1 r2, Lx w1 wq.heap.size s T r2 → Calls Tryd.prog 14 #[.pointer (some ⟨wq.heap.size, 0, none⟩)] w1 fun e w' => e = .returned (.int .i64 r2) ∧ w' = w1 := fun w1 r2 h => read_is w1 _ s T r2 h
          by_cases hk4 : K = 4
          · obtain ⟨g1, g2, g3⟩ := HEND.out hk4
            subst hk4 g1 g2 g3
            have hN2 : ∀ w1 r2, Inv s s.size r2 → Lx w1 wq.heap.size s s.size r2 → Lw w1 → Calls Tryd.prog 15 #[.pointer (some ⟨wq.heap.size, 0, none⟩)] w1 fun e w' => e = .returned (.tuple #[.agg #[.int .i64 4, .string ⟨#[]⟩, .int .i64 s.size], .agg #[.int .i64 0, .int .i64 0]]) ∧ Wr wq.heap.size w1 w' := fun w1 r2 hi h1 h2 => (hN2 w1 r2 hi h1 h2).mono fun e w' ⟨q1, _, _, q4⟩ => ⟨q1, q4⟩
            clear HST HTL HEND
            go_wp2_with fail
            refine (hN _ hlx hLw).mono ?_
            rintro e w2 ⟨rfl, hl2, _, hw2⟩
            obtain ⟨r2, hi2, hl2⟩ := hl2 trivial
            have hbq2 := hl2.lt
            have hl2' : Lx ((w2.alloc (.cells #[.int .i64 4, .string ⟨#[]⟩, .int .i64 s.size] 34)).alloc (.cells #[.int .i64 0, .int .i64 0] 26)) wq.heap.size s s.size r2 := (hl2.alloc _).alloc _
            have hLw2' : Lw ((w2.alloc (.cells #[.int .i64 4, .string ⟨#[]⟩, .int .i64 s.size] 34)).alloc (.cells #[.int .i64 0, .int .i64 0] 26)) := (hLw.wr hw2 (by omega)).on (((On.refl _).alloc _).alloc _)
            go_wp2_with fail
            refine (hRN _).mono ?_
            rintro e w3 ⟨rfl, hO3⟩
            have d0 := (hO3.cell (p := ⟨w2.heap.size, 0, none⟩) (by simp; omega)).trans (twoT w2 #[.int .i64 4, .string ⟨#[]⟩, .int .i64 s.size] #[.int .i64 0, .int .i64 0] 34 26 0)
            have d1 := (hO3.cell (p := ⟨w2.heap.size, 1, none⟩) (by simp; omega)).trans (twoT w2 #[.int .i64 4, .string ⟨#[]⟩, .int .i64 s.size] #[.int .i64 0, .int .i64 0] 34 26 1)
            have d2 := (hO3.cell (p := ⟨w2.heap.size, 2, none⟩) (by simp; omega)).trans (twoT w2 #[.int .i64 4, .string ⟨#[]⟩, .int .i64 s.size] #[.int .i64 0, .int .i64 0] 34 26 2)
            have de0 := (hO3.cell (p := ⟨w2.heap.size + 1, 0, none⟩) (by simp)).trans (twoE w2 #[.int .i64 4, .string ⟨#[]⟩, .int .i64 s.size] #[.int .i64 0, .int .i64 0] 34 26 0)
            have de1 := (hO3.cell (p := ⟨w2.heap.size + 1, 1, none⟩) (by simp)).trans (twoE w2 #[.int .i64 4, .string ⟨#[]⟩, .int .i64 s.size] #[.int .i64 0, .int .i64 0] 34 26 1)
            have hz3 : w2.heap.size + 1 < w3.heap.size := Nat.lt_of_lt_of_le (by simp) hO3.size
            have hz3' := Nat.lt_succ_of_lt hz3
            have hz4 : w2.heap.size < w3.heap.size := Nat.lt_of_succ_lt hz3
            have hz4' := Nat.lt_succ_of_lt hz4
            have hl3' : Lx ((w3.alloc (.cells #[.int .i64 4, .string ⟨#[]⟩, .int .i64 s.size] 34)).alloc (.cells #[.int .i64 0, .int .i64 0] 26)) wq.heap.size s s.size r2 := ((hl2'.on hO3).alloc _).alloc _
            have hLw3' : Lw ((w3.alloc (.cells #[.int .i64 4, .string ⟨#[]⟩, .int .i64 s.size] 34)).alloc (.cells #[.int .i64 0, .int .i64 0] 26)) := hLw2'.on ((hO3.alloc _).alloc _)
            have j1 := hi2.h1
            have j2 := hi2.h2
            have j3 := hi2.h3
            have hon3 := (((hon.trans' hw2 hBq).alloc (.cells #[.int .i64 4, .string ⟨#[]⟩, .int .i64 s.size] 34)).alloc (.cells #[.int .i64 0, .int .i64 0] 26)).trans ((hO3.alloc (.cells #[.int .i64 4, .string ⟨#[]⟩, .int .i64 s.size] 34)).alloc (.cells #[.int .i64 0, .int .i64 0] 26))
            go_wp2_with fail
            refine (hR _ r2 hl3').mono ?_
            rintro e w9 ⟨rfl, rfl⟩
            go_wp2_with fail
            refine (hN2 _ r2 hi2 hl3' hLw3').mono ?_
            rintro e w5 ⟨rfl, hw5⟩
            have y0 := hw5.cell (twoT w3 #[.int .i64 4, .string ⟨#[]⟩, .int .i64 s.size] #[.int .i64 0, .int .i64 0] 34 26 0) (by simp; omega)
            have y1 := hw5.cell (twoT w3 #[.int .i64 4, .string ⟨#[]⟩, .int .i64 s.size] #[.int .i64 0, .int .i64 0] 34 26 1) (by simp; omega)
            have y2 := hw5.cell (twoT w3 #[.int .i64 4, .string ⟨#[]⟩, .int .i64 s.size] #[.int .i64 0, .int .i64 0] 34 26 2) (by simp; omega)
            have ye0 := hw5.cell (twoE w3 #[.int .i64 4, .string ⟨#[]⟩, .int .i64 s.size] #[.int .i64 0, .int .i64 0] 34 26 0) (by simp; omega)
            have ye1 := hw5.cell (twoE w3 #[.int .i64 4, .string ⟨#[]⟩, .int .i64 s.size] #[.int .i64 0, .int .i64 0] 34 26 1) (by simp; omega)
            have hz5 : w3.heap.size + 1 < w5.heap.size := Nat.lt_of_lt_of_le (by simp) hw5.size
            have hz5' := Nat.lt_succ_of_lt hz5
            have hz6 : w3.heap.size < w5.heap.size := Nat.lt_of_succ_lt hz5
            have hz6' := Nat.lt_succ_of_lt hz6
            have hLw5 : Lw ((w5.alloc (.cells #[.int .i64 4, .string ⟨#[]⟩, .int .i64 s.size] 34)).alloc (.cells #[.int .i64 0, .int .i64 0] 26)) := (hLw3'.wr hw5 (by omega)).on (((On.refl _).alloc _).alloc _)
            have hon5 := (((hon3.trans' hw5 hBq).alloc (.cells #[.int .i64 4, .string ⟨#[]⟩, .int .i64 s.size] 34)).alloc (.cells #[.int .i64 0, .int .i64 0] 26))
            go_wp2_with fail
            refine (hAw _ hLw5).mono ?_
            rintro e w6 ⟨rfl, hO6⟩
            go_wp2_with fail
            go_ret
            exact ⟨rfl, hon5.trans hO6⟩
          · have hkb : ((K : Int) == 4) = false := by rw [beq_eq_false_iff_ne]; omega
            clear hN2
            go_wp2_with fail
            refine (hN _ hlx hLw).mono ?_
            rintro e w2 ⟨rfl, hl2, _, hw2⟩
            obtain ⟨r2, hi2, hl2⟩ := hl2 trivial
            have hbq2 := hl2.lt
            have hl2' : Lx ((w2.alloc (.cells #[.int .i64 K, .string x, .int .i64 p] 34)).alloc (.cells #[.int .i64 0, .int .i64 0] 26)) wq.heap.size s T r2 := (hl2.alloc _).alloc _
            have hLw2' : Lw ((w2.alloc (.cells #[.int .i64 K, .string x, .int .i64 p] 34)).alloc (.cells #[.int .i64 0, .int .i64 0] 26)) := (hLw.wr hw2 (by omega)).on (((On.refl _).alloc _).alloc _)
            go_wp2_with fail
            refine (hRN _).mono ?_
            rintro e w3 ⟨rfl, hO3⟩
            have d0 := (hO3.cell (p := ⟨w2.heap.size, 0, none⟩) (by simp; omega)).trans (twoT w2 #[.int .i64 K, .string x, .int .i64 p] #[.int .i64 0, .int .i64 0] 34 26 0)
            have d1 := (hO3.cell (p := ⟨w2.heap.size, 1, none⟩) (by simp; omega)).trans (twoT w2 #[.int .i64 K, .string x, .int .i64 p] #[.int .i64 0, .int .i64 0] 34 26 1)
            have d2 := (hO3.cell (p := ⟨w2.heap.size, 2, none⟩) (by simp; omega)).trans (twoT w2 #[.int .i64 K, .string x, .int .i64 p] #[.int .i64 0, .int .i64 0] 34 26 2)
            have de0 := (hO3.cell (p := ⟨w2.heap.size + 1, 0, none⟩) (by simp)).trans (twoE w2 #[.int .i64 K, .string x, .int .i64 p] #[.int .i64 0, .int .i64 0] 34 26 0)
            have de1 := (hO3.cell (p := ⟨w2.heap.size + 1, 1, none⟩) (by simp)).trans (twoE w2 #[.int .i64 K, .string x, .int .i64 p] #[.int .i64 0, .int .i64 0] 34 26 1)
            have hz3 : w2.heap.size + 1 < w3.heap.size := Nat.lt_of_lt_of_le (by simp) hO3.size
            have hz3' := Nat.lt_succ_of_lt hz3
            have hz4 : w2.heap.size < w3.heap.size := Nat.lt_of_succ_lt hz3
            have hz4' := Nat.lt_succ_of_lt hz4
            have hl3' : Lx ((w3.alloc (.cells #[.int .i64 K, .string x, .int .i64 p] 34)).alloc (.cells #[.int .i64 0, .int .i64 0] 26)) wq.heap.size s T r2 := ((hl2'.on hO3).alloc _).alloc _
            have hLw3' : Lw ((w3.alloc (.cells #[.int .i64 K, .string x, .int .i64 p] 34)).alloc (.cells #[.int .i64 0, .int .i64 0] 26)) := hLw2'.on ((hO3.alloc _).alloc _)
            have j1 := hi2.h1
            have j2 := hi2.h2
            have j3 := hi2.h3
            have hon3 := (((hon.trans' hw2 hBq).alloc (.cells #[.int .i64 K, .string x, .int .i64 p] 34)).alloc (.cells #[.int .i64 0, .int .i64 0] 26)).trans ((hO3.alloc (.cells #[.int .i64 K, .string x, .int .i64 p] 34)).alloc (.cells #[.int .i64 0, .int .i64 0] 26))
            go_wp2_with fail
            refine (hR _ r2 hl3').mono ?_
            rintro e w9 ⟨rfl, rfl⟩
            go_wp2_with fail
            go_roundg (s.size + 1 - T)
            case measure => have := HST.out hk4; have := hi2.h4; omega
            case rel => exact ⟨T, r2, n + 1, rfl, rfl, by go_num, by have := HST.out hk4; omega, hi2, hl3', hon3⟩
        · simp only [h0, if_false] at hN hRN
          have hpa := pl_ge s a
          have hps := pl_le (s := s) h4
          obtain ⟨C, hCC⟩ : ∃ C, eC pB s a = C := ⟨_, rfl⟩
          obtain ⟨p, hp⟩ : ∃ p, pl s a = p := ⟨_, rfl⟩
          rw [hp] at hpa hps
          simp only [hCC, hp] at hN hRN
          have hC0 : C ≠ 0 := by omega
          have hC : ((C : Int) != 0) = true := by simp; omega
          have hC' : ((C : Int) == 0) = false := by rw [beq_eq_false_iff_ne]; omega
          have hrp : r ≤ p + 1 := by omega
          have hR : ∀ w1, Lx w1 wq.heap.size s a r → Calls Tryd.prog 14 #[.pointer (some ⟨wq.heap.size, 0, none⟩)] w1 fun e w' => e = .returned (.int .i64 r) ∧ w' = w1 := fun w1 h => read_is w1 _ s a r h
          clear hCC hp h0
          go_wp2_with fail
          refine (hN _ hlx hLw).mono ?_
          rintro e w2 ⟨rfl, _, hl2, hw2⟩
          have hl2 := hl2 hC0
          have hbq2 := hl2.lt
          have hl2' : Lx ((w2.alloc (.cells #[.int .i64 0, .string ⟨#[]⟩, .int .i64 0] 34)).alloc (.cells #[.int .i64 C, .int .i64 p] 26)) wq.heap.size s a r := (hl2.alloc _).alloc _
          have hLw2' : Lw ((w2.alloc (.cells #[.int .i64 0, .string ⟨#[]⟩, .int .i64 0] 34)).alloc (.cells #[.int .i64 C, .int .i64 p] 26)) := (hLw.wr hw2 (by omega)).on (((On.refl _).alloc _).alloc _)
          go_wp2_with fail
          refine (hRN _).mono ?_
          rintro e w3 ⟨rfl, hO3⟩
          have d0 := (hO3.cell (p := ⟨w2.heap.size, 0, none⟩) (by simp; omega)).trans (twoT w2 #[.int .i64 0, .string ⟨#[]⟩, .int .i64 0] #[.int .i64 C, .int .i64 p] 34 26 0)
          have d1 := (hO3.cell (p := ⟨w2.heap.size, 1, none⟩) (by simp; omega)).trans (twoT w2 #[.int .i64 0, .string ⟨#[]⟩, .int .i64 0] #[.int .i64 C, .int .i64 p] 34 26 1)
          have d2 := (hO3.cell (p := ⟨w2.heap.size, 2, none⟩) (by simp; omega)).trans (twoT w2 #[.int .i64 0, .string ⟨#[]⟩, .int .i64 0] #[.int .i64 C, .int .i64 p] 34 26 2)
          have de0 := (hO3.cell (p := ⟨w2.heap.size + 1, 0, none⟩) (by simp)).trans (twoE w2 #[.int .i64 0, .string ⟨#[]⟩, .int .i64 0] #[.int .i64 C, .int .i64 p] 34 26 0)
          have de1 := (hO3.cell (p := ⟨w2.heap.size + 1, 1, none⟩) (by simp)).trans (twoE w2 #[.int .i64 0, .string ⟨#[]⟩, .int .i64 0] #[.int .i64 C, .int .i64 p] 34 26 1)
          have hz3 : w2.heap.size + 1 < w3.heap.size := Nat.lt_of_lt_of_le (by simp) hO3.size
          have hz3' := Nat.lt_succ_of_lt hz3
          have hz4 : w2.heap.size < w3.heap.size := Nat.lt_of_succ_lt hz3
          have hz4' := Nat.lt_succ_of_lt hz4
          have hl3' : Lx ((w3.alloc (.cells #[.int .i64 0, .string ⟨#[]⟩, .int .i64 0] 34)).alloc (.cells #[.int .i64 C, .int .i64 p] 26)) wq.heap.size s a r := ((hl2'.on hO3).alloc _).alloc _
          have hLw3' : Lw ((w3.alloc (.cells #[.int .i64 0, .string ⟨#[]⟩, .int .i64 0] 34)).alloc (.cells #[.int .i64 C, .int .i64 p] 26)) := hLw2'.on ((hO3.alloc _).alloc _)
          have hon3 := (((hon.trans' hw2 hBq).alloc (.cells #[.int .i64 0, .string ⟨#[]⟩, .int .i64 0] 34)).alloc (.cells #[.int .i64 C, .int .i64 p] 26)).trans ((hO3.alloc (.cells #[.int .i64 0, .string ⟨#[]⟩, .int .i64 0] 34)).alloc (.cells #[.int .i64 C, .int .i64 p] 26))
          go_wp2_with fail
          refine (hR _ hl3').mono ?_
          rintro e w9 ⟨rfl, rfl⟩
          go_wp2_with fail
          refine (hN _ hl3' hLw3').mono ?_
          rintro e w5 ⟨rfl, _, _, hw5⟩
          have y0 := hw5.cell (twoT w3 #[.int .i64 0, .string ⟨#[]⟩, .int .i64 0] #[.int .i64 C, .int .i64 p] 34 26 0) (by simp; omega)
          have y1 := hw5.cell (twoT w3 #[.int .i64 0, .string ⟨#[]⟩, .int .i64 0] #[.int .i64 C, .int .i64 p] 34 26 1) (by simp; omega)
          have y2 := hw5.cell (twoT w3 #[.int .i64 0, .string ⟨#[]⟩, .int .i64 0] #[.int .i64 C, .int .i64 p] 34 26 2) (by simp; omega)
          have ye0 := hw5.cell (twoE w3 #[.int .i64 0, .string ⟨#[]⟩, .int .i64 0] #[.int .i64 C, .int .i64 p] 34 26 0) (by simp; omega)
          have ye1 := hw5.cell (twoE w3 #[.int .i64 0, .string ⟨#[]⟩, .int .i64 0] #[.int .i64 C, .int .i64 p] 34 26 1) (by simp; omega)
          have hz5 : w3.heap.size + 1 < w5.heap.size := Nat.lt_of_lt_of_le (by simp) hw5.size
          have hz5' := Nat.lt_succ_of_lt hz5
          have hz6 : w3.heap.size < w5.heap.size := Nat.lt_of_succ_lt hz5
          have hz6' := Nat.lt_succ_of_lt hz6
          have hLw5 : Lw ((w5.alloc (.cells #[.int .i64 0, .string ⟨#[]⟩, .int .i64 0] 34)).alloc (.cells #[.int .i64 C, .int .i64 p] 26)) := (hLw3'.wr hw5 (by omega)).on (((On.refl _).alloc _).alloc _)
          have hon5 := (((hon3.trans' hw5 hBq).alloc (.cells #[.int .i64 0, .string ⟨#[]⟩, .int .i64 0] 34)).alloc (.cells #[.int .i64 C, .int .i64 p] 26))
          go_wp2_with fail
          refine (hAw _ hLw5).mono ?_
          rintro e w6 ⟨rfl, hO6⟩
          go_wp2_with fail
          go_ret
          exact ⟨rfl, hon5.trans hO6⟩

theorem lexAll_walk (s : ByteArray) (hs : s.size ≤ reachBytes) (w : World) (hw : Lw w) :
    Calls Tryd.prog 7 #[.string s] w fun e w' => e = .returned (.bool true) ∧ On w w' := by
  by_cases hl : 4000 < s.size
  · exact lexAll_long s hs hl w hw
  · by_cases he : ecA s = 0
    · exact lexAll_ok s hs (by omega) he w hw
    · exact lexAll_err s hs (by omega) he w hw

set_option maxRecDepth 100000 in
theorem lexAll_lifted (os : Os) (started : os.Started) (H : Type) (enc : TypeId × Value → H) :
    ReturnsInHanded {} Tryd.checked os 7 .any (fun w args => (Rows.lexAllSpec.pre enc Tryd.prog Tryd.f7 [] false w args ∧ laidMetH Tryd.prog laidL w) ∧ sizedMet enc Tryd.prog Tryd.f7 (OpenSpec.ofChange Rows.lexAllSpec) false w args)
      (Rows.lexAllSpec.post enc Tryd.prog Tryd.f7 false true false false) := by
  refine returnsInHanded_of_change_and (C := Tryd.checked) (X := fun w _ => laidMetH Tryd.prog laidL w) (fun _ _ _ hh h => h.of_heap hh) own started (by kernel_rfl) Tryd.func7
    (ChangeSpec.witness_shaped (enc := enc) (C := Tryd.checked) (os := os) (X := fun w _ => laidMetH Tryd.prog laidL w) false (World.doorLaid Tryd.prog 400 os) #[.string ⟨#[]⟩] 8 rfl (World.shaped_of_RefB (by kernel_rfl) (by kernel_rfl)) (by kernel_rfl) (by kernel_rfl) (by kernel_rfl) (door_met os _)) ?_
  intro W base args ds gs before hval0 hW _ hsz hL _
  have hval : ∀ (j : Nat) t v, Tryd.f7.params[j]? = some t → args[j]? = some v → Value.okWide Tryd.prog W .any base t v := hval0
  have hW' := hW
  obtain ⟨p, q, hA0, hV, rfl, hfz, hnd⟩ := hW
  have hA : DataW.TrodAll enc Tryd.prog W 0 (fun _ => true) true Tryd.f7.params.toList args.toList ds p := hA0
  rw [Tryd.params7] at hA hval
  obtain ⟨v0, d0, rfl, rfl, h0⟩ := trodAll_one hA
  obtain ⟨rfl, rfl⟩ := trodVars_none hV
  obtain ⟨s, rfl, rfl, rfl, ws⟩ := open_string Tryd.underlying9 (hval 0 9 v0 rfl rfl) h0
  have rs := sized_string hsz (j := 0) (t := 9) rfl rfl
  clear hA0 hval0
  simp only [List.append_nil] at hW'
  refine (lexAll_walk s rs W (of_laid hL)).mono fun e W' ⟨he, hw⟩ => ?_
  subst he
  refine ⟨_, rfl, _, _, _, [], [], [], hW', ?_, ?_, rfl, Below.frame hw _, fun h => by cases h⟩
  · exact trodAll_mk1 (shut_bool Tryd.underlying4 _)
  · exact trodAll_mk1 (shut_string Tryd.underlying9 ws)

theorem lexAll_said : Rows.LexAllSaid :=
  OpenClaim.holds_of_wide 7 Tryd.f7 rfl rfl rfl rfl rfl rfl rfl ⟨rfl, rfl, rfl, rfl, rfl⟩ rfl rfl rfl rfl rfl (by kernel_rfl) Tryd.func7 (by kernel_rfl)
    (of_decide_eq_true (by kernel_rfl)) (by unfold Func.isWrapper; first | (rw [if_pos (by decide +kernel)]; kernel_rfl) | (rw [if_neg (by decide +kernel)]; exact ⟨rfl, rfl⟩))
    (fun os started H enc _ => lexAll_lifted os started H enc)

theorem lexAll_card : Rows.LexAllCardSaid :=
  Claim7.holds_tied_plain_at .later [] [.data, .data, .data, .sentinel, .sentinel] true (true, "e778a03b216b4ff87b621aaa108ee97d2984d4c2323c08988875fd2d4addd431") true
    lexAll_said (fun _ h => by cases h) (by kernel_rfl) (fun _ h => by cases h) lexAll_row_tie rfl ⟨rfl, rfl⟩ (by kernel_rfl) rfl
    (fun f fn hf hfn => by
      obtain rfl : f = 7 := Option.some.inj ((show Tryd.prog.funcNamed "jacquard/jacquardlaw2.LexAll" = some 7 by kernel_rfl).symm.trans hf) |>.symm
      obtain rfl : fn = Tryd.f7 := (Option.some.inj (Tryd.func7.symm.trans hfn)).symm
      exact ⟨by kernel_rfl, fun j t ht => by
        rw [Tryd.params7] at ht
        have hm : t ∈ [9] := by simpa using Array.mem_of_getElem? ht
        have hall : ([9].all fun u => !Tryd.prog.wantsStandIn u) = true := by kernel_rfl
        exact (show Tryd.prog.wantsStandIn t = false by simpa using List.all_eq_true.1 hall t hm)⟩)
    (by kernel_rfl)
#print axioms lexAll_card

end Go.Proofs.YtoipapbdepobjaaDoor
