/- buf.Put and Drop. -/
import Derived.Test.YtnoeofbjnogkmaaBufL
import Derived.Test.YtnoeofbjnogkmaaBufQ
namespace Go.Proofs.Ytnoeofbjnogkmaa
open Go.RowKit

theorem putB_pad {b : BufT} {e : EnT} (he : EnIn e) (h : ¬ (b.m = 0 ∨ b.l.length = 24 ∨ e.1 < 0 ∨ 4 ≤ e.1)) :
    bufA (putB b e he) = rowA b.m ((b.l.length : Int) + 1) (((padR b.l).take (spB b e.1 + 1) ++ ((padR b.l).drop (spB b e.1)).take (b.l.length - spB b e.1) ++ (padR b.l).drop (b.l.length + 1)).set (spB b e.1) e) := by
  have hl := b.len
  rw [pad_put (sp_le b e.1).2 (by omega)]
  unfold putB
  rw [dif_neg h]
  show rowA b.m ((putL b.l (spB b e.1) e).length : Int) _ = _
  rw [putL_len]
  push_cast
  rfl
theorem dropB_pad {b : BufT} {c : Int} (h : ¬ spA b c = spB b c) :
    bufA (dropB b c) = rowA b.m ((b.l.length : Int) - 1) (((padR b.l).take (spA b c) ++ ((padR b.l).drop (spA b c + 1)).take (b.l.length - (spA b c + 1)) ++ (padR b.l).drop (b.l.length - 1)).set (b.l.length - 1) enZ) := by
  have hl := b.len
  have hs := sp_le b c
  have hk : spA b c < b.l.length := by omega
  rw [pad_cut hk hl]
  unfold dropB
  rw [dif_neg h]
  show rowA b.m ((cutL b.l (spA b c)).length : Int) _ = _
  have := cutL_len hk
  congr 1
  omega
theorem pad3_len {R : List EnT} (h : R.length = 24) {p q r : Nat} (h1 : p + r = q + r) (h2 : q + r ≤ 24) (f : Nat) (h3 : f + r ≤ 24) : (R.take p ++ (R.drop f).take r ++ R.drop (q + r)).length = 24 := by
  simp only [List.length_append, List.length_take, List.length_drop]
  omega
set_option maxHeartbeats 4000000 in
set_option maxRecDepth 8000 in
theorem put_is (b : BufT) (c v i : Int) (he : EnIn (c, v, i)) (w : World) : Calls Try.prog 9 #[.agg (bufA b), .int .i64 c, .int .i64 v, .int .i64 i] w fun e w' => e = .returned (.agg (bufA (putB b (c, v, i) he))) ∧ On w w' := by
  have h0 : (bufA b)[0]? = some (.int .i64 b.m) := rfl
  have h1 : (bufA b)[1]? = some (.int .i64 b.l.length) := rfl
  obtain ⟨W0, hW0⟩ : ∃ W0, W0 = w.alloc (.cells (bufA b) 27) := ⟨_, rfl⟩
  have z0 : W0.heap.size = w.heap.size + 1 := by rw [hW0]; simp
  obtain ⟨W1, hW1⟩ : ∃ W1, W1 = W0.alloc (.cells (bufA bufZ) 27) := ⟨_, rfl⟩
  have B1 : Bk W1 w.heap.size (bufA b) := by rw [hW1, hW0]; exact (Bk.new w _ _).alloc _
  have Z1 : Hid (Bk W1 (w.heap.size + 1) (bufA bufZ)) := by show Bk _ _ _; rw [hW1, ← z0]; exact Bk.new W0 _ _
  have K1 : Hid (On w W1) := by show On _ _; rw [hW1, hW0]; exact ((On.refl w).alloc _).alloc _
  have q0 := B1.at h0
  have q1 := B1.at h1
  have HB1 : Hid (Bk W1 w.heap.size (bufA b)) := B1
  have hz : ∀ w, (zeroValue 27).run Try.prog w = .ok (.agg (bufA bufZ)) w := fun w => (zero_of_info buf_info).1 w
  have hN := B1.lt
  have HW1 : Hid (W1 = (w.alloc (.cells (bufA b) 27)).alloc (.cells (bufA bufZ) 27)) := by show _ = _; rw [hW1, hW0]
  clear hW0 hW1 h0 h1 B1 z0
  by_cases h : b.m = 0 ∨ b.l.length = 24 ∨ c < 0 ∨ 4 ≤ c
  · rw [putB_same he h]
    obtain ⟨n, hn⟩ : ∃ n : Int, n = (b.l.length : Int) := ⟨_, rfl⟩
    obtain ⟨m, hm⟩ : ∃ m, m = b.m := ⟨_, rfl⟩
    have h2 : (m == 0) = true ∨ ((m == 0) = false ∧ (n == 24) = true) ∨ ((m == 0) = false ∧ (n == 24) = false ∧ decide (c < 0) = true) ∨ ((m == 0) = false ∧ (n == 24) = false ∧ decide (c < 0) = false ∧ decide (4 ≤ c) = true) := by
      subst hm hn
      by_cases g1 : b.m = 0
      · exact Or.inl (by simp [g1])
      · by_cases g2 : b.l.length = 24
        · exact Or.inr (Or.inl ⟨by simp [g1], by simp [g2]⟩)
        · by_cases g3 : c < 0
          · exact Or.inr (Or.inr (Or.inl ⟨by simp [g1], by simp; omega, by simp [g3]⟩))
          · exact Or.inr (Or.inr (Or.inr ⟨by simp [g1], by simp; omega, decide_eq_false g3, by simp; omega⟩))
    rw [← hm] at q0
    rw [← hn] at q1
    clear hm hn h he
    rcases h2 with h2 | ⟨h2, h3⟩ | ⟨h2, h3, h4⟩ | ⟨h2, h3, h4, h5⟩
    all_goals
      go_enter Try.func9, Try.ntmps9
      go_upto_region 1 with fail
      rw [← HW1.out]
      clear hz
      go_wp2_with (first | (refine wpList_bld rfl rfl rfl HB1.out ?_) | (refine wpList_bst rfl rfl rfl (by exact rfl) Z1.out ?_))
      refine bodyPost_ret (v := .agg (bufA b)) ?_ rfl ⟨rfl, K1.out.row (Nat.le_succ _) _⟩
      exact buf_ret rfl rfl (Z1.out.row _)
  · have hpad := putB_pad he h
    have hl := b.len
    have hsp := sp_le b c
    have hS := span_is b c W1
    obtain ⟨n, hn⟩ : ∃ n : Nat, n = b.l.length := ⟨_, rfl⟩
    obtain ⟨m, hm⟩ : ∃ m, m = b.m := ⟨_, rfl⟩
    obtain ⟨y, hy⟩ : ∃ y, y = spB b c := ⟨_, rfl⟩
    obtain ⟨x, hx⟩ : ∃ x, x = spA b c := ⟨_, rfl⟩
    rw [← hm] at h
    rw [← hn] at h hl hsp
    have hmz : (m == 0) = false := by simp; omega
    have hnz : (((n : Nat) : Int) == 24) = false := by simp; omega
    have hc1 : decide (c < 0) = false := decide_eq_false (by omega)
    have hc2 : decide (4 ≤ c) = false := decide_eq_false (by omega)
    rw [← hm] at q0
    rw [← hn] at q1
    rw [← hy] at hsp
    have hyn : y ≤ n := hsp.2
    have hn24 : n < 24 := by omega
    rw [← hx, ← hy] at hS
    simp only [← hy, ← hn, ← hm] at hpad
    have HP : Hid (bufA (putB b (c, v, i) he) = rowA m ((n : Int) + 1) (((padR b.l).take (y + 1) ++ ((padR b.l).drop y).take (n - y) ++ (padR b.l).drop (n + 1)).set y (c, v, i))) := hpad
    have HB2 : Hid (Bk W1 w.heap.size (rowA m n (padR b.l))) := by show Bk _ _ _; rw [hm, hn]; exact HB1.out
    have HPL : Hid ((padR b.l).length = 24) := padR_len b.len
    obtain ⟨BB, hBB⟩ : ∃ BB, BB = putB b (c, v, i) he := ⟨_, rfl⟩
    rw [← hBB] at HP ⊢
    obtain ⟨R, hR⟩ : ∃ R, R = padR b.l := ⟨_, rfl⟩
    rw [← hR] at HP HB2 HPL
    have HY : Hid (y ≤ n ∧ n < 24) := ⟨hyn, hn24⟩
    clear hpad hl hsp hn hm hy hx h hyn hn24 hBB hR he
    obtain ⟨hyn, hn24⟩ := HY.out
    have hov1 : wrap64 ((y : Int) + 1) = ((y + 1 : Nat) : Int) := wrapS (by omega) (by omega)
    have hov3 : IntKind.i64.wrap ((y : Int) + 1) = ((y + 1 : Nat) : Int) := wrapT (by omega) (by omega)
    have hov2 : wrap64 ((n : Int) + 1) = (n : Int) + 1 := wrapS (by omega) (by omega)
    have b1 : (y : Int) < 24 := by omega
    have b2 : decide ((y : Int) < 0) = false := decide_eq_false (by omega)
    have b4 : (0 : Int) ≤ (y : Int) := by omega
    clear hyn hn24
    go_enter Try.func9, Try.ntmps9
    go_upto_region 1 with fail
    rw [← HW1.out]
    clear hz HW1
    go_wp2_with (refine wpList_bld rfl rfl rfl HB1.out ?_)
    refine hS.mono ?_
    rintro _ w1 ⟨rfl, k1⟩
    have B2 : Hid (Bk w1 w.heap.size (rowA m n R)) := HB2.out.on k1
    have Z2 : Hid (Bk w1 (w.heap.size + 1) (bufA bufZ)) := Z1.out.on k1
    have K2 : Hid (On w w1) := K1.out.trans k1
    clear k1 q0 q1 hN
    go_wp2
    have S4 : w1.drew.cell? ⟨w.heap.size, 1, none⟩ = some (.int .i64 n) ∧ w.heap.size < w1.drew.heap.size := ⟨B2.out.at (row_n _ _ _), B2.out.lt⟩
    refine region_fin (fun W => W.cell? ⟨w.heap.size, 1, none⟩ = some (.int .i64 n) ∧ w.heap.size < W.heap.size) 99 10 (by kernel_rfl) rfl ?_
    refine fin_take 0 (v := ?_) rfl (by kernel_rfl) (by kernel_rfl) (by kernel_rfl) (by kernel_rfl) (fun _ _ _ h => h) rfl ?_ S4 ?_
    rotate_left
    · intro W hW
      have f1 := hW.1
      have fl := hW.2
      go_simp
      (try with_reducible rfl)
    simp only [Act.put, List.setIfInBounds_toArray, List.set_cons_zero, List.set_cons_succ]
    refine fin_take 1 (v := ?_) rfl (by kernel_rfl) (by kernel_rfl) (by kernel_rfl) (by kernel_rfl) (fun _ _ _ h => h) rfl ?_ S4 ?_
    rotate_left
    · intro W hW
      have f1 := hW.1
      have fl := hW.2
      go_simp
      (try with_reducible rfl)
    simp only [Act.put, List.setIfInBounds_toArray, List.set_cons_zero, List.set_cons_succ]
    refine fin_take 2 (v := ?_) rfl (by kernel_rfl) (by kernel_rfl) (by kernel_rfl) (by kernel_rfl) (fun _ _ _ h => h) rfl ?_ S4 ?_
    rotate_left
    · intro W hW
      have f1 := hW.1
      have fl := hW.2
      go_simp
      (try with_reducible rfl)
    simp only [Act.put, List.setIfInBounds_toArray, List.set_cons_zero, List.set_cons_succ]
    refine fin_take 3 (v := .slice (some (slA w.heap.size (y + 1))) (24 - (y + 1)) (24 - (y + 1))) rfl (by kernel_rfl) (by kernel_rfl) (by kernel_rfl) (by kernel_rfl) (fun _ _ _ h => h) rfl (fun W _ => exec_l rfl rfl rfl (by have := HY.out; omega) W) S4 ?_
    simp only [Act.put, List.setIfInBounds_toArray, List.set_cons_zero, List.set_cons_succ]
    refine fin_take 4 (v := ?_) rfl (by kernel_rfl) (by kernel_rfl) (by kernel_rfl) (by kernel_rfl) (fun _ _ _ h => h) rfl ?_ S4 ?_
    rotate_left
    · intro W hW
      have f1 := hW.1
      have fl := hW.2
      go_simp
      (try with_reducible rfl)
    simp only [Act.put, List.setIfInBounds_toArray, List.set_cons_zero, List.set_cons_succ]
    refine fin_take 5 (v := ?_) rfl (by kernel_rfl) (by kernel_rfl) (by kernel_rfl) (by kernel_rfl) (fun _ _ _ h => h) rfl ?_ S4 ?_
    rotate_left
    · intro W hW
      have f1 := hW.1
      have fl := hW.2
      go_simp
      (try with_reducible rfl)
    simp only [Act.put, List.setIfInBounds_toArray, List.set_cons_zero, List.set_cons_succ]
    refine fin_take 6 (v := ?_) rfl (by kernel_rfl) (by kernel_rfl) (by kernel_rfl) (by kernel_rfl) (fun _ _ _ h => h) rfl ?_ S4 ?_
    rotate_left
    · intro W hW
      have f1 := hW.1
      have fl := hW.2
      go_simp
      (try with_reducible rfl)
    simp only [Act.put, List.setIfInBounds_toArray, List.set_cons_zero, List.set_cons_succ]
    refine fin_take 7 (v := ?_) rfl (by kernel_rfl) (by kernel_rfl) (by kernel_rfl) (by kernel_rfl) (fun _ _ _ h => h) rfl ?_ S4 ?_
    rotate_left
    · intro W hW
      have f1 := hW.1
      have fl := hW.2
      go_simp
      (try with_reducible rfl)
    simp only [Act.put, List.setIfInBounds_toArray, List.set_cons_zero, List.set_cons_succ]
    refine fin_take 8 (v := .slice (some (slA w.heap.size y)) (n - y) (24 - y)) rfl (by kernel_rfl) (by kernel_rfl) (by kernel_rfl) (by kernel_rfl) (fun _ _ _ h => h) rfl (fun W _ => exec_lh rfl rfl rfl rfl HY.out.1 (by have := HY.out; omega) W) S4 ?_
    simp only [Act.put, List.setIfInBounds_toArray, List.set_cons_zero, List.set_cons_succ]
    refine fin_one 9 rfl rfl (by kernel_rfl) (fun K hK => ?_)
    refine wp_copyE _ _ rfl (show Bk w1.drew w.heap.size (rowA m n R) from B2.out) HPL.out (by have := HY.out; omega) HY.out.1 (by have := HY.out; omega) (by have := HY.out; omega) rfl rfl fun w3 b3 o3 => ?_
    have B3 : Hid (Bk w3 w.heap.size (rowA m n (R.take (y + 1) ++ (R.drop y).take (n - y) ++ R.drop (n + 1)))) := by
      show Bk _ _ _
      rw [show y + 1 + (n - y) = n + 1 by have := HY.out; omega] at b3
      exact b3
    have L3 : Hid ((R.take (y + 1) ++ (R.drop y).take (n - y) ++ R.drop (n + 1)).length = 24) := by
      show _ = _
      have h1 := HPL.out
      have h2 := HY.out
      simp only [List.length_append, List.length_take, List.length_drop]
      omega
    have Z3 : Hid (Bk w3 (w.heap.size + 1) (bufA bufZ)) := o3.bk (by omega) Z2.out
    have K3 : Hid (On w w3) := o3.on K2.out.drew (Nat.le_refl _)
    refine hK.out _ _ (fun _ => ⟨B3.out.at (row_n _ _ _), B3.out.lt⟩) ?_
    clear hK b3 o3 S4
    refine fin_done (by kernel_rfl) (NoPanic.normal ?_)
    go_wp2_with (first
      | (refine wpList_mk3 rfl rfl rfl rfl rfl (ent_made _ _ _) ?_)
      | (refine wpList_est rfl rfl rfl (by exact rfl) B3.out (by rw [L3.out]; have := HY.out; omega) fun w4 b4' o4 => ?_
         have B4 : Hid (Bk w4 w.heap.size (rowA m n ((R.take (y + 1) ++ (R.drop y).take (n - y) ++ R.drop (n + 1)).set y (c, v, i)))) := b4'
         have q1 := B4.out.at (row_n _ _ _)
         have f1 := B4.out.fr 1
         have Z4 : Hid (Bk w4 (w.heap.size + 1) (bufA bufZ)) := o4.bk (by omega) Z3.out
         have K4 : Hid (On w w4) := o4.on K3.out (Nat.le_refl _)
         have B5 : Hid (Bk (w4.setCell ⟨w.heap.size, 1, none⟩ (.int .i64 ((n : Int) + 1))) w.heap.size (bufA BB)) := by
           show Bk _ _ _
           rw [HP.out]
           exact b4'.putN _
         have Z5 : Hid (Bk (w4.setCell ⟨w.heap.size, 1, none⟩ (.int .i64 ((n : Int) + 1))) (w.heap.size + 1) (bufA bufZ)) := Z4.out.far (by omega) _ _
         clear b4' o4)
      | (refine wpList_bld rfl rfl rfl B5.out ?_)
      | (refine wpList_bst rfl rfl rfl (by exact rfl) Z5.out ?_))
    refine bodyPost_ret (v := .agg (bufA BB)) ?_ rfl ⟨rfl, (K4.out.setNew (Nat.le_refl _) _).row (Nat.le_succ _) _⟩
    exact buf_ret rfl rfl (Z5.out.row _)
end Go.Proofs.Ytnoeofbjnogkmaa
