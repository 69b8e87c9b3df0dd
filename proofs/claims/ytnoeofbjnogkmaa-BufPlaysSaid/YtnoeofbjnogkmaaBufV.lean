/- buf.Drop. -/
import Derived.Test.YtnoeofbjnogkmaaBufU
namespace Go.Proofs.Ytnoeofbjnogkmaa
open Go.RowKit

theorem dropB_same {b : BufT} {c : Int} (h : spA b c = spB b c) : dropB b c = b := by unfold dropB; rw [dif_pos h]
set_option maxHeartbeats 4000000 in
set_option maxRecDepth 8000 in
theorem drop_is (b : BufT) (c : Int) (w : World) : Calls Try.prog 10 #[.agg (bufA b), .int .i64 c] w fun e w' => e = .returned (.agg (bufA (dropB b c))) ∧ On w w' := by
  obtain ⟨W0, hW0⟩ : ∃ W0, W0 = w.alloc (.cells (bufA b) 27) := ⟨_, rfl⟩
  have z0 : W0.heap.size = w.heap.size + 1 := by rw [hW0]; simp
  obtain ⟨W1, hW1⟩ : ∃ W1, W1 = W0.alloc (.cells (bufA bufZ) 27) := ⟨_, rfl⟩
  have B1 : Hid (Bk W1 w.heap.size (bufA b)) := by show Bk _ _ _; rw [hW1, hW0]; exact (Bk.new w _ _).alloc _
  have Z1 : Hid (Bk W1 (w.heap.size + 1) (bufA bufZ)) := by show Bk _ _ _; rw [hW1, ← z0]; exact Bk.new W0 _ _
  have K1 : Hid (On w W1) := by show On _ _; rw [hW1, hW0]; exact ((On.refl w).alloc _).alloc _
  have hz : ∀ w, (zeroValue 27).run Try.prog w = .ok (.agg (bufA bufZ)) w := fun w => (zero_of_info buf_info).1 w
  have HW1 : Hid (W1 = (w.alloc (.cells (bufA b) 27)).alloc (.cells (bufA bufZ) 27)) := by show _ = _; rw [hW1, hW0]
  clear hW0 hW1 z0
  have hS := span_is b c W1
  by_cases h : spA b c = spB b c
  · rw [dropB_same h]
    rw [h] at hS
    obtain ⟨y, hy⟩ : ∃ y, y = spB b c := ⟨_, rfl⟩
    rw [← hy] at hS
    clear hy h
    go_enter Try.func10, Try.ntmps10
    go_upto_region 1 with fail
    rw [← HW1.out]
    clear hz
    go_wp2_with (refine wpList_bld rfl rfl rfl B1.out ?_)
    refine hS.mono ?_
    rintro _ w1 ⟨rfl, k1⟩
    have B2 : Hid (Bk w1 w.heap.size (bufA b)) := B1.out.on k1
    have Z2 : Hid (Bk w1 (w.heap.size + 1) (bufA bufZ)) := Z1.out.on k1
    have K2 : Hid (On w w1) := K1.out.trans k1
    clear k1
    go_wp2_with (first | (refine wpList_bld rfl rfl rfl B2.out ?_) | (refine wpList_bst rfl rfl rfl (by exact rfl) Z2.out ?_))
    refine bodyPost_ret (v := .agg (bufA b)) ?_ rfl ⟨rfl, K2.out.row (Nat.le_succ _) _⟩
    exact buf_ret rfl rfl (Z2.out.row _)
  · have hpad := dropB_pad h
    have hl := b.len
    have hsp := sp_le b c
    obtain ⟨n, hn⟩ : ∃ n : Nat, n = b.l.length := ⟨_, rfl⟩
    obtain ⟨m, hm⟩ : ∃ m, m = b.m := ⟨_, rfl⟩
    obtain ⟨y, hy⟩ : ∃ y, y = spB b c := ⟨_, rfl⟩
    obtain ⟨x, hx⟩ : ∃ x, x = spA b c := ⟨_, rfl⟩
    rw [← hn] at hl hsp
    rw [← hx, ← hy] at hsp hS h
    have hxn : x < n := by omega
    simp only [← hx, ← hn, ← hm] at hpad
    have HP : Hid (bufA (dropB b c) = rowA m ((n : Int) - 1) (((padR b.l).take x ++ ((padR b.l).drop (x + 1)).take (n - (x + 1)) ++ (padR b.l).drop (n - 1)).set (n - 1) enZ)) := hpad
    have HB2 : Hid (Bk W1 w.heap.size (rowA m n (padR b.l))) := by show Bk _ _ _; rw [hm, hn]; exact B1.out
    have HPL : Hid ((padR b.l).length = 24) := padR_len b.len
    have HX : Hid (x < n ∧ n ≤ 24) := ⟨hxn, hl⟩
    have hne : ((x : Int) == (y : Int)) = false := by simp; omega
    obtain ⟨BB, hBB⟩ : ∃ BB, BB = dropB b c := ⟨_, rfl⟩
    rw [← hBB] at HP ⊢
    obtain ⟨R, hR⟩ : ∃ R, R = padR b.l := ⟨_, rfl⟩
    rw [← hR] at HP HB2 HPL
    clear hpad hl hsp hn hm hy hx h hxn hBB hR
    obtain ⟨hxn, hn24⟩ := HX.out
    obtain ⟨k, hk⟩ : ∃ k : Nat, n = k + 1 := ⟨n - 1, by omega⟩
    have HK : Hid (n = k + 1) := hk
    have hov1 : wrap64 ((x : Int) + 1) = ((x + 1 : Nat) : Int) := wrapS (by omega) (by omega)
    have hov3 : IntKind.i64.wrap ((x : Int) + 1) = ((x + 1 : Nat) : Int) := wrapT (by omega) (by omega)
    have hov2 : wrap64 ((n : Int) - 1) = (k : Int) := by rw [wrapS (by omega) (by omega)]; omega
    have hov4 : IntKind.i64.wrap ((n : Int) - 1) = (k : Int) := by rw [wrapT (by omega) (by omega)]; omega
    have b1 : (k : Int) < 24 := by omega
    have b2 : decide ((k : Int) < 0) = false := decide_eq_false (by omega)
    have b4 : (0 : Int) ≤ (k : Int) := by omega
    clear hxn hn24 hk
    go_enter Try.func10, Try.ntmps10
    go_upto_region 1 with fail
    rw [← HW1.out]
    clear hz HW1
    go_wp2_with (refine wpList_bld rfl rfl rfl B1.out ?_)
    refine hS.mono ?_
    rintro _ w1 ⟨rfl, k1⟩
    have B2 : Hid (Bk w1 w.heap.size (rowA m n R)) := HB2.out.on k1
    have Z2 : Hid (Bk w1 (w.heap.size + 1) (bufA bufZ)) := Z1.out.on k1
    have K2 : Hid (On w w1) := K1.out.trans k1
    clear k1
    go_wp2
    have S4 : w1.drew.cell? ⟨w.heap.size, 1, none⟩ = some (.int .i64 n) ∧ w.heap.size < w1.drew.heap.size := ⟨B2.out.at (row_n _ _ _), B2.out.lt⟩
    refine region_fin (fun W => W.cell? ⟨w.heap.size, 1, none⟩ = some (.int .i64 n) ∧ w.heap.size < W.heap.size) 99 10 (by kernel_rfl) rfl ?_
    refine fin_take 0 (v := ?_) rfl (by kernel_rfl) (by kernel_rfl) (by kernel_rfl) (by kernel_rfl) (fun _ _ _ h => h) rfl ?_ S4 ?_
    rotate_left
    · intro W hW
      have f1 := hW.1
      have fl := hW.2
      go_simp
      (try with_reducible rfl)
    simp only [Act.put, List.setIfInBounds_toArray, List.set_cons_zero, List.set_cons_succ]
    refine fin_take 1 (v := ?_) rfl (by kernel_rfl) (by kernel_rfl) (by kernel_rfl) (by kernel_rfl) (fun _ _ _ h => h) rfl ?_ S4 ?_
    rotate_left
    · intro W hW
      have f1 := hW.1
      have fl := hW.2
      go_simp
      (try with_reducible rfl)
    simp only [Act.put, List.setIfInBounds_toArray, List.set_cons_zero, List.set_cons_succ]
    refine fin_take 2 (v := .slice (some (slA w.heap.size x)) (24 - x) (24 - x)) rfl (by kernel_rfl) (by kernel_rfl) (by kernel_rfl) (by kernel_rfl) (fun _ _ _ h => h) rfl (fun W _ => exec_l rfl rfl rfl (by have := HX.out; omega) W) S4 ?_
    simp only [Act.put, List.setIfInBounds_toArray, List.set_cons_zero, List.set_cons_succ]
    refine fin_take 3 (v := ?_) rfl (by kernel_rfl) (by kernel_rfl) (by kernel_rfl) (by kernel_rfl) (fun _ _ _ h => h) rfl ?_ S4 ?_
    rotate_left
    · intro W hW
      have f1 := hW.1
      have fl := hW.2
      go_simp
      (try with_reducible rfl)
    simp only [Act.put, List.setIfInBounds_toArray, List.set_cons_zero, List.set_cons_succ]
    refine fin_take 4 (v := ?_) rfl (by kernel_rfl) (by kernel_rfl) (by kernel_rfl) (by kernel_rfl) (fun _ _ _ h => h) rfl ?_ S4 ?_
    rotate_left
    · intro W hW
      have f1 := hW.1
      have fl := hW.2
      go_simp
      (try with_reducible rfl)
    simp only [Act.put, List.setIfInBounds_toArray, List.set_cons_zero, List.set_cons_succ]
    refine fin_take 5 (v := ?_) rfl (by kernel_rfl) (by kernel_rfl) (by kernel_rfl) (by kernel_rfl) (fun _ _ _ h => h) rfl ?_ S4 ?_
    rotate_left
    · intro W hW
      have f1 := hW.1
      have fl := hW.2
      go_simp
      (try with_reducible rfl)
    simp only [Act.put, List.setIfInBounds_toArray, List.set_cons_zero, List.set_cons_succ]
    refine fin_take 6 (v := ?_) rfl (by kernel_rfl) (by kernel_rfl) (by kernel_rfl) (by kernel_rfl) (fun _ _ _ h => h) rfl ?_ S4 ?_
    rotate_left
    · intro W hW
      have f1 := hW.1
      have fl := hW.2
      go_simp
      (try with_reducible rfl)
    simp only [Act.put, List.setIfInBounds_toArray, List.set_cons_zero, List.set_cons_succ]
    refine fin_take 7 (v := ?_) rfl (by kernel_rfl) (by kernel_rfl) (by kernel_rfl) (by kernel_rfl) (fun _ _ _ h => h) rfl ?_ S4 ?_
    rotate_left
    · intro W hW
      have f1 := hW.1
      have fl := hW.2
      go_simp
      (try with_reducible rfl)
    simp only [Act.put, List.setIfInBounds_toArray, List.set_cons_zero, List.set_cons_succ]
    refine fin_take 8 (v := .slice (some (slA w.heap.size (x + 1))) (n - (x + 1)) (24 - (x + 1))) rfl (by kernel_rfl) (by kernel_rfl) (by kernel_rfl) (by kernel_rfl) (fun _ _ _ h => h) rfl (fun W _ => exec_lh rfl rfl rfl rfl HX.out.1 (by have := HX.out; omega) W) S4 ?_
    simp only [Act.put, List.setIfInBounds_toArray, List.set_cons_zero, List.set_cons_succ]
    refine fin_one 9 rfl rfl (by kernel_rfl) (fun K hK => ?_)
    refine wp_copyE _ _ rfl (show Bk w1.drew w.heap.size (rowA m n R) from B2.out) HPL.out (by have := HX.out; omega) HX.out.1 (by have := HX.out; omega) (by have := HX.out; omega) rfl rfl fun w3 b3 o3 => ?_
    have B3 : Hid (Bk w3 w.heap.size (rowA m n (R.take x ++ (R.drop (x + 1)).take (n - (x + 1)) ++ R.drop (n - 1)))) := by
      show Bk _ _ _
      rw [show x + (n - (x + 1)) = n - 1 by have := HX.out; omega] at b3
      exact b3
    have L3 : Hid ((R.take x ++ (R.drop (x + 1)).take (n - (x + 1)) ++ R.drop (n - 1)).length = 24) := by
      show _ = _
      have h1 := HPL.out
      have h2 := HX.out
      simp only [List.length_append, List.length_take, List.length_drop]
      omega
    have Z3 : Hid (Bk w3 (w.heap.size + 1) (bufA bufZ)) := o3.bk (by omega) Z2.out
    have K3 : Hid (On w w3) := o3.on K2.out.drew (Nat.le_refl _)
    refine hK.out _ _ (fun _ => ⟨B3.out.at (row_n _ _ _), B3.out.lt⟩) ?_
    have q1 := B3.out.at (row_n _ _ _)
    have f1 := B3.out.fr 1
    have B4 : Hid (Bk (w3.setCell ⟨w.heap.size, 1, none⟩ (.int .i64 (k : Int))) w.heap.size (rowA m (k : Int) (R.take x ++ (R.drop (x + 1)).take (n - (x + 1)) ++ R.drop (n - 1)))) := B3.out.putN _
    have Z4 : Hid (Bk (w3.setCell ⟨w.heap.size, 1, none⟩ (.int .i64 (k : Int))) (w.heap.size + 1) (bufA bufZ)) := Z3.out.far (by omega) _ _
    have K4 : Hid (On w (w3.setCell ⟨w.heap.size, 1, none⟩ (.int .i64 (k : Int)))) := K3.out.setNew (Nat.le_refl _) _
    clear hK b3 o3 S4
    refine fin_done (by kernel_rfl) (NoPanic.normal ?_)
    go_wp2_with (first
      | (refine wpList_mk0 rfl rfl ent_made0 ?_)
      | (refine wpList_est rfl rfl rfl (by exact rfl) B4.out (by rw [L3.out]; have := HX.out; have := HK.out; omega) fun w4 b4' o4 => ?_
         have B5 : Hid (Bk w4 w.heap.size (bufA BB)) := by
           show Bk _ _ _
           rw [HP.out, show (n : Int) - 1 = (k : Int) by have := HK.out; omega, show n - 1 = k by have := HK.out; omega]
           rw [show n - 1 = k by have := HK.out; omega] at b4'
           exact b4'
         have Z5 : Hid (Bk w4 (w.heap.size + 1) (bufA bufZ)) := o4.bk (by omega) Z4.out
         have K5 : Hid (On w w4) := o4.on K4.out (Nat.le_refl _)
         clear b4' o4)
      | (refine wpList_bld rfl rfl rfl B5.out ?_)
      | (refine wpList_bst rfl rfl rfl (by exact rfl) Z5.out ?_))
    refine bodyPost_ret (v := .agg (bufA BB)) ?_ rfl ⟨rfl, K5.out.row (Nat.le_succ _) _⟩
    exact buf_ret rfl rfl (Z5.out.row _)
end Go.Proofs.Ytnoeofbjnogkmaa
