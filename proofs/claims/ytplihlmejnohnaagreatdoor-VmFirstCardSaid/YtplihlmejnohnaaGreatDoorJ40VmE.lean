/- buf.Put and Drop. -/
import Derived.Test.YtplihlmejnohnaaGreatDoorJ33BufL
import Derived.Test.YtplihlmejnohnaaGreatDoorJ27BufQ
import Derived.Test.YtplihlmejnohnaaGreatDoorJ39BufN
namespace Go.Proofs.YtplihlmejnohnaaGreatDoor
open Go.RowKit

theorem putB_pad {b : BufT} {e : EnT} (he : EnIn e) (h : ¬ (b.m = 0 ∨ b.l.length = 24 ∨ e.1 < 0 ∨ 4 ≤ e.1)) :
    bufA (putB b e he) = rowA b.m ((b.l.length : Int) + 1) (((padR b.l).take (spB b e.1 + 1) ++ ((padR b.l).drop (spB b e.1)).take (b.l.length - spB b e.1) ++ (padR b.l).drop (b.l.length + 1)).set (spB b e.1) e) := by
  have hl := b.len
  rw [pad_put (sp_le b e.1).2 (by omega)]
  unfold putB
  rw [dif_neg h]
  show rowA b.m ((putL b.l (spB b e.1) e).length : Int) _ = _
  rw [putL_len]
  push_cast
  rfl
theorem dropB_pad {b : BufT} {c : Int} (h : ¬ spA b c = spB b c) :
    bufA (dropB b c) = rowA b.m ((b.l.length : Int) - 1) (((padR b.l).take (spA b c) ++ ((padR b.l).drop (spA b c + 1)).take (b.l.length - (spA b c + 1)) ++ (padR b.l).drop (b.l.length - 1)).set (b.l.length - 1) enZ) := by
  have hl := b.len
  have hs := sp_le b c
  have hk : spA b c < b.l.length := by omega
  rw [pad_cut hk hl]
  unfold dropB
  rw [dif_neg h]
  show rowA b.m ((cutL b.l (spA b c)).length : Int) _ = _
  have := cutL_len hk
  congr 1
  omega
theorem pad3_len {R : List EnT} (h : R.length = 24) {p q r : Nat} (h1 : p + r = q + r) (h2 : q + r ≤ 24) (f : Nat) (h3 : f + r ≤ 24) : (R.take p ++ (R.drop f).take r ++ R.drop (q + r)).length = 24 := by
  simp only [List.length_append, List.length_take, List.length_drop]
  omega
set_option maxHeartbeats 4000000 in
set_option maxRecDepth 8000 in
theorem put_is (b : BufT) (c v i : Int) (he : EnIn (c, v, i)) (w : World) : Calls Tryz.prog 104 #[.agg (bufA b), .int .i64 c, .int .i64 v, .int .i64 i] w fun e w' => e = .returned (.agg (bufA (putB b (c, v, i) he))) ∧ On w w' := by
  have h0 : (bufA b)[0]? = some (.int .i64 b.m) := rfl
  have h1 : (bufA b)[1]? = some (.int .i64 b.l.length) := rfl
  obtain ⟨W0, hW0⟩ : ∃ W0, W0 = w.alloc (.cells (bufA b) 85) := ⟨_, rfl⟩
  have z0 : W0.heap.size = w.heap.size + 1 := by rw [hW0]; simp
  obtain ⟨W1, hW1⟩ : ∃ W1, W1 = W0.alloc (.cells (bufA bufZ) 85) := ⟨_, rfl⟩
  have B1 : Bk W1 w.heap.size (bufA b) := by rw [hW1, hW0]; exact (Bk.new w _ _).alloc _
  have Z1 : Hid (Bk W1 (w.heap.size + 1) (bufA bufZ)) := by show Bk _ _ _; rw [hW1, ← z0]; exact Bk.new W0 _ _
  have K1 : Hid (On w W1) := by show On _ _; rw [hW1, hW0]; exact ((On.refl w).alloc _).alloc _
  have q0 := B1.at h0
  have q1 := B1.at h1
  have HB1 : Hid (Bk W1 w.heap.size (bufA b)) := B1
  have hz : ∀ w, (zeroValue 85).run Tryz.prog w = .ok (.agg (bufA bufZ)) w := fun w => (zero_of_info buf_info).1 w
  have hN := B1.lt
  have HW1 : Hid (W1 = (w.alloc (.cells (bufA b) 85)).alloc (.cells (bufA bufZ) 85)) := by show _ = _; rw [hW1, hW0]
  clear hW0 hW1 h0 h1 B1 z0
  by_cases h : b.m = 0 ∨ b.l.length = 24 ∨ c < 0 ∨ 4 ≤ c
  · rw [putB_same he h]
    obtain ⟨n, hn⟩ : ∃ n : Int, n = (b.l.length : Int) := ⟨_, rfl⟩
    obtain ⟨m, hm⟩ : ∃ m, m = b.m := ⟨_, rfl⟩
    have h2 : (m == 0) = true ∨ ((m == 0) = false ∧ (n == 24) = true) ∨ ((m == 0) = false ∧ (n == 24) = false ∧ decide (c < 0) = true) ∨ ((m == 0) = false ∧ (n == 24) = false ∧ decide (c < 0) = false ∧ decide (4 ≤ c) = true) := by
      subst hm hn
      by_cases g1 : b.m = 0
      · exact Or.inl (by simp [g1])
      · by_cases g2 : b.l.length = 24
        · exact Or.inr (Or.inl ⟨by simp [g1], by simp [g2]⟩)
        · by_cases g3 : c < 0
          · exact Or.inr (Or.inr (Or.inl ⟨by simp [g1], by simp; omega, by simp [g3]⟩))
          · exact Or.inr (Or.inr (Or.inr ⟨by simp [g1], by simp; omega, decide_eq_false g3, by simp; omega⟩))
    rw [← hm] at q0
    rw [← hn] at q1
    clear hm hn h he
    rcases h2 with h2 | ⟨h2, h3⟩ | ⟨h2, h3, h4⟩ | ⟨h2, h3, h4, h5⟩
    all_goals
      go_enter Tryz.func104, Tryz.ntmps104
      go_upto_region 1 with fail
      rw [← HW1.out]
      clear hz
      go_wp2_with (first | (refine wpList_bld rfl rfl rfl HB1.out ?_) | (refine wpList_bst rfl rfl rfl (by exact rfl) Z1.out ?_))
      refine bodyPost_ret (v := .agg (bufA b)) ?_ rfl ⟨rfl, K1.out.row (Nat.le_succ _) _⟩
      exact buf_ret rfl rfl (Z1.out.row _)
  · have hpad := putB_pad he h
    have hl := b.len
    have hsp := sp_le b c
    have hS := span_is b c W1
    obtain ⟨n, hn⟩ : ∃ n : Nat, n = b.l.length := ⟨_, rfl⟩
    obtain ⟨m, hm⟩ : ∃ m, m = b.m := ⟨_, rfl⟩
    obtain ⟨y, hy⟩ : ∃ y, y = spB b c := ⟨_, rfl⟩
    obtain ⟨x, hx⟩ : ∃ x, x = spA b c := ⟨_, rfl⟩
    rw [← hm] at h
    rw [← hn] at h hl hsp
    have hmz : (m == 0) = false := by simp; omega
    have hnz : (((n : Nat) : Int) == 24) = false := by simp; omega
    have hc1 : decide (c < 0) = false := decide_eq_false (by omega)
    have hc2 : decide (4 ≤ c) = false := decide_eq_false (by omega)
    rw [← hm] at q0
    rw [← hn] at q1
    rw [← hy] at hsp
    have hyn : y ≤ n := hsp.2
    have hn24 : n < 24 := by omega
    rw [← hx, ← hy] at hS
    simp only [← hy, ← hn, ← hm] at hpad
    have HP : Hid (bufA (putB b (c, v, i) he) = rowA m ((n : Int) + 1) (((padR b.l).take (y + 1) ++ ((padR b.l).drop y).take (n - y) ++ (padR b.l).drop (n + 1)).set y (c, v, i))) := hpad
    have HB2 : Hid (Bk W1 w.heap.size (rowA m n (padR b.l))) := by show Bk _ _ _; rw [hm, hn]; exact HB1.out
    have HPL : Hid ((padR b.l).length = 24) := padR_len b.len
    obtain ⟨BB, hBB⟩ : ∃ BB, BB = putB b (c, v, i) he := ⟨_, rfl⟩
    rw [← hBB] at HP ⊢
    obtain ⟨R, hR⟩ : ∃ R, R = padR b.l := ⟨_, rfl⟩
    rw [← hR] at HP HB2 HPL
    have HY : Hid (y ≤ n ∧ n < 24) := ⟨hyn, hn24⟩
    clear hpad hl hsp hn hm hy hx h hyn hn24 hBB hR he
    obtain ⟨hyn, hn24⟩ := HY.out
    have hov1 : wrap64 ((y : Int) + 1) = ((y + 1 : Nat) : Int) := wrapS (by omega) (by omega)
    have hov3 : IntKind.i64.wrap ((y : Int) + 1) = ((y + 1 : Nat) : Int) := wrapT (by omega) (by omega)
    have hov2 : wrap64 ((n : Int) + 1) = (n : Int) + 1 := wrapS (by omega) (by omega)
    have b1 : (y : Int) < 24 := by omega
    have b2 : decide ((y : Int) < 0) = false := decide_eq_false (by omega)
    have b4 : (0 : Int) ≤ (y : Int) := by omega
    clear hyn hn24
    go_enter Tryz.func104, Tryz.ntmps104
    go_upto_region 1 with fail
    rw [← HW1.out]
    clear hz HW1
    go_wp2_with (refine wpList_bld rfl rfl rfl HB1.out ?_)
    refine hS.mono ?_
    rintro _ w1 ⟨rfl, k1⟩
    have B2 : Hid (Bk w1 w.heap.size (rowA m n R)) := HB2.out.on k1
    have Z2 : Hid (Bk w1 (w.heap.size + 1) (bufA bufZ)) := Z1.out.on k1
    have K2 : Hid (On w w1) := K1.out.trans k1
    clear k1 q0 q1 hN
    go_wp2
    have S4 : w1.drew.cell? ⟨w.heap.size, 1, none⟩ = some (.int .i64 n) ∧ w.heap.size < w1.drew.heap.size := ⟨B2.out.at (row_n _ _ _), B2.out.lt⟩
    refine region_fin (fun W => W.cell? ⟨w.heap.size, 1, none⟩ = some (.int .i64 n) ∧ w.heap.size < W.heap.size) 99 10 (by kernel_rfl) rfl ?_
    refine fin_take 0 (v := ?_) rfl (by kernel_rfl) (by kernel_rfl) (by kernel_rfl) (by kernel_rfl) (fun _ _ _ h => h) rfl ?_ S4 ?_
    rotate_left
    · intro W hW
      have f1 := hW.1
      have fl := hW.2
      go_simp
      (try with_reducible rfl)
    simp only [Act.put, List.setIfInBounds_toArray, List.set_cons_zero, List.set_cons_succ]
    refine fin_take 1 (v := ?_) rfl (by kernel_rfl) (by kernel_rfl) (by kernel_rfl) (by kernel_rfl) (fun _ _ _ h => h) rfl ?_ S4 ?_
    rotate_left
    · intro W hW
      have f1 := hW.1
      have fl := hW.2
      go_simp
      (try with_reducible rfl)
    simp only [Act.put, List.setIfInBounds_toArray, List.set_cons_zero, List.set_cons_succ]
    refine fin_take 2 (v := ?_) rfl (by kernel_rfl) (by kernel_rfl) (by kernel_rfl) (by kernel_rfl) (fun _ _ _ h => h) rfl ?_ S4 ?_
    rotate_left
    · intro W hW
      have f1 := hW.1
      have fl := hW.2
      go_simp
      (try with_reducible rfl)
    simp only [Act.put, List.setIfInBounds_toArray, List.set_cons_zero, List.set_cons_succ]
    refine fin_take 3 (v := .slice (some (slA w.heap.size (y + 1))) (24 - (y + 1)) (24 - (y + 1))) rfl (by kernel_rfl) (by kernel_rfl) (by kernel_rfl) (by kernel_rfl) (fun _ _ _ h => h) rfl (fun W _ => exec_l rfl rfl rfl (by have := HY.out; omega) W) S4 ?_
    simp only [Act.put, List.setIfInBounds_toArray, List.set_cons_zero, List.set_cons_succ]
    refine fin_take 4 (v := ?_) rfl (by kernel_rfl) (by kernel_rfl) (by kernel_rfl) (by kernel_rfl) (fun _ _ _ h => h) rfl ?_ S4 ?_
    rotate_left
    · intro W hW
      have f1 := hW.1
      have fl := hW.2
      go_simp
      (try with_reducible rfl)
    simp only [Act.put, List.setIfInBounds_toArray, List.set_cons_zero, List.set_cons_succ]
    refine fin_take 5 (v := ?_) rfl (by kernel_rfl) (by kernel_rfl) (by kernel_rfl) (by kernel_rfl) (fun _ _ _ h => h) rfl ?_ S4 ?_
    rotate_left
    · intro W hW
      have f1 := hW.1
      have fl := hW.2
      go_simp
      (try with_reducible rfl)
    simp only [Act.put, List.setIfInBounds_toArray, List.set_cons_zero, List.set_cons_succ]
    refine fin_take 6 (v := ?_) rfl (by kernel_rfl) (by kernel_rfl) (by kernel_rfl) (by kernel_rfl) (fun _ _ _ h => h) rfl ?_ S4 ?_
    rotate_left
    · intro W hW
      have f1 := hW.1
      have fl := hW.2
      go_simp
      (try with_reducible rfl)
    simp only [Act.put, List.setIfInBounds_toArray, List.set_cons_zero, List.set_cons_succ]
    refine fin_take 7 (v := ?_) rfl (by kernel_rfl) (by kernel_rfl) (by kernel_rfl) (by kernel_rfl) (fun _ _ _ h => h) rfl ?_ S4 ?_
    rotate_left
    · intro W hW
      have f1 := hW.1
      have fl := hW.2
      go_simp
      (try with_reducible rfl)
    simp only [Act.put, List.setIfInBounds_toArray, List.set_cons_zero, List.set_cons_succ]
    refine fin_take 8 (v := .slice (some (slA w.heap.size y)) (n - y) (24 - y)) rfl (by kernel_rfl) (by kernel_rfl) (by kernel_rfl) (by kernel_rfl) (fun _ _ _ h => h) rfl (fun W _ => exec_lh rfl rfl rfl rfl HY.out.1 (by have := HY.out; omega) W) S4 ?_
    simp only [Act.put, List.setIfInBounds_toArray, List.set_cons_zero, List.set_cons_succ]
    refine fin_one 9 rfl rfl (by kernel_rfl) (fun K hK => ?_)
    refine wp_copyE _ _ rfl (show Bk w1.drew w.heap.size (rowA m n R) from B2.out) HPL.out (by have := HY.out; omega) HY.out.1 (by have := HY.out; omega) (by have := HY.out; omega) rfl rfl fun w3 b3 o3 => ?_
    have B3 : Hid (Bk w3 w.heap.size (rowA m n (R.take (y + 1) ++ (R.drop y).take (n - y) ++ R.drop (n + 1)))) := by
      show Bk _ _ _
      rw [show y + 1 + (n - y) = n + 1 by have := HY.out; omega] at b3
      exact b3
    have L3 : Hid ((R.take (y + 1) ++ (R.drop y).take (n - y) ++ R.drop (n + 1)).length = 24) := by
      show _ = _
      have h1 := HPL.out
      have h2 := HY.out
      simp only [List.length_append, List.length_take, List.length_drop]
      omega
    have Z3 : Hid (Bk w3 (w.heap.size + 1) (bufA bufZ)) := o3.bk (by omega) Z2.out
    have K3 : Hid (On w w3) := o3.on K2.out.drew (Nat.le_refl _)
    refine hK.out _ _ (fun _ => ⟨B3.out.at (row_n _ _ _), B3.out.lt⟩) ?_
    clear hK b3 o3 S4
    refine fin_done (by kernel_rfl) (NoPanic.normal ?_)
    go_wp2_with (first
      | (refine wpList_mk3 rfl rfl rfl rfl rfl (ent_made _ _ _) ?_)
      | (refine wpList_est rfl rfl rfl (by exact rfl) B3.out (by rw [L3.out]; have := HY.out; omega) fun w4 b4' o4 => ?_
         have B4 : Hid (Bk w4 w.heap.size (rowA m n ((R.take (y + 1) ++ (R.drop y).take (n - y) ++ R.drop (n + 1)).set y (c, v, i)))) := b4'
         have q1 := B4.out.at (row_n _ _ _)
         have f1 := B4.out.fr 1
         have Z4 : Hid (Bk w4 (w.heap.size + 1) (bufA bufZ)) := o4.bk (by omega) Z3.out
         have K4 : Hid (On w w4) := o4.on K3.out (Nat.le_refl _)
         have B5 : Hid (Bk (w4.setCell ⟨w.heap.size, 1, none⟩ (.int .i64 ((n : Int) + 1))) w.heap.size (bufA BB)) := by
           show Bk _ _ _
           rw [HP.out]
           exact b4'.putN _
         have Z5 : Hid (Bk (w4.setCell ⟨w.heap.size, 1, none⟩ (.int .i64 ((n : Int) + 1))) (w.heap.size + 1) (bufA bufZ)) := Z4.out.far (by omega) _ _
         clear b4' o4)
      | (refine wpList_bld rfl rfl rfl B5.out ?_)
      | (refine wpList_bst rfl rfl rfl (by exact rfl) Z5.out ?_))
    refine bodyPost_ret (v := .agg (bufA BB)) ?_ rfl ⟨rfl, (K4.out.setNew (Nat.le_refl _) _).row (Nat.le_succ _) _⟩
    exact buf_ret rfl rfl (Z5.out.row _)
end Go.Proofs.YtplihlmejnohnaaGreatDoor

namespace Go.Proofs.YtplihlmejnohnaaGreatDoor
open Go.RowKit

section
variable {w W : World} {N t : Nat} {P0 P1 P2 q u : Value} {V : VmT} {B : Nat → Nat}
theorem vm_wrS (h : t < 4) : ((vmL P0 P1 P2 V B q).set (28 + t) u).toArray[32 + t]? = some (.int .i64 (V.wr t)) := by
  match t, h with
  | 0, _ => rfl
  | 1, _ => rfl
  | 2, _ => rfl
  | 3, _ => rfl
theorem vm_memS (h : t < 4) : ((vmL P0 P1 P2 V B q).set (32 + t) u).toArray[28 + t]? = some (.int .i64 (V.mem t)) := by
  match t, h with
  | 0, _ => rfl
  | 1, _ => rfl
  | 2, _ => rfl
  | 3, _ => rfl
theorem VmR.setM (k : VmR w V B q) (c : Nat) (v n : Int) : VmR w (setMV V c v n) B q := ⟨k.buf, k.lst⟩
end
set_option maxHeartbeats 4000000 in
set_option maxRecDepth 8000 in
theorem write_is (N c : Nat) (v n : Int) (P0 P1 P2 : Value) (V : VmT) (w : World) (h : VmIn w N P0 P1 P2 V) (hc : c < 4) :
    Calls Tryz.prog 70 #[ptV N, .int .i64 c, .int .i64 v, .int .i64 n] w fun e w' => e = .returned (.tuple #[]) ∧ VmIn w' N P0 P1 P2 (setMV V c v n) ∧ OffV N w w' := by
  obtain ⟨B, q, hN, hR⟩ := h
  have HN : Hid (Tb w N (vmA P0 P1 P2 V B q) 80) := hN
  have HR : Hid (VmR w V B q) := hR
  have HD : Tb w.drew N (vmA P0 P1 P2 V B q) 80 := hN
  have b1 : (c : Int) < 4 := by omega
  have b2 : decide ((c : Int) < 0) = false := decide_eq_false (by omega)
  have b4 : (0 : Int) ≤ (c : Int) := by omega
  clear hN hR
  unfold ptV
  go_enter Tryz.func70, Tryz.ntmps70
  have SA : True := trivial
  refine region_fz (fun _ => True) [] 14 (by kernel_rfl) rfl ?_
  refine fz_take 0 (v := ?_) rfl (by kernel_rfl) (by kernel_rfl) (by kernel_rfl) (by kernel_rfl) (fun _ _ _ h => h) rfl ?_ SA ?_
  rotate_left
  · intro W hW
    go_simp
    (try with_reducible rfl)
  simp only [Act.put, List.setIfInBounds_toArray, List.set_cons_zero, List.set_cons_succ]
  refine fz_take 1 (v := ?_) rfl (by kernel_rfl) (by kernel_rfl) (by kernel_rfl) (by kernel_rfl) (fun _ _ _ h => h) rfl ?_ SA ?_
  rotate_left
  · intro W hW
    go_simp
    (try with_reducible rfl)
  simp only [Act.put, List.setIfInBounds_toArray, List.set_cons_zero, List.set_cons_succ]
  refine fz_take 2 (v := ?_) rfl (by kernel_rfl) (by kernel_rfl) (by kernel_rfl) (by kernel_rfl) (fun _ _ _ h => h) rfl ?_ SA ?_
  rotate_left
  · intro W hW
    go_simp
    (try with_reducible rfl)
  simp only [Act.put, List.setIfInBounds_toArray, List.set_cons_zero, List.set_cons_succ]
  refine fz_take 3 (v := ?_) rfl (by kernel_rfl) (by kernel_rfl) (by kernel_rfl) (by kernel_rfl) (fun _ _ _ h => h) rfl ?_ SA ?_
  rotate_left
  · intro W hW
    go_simp
    (try with_reducible rfl)
  simp only [Act.put, List.setIfInBounds_toArray, List.set_cons_zero, List.set_cons_succ]
  refine fz_take 4 (v := ?_) rfl (by kernel_rfl) (by kernel_rfl) (by kernel_rfl) (by kernel_rfl) (fun _ _ _ h => h) rfl ?_ SA ?_
  rotate_left
  · intro W hW
    go_simp
    (try with_reducible rfl)
  simp only [Act.put, List.setIfInBounds_toArray, List.set_cons_zero, List.set_cons_succ]
  refine fz_take 5 (v := ?_) rfl (by kernel_rfl) (by kernel_rfl) (by kernel_rfl) (by kernel_rfl) (fun _ _ _ h => h) rfl ?_ SA ?_
  rotate_left
  · intro W hW
    go_simp
    (try with_reducible rfl)
  simp only [Act.put, List.setIfInBounds_toArray, List.set_cons_zero, List.set_cons_succ]
  refine fz_take 6 (v := ?_) rfl (by kernel_rfl) (by kernel_rfl) (by kernel_rfl) (by kernel_rfl) (fun _ _ _ h => h) rfl ?_ SA ?_
  rotate_left
  · intro W hW
    go_simp
    (try with_reducible rfl)
  simp only [Act.put, List.setIfInBounds_toArray, List.set_cons_zero, List.set_cons_succ]
  refine fz_take 7 (v := ?_) rfl (by kernel_rfl) (by kernel_rfl) (by kernel_rfl) (by kernel_rfl) (fun _ _ _ h => h) rfl ?_ SA ?_
  rotate_left
  · intro W hW
    go_simp
    (try with_reducible rfl)
  simp only [Act.put, List.setIfInBounds_toArray, List.set_cons_zero, List.set_cons_succ]
  refine fz_take 8 (v := ?_) rfl (by kernel_rfl) (by kernel_rfl) (by kernel_rfl) (by kernel_rfl) (fun _ _ _ h => h) rfl ?_ SA ?_
  rotate_left
  · intro W hW
    go_simp
    (try with_reducible rfl)
  simp only [Act.put, List.setIfInBounds_toArray, List.set_cons_zero, List.set_cons_succ]
  refine fz_take 10 (v := ?_) rfl (by kernel_rfl) (by kernel_rfl) (by kernel_rfl) (by kernel_rfl) (fun _ _ _ h => h) rfl ?_ SA ?_
  rotate_left
  · intro W hW
    go_simp
    (try with_reducible rfl)
  simp only [Act.put, List.setIfInBounds_toArray, List.set_cons_zero, List.set_cons_succ]
  refine fz_take 11 (v := ?_) rfl (by kernel_rfl) (by kernel_rfl) (by kernel_rfl) (by kernel_rfl) (fun _ _ _ h => h) rfl ?_ SA ?_
  rotate_left
  · intro W hW
    go_simp
    (try with_reducible rfl)
  simp only [Act.put, List.setIfInBounds_toArray, List.set_cons_zero, List.set_cons_succ]
  refine fz_one 9 rfl rfl (by kernel_rfl) (fun K hK => ?_)
  have c1 := HN.out.at (vm_mem (B := B) (q := q) hc)
  have f1 := HN.out.bk.fr (28 + c)
  have l1 := HN.out.lt
  go_simp
  have T1 := HN.out.put (cs := vmL P0 P1 P2 V B q) (28 + c) (.int .i64 v)
  have O1 : OffV N w _ := (OffV.refl N w).set (28 + c) (.int .i64 v)
  refine hK.out _ _ (fun _ => trivial) ?_
  clear hK c1 f1 l1
  refine fz_take 12 (v := ?_) rfl (by kernel_rfl) (by kernel_rfl) (by kernel_rfl) (by kernel_rfl) (fun _ _ _ h => h) rfl ?_ SA ?_
  rotate_left
  · intro W hW
    go_simp
    (try with_reducible rfl)
  simp only [Act.put, List.setIfInBounds_toArray, List.set_cons_zero, List.set_cons_succ]
  refine fz_one 13 rfl rfl (by kernel_rfl) (fun K hK => ?_)
  have c1 := HN.out.at (vm_wr (B := B) (q := q) hc)
  have f1 := HN.out.bk.fr (32 + c)
  have l1 := HN.out.lt
  go_simp
  have T2 := T1.put (32 + c) (.int .i64 n)
  have O2 := O1.set (32 + c) (.int .i64 n)
  have e2 := vm_setM (P0 := P0) (P1 := P1) (P2 := P2) (V := V) (B := B) (q := q) v n hc
  unfold i64V at e2
  rw [e2] at T2
  refine hK.out _ _ (fun _ => trivial) ?_
  clear hK c1 f1 l1
  refine fz_done (by kernel_rfl) (NoPanic.normal ?_)
  go_wp2
  refine bodyPost_end (results_none rfl _ _ _) rfl ?_
  exact ⟨rfl, ⟨B, q, T2, ((HR.out.off O2 HN.out).on (On.refl _).drew).setM c v n⟩, O2.trans (OffV.of (On.refl _).drew)⟩
section
variable {o : Oper} {a : Act} {w : World} {Q : Exit → Act → World → Prop} {ops : Array Oper} {rest : List Oper} {x1 x2 x3 x4 x5 x6 : Operand} {v1 v2 v3 v4 v5 v6 : Int}
theorem built_mkR (v1 v2 v3 v4 v6 : Int) : Tryz.prog.built 39 [(1, .int .i64 v1), (2, .int .i64 v2), (3, .int .i64 v3), (4, .int .i64 v4), (6, .int .i64 v6)] = some (stC ⟨0, v1, v2, v3, v4, 0, v6⟩).toArray := by kernel_rfl
theorem exec_mkR (ho : o.op = .build 39 #[(1, x1), (2, x2), (3, x3), (4, x4), (6, x6)]) (h1 : a.eval x1 = .int .i64 v1) (h2 : a.eval x2 = .int .i64 v2) (h3 : a.eval x3 = .int .i64 v3) (h4 : a.eval x4 = .int .i64 v4) (h6 : a.eval x6 = .int .i64 v6) (W : World) : (execOp a.eval o).run Tryz.prog W = .ok (.value (stV ⟨0, v1, v2, v3, v4, 0, v6⟩)) W := by
  unfold execOp
  simp only [ho, Sem.run_bind, List.map_toArray, List.map_cons, List.map_nil, h1, h2, h3, h4, h6, run_build W 39 #[(1, .int .i64 v1), (2, .int .i64 v2), (3, .int .i64 v3), (4, .int .i64 v4), (6, .int .i64 v6)] _ (built_mkR v1 v2 v3 v4 v6), Result.andThen_ok]
  rfl
theorem wpList_mkR (hgd : o.guard = none) (ho : o.op = .build 39 #[(1, x1), (2, x2), (3, x3), (4, x4), (6, x6)]) (h1 : a.eval x1 = .int .i64 v1) (h2 : a.eval x2 = .int .i64 v2) (h3 : a.eval x3 = .int .i64 v3) (h4 : a.eval x4 = .int .i64 v4) (h6 : a.eval x6 = .int .i64 v6) (k : wpList Tryz.prog ops Q rest (a.put o.dst (stV ⟨0, v1, v2, v3, v4, 0, v6⟩)) w) : wpList Tryz.prog ops Q (o :: rest) a w := by
  refine wpList_plain hgd fun K hK => ?_
  unfold Oper.wp
  rw [exec_mkR ho h1 h2 h3 h4 h6 w]
  exact hK _ _ k
theorem built_mkW (v1 v2 v3 v5 v6 : Int) : Tryz.prog.built 39 [(1, .int .i64 v1), (2, .int .i64 v2), (3, .int .i64 v3), (5, .int .i64 v5), (6, .int .i64 v6)] = some (stC ⟨0, v1, v2, v3, 0, v5, v6⟩).toArray := by kernel_rfl
theorem exec_mkW (ho : o.op = .build 39 #[(1, x1), (2, x2), (3, x3), (5, x5), (6, x6)]) (h1 : a.eval x1 = .int .i64 v1) (h2 : a.eval x2 = .int .i64 v2) (h3 : a.eval x3 = .int .i64 v3) (h5 : a.eval x5 = .int .i64 v5) (h6 : a.eval x6 = .int .i64 v6) (W : World) : (execOp a.eval o).run Tryz.prog W = .ok (.value (stV ⟨0, v1, v2, v3, 0, v5, v6⟩)) W := by
  unfold execOp
  simp only [ho, Sem.run_bind, List.map_toArray, List.map_cons, List.map_nil, h1, h2, h3, h5, h6, run_build W 39 #[(1, .int .i64 v1), (2, .int .i64 v2), (3, .int .i64 v3), (5, .int .i64 v5), (6, .int .i64 v6)] _ (built_mkW v1 v2 v3 v5 v6), Result.andThen_ok]
  rfl
theorem wpList_mkW (hgd : o.guard = none) (ho : o.op = .build 39 #[(1, x1), (2, x2), (3, x3), (5, x5), (6, x6)]) (h1 : a.eval x1 = .int .i64 v1) (h2 : a.eval x2 = .int .i64 v2) (h3 : a.eval x3 = .int .i64 v3) (h5 : a.eval x5 = .int .i64 v5) (h6 : a.eval x6 = .int .i64 v6) (k : wpList Tryz.prog ops Q rest (a.put o.dst (stV ⟨0, v1, v2, v3, 0, v5, v6⟩)) w) : wpList Tryz.prog ops Q (o :: rest) a w := by
  refine wpList_plain hgd fun K hK => ?_
  unfold Oper.wp
  rw [exec_mkW ho h1 h2 h3 h5 h6 w]
  exact hK _ _ k
theorem built_mkF (v1 v2 v6 : Int) : Tryz.prog.built 39 [(1, .int .i64 v1), (2, .int .i64 v2), (6, .int .i64 v6)] = some (stC ⟨0, v1, v2, 0, 0, 0, v6⟩).toArray := by kernel_rfl
theorem exec_mkF (ho : o.op = .build 39 #[(1, x1), (2, x2), (6, x6)]) (h1 : a.eval x1 = .int .i64 v1) (h2 : a.eval x2 = .int .i64 v2) (h6 : a.eval x6 = .int .i64 v6) (W : World) : (execOp a.eval o).run Tryz.prog W = .ok (.value (stV ⟨0, v1, v2, 0, 0, 0, v6⟩)) W := by
  unfold execOp
  simp only [ho, Sem.run_bind, List.map_toArray, List.map_cons, List.map_nil, h1, h2, h6, run_build W 39 #[(1, .int .i64 v1), (2, .int .i64 v2), (6, .int .i64 v6)] _ (built_mkF v1 v2 v6), Result.andThen_ok]
  rfl
theorem wpList_mkF (hgd : o.guard = none) (ho : o.op = .build 39 #[(1, x1), (2, x2), (6, x6)]) (h1 : a.eval x1 = .int .i64 v1) (h2 : a.eval x2 = .int .i64 v2) (h6 : a.eval x6 = .int .i64 v6) (k : wpList Tryz.prog ops Q rest (a.put o.dst (stV ⟨0, v1, v2, 0, 0, 0, v6⟩)) w) : wpList Tryz.prog ops Q (o :: rest) a w := by
  refine wpList_plain hgd fun K hK => ?_
  unfold Oper.wp
  rw [exec_mkF ho h1 h2 h6 w]
  exact hK _ _ k
end
theorem res_step {fn : Func} {q : Tmp} (h : fn.results = #[.cell q 39]) {tmps : Array Value} {w : World} {N : Nat} {s : StT} (hq : tmps.getD q undef = .pointer (some ⟨N, 0, none⟩)) (hb : Tb w N (stC s).toArray 39) : (results fn tmps).run Tryz.prog w = .ok (stV s) w :=
  results_cell_row h tmps w N _ (stC s).toArray (0, 0) _ hq hb fields_step rfl (by exact step_sz)
/-- What a machine's function has made at its beginning: the instruction's block, and that of its answer. -/
structure VmB (w W : World) (x : InsT) (s : StT) : Prop where
  on : On w W
  ib : Tb W w.heap.size (insC x).toArray 107
  rb : Tb W (w.heap.size + 1) (stC s).toArray 39
theorem VmB.go {w W W' : World} {x : InsT} {s : StT} (h : VmB w W x s) (k : On W W') : VmB w W' x s := ⟨h.on.trans k, h.ib.on k, h.rb.on k⟩
theorem VmB.off {w W W' : World} {N : Nat} {x : InsT} {s : StT} (h : VmB w W x s) (k : OffV N W W') (hN : N < w.heap.size) : Tb W' w.heap.size (insC x).toArray 107 ∧ Tb W' (w.heap.size + 1) (stC s).toArray 39 :=
  ⟨k.tk h.ib (by omega), k.tk h.rb (by omega)⟩
set_option maxHeartbeats 4000000 in
set_option maxRecDepth 8000 in
theorem load_is (N t c : Nat) (x : InsT) (P0 P1 P2 : Value) (V : VmT) (w : World) (h : VmIn w N P0 P1 P2 V) (ht : t < 4) (hc : c < 4) (hx : x.l = (c : Nat)) :
    Calls Tryz.prog 87 #[ptV N, .int .i64 t, insV x] w fun e w' => e = .returned (stV ⟨0, t, 1, x.l, (seesV V t x.l).1, 0, (seesV V t x.l).2⟩) ∧ On w w' := by
  obtain ⟨B, q, hN, hR⟩ := h
  have HN : Hid (Tb w N (vmA P0 P1 P2 V B q) 80) := hN
  have HR : Hid (VmR w V B q) := hR
  obtain ⟨b, hb, hw⟩ := hR.buf t ht
  obtain ⟨M, hM⟩ : ∃ M, M = B t := ⟨_, rfl⟩
  have HB : Hid ((vmA P0 P1 P2 V B q)[24 + t]? = some (.pointer (some ⟨B t, 0, none⟩))) := vm_buf ht
  rw [← hM] at hb HB
  have B1 : Hid (Tb w M (bufA b) 85) := hb
  have b1 : (t : Int) < 4 := by omega
  have b2 : decide ((t : Int) < 0) = false := decide_eq_false (by omega)
  have b4 : (0 : Int) ≤ (t : Int) := by omega
  have e1 : (c : Int) < 4 := by omega
  have e2 : decide ((c : Int) < 0) = false := decide_eq_false (by omega)
  have e4 : (0 : Int) ≤ (c : Int) := by omega
  obtain ⟨W1, hW1⟩ : ∃ W1, W1 = (w.alloc (.cells #[.int .i64 x.k, .int .i64 x.r, .int .i64 x.l, .int .i64 x.a.r, .int .i64 x.a.v, .int .i64 x.o, .int .i64 x.b.r, .int .i64 x.b.v, .int .i64 x.n] 107)).alloc (.cells #[.int .i64 0, .int .i64 0, .int .i64 0, .int .i64 0, .int .i64 0, .int .i64 0, .int .i64 0] 39) := ⟨_, rfl⟩
  have W0 : Hid (VmB w W1 x stZ) := ⟨by rw [hW1]; exact ((On.refl w).alloc _).alloc _, by rw [hW1]; exact (Tb.new w _ _).alloc _, by
    rw [hW1]
    have := Tb.new (w.alloc (.cells #[.int .i64 x.k, .int .i64 x.r, .int .i64 x.l, .int .i64 x.a.r, .int .i64 x.a.v, .int .i64 x.o, .int .i64 x.b.r, .int .i64 x.b.v, .int .i64 x.n] 107)) #[.int .i64 0, .int .i64 0, .int .i64 0, .int .i64 0, .int .i64 0, .int .i64 0, .int .i64 0] 39
    rwa [World.size_alloc] at this⟩
  have cN := fun W => newest_is b x.l W
  rw [hw.newest x.l] at cN
  have HX : Hid (x.l = (c : Int)) := hx
  have hcn : x.l.toNat = c := by omega
  clear hN hR hb hw hM hx
  unfold ptV insV seesV
  cases hn : newestL x.l (V.b t) with
  | some e =>
    rw [hn] at cN
    simp only [newV] at cN
    go_enter Tryz.func87, Tryz.ntmps87
    go_upto_region 1 with fail
    rw [← hW1]
    clear hW1 hn
    have SA : On W1 W1.drew := (On.refl W1).drew
    refine region_fz (fun W => On W1 W) [] 18 (by kernel_rfl) rfl ?_
    refine fz_take 0 (v := ?_) rfl (by kernel_rfl) (by kernel_rfl) (by kernel_rfl) (by kernel_rfl) (fun _ _ _ h => h) rfl ?_ SA ?_
    rotate_left
    · intro W hW
      go_simp
      (try with_reducible rfl)
    simp only [Act.put, List.setIfInBounds_toArray, List.set_cons_zero, List.set_cons_succ]
    refine fz_take 1 (v := ?_) rfl (by kernel_rfl) (by kernel_rfl) (by kernel_rfl) (by kernel_rfl) (fun _ _ _ h => h) rfl ?_ SA ?_
    rotate_left
    · intro W hW
      go_simp
      (try with_reducible rfl)
    simp only [Act.put, List.setIfInBounds_toArray, List.set_cons_zero, List.set_cons_succ]
    refine fz_take 2 (v := ?_) rfl (by kernel_rfl) (by kernel_rfl) (by kernel_rfl) (by kernel_rfl) (fun _ _ _ h => h) rfl ?_ SA ?_
    rotate_left
    · intro W hW
      go_simp
      (try with_reducible rfl)
    simp only [Act.put, List.setIfInBounds_toArray, List.set_cons_zero, List.set_cons_succ]
    refine fz_take 3 (v := ?_) rfl (by kernel_rfl) (by kernel_rfl) (by kernel_rfl) (by kernel_rfl) (fun _ _ _ h => h) rfl ?_ SA ?_
    rotate_left
    · intro W hW
      go_simp
      (try with_reducible rfl)
    simp only [Act.put, List.setIfInBounds_toArray, List.set_cons_zero, List.set_cons_succ]
    refine fz_take 4 (v := ?_) rfl (by kernel_rfl) (by kernel_rfl) (by kernel_rfl) (by kernel_rfl) (fun _ _ _ h => h) rfl ?_ SA ?_
    rotate_left
    · intro W hW
      go_simp
      (try with_reducible rfl)
    simp only [Act.put, List.setIfInBounds_toArray, List.set_cons_zero, List.set_cons_succ]
    refine fz_take 5 (v := ?_) rfl (by kernel_rfl) (by kernel_rfl) (by kernel_rfl) (by kernel_rfl) (fun _ _ _ h => h) rfl ?_ SA ?_
    rotate_left
    · intro W hW
      have c0 := (HN.out.on (W0.out.on.trans hW)).at HB.out
      have cl := HN.out.lt
      go_simp
      (try with_reducible rfl)
    simp only [Act.put, List.setIfInBounds_toArray, List.set_cons_zero, List.set_cons_succ]
    refine fz_take 6 (v := ?_) rfl (by kernel_rfl) (by kernel_rfl) (by kernel_rfl) (by kernel_rfl) (fun _ _ _ h => h) rfl ?_ SA ?_
    rotate_left
    · intro W hW
      go_simp
      (try with_reducible rfl)
    simp only [Act.put, List.setIfInBounds_toArray, List.set_cons_zero, List.set_cons_succ]
    refine fz_take 7 (v := .agg (bufA b)) rfl (by kernel_rfl) (by kernel_rfl) (by kernel_rfl) (by kernel_rfl) (fun _ _ _ h => h) rfl (fun W hW => exec_bld rfl rfl ((B1.out.on (W0.out.on.trans hW)).bk)) SA ?_
    simp only [Act.put, List.setIfInBounds_toArray, List.set_cons_zero, List.set_cons_succ]
    refine fz_take 8 (v := ?_) rfl (by kernel_rfl) (by kernel_rfl) (by kernel_rfl) (by kernel_rfl) (fun _ _ _ h => h) rfl ?_ SA ?_
    rotate_left
    · intro W hW
      go_simp
      (try with_reducible rfl)
    simp only [Act.put, List.setIfInBounds_toArray, List.set_cons_zero, List.set_cons_succ]
    refine fz_take 9 (v := ?_) rfl (by kernel_rfl) (by kernel_rfl) (by kernel_rfl) (by kernel_rfl) (fun _ _ _ h => h) rfl ?_ SA ?_
    rotate_left
    · intro W hW
      have q2 := (W0.out.ib.on hW).at (i := 2) (v := .int .i64 x.l) rfl
      have ql := (W0.out.ib.on hW).lt
      go_simp
      (try with_reducible rfl)
    simp only [Act.put, List.setIfInBounds_toArray, List.set_cons_zero, List.set_cons_succ]
    refine fz_one 10 rfl rfl (by kernel_rfl) (fun K hK => ?_)
    go_simp
    refine (cN _).mono ?_
    rintro _ wc ⟨rfl, kwc⟩
    have SC : On W1 wc := SA.trans kwc
    refine hK.out _ _ (fun _ => SC) ?_
    clear hK kwc
    refine fz_take 11 (v := ?_) rfl (by kernel_rfl) (by kernel_rfl) (by kernel_rfl) (by kernel_rfl) (fun _ _ _ h => h) rfl ?_ SC ?_
    rotate_left
    · intro W hW
      go_simp
      (try with_reducible rfl)
    simp only [Act.put, List.setIfInBounds_toArray, List.set_cons_zero, List.set_cons_succ]
    refine fz_take 12 (v := ?_) rfl (by kernel_rfl) (by kernel_rfl) (by kernel_rfl) (by kernel_rfl) (fun _ _ _ h => h) rfl ?_ SC ?_
    rotate_left
    · intro W hW
      go_simp
      (try with_reducible rfl)
    simp only [Act.put, List.setIfInBounds_toArray, List.set_cons_zero, List.set_cons_succ]
    refine fz_take 13 (v := ?_) rfl (by kernel_rfl) (by kernel_rfl) (by kernel_rfl) (by kernel_rfl) (fun _ _ _ h => h) rfl ?_ SC ?_
    rotate_left
    · intro W hW
      go_simp
      (try with_reducible rfl)
    simp only [Act.put, List.setIfInBounds_toArray, List.set_cons_zero, List.set_cons_succ]
    refine fz_take 14 (v := ?_) rfl (by kernel_rfl) (by kernel_rfl) (by kernel_rfl) (by kernel_rfl) (fun _ _ _ h => h) rfl ?_ SC ?_
    rotate_left
    · intro W hW
      go_simp
      (try with_reducible rfl)
    simp only [Act.put, List.setIfInBounds_toArray, List.set_cons_zero, List.set_cons_succ]
    refine fz_take 15 (v := ?_) rfl (by kernel_rfl) (by kernel_rfl) (by kernel_rfl) (by kernel_rfl) (fun _ _ _ h => h) rfl ?_ SC ?_
    rotate_left
    · intro W hW
      go_simp
      (try with_reducible rfl)
    simp only [Act.put, List.setIfInBounds_toArray, List.set_cons_zero, List.set_cons_succ]
    refine fz_take 16 (v := ?_) rfl (by kernel_rfl) (by kernel_rfl) (by kernel_rfl) (by kernel_rfl) (fun _ _ _ h => h) rfl ?_ SC ?_
    rotate_left
    · intro W hW
      go_simp
      (try with_reducible rfl)
    simp only [Act.put, List.setIfInBounds_toArray, List.set_cons_zero, List.set_cons_succ]
    refine fz_take 17 (v := ?_) rfl (by kernel_rfl) (by kernel_rfl) (by kernel_rfl) (by kernel_rfl) (fun _ _ _ h => h) rfl ?_ SC ?_
    rotate_left
    · intro W hW
      go_simp
      (try with_reducible rfl)
    simp only [Act.put, List.setIfInBounds_toArray, List.set_cons_zero, List.set_cons_succ]
    refine fz_done (by kernel_rfl) (NoPanic.normal ?_)
    have W3 : Hid (VmB w wc x stZ) := W0.out.go SC
    clear SC SA
    have q2 := W3.out.ib.at (i := 2) (v := .int .i64 x.l) rfl
    have ql := W3.out.ib.lt
    go_wp2_with (first | (refine wpList_sto (cs := (stC ⟨0, t, 1, x.l, e.2.1, 0, e.2.2⟩).toArray) rfl rfl rfl rfl W3.out.rb step_sz rfl (stC_one _) ?_) | (refine wpList_mkR rfl rfl rfl rfl rfl rfl rfl ?_))
    intro ws bs os
    go_wp2
    (try simp only [Exit.inBlock, Exit.then]); refine bodyPost_ret (res_step rfl rfl bs) rfl ?_
    exact ⟨rfl, os.on W3.out.on (Nat.le_succ _)⟩
  | none =>
    rw [hn] at cN
    simp only [newV] at cN
    rw [hcn]
    go_enter Tryz.func87, Tryz.ntmps87
    go_upto_region 1 with fail
    rw [← hW1]
    clear hW1 hn
    have SA : On W1 W1.drew := (On.refl W1).drew
    refine region_fz (fun W => On W1 W) [] 18 (by kernel_rfl) rfl ?_
    refine fz_take 0 (v := ?_) rfl (by kernel_rfl) (by kernel_rfl) (by kernel_rfl) (by kernel_rfl) (fun _ _ _ h => h) rfl ?_ SA ?_
    rotate_left
    · intro W hW
      go_simp
      (try with_reducible rfl)
    simp only [Act.put, List.setIfInBounds_toArray, List.set_cons_zero, List.set_cons_succ]
    refine fz_take 1 (v := ?_) rfl (by kernel_rfl) (by kernel_rfl) (by kernel_rfl) (by kernel_rfl) (fun _ _ _ h => h) rfl ?_ SA ?_
    rotate_left
    · intro W hW
      go_simp
      (try with_reducible rfl)
    simp only [Act.put, List.setIfInBounds_toArray, List.set_cons_zero, List.set_cons_succ]
    refine fz_take 2 (v := ?_) rfl (by kernel_rfl) (by kernel_rfl) (by kernel_rfl) (by kernel_rfl) (fun _ _ _ h => h) rfl ?_ SA ?_
    rotate_left
    · intro W hW
      go_simp
      (try with_reducible rfl)
    simp only [Act.put, List.setIfInBounds_toArray, List.set_cons_zero, List.set_cons_succ]
    refine fz_take 3 (v := ?_) rfl (by kernel_rfl) (by kernel_rfl) (by kernel_rfl) (by kernel_rfl) (fun _ _ _ h => h) rfl ?_ SA ?_
    rotate_left
    · intro W hW
      go_simp
      (try with_reducible rfl)
    simp only [Act.put, List.setIfInBounds_toArray, List.set_cons_zero, List.set_cons_succ]
    refine fz_take 4 (v := ?_) rfl (by kernel_rfl) (by kernel_rfl) (by kernel_rfl) (by kernel_rfl) (fun _ _ _ h => h) rfl ?_ SA ?_
    rotate_left
    · intro W hW
      go_simp
      (try with_reducible rfl)
    simp only [Act.put, List.setIfInBounds_toArray, List.set_cons_zero, List.set_cons_succ]
    refine fz_take 5 (v := ?_) rfl (by kernel_rfl) (by kernel_rfl) (by kernel_rfl) (by kernel_rfl) (fun _ _ _ h => h) rfl ?_ SA ?_
    rotate_left
    · intro W hW
      have c0 := (HN.out.on (W0.out.on.trans hW)).at HB.out
      have cl := HN.out.lt
      go_simp
      (try with_reducible rfl)
    simp only [Act.put, List.setIfInBounds_toArray, List.set_cons_zero, List.set_cons_succ]
    refine fz_take 6 (v := ?_) rfl (by kernel_rfl) (by kernel_rfl) (by kernel_rfl) (by kernel_rfl) (fun _ _ _ h => h) rfl ?_ SA ?_
    rotate_left
    · intro W hW
      go_simp
      (try with_reducible rfl)
    simp only [Act.put, List.setIfInBounds_toArray, List.set_cons_zero, List.set_cons_succ]
    refine fz_take 7 (v := .agg (bufA b)) rfl (by kernel_rfl) (by kernel_rfl) (by kernel_rfl) (by kernel_rfl) (fun _ _ _ h => h) rfl (fun W hW => exec_bld rfl rfl ((B1.out.on (W0.out.on.trans hW)).bk)) SA ?_
    simp only [Act.put, List.setIfInBounds_toArray, List.set_cons_zero, List.set_cons_succ]
    refine fz_take 8 (v := ?_) rfl (by kernel_rfl) (by kernel_rfl) (by kernel_rfl) (by kernel_rfl) (fun _ _ _ h => h) rfl ?_ SA ?_
    rotate_left
    · intro W hW
      go_simp
      (try with_reducible rfl)
    simp only [Act.put, List.setIfInBounds_toArray, List.set_cons_zero, List.set_cons_succ]
    refine fz_take 9 (v := ?_) rfl (by kernel_rfl) (by kernel_rfl) (by kernel_rfl) (by kernel_rfl) (fun _ _ _ h => h) rfl ?_ SA ?_
    rotate_left
    · intro W hW
      have q2 := (W0.out.ib.on hW).at (i := 2) (v := .int .i64 x.l) rfl
      have ql := (W0.out.ib.on hW).lt
      go_simp
      (try with_reducible rfl)
    simp only [Act.put, List.setIfInBounds_toArray, List.set_cons_zero, List.set_cons_succ]
    refine fz_one 10 rfl rfl (by kernel_rfl) (fun K hK => ?_)
    go_simp
    refine (cN _).mono ?_
    rintro _ wc ⟨rfl, kwc⟩
    have SC : On W1 wc := SA.trans kwc
    refine hK.out _ _ (fun _ => SC) ?_
    clear hK kwc
    refine fz_take 11 (v := ?_) rfl (by kernel_rfl) (by kernel_rfl) (by kernel_rfl) (by kernel_rfl) (fun _ _ _ h => h) rfl ?_ SC ?_
    rotate_left
    · intro W hW
      go_simp
      (try with_reducible rfl)
    simp only [Act.put, List.setIfInBounds_toArray, List.set_cons_zero, List.set_cons_succ]
    refine fz_take 12 (v := ?_) rfl (by kernel_rfl) (by kernel_rfl) (by kernel_rfl) (by kernel_rfl) (fun _ _ _ h => h) rfl ?_ SC ?_
    rotate_left
    · intro W hW
      go_simp
      (try with_reducible rfl)
    simp only [Act.put, List.setIfInBounds_toArray, List.set_cons_zero, List.set_cons_succ]
    refine fz_take 13 (v := ?_) rfl (by kernel_rfl) (by kernel_rfl) (by kernel_rfl) (by kernel_rfl) (fun _ _ _ h => h) rfl ?_ SC ?_
    rotate_left
    · intro W hW
      go_simp
      (try with_reducible rfl)
    simp only [Act.put, List.setIfInBounds_toArray, List.set_cons_zero, List.set_cons_succ]
    refine fz_take 14 (v := ?_) rfl (by kernel_rfl) (by kernel_rfl) (by kernel_rfl) (by kernel_rfl) (fun _ _ _ h => h) rfl ?_ SC ?_
    rotate_left
    · intro W hW
      go_simp
      (try with_reducible rfl)
    simp only [Act.put, List.setIfInBounds_toArray, List.set_cons_zero, List.set_cons_succ]
    refine fz_take 15 (v := ?_) rfl (by kernel_rfl) (by kernel_rfl) (by kernel_rfl) (by kernel_rfl) (fun _ _ _ h => h) rfl ?_ SC ?_
    rotate_left
    · intro W hW
      go_simp
      (try with_reducible rfl)
    simp only [Act.put, List.setIfInBounds_toArray, List.set_cons_zero, List.set_cons_succ]
    refine fz_take 16 (v := ?_) rfl (by kernel_rfl) (by kernel_rfl) (by kernel_rfl) (by kernel_rfl) (fun _ _ _ h => h) rfl ?_ SC ?_
    rotate_left
    · intro W hW
      go_simp
      (try with_reducible rfl)
    simp only [Act.put, List.setIfInBounds_toArray, List.set_cons_zero, List.set_cons_succ]
    refine fz_take 17 (v := ?_) rfl (by kernel_rfl) (by kernel_rfl) (by kernel_rfl) (by kernel_rfl) (fun _ _ _ h => h) rfl ?_ SC ?_
    rotate_left
    · intro W hW
      go_simp
      (try with_reducible rfl)
    simp only [Act.put, List.setIfInBounds_toArray, List.set_cons_zero, List.set_cons_succ]
    refine fz_done (by kernel_rfl) (NoPanic.normal ?_)
    have W2 : Hid (VmB w wc x stZ) := W0.out.go SC
    clear SC SA
    go_wp2
    have SA : On wc wc.drew := (On.refl wc).drew
    refine region_fz (fun W => On wc W) [] 16 (by kernel_rfl) rfl ?_
    refine fz_take 0 (v := ?_) rfl (by kernel_rfl) (by kernel_rfl) (by kernel_rfl) (by kernel_rfl) (fun _ _ _ h => h) rfl ?_ SA ?_
    rotate_left
    · intro W hW
      go_simp
      (try with_reducible rfl)
    simp only [Act.put, List.setIfInBounds_toArray, List.set_cons_zero, List.set_cons_succ]
    refine fz_take 1 (v := ?_) rfl (by kernel_rfl) (by kernel_rfl) (by kernel_rfl) (by kernel_rfl) (fun _ _ _ h => h) rfl ?_ SA ?_
    rotate_left
    · intro W hW
      go_simp
      (try with_reducible rfl)
    simp only [Act.put, List.setIfInBounds_toArray, List.set_cons_zero, List.set_cons_succ]
    refine fz_take 2 (v := ?_) rfl (by kernel_rfl) (by kernel_rfl) (by kernel_rfl) (by kernel_rfl) (fun _ _ _ h => h) rfl ?_ SA ?_
    rotate_left
    · intro W hW
      have q2 := (W2.out.ib.on hW).at (i := 2) (v := .int .i64 x.l) rfl
      rw [HX.out] at q2
      have ql := (W2.out.ib.on hW).lt
      go_simp
      (try with_reducible rfl)
    simp only [Act.put, List.setIfInBounds_toArray, List.set_cons_zero, List.set_cons_succ]
    refine fz_take 3 (v := ?_) rfl (by kernel_rfl) (by kernel_rfl) (by kernel_rfl) (by kernel_rfl) (fun _ _ _ h => h) rfl ?_ SA ?_
    rotate_left
    · intro W hW
      go_simp
      (try with_reducible rfl)
    simp only [Act.put, List.setIfInBounds_toArray, List.set_cons_zero, List.set_cons_succ]
    refine fz_take 4 (v := ?_) rfl (by kernel_rfl) (by kernel_rfl) (by kernel_rfl) (by kernel_rfl) (fun _ _ _ h => h) rfl ?_ SA ?_
    rotate_left
    · intro W hW
      go_simp
      (try with_reducible rfl)
    simp only [Act.put, List.setIfInBounds_toArray, List.set_cons_zero, List.set_cons_succ]
    refine fz_take 5 (v := ?_) rfl (by kernel_rfl) (by kernel_rfl) (by kernel_rfl) (by kernel_rfl) (fun _ _ _ h => h) rfl ?_ SA ?_
    rotate_left
    · intro W hW
      go_simp
      (try with_reducible rfl)
    simp only [Act.put, List.setIfInBounds_toArray, List.set_cons_zero, List.set_cons_succ]
    refine fz_take 6 (v := ?_) rfl (by kernel_rfl) (by kernel_rfl) (by kernel_rfl) (by kernel_rfl) (fun _ _ _ h => h) rfl ?_ SA ?_
    rotate_left
    · intro W hW
      have c0 := (HN.out.on (W2.out.on.trans hW)).at (vm_mem hc)
      have cl := HN.out.lt
      go_simp
      (try with_reducible rfl)
    simp only [Act.put, List.setIfInBounds_toArray, List.set_cons_zero, List.set_cons_succ]
    refine fz_take 7 (v := ?_) rfl (by kernel_rfl) (by kernel_rfl) (by kernel_rfl) (by kernel_rfl) (fun _ _ _ h => h) rfl ?_ SA ?_
    rotate_left
    · intro W hW
      go_simp
      (try with_reducible rfl)
    simp only [Act.put, List.setIfInBounds_toArray, List.set_cons_zero, List.set_cons_succ]
    refine fz_take 8 (v := ?_) rfl (by kernel_rfl) (by kernel_rfl) (by kernel_rfl) (by kernel_rfl) (fun _ _ _ h => h) rfl ?_ SA ?_
    rotate_left
    · intro W hW
      go_simp
      (try with_reducible rfl)
    simp only [Act.put, List.setIfInBounds_toArray, List.set_cons_zero, List.set_cons_succ]
    refine fz_take 9 (v := ?_) rfl (by kernel_rfl) (by kernel_rfl) (by kernel_rfl) (by kernel_rfl) (fun _ _ _ h => h) rfl ?_ SA ?_
    rotate_left
    · intro W hW
      have q2 := (W2.out.ib.on hW).at (i := 2) (v := .int .i64 x.l) rfl
      rw [HX.out] at q2
      have ql := (W2.out.ib.on hW).lt
      go_simp
      (try with_reducible rfl)
    simp only [Act.put, List.setIfInBounds_toArray, List.set_cons_zero, List.set_cons_succ]
    refine fz_take 10 (v := ?_) rfl (by kernel_rfl) (by kernel_rfl) (by kernel_rfl) (by kernel_rfl) (fun _ _ _ h => h) rfl ?_ SA ?_
    rotate_left
    · intro W hW
      go_simp
      (try with_reducible rfl)
    simp only [Act.put, List.setIfInBounds_toArray, List.set_cons_zero, List.set_cons_succ]
    refine fz_take 11 (v := ?_) rfl (by kernel_rfl) (by kernel_rfl) (by kernel_rfl) (by kernel_rfl) (fun _ _ _ h => h) rfl ?_ SA ?_
    rotate_left
    · intro W hW
      go_simp
      (try with_reducible rfl)
    simp only [Act.put, List.setIfInBounds_toArray, List.set_cons_zero, List.set_cons_succ]
    refine fz_take 12 (v := ?_) rfl (by kernel_rfl) (by kernel_rfl) (by kernel_rfl) (by kernel_rfl) (fun _ _ _ h => h) rfl ?_ SA ?_
    rotate_left
    · intro W hW
      go_simp
      (try with_reducible rfl)
    simp only [Act.put, List.setIfInBounds_toArray, List.set_cons_zero, List.set_cons_succ]
    refine fz_take 13 (v := ?_) rfl (by kernel_rfl) (by kernel_rfl) (by kernel_rfl) (by kernel_rfl) (fun _ _ _ h => h) rfl ?_ SA ?_
    rotate_left
    · intro W hW
      have c0 := (HN.out.on (W2.out.on.trans hW)).at (vm_wr hc)
      have cl := HN.out.lt
      go_simp
      (try with_reducible rfl)
    simp only [Act.put, List.setIfInBounds_toArray, List.set_cons_zero, List.set_cons_succ]
    refine fz_take 14 (v := ?_) rfl (by kernel_rfl) (by kernel_rfl) (by kernel_rfl) (by kernel_rfl) (fun _ _ _ h => h) rfl ?_ SA ?_
    rotate_left
    · intro W hW
      go_simp
      (try with_reducible rfl)
    simp only [Act.put, List.setIfInBounds_toArray, List.set_cons_zero, List.set_cons_succ]
    refine fz_take 15 (v := ?_) rfl (by kernel_rfl) (by kernel_rfl) (by kernel_rfl) (by kernel_rfl) (fun _ _ _ h => h) rfl ?_ SA ?_
    rotate_left
    · intro W hW
      go_simp
      (try with_reducible rfl)
    simp only [Act.put, List.setIfInBounds_toArray, List.set_cons_zero, List.set_cons_succ]
    refine fz_done (by kernel_rfl) (NoPanic.normal ?_)
    have W3 : Hid (VmB w wc.drew x stZ) := W2.out.go SA
    clear SA
    have q2 := W3.out.ib.at (i := 2) (v := .int .i64 x.l) rfl
    have ql := W3.out.ib.lt
    go_wp2_with (first | (refine wpList_sto (cs := (stC ⟨0, t, 1, x.l, V.mem c, 0, V.wr c⟩).toArray) rfl rfl rfl rfl W3.out.rb step_sz rfl (stC_one _) ?_) | (refine wpList_mkR rfl rfl rfl rfl rfl rfl rfl ?_))
    intro ws bs os
    go_wp2
    (try simp only [Exit.inBlock, Exit.then]); refine bodyPost_ret (res_step rfl rfl bs) rfl ?_
    exact ⟨rfl, os.on W3.out.on (Nat.le_succ _)⟩
end Go.Proofs.YtplihlmejnohnaaGreatDoor
