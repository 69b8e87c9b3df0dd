/- buf.Oldest and List. -/
import Derived.Test.YtnoeofbjnogkmaaBufL
namespace Go.Proofs.Ytnoeofbjnogkmaa
open Go.RowKit

set_option maxHeartbeats 2000000 in
set_option maxRecDepth 8000 in
theorem oldest_is (b : BufT) (c : Int) (w : World) : Calls Try.prog 16 #[.agg (bufA b), .int .i64 c] w fun e w' => e = .returned (oldV (oldB b c)) ∧ On w w' := by
  obtain ⟨W1, hW1⟩ : ∃ W1, W1 = w.alloc (.cells (bufA b) 27) := ⟨_, rfl⟩
  have B1 : Hid (Bk W1 w.heap.size (bufA b)) := by show Bk _ _ _; rw [hW1]; exact Bk.new w _ _
  have K1 : Hid (On w W1) := by show On _ _; rw [hW1]; exact (On.refl w).alloc _
  have hS := span_is b c W1
  obtain ⟨hab, hbl⟩ := sp_le b c
  have hl := b.len
  by_cases h : spA b c = spB b c
  · rw [oldB_none h]
    rw [h] at hS
    obtain ⟨k, hk⟩ : ∃ k, k = spB b c := ⟨_, rfl⟩
    rw [← hk] at hS
    clear h hab hbl hl hk
    go_enter Try.func16, Try.ntmps16
    go_upto_region 1 with fail
    rw [← hW1]
    clear hW1
    go_wp2_with (refine wpList_bld rfl rfl rfl B1.out ?_)
    refine hS.mono ?_
    rintro _ w1 ⟨rfl, k1⟩
    have K2 : Hid (On w w1) := K1.out.trans k1
    clear k1
    go_wp2
    (try simp only [Exit.inBlock, Exit.then]); refine bodyPost_ret (results_tmp4 rfl _ _ _) rfl ?_
    exact ⟨rfl, K2.out⟩
  · obtain ⟨e, he⟩ : ∃ e, b.l[spA b c]? = some e := ⟨_, List.getElem?_eq_getElem (by omega)⟩
    rw [oldB_some (by omega) he]
    have HE : Hid (b.l[spA b c]? = some e) := he
    have hne : ((spA b c : Int) == (spB b c : Int)) = false := by simp; omega
    have h24 : spA b c < 24 := by omega
    clear he h hab hbl hl
    obtain ⟨x, hx⟩ : ∃ x, x = spA b c := ⟨_, rfl⟩
    obtain ⟨y, hy⟩ : ∃ y, y = spB b c := ⟨_, rfl⟩
    rw [← hx] at hS HE hne h24
    rw [← hy] at hS hne
    clear hx hy
    have b1 : (x : Int) < 24 := by omega
    have b2 : decide ((x : Int) < 0) = false := decide_eq_false (by omega)
    have b4 : (0 : Int) ≤ (x : Int) := by omega
    clear h24
    go_enter Try.func16, Try.ntmps16
    go_upto_region 1 with fail
    rw [← hW1]
    clear hW1
    go_wp2_with (refine wpList_bld rfl rfl rfl B1.out ?_)
    refine hS.mono ?_
    rintro _ w1 ⟨rfl, k1⟩
    have K2 : Hid (On w w1) := K1.out.trans k1
    have R1 : Hid (w1.rangeAt w.heap.size (2 + x * 3) (entC e)) := (B1.out.on k1).enR (padR_at HE.out)
    obtain ⟨W2, hW2⟩ : ∃ W2, W2 = w1.alloc (.cells (entA e) 24) := ⟨_, rfl⟩
    have B2 : Bk W2 w1.heap.size (entA e) := by rw [hW2]; exact Bk.new w1 _ _
    have K3 : Hid (On w W2) := by show On _ _; rw [hW2]; exact K2.out.alloc _
    have c0 := B2.at (i := 0) (v := .int .i64 e.1) rfl
    have c1 := B2.at (i := 1) (v := .int .i64 e.2.1) rfl
    have c2 := B2.at (i := 2) (v := .int .i64 e.2.2) rfl
    have HW2 : Hid (W2 = w1.alloc (.cells (entA e) 24)) := hW2
    clear k1 B2 hW2
    go_wp2_with (first | (refine wpList_eld rfl rfl rfl R1.out ?_) | (refine wpList_estN rfl rfl rfl rfl (by exact rfl) ?_; rw [← HW2.out]))
    go_quiet (fail)
    go_wp2
    (try simp only [Exit.inBlock, Exit.then]); refine bodyPost_ret (results_tmp4 rfl _ _ _) rfl ?_
    exact ⟨rfl, K3.out.drewN _⟩
set_option maxHeartbeats 2000000 in
set_option maxRecDepth 8000 in
theorem list_is (b : BufT) (c : Int) (w : World) : Calls Try.prog 12 #[.agg (bufA b), .int .i64 c] w fun e w' => ∃ v, e = .returned v ∧ w'.ownsRow w.heap.size 24 3 v (rowB b c).length ((rowB b c).flatMap entC) ∧ On w w' := by
  obtain ⟨W1, hW1⟩ : ∃ W1, W1 = w.alloc (.cells (bufA b) 27) := ⟨_, rfl⟩
  have B1 : Hid (Bk W1 w.heap.size (bufA b)) := by show Bk _ _ _; rw [hW1]; exact Bk.new w _ _
  have K1 : Hid (On w W1) := by show On _ _; rw [hW1]; exact (On.refl w).alloc _
  have hS := span_is b c W1
  obtain ⟨hab, hbl⟩ := sp_le b c
  have hl := b.len
  have eR : (padR b.l |>.drop (spA b c)).take (spB b c - spA b c) = rowB b c := by
    unfold rowB padR
    rw [List.drop_append_of_le_length (by omega), List.take_append_of_le_length (by rw [List.length_drop]; omega)]
  have HR : Hid (((padR b.l).drop (spA b c)).take (spB b c - spA b c) = rowB b c) := eR
  have HL : Hid ((padR b.l).length = 24) := padR_len b.len
  have HRL : Hid ((rowB b c).length = spB b c - spA b c) := rowB_len b c
  obtain ⟨L, hL⟩ : ∃ L, L = rowB b c := ⟨_, rfl⟩
  rw [← hL] at HR HRL ⊢
  obtain ⟨x, hx⟩ : ∃ x, x = spA b c := ⟨_, rfl⟩
  obtain ⟨y, hy⟩ : ∃ y, y = spB b c := ⟨_, rfl⟩
  rw [← hx] at hS HR HRL hab
  rw [← hy] at hS HR HRL hab hbl
  have HXY : Hid (x ≤ y ∧ y ≤ 24) := ⟨hab, by omega⟩
  clear hx hy hL eR hab hbl hl
  go_enter Try.func12, Try.ntmps12
  go_upto_region 1 with fail
  rw [← hW1]
  clear hW1
  go_wp2_with (refine wpList_bld rfl rfl rfl B1.out ?_)
  refine hS.mono ?_
  rintro _ w1 ⟨rfl, k1⟩
  have K2 : Hid (On w w1) := K1.out.trans k1
  have R1 : Hid (Rd entC 3 w1 (.slice (some (slA w.heap.size x)) (y - x) (24 - x)) L) := by
    show Rd _ _ _ _ _
    rw [← HR.out]
    exact (B1.out.on k1).places HL.out HXY.out.1 HXY.out.2
  clear k1
  go_wp2_with (first
    | (refine wpList_yield rfl (exec_lh rfl rfl rfl rfl HXY.out.1 HXY.out.2) ?_)
    | (refine wpList_plain rfl fun K hK => wp_append_rdG elEnt entC_len _ _ rfl (X := []) (Y := L) rfl rfl (flat_oneC entC_one L) ⟨rfl, Or.inl ⟨rfl, rfl⟩⟩ R1.out (by rw [HRL.out]; have := HXY.out; simp; omega) (by decide) K2.out.size fun v' w' ho hg => hK _ _ ?_
       have HO : Hid (w'.ownsRow w.heap.size 24 3 v' L.length (L.flatMap entC)) := ho
       have K3 : Hid (On w w') := K2.out.grownNone hg
       clear ho hg))
  go_ret
  exact ⟨_, rfl, HO.out, K3.out⟩
end Go.Proofs.Ytnoeofbjnogkmaa
