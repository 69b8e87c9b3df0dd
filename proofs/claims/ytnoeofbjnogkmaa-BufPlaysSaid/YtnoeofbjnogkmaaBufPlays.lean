/- The law BufPlays, walked. -/
import Derived.Test.YtnoeofbjnogkmaaBufE
import Derived.Test.YtnoeofbjnogkmaaBufH
namespace Go.Proofs.Ytnoeofbjnogkmaa
open Go.RowKit

theorem wput_yes {m : Int} {w : List EnT} {e : EnT} (hm : m = 2 ∨ m = 3) (h0 : 0 ≤ e.1) (h3 : e.1 ≤ 3) (hl : w.length < 24) : wput m w e = w ++ [e] := if_pos ⟨hm, h0, h3, hl⟩
theorem wput_not {m : Int} {w : List EnT} {e : EnT} (h : ¬ ((m = 2 ∨ m = 3) ∧ 0 ≤ e.1 ∧ e.1 ≤ 3 ∧ w.length < 24)) : wput m w e = w := if_neg h
theorem wput_in {m : Int} {w : List EnT} {e : EnT} (he : EnIn e) (h : ∀ x ∈ w, EnIn x) : ∀ x ∈ wput m w e, EnIn x := by
  intro x hx
  rcases wput_mem hx with rfl | hx
  · exact he
  · exact h x hx
theorem wcut_in {m c : Int} {w : List EnT} (h : ∀ x ∈ w, EnIn x) : ∀ x ∈ wcut m w c, EnIn x := by
  intro x hx
  unfold wcut at hx
  split at hx
  · exact h x (cutL_mem hx)
  · exact h x hx
theorem wcut_yes {m c : Int} {w : List EnT} {k : Nat} (h : firstV m w c = (k : Int)) : wcut m w c = w.take k ++ w.drop (k + 1) ∧ k < w.length := by
  unfold firstV at h
  unfold wcut
  split at h
  · rename_i h1
    have e : fstN m w c = k := by omega
    rw [if_pos h1, e]
    exact ⟨rfl, by omega⟩
  · omega
theorem wcut_not {m c : Int} {w : List EnT} (h : firstV m w c = -1) : wcut m w c = w := by
  unfold firstV at h
  split at h
  · omega
  · rename_i h1
    exact if_neg h1
/-- The guards of the law's 'may it be put', each way. -/
theorem may_put (m x : Int) (n : Nat) :
    (((m == 2) = true ∧ decide (0 ≤ x) = true ∧ decide (x ≤ 3) = true ∧ decide ((n : Int) < 24) = true ∧ ((m = 2 ∨ m = 3) ∧ 0 ≤ x ∧ x ≤ 3 ∧ n < 24)) ∨
     ((m == 2) = false ∧ (m == 3) = true ∧ decide (0 ≤ x) = true ∧ decide (x ≤ 3) = true ∧ decide ((n : Int) < 24) = true ∧ ((m = 2 ∨ m = 3) ∧ 0 ≤ x ∧ x ≤ 3 ∧ n < 24))) ∨
    (¬ ((m = 2 ∨ m = 3) ∧ 0 ≤ x ∧ x ≤ 3 ∧ n < 24) ∧
     (((m == 2) = false ∧ (m == 3) = false) ∨
      ((m == 2) = true ∧ decide (0 ≤ x) = false) ∨ ((m == 2) = false ∧ (m == 3) = true ∧ decide (0 ≤ x) = false) ∨
      ((m == 2) = true ∧ decide (0 ≤ x) = true ∧ decide (x ≤ 3) = false) ∨ ((m == 2) = false ∧ (m == 3) = true ∧ decide (0 ≤ x) = true ∧ decide (x ≤ 3) = false) ∨
      ((m == 2) = true ∧ decide (0 ≤ x) = true ∧ decide (x ≤ 3) = true ∧ decide ((n : Int) < 24) = false) ∨ ((m == 2) = false ∧ (m == 3) = true ∧ decide (0 ≤ x) = true ∧ decide (x ≤ 3) = true ∧ decide ((n : Int) < 24) = false))) := by
  simp only [decide_eq_true_eq, decide_eq_false_iff_not, beq_iff_eq, beq_eq_false_iff_ne, ne_eq]
  omega
set_option maxHeartbeats 16000000 in
set_option maxRecDepth 8000 in
theorem bufPlays_walk (m : Int) (a : Option Addr) (L : List OpT) (cap : Nat) (loc : Int) (w : World) (hr : Rd opC 3 w (.slice a L.length cap) L) (hm : InR m) : Calls Try.prog 5 #[.int .i64 m, .slice a L.length cap, .int .i64 loc] w fun e w' => e = .returned (.bool true) ∧ On w w' := by
  have hz : ∀ w, (zeroValue 27).run Try.prog w = .ok (.agg (bufA bufZ)) w := fun w => (zero_of_info buf_info).1 w
  have h1 := fun W => new_is m hm W
  have HP0 : Hid (BW m (newB m hm) []) := BW.new m hm
  have HR : Hid (Rd opC 3 w (.slice a L.length cap) L) := hr
  have HA := fun W => awake15_is W
  generalize newB m hm = b at *
  clear hr hm
  go_enter Try.func5, Try.ntmps5
  go_wp2_with fail
  refine (h1 _).mono ?_
  rintro _ w1 ⟨rfl, k1⟩
  have M1 : Hid (PlM w (w1.alloc (.cells (bufA b) 27)) w1.heap.size b none 0 0 []) := ⟨k1.alloc _, k1.size, Bk.new w1 _ _, rfl, ⟨rfl, Or.inl ⟨rfl, rfl⟩⟩⟩
  clear h1 k1
  go_wp2_with (refine wpList_bstN rfl rfl (bufA_size _) rfl (by exact rfl) ?_)
  generalize w1.alloc (.cells (bufA b) 27) = w2 at *
  generalize w1.heap.size = N at *
  go_loopg [8, 9] 60 (fun gg s8 s9 wr => ∃ (i : Nat) (b : BufT) (wa : Option Addr) (nw cw : Nat) (wl : List EnT), i ≤ 60 ∧ gg = 60 - i ∧ s8 = .slice wa nw cw ∧ s9 = .int .i64 (i : Nat) ∧ Hid (BW m b wl) ∧ Hid (∀ e ∈ wl, EnIn e) ∧ Hid (PlM w wr N b wa nw cw wl))
  case atStart => exact ⟨0, b, none, 0, 0, [], by decide, rfl, rfl, rfl, HP0, fun _ h => by simp at h, M1⟩
  case round =>
    obtain ⟨i, b, wa, nw, cw, wl, hin, hg, rfl, rfl, HB, HIN, HM⟩ := hrel
    have HI : Hid (i ≤ 60) := hin
    have HG : Hid (gk = 60 - i) := hg
    clear HP0 M1 hg hin
    by_cases hgo : i < L.length ∧ i < 60
    · obtain ⟨hiL, hi60⟩ := hgo
      obtain ⟨o, ho⟩ : ∃ o, L[i]? = some o := ⟨_, List.getElem?_eq_getElem hiL⟩
      obtain ⟨g, off, hae, hoa⟩ := rd_ops HR.out (Nat.lt_of_le_of_lt (Nat.zero_le _) hiL)
      subst hae
      have HOA : Hid (OpAt wr g (off + i * 3) o) := (hoa i o ho).on HM.out.on
      have he : EnIn (o.l, o.v, (i : Int)) := enIn3 o.2.2.1 o.2.2.2 (inr_nat (Nat.le_trans (Nat.le_of_lt hi60) (by decide)))
      have HE : Hid (EnIn (o.l, o.v, (i : Int))) := he
      have hov : wrap64 ((i : Int) + 1) = ((i + 1 : Nat) : Int) := wrapN (Nat.le_trans (Nat.le_of_lt hi60) (by decide))
      have d1 : (i : Int) < (L.length : Int) := nat_lt hiL
      have d2 : decide ((i : Int) < 0) = false := nat_nn i
      have d4 : (0 : Int) ≤ (i : Int) := nat_0 i
      have d5 : (i : Int) < 60 := nat_lt hi60
      have HL : Hid (i < 60) := hi60
      have hzo : ∀ w, (zeroValue 32).run Try.prog w = .ok (.agg #[.int .i64 0, .int .i64 0, .int .i64 0]) w := fun w => (zero_of_info op_info).1 w
      have RO : Hid (wr.rangeAt g (off + i * 3) (opC o)) := HOA.out.range
      obtain ⟨W2, hW2⟩ : ∃ W2, W2 = wr.alloc (.cells (opA o) 32) := ⟨_, rfl⟩
      have z2 : W2.heap.size = wr.heap.size + 1 := by rw [hW2]; simp
      have O2 : OpAt W2 wr.heap.size 0 o := by
        have B := Bk.new wr (opA o) 32
        rw [← hW2] at B
        exact ⟨B.lt, B.at rfl, B.at rfl, B.at rfl⟩
      have K2 : On wr W2 := by rw [hW2]; exact (On.refl wr).alloc _
      have HW2 : Hid (W2 = wr.alloc (.cells (opA o) 32)) := hW2
      obtain ⟨W3, hW3⟩ : ∃ W3, W3 = W2.alloc (.cells (bufA b) 27) := ⟨_, rfl⟩
      have HW3 : Hid (W3 = W2.alloc (.cells (bufA b) 27)) := hW3
      have K3 : On W2 W3 := by rw [hW3]; exact (On.refl W2).alloc _
      have O3 : Hid (Bk W3 W2.heap.size (bufA b)) := by show Bk _ _ _; rw [hW3]; exact Bk.new W2 _ _
      have HOP : Hid (OpAt W3 wr.heap.size 0 o) := O2.on K3
      have MA : Hid (PlM w W2 N b wa nw cw wl) := HM.out.go K2
      have M3 : Hid (PlM w W3 N b wa nw cw wl) := MA.out.go K3
      have O3' : Hid (Bk W3 (wr.heap.size + 1) (bufA b)) := by show Bk _ _ _; rw [← z2]; exact O3.out
      have f0 : W3.cell? ⟨wr.heap.size, 0, none⟩ = some (.int .i64 o.k) := HOP.out.k
      have f1 : W3.cell? ⟨wr.heap.size, 1, none⟩ = some (.int .i64 o.l) := HOP.out.l
      have f2 : W3.cell? ⟨wr.heap.size, 2, none⟩ = some (.int .i64 o.v) := HOP.out.v
      have fl := HOP.out.lt
      have HN10 : Hid (N < wr.heap.size) := HM.out.b7.lt
      have HLW : Hid (wl.length ≤ 24) := by show _ ≤ _; rw [← HB.out.1]; exact b.len
      clear hoa ho hiL hi60 hW2 hW3 K2 K3 he O2 O3
      go_upto_if 33 with (first
        | (refine wpList_old rfl rfl rfl RO.out ?_)
        | (refine wpList_ostN rfl rfl rfl rfl (by exact rfl) ?_; rw [← HW2.out])
        | (refine wpList_bld rfl rfl rfl MA.out.b7 ?_)
        | (rw [← z2]; refine wpList_bstN rfl rfl (bufA_size _) rfl (by exact rfl) ?_; rw [← HW3.out]))
      clear hz hzo z2 HW2 HW3 MA HM RO
      go_cut [8] from 16 to 113 (fun u8 wc => ∃ (b' : BufT) (wa : Option Addr) (nw cw : Nat) (wl : List EnT), u8 = .slice wa nw cw ∧ Hid (BW m b' wl) ∧ Hid (∀ e ∈ wl, EnIn e) ∧ Hid (PlM w wc N b' wa nw cw wl) ∧ Hid (Bk wc (wr.heap.size + 1) (bufA b)))
      case first =>
        by_cases hk : o.k = 0
        · have hkb : (o.k == 0) = true := by simp [hk]
          have hput := HB.out.put HE.out
          have hpin := wput_in (m := m) HE.out HIN.out
          have cP := fun W => put_is b o.l o.v i HE.out W
          have HPB : Hid (BW m (putB b _ HE.out) (wput m wl (o.l, o.v, (i : Int)))) := hput
          have HPI : Hid (∀ x ∈ wput m wl (o.l, o.v, (i : Int)), EnIn x) := hpin
          generalize putB b _ HE.out = bb at *
          generalize o.k = ok at f0 hkb
          clear hk hput hpin
          go_wp2_with (refine wpList_bld rfl rfl rfl M3.out.b7 ?_)
          refine (cP _).mono ?_
          rintro _ w4 ⟨rfl, k4⟩
          have M4 : Hid (PlM w w4 N b wa nw cw wl) := M3.out.go k4
          have MP : Hid (PlM w (w4.setRow N (bufA bb)) N bb wa nw cw wl) := M4.out.set bb
          have HOQ : Hid (OpAt (w4.setRow N (bufA bb)) wr.heap.size 0 o) := (HOP.out.on k4).setRow (by have := HN10.out; omega) _
          have OP11 : Hid (Bk (w4.setRow N (bufA bb)) (wr.heap.size + 1) (bufA b)) := (O3'.out.on k4).rowFar (by have := HN10.out; omega) _
          clear k4 cP M3 HOP O3' f0 f1 f2 fl
          go_upto_region 10 with (refine wpList_bst rfl rfl rfl (by exact rfl) M4.out.b7 ?_)
          clear M4
          generalize w4.setRow N (bufA bb) = wp at *
          have f1 : wp.cell? ⟨wr.heap.size, 1, none⟩ = some (.int .i64 o.l) := HOQ.out.l
          have fl := HOQ.out.lt
          rcases may_put m o.l nw with (⟨c1, c2, c3, c4, hy⟩ | ⟨c1, c1', c2, c3, c4, hy⟩) | ⟨hno, hc⟩
          · have HY : Hid (wput m wl (o.l, o.v, (i : Int)) = wl ++ [(o.l, o.v, (i : Int))]) := wput_yes hy.1 hy.2.1 hy.2.2.1 (by rw [← MP.out.len]; exact hy.2.2.2)
            clear hy
            have HPB2 : Hid (BW m bb (wl ++ [(o.l, o.v, (i : Int))])) := by have := HPB.out; rw [HY.out] at this; exact this
            have HPI2 : Hid (∀ x ∈ wl ++ [(o.l, o.v, (i : Int))], EnIn x) := by have := HPI.out; rw [HY.out] at this; exact this
            have HOP : Hid (OpAt wp wr.heap.size 0 o) := HOQ.out
            have HNB : Hid (N + 1 ≤ wp.heap.size) := MP.out.b7.lt
            have HRD : Hid (Rd entC 3 wp.drew (.slice wa nw cw) wl) := MP.out.rd.on ((On.refl wp).drew)
            have HLT : Hid (wl.length ≤ 1000000) := Nat.le_trans HLW.out (by decide)
            have HL1 : Hid (wl.length + [(o.l, o.v, (i : Int))].length ≤ 1000000) := lens3 _ HLW.out
            clear HPB HPI HY
            go_wp2
            clear f1 fl
            have S0 : On wp wp.drew := (On.refl wp).drew
            refine region_fz (fun W => On wp W) [] 12 (by kernel_rfl) rfl ?_
            refine fz_take 1 (v := ?_) rfl (by kernel_rfl) (by kernel_rfl) (by kernel_rfl) (by kernel_rfl) (fun _ _ _ h => h) rfl ?_ S0 ?_
            rotate_left
            · intro W hW
              have g0 : W.cell? ⟨wr.heap.size, 1, none⟩ = some (.int .i64 o.l) := (HOP.out.on hW).l
              have g1 : W.cell? ⟨wr.heap.size, 2, none⟩ = some (.int .i64 o.v) := (HOP.out.on hW).v
              have g2 := (HOP.out.on hW).lt
              go_simp
              (try with_reducible rfl)
            simp only [Act.put, List.setIfInBounds_toArray, List.set_cons_zero, List.set_cons_succ]
            refine fz_take 3 (v := ?_) rfl (by kernel_rfl) (by kernel_rfl) (by kernel_rfl) (by kernel_rfl) (fun _ _ _ h => h) rfl ?_ S0 ?_
            rotate_left
            · intro W hW
              have g0 : W.cell? ⟨wr.heap.size, 1, none⟩ = some (.int .i64 o.l) := (HOP.out.on hW).l
              have g1 : W.cell? ⟨wr.heap.size, 2, none⟩ = some (.int .i64 o.v) := (HOP.out.on hW).v
              have g2 := (HOP.out.on hW).lt
              go_simp
              (try with_reducible rfl)
            simp only [Act.put, List.setIfInBounds_toArray, List.set_cons_zero, List.set_cons_succ]
            refine fz_take 4 (v := ?_) rfl (by kernel_rfl) (by kernel_rfl) (by kernel_rfl) (by kernel_rfl) (fun _ _ _ h => h) rfl ?_ S0 ?_
            rotate_left
            · intro W hW
              have g0 : W.cell? ⟨wr.heap.size, 1, none⟩ = some (.int .i64 o.l) := (HOP.out.on hW).l
              have g1 : W.cell? ⟨wr.heap.size, 2, none⟩ = some (.int .i64 o.v) := (HOP.out.on hW).v
              have g2 := (HOP.out.on hW).lt
              go_simp
              (try with_reducible rfl)
            simp only [Act.put, List.setIfInBounds_toArray, List.set_cons_zero, List.set_cons_succ]
            refine fz_take 5 (v := ?_) rfl (by kernel_rfl) (by kernel_rfl) (by kernel_rfl) (by kernel_rfl) (fun _ _ _ h => h) rfl ?_ S0 ?_
            rotate_left
            · intro W hW
              have g0 : W.cell? ⟨wr.heap.size, 1, none⟩ = some (.int .i64 o.l) := (HOP.out.on hW).l
              have g1 : W.cell? ⟨wr.heap.size, 2, none⟩ = some (.int .i64 o.v) := (HOP.out.on hW).v
              have g2 := (HOP.out.on hW).lt
              go_simp
              (try with_reducible rfl)
            simp only [Act.put, List.setIfInBounds_toArray, List.set_cons_zero, List.set_cons_succ]
            refine fz_take 6 (v := ?_) rfl (by kernel_rfl) (by kernel_rfl) (by kernel_rfl) (by kernel_rfl) (fun _ _ _ h => h) rfl ?_ S0 ?_
            rotate_left
            · intro W hW
              have g0 : W.cell? ⟨wr.heap.size, 1, none⟩ = some (.int .i64 o.l) := (HOP.out.on hW).l
              have g1 : W.cell? ⟨wr.heap.size, 2, none⟩ = some (.int .i64 o.v) := (HOP.out.on hW).v
              have g2 := (HOP.out.on hW).lt
              go_simp
              (try with_reducible rfl)
            simp only [Act.put, List.setIfInBounds_toArray, List.set_cons_zero, List.set_cons_succ]
            refine fz_take 7 (v := ?_) rfl (by kernel_rfl) (by kernel_rfl) (by kernel_rfl) (by kernel_rfl) (fun _ _ _ h => h) rfl ?_ S0 ?_
            rotate_left
            · intro W hW
              have g0 : W.cell? ⟨wr.heap.size, 1, none⟩ = some (.int .i64 o.l) := (HOP.out.on hW).l
              have g1 : W.cell? ⟨wr.heap.size, 2, none⟩ = some (.int .i64 o.v) := (HOP.out.on hW).v
              have g2 := (HOP.out.on hW).lt
              go_simp
              (try with_reducible rfl)
            simp only [Act.put, List.setIfInBounds_toArray, List.set_cons_zero, List.set_cons_succ]
            refine fz_take 8 (v := .agg (entA (o.l, o.v, (i : Int)))) rfl (by kernel_rfl) (by kernel_rfl) (by kernel_rfl) (by kernel_rfl) (fun _ _ _ h => h) rfl (fun W _ => exec_mk3E rfl rfl rfl rfl W) S0 ?_
            simp only [Act.put, List.setIfInBounds_toArray, List.set_cons_zero, List.set_cons_succ]
            refine fz_grow [(0, 62, none), (2, 64, none), (9, 71, none)] (fun jj v W => (jj = 0 → ∃ g, v = .slice (some ⟨g, 0, none⟩) 0 0 ∧ World.ownsRow W wp.heap.size 24 3 v 0 []) ∧ (jj = 2 → World.ownsRow W wp.heap.size 24 3 v wl.length (wl.flatMap entC)) ∧ (jj = 9 → ∃ g, v = .slice (some ⟨g, 0, none⟩) 1 1 ∧ Bk W g (entA (o.l, o.v, (i : Int))))) #[true, true, true, true, true, true, true, true, true, true, false, false] 3 2 (by simp) (by simp) ?_ rfl (fun _ _ h k => h.trans k) S0 ?_ (by kernel_rfl) (by kernel_rfl) ?_ ?_
            · intro x hx
              simp only [List.mem_cons, List.not_mem_nil, or_false] at hx
              rcases hx with rfl | rfl | rfl <;> rfl
            · intro i v w w' h k
              exact ⟨fun e => (fun h => by obtain ⟨g, h1, h2⟩ := h; exact ⟨g, h1, own_on h2 k⟩) (h.1 e), fun e => (fun h => own_on h k) (h.2.1 e), fun e => (fun h => by obtain ⟨g, h1, h2⟩ := h; exact ⟨g, h1, h2.on k⟩) (h.2.2 e)⟩
            · intro i d c hi
              simp only [List.mem_cons, Prod.mk.injEq, List.not_mem_nil, or_false] at hi
              rcases hi with ⟨rfl, rfl, rfl⟩ | ⟨rfl, rfl, rfl⟩ | ⟨rfl, rfl, rfl⟩
              · refine ⟨_, rfl, rfl, fun p W' l' K hr hm hS hK => ?_⟩
                have kW := hm.on
                clear hm hr
                simp only [putsA, putsD, List.foldl_cons, List.foldl_nil, Act.put, List.setIfInBounds_toArray, List.set_cons_zero, List.set_cons_succ] at hK ⊢
                go_simp
                exact hK _ _ ((On.refl W').alloc _) ⟨fun _ => ⟨_, rfl, own_empty W' _ 3 _ (show wp.heap.size ≤ _ from kW.size)⟩, fun e => absurd e (by decide), fun e => absurd e (by decide)⟩
              · refine ⟨_, rfl, rfl, fun p W' l' K hr hm hS hK => ?_⟩
                obtain ⟨u0, hu0, f0⟩ := hm.get (x := (0, 62, none)) (by simp) (ready_dep hr rfl (e := ⟨0, .data⟩) (by simp) rfl)
                have g0 := f0.1 rfl
                have kW := hm.on
                clear hm hr
                simp only [putsA, putsD, List.foldl_cons, List.foldl_nil, hu0, Option.getD_some, Act.put, List.setIfInBounds_toArray, List.set_cons_zero, List.set_cons_succ] at hK ⊢
                obtain ⟨g, rfl, hE⟩ := g0
                refine wp_append_new elEnt entC_len _ _ rfl rfl rfl hE (HRD.out.on kW) HLT.out (by decide) (show wp.heap.size ≤ _ from kW.size) ?_
                intro v' w'' h1 k1
                exact hK v' w'' k1 ⟨fun e => absurd e (by decide), fun _ => h1, fun e => absurd e (by decide)⟩
              · refine ⟨_, rfl, rfl, fun p W' l' K hr hm hS hK => ?_⟩
                have kW := hm.on
                clear hm hr
                simp only [putsA, putsD, List.foldl_cons, List.foldl_nil, Act.put, List.setIfInBounds_toArray, List.set_cons_zero, List.set_cons_succ] at hK ⊢
                refine wp_eslice rfl rfl ?_
                exact hK _ _ ((On.refl W').alloc _) ⟨fun e => absurd e (by decide), fun e => absurd e (by decide), fun _ => ⟨_, rfl, Bk.new W' _ _⟩⟩
            intro p WE hm hSE
            obtain ⟨u0, hu0, f0⟩ := hm.get (x := (0, 62, none)) (by simp) rfl
            have g0 := f0.1 rfl
            obtain ⟨u2, hu2, f2⟩ := hm.get (x := (2, 64, none)) (by simp) rfl
            have g2 := f2.2.1 rfl
            obtain ⟨u9, hu9, f9⟩ := hm.get (x := (9, 71, none)) (by simp) rfl
            have g9 := f9.2.2 rfl
            have kM := hm.on
            simp only [putsA, putsD, List.foldl_cons, List.foldl_nil, hu0, hu2, hu9, Option.getD_some, Act.put, List.setIfInBounds_toArray, List.set_cons_zero, List.set_cons_succ]
            clear hm hu0 f0 hu2 f2 hu9 f9
            obtain ⟨g9', rfl, B9⟩ := g9
            refine fz_one 10 rfl rfl (by kernel_rfl) (fun K hK => ?_)
            refine wp_append_rdG elEnt entC_len _ _ rfl rfl rfl (flat_oneC entC_one _) g2 (rd_oneE B9) HL1.out (by decide) (show wp.heap.size ≤ _ from kM.size) ?_
            intro v10 w10 h10 q10
            have k10 : On wp.drew w10 := kM.grown q10 (fun q hq => (g2.lt q hq).1)
            have S10 : On wp w10 := S0.trans k10
            refine hK.out _ _ (fun _ => S10) ?_
            clear hK
            obtain ⟨a10, c10, rfl⟩ := own_slice h10
            generalize hn10 : (wl ++ [(o.l, o.v, (i : Int))]).length = n10 at *
            refine fz_take 11 (v := ?_) rfl (by kernel_rfl) (by kernel_rfl) (by kernel_rfl) (by kernel_rfl) (fun _ _ _ h => h) rfl ?_ S10 ?_
            rotate_left
            · intro W hW
              go_simp
              (try with_reducible rfl)
            simp only [Act.put, List.setIfInBounds_toArray, List.set_cons_zero, List.set_cons_succ]
            have MW : Hid (PlM w w10 N bb a10 n10 c10 (wl ++ [(o.l, o.v, (i : Int))])) := ⟨MP.out.on.trans S10, MP.out.lo, MP.out.b7.on S10, hn10.symm, own_mono h10 HNB.out⟩
            have OW : Hid (Bk w10 (wr.heap.size + 1) (bufA b)) := OP11.out.on S10
            clear h10 hn10 q10 k10 S10 S0 g2 B9 kM hSE
            refine fz_done (by kernel_rfl) (NoPanic.normal ?_)
            go_wp2
            go_meet
            case rel => exact ⟨bb, a10, _, c10, _, rfl, HPB2, HPI2, MW, OW⟩
          · have HY : Hid (wput m wl (o.l, o.v, (i : Int)) = wl ++ [(o.l, o.v, (i : Int))]) := wput_yes hy.1 hy.2.1 hy.2.2.1 (by rw [← MP.out.len]; exact hy.2.2.2)
            clear hy
            have HPB2 : Hid (BW m bb (wl ++ [(o.l, o.v, (i : Int))])) := by have := HPB.out; rw [HY.out] at this; exact this
            have HPI2 : Hid (∀ x ∈ wl ++ [(o.l, o.v, (i : Int))], EnIn x) := by have := HPI.out; rw [HY.out] at this; exact this
            have HOP : Hid (OpAt wp wr.heap.size 0 o) := HOQ.out
            have HNB : Hid (N + 1 ≤ wp.heap.size) := MP.out.b7.lt
            have HRD : Hid (Rd entC 3 wp.drew (.slice wa nw cw) wl) := MP.out.rd.on ((On.refl wp).drew)
            have HLT : Hid (wl.length ≤ 1000000) := Nat.le_trans HLW.out (by decide)
            have HL1 : Hid (wl.length + [(o.l, o.v, (i : Int))].length ≤ 1000000) := lens3 _ HLW.out
            clear HPB HPI HY
            go_wp2
            clear f1 fl
            have S0 : On wp wp.drew := (On.refl wp).drew
            refine region_fz (fun W => On wp W) [] 12 (by kernel_rfl) rfl ?_
            refine fz_take 1 (v := ?_) rfl (by kernel_rfl) (by kernel_rfl) (by kernel_rfl) (by kernel_rfl) (fun _ _ _ h => h) rfl ?_ S0 ?_
            rotate_left
            · intro W hW
              have g0 : W.cell? ⟨wr.heap.size, 1, none⟩ = some (.int .i64 o.l) := (HOP.out.on hW).l
              have g1 : W.cell? ⟨wr.heap.size, 2, none⟩ = some (.int .i64 o.v) := (HOP.out.on hW).v
              have g2 := (HOP.out.on hW).lt
              go_simp
              (try with_reducible rfl)
            simp only [Act.put, List.setIfInBounds_toArray, List.set_cons_zero, List.set_cons_succ]
            refine fz_take 3 (v := ?_) rfl (by kernel_rfl) (by kernel_rfl) (by kernel_rfl) (by kernel_rfl) (fun _ _ _ h => h) rfl ?_ S0 ?_
            rotate_left
            · intro W hW
              have g0 : W.cell? ⟨wr.heap.size, 1, none⟩ = some (.int .i64 o.l) := (HOP.out.on hW).l
              have g1 : W.cell? ⟨wr.heap.size, 2, none⟩ = some (.int .i64 o.v) := (HOP.out.on hW).v
              have g2 := (HOP.out.on hW).lt
              go_simp
              (try with_reducible rfl)
            simp only [Act.put, List.setIfInBounds_toArray, List.set_cons_zero, List.set_cons_succ]
            refine fz_take 4 (v := ?_) rfl (by kernel_rfl) (by kernel_rfl) (by kernel_rfl) (by kernel_rfl) (fun _ _ _ h => h) rfl ?_ S0 ?_
            rotate_left
            · intro W hW
              have g0 : W.cell? ⟨wr.heap.size, 1, none⟩ = some (.int .i64 o.l) := (HOP.out.on hW).l
              have g1 : W.cell? ⟨wr.heap.size, 2, none⟩ = some (.int .i64 o.v) := (HOP.out.on hW).v
              have g2 := (HOP.out.on hW).lt
              go_simp
              (try with_reducible rfl)
            simp only [Act.put, List.setIfInBounds_toArray, List.set_cons_zero, List.set_cons_succ]
            refine fz_take 5 (v := ?_) rfl (by kernel_rfl) (by kernel_rfl) (by kernel_rfl) (by kernel_rfl) (fun _ _ _ h => h) rfl ?_ S0 ?_
            rotate_left
            · intro W hW
              have g0 : W.cell? ⟨wr.heap.size, 1, none⟩ = some (.int .i64 o.l) := (HOP.out.on hW).l
              have g1 : W.cell? ⟨wr.heap.size, 2, none⟩ = some (.int .i64 o.v) := (HOP.out.on hW).v
              have g2 := (HOP.out.on hW).lt
              go_simp
              (try with_reducible rfl)
            simp only [Act.put, List.setIfInBounds_toArray, List.set_cons_zero, List.set_cons_succ]
            refine fz_take 6 (v := ?_) rfl (by kernel_rfl) (by kernel_rfl) (by kernel_rfl) (by kernel_rfl) (fun _ _ _ h => h) rfl ?_ S0 ?_
            rotate_left
            · intro W hW
              have g0 : W.cell? ⟨wr.heap.size, 1, none⟩ = some (.int .i64 o.l) := (HOP.out.on hW).l
              have g1 : W.cell? ⟨wr.heap.size, 2, none⟩ = some (.int .i64 o.v) := (HOP.out.on hW).v
              have g2 := (HOP.out.on hW).lt
              go_simp
              (try with_reducible rfl)
            simp only [Act.put, List.setIfInBounds_toArray, List.set_cons_zero, List.set_cons_succ]
            refine fz_take 7 (v := ?_) rfl (by kernel_rfl) (by kernel_rfl) (by kernel_rfl) (by kernel_rfl) (fun _ _ _ h => h) rfl ?_ S0 ?_
            rotate_left
            · intro W hW
              have g0 : W.cell? ⟨wr.heap.size, 1, none⟩ = some (.int .i64 o.l) := (HOP.out.on hW).l
              have g1 : W.cell? ⟨wr.heap.size, 2, none⟩ = some (.int .i64 o.v) := (HOP.out.on hW).v
              have g2 := (HOP.out.on hW).lt
              go_simp
              (try with_reducible rfl)
            simp only [Act.put, List.setIfInBounds_toArray, List.set_cons_zero, List.set_cons_succ]
            refine fz_take 8 (v := .agg (entA (o.l, o.v, (i : Int)))) rfl (by kernel_rfl) (by kernel_rfl) (by kernel_rfl) (by kernel_rfl) (fun _ _ _ h => h) rfl (fun W _ => exec_mk3E rfl rfl rfl rfl W) S0 ?_
            simp only [Act.put, List.setIfInBounds_toArray, List.set_cons_zero, List.set_cons_succ]
            refine fz_grow [(0, 62, none), (2, 64, none), (9, 71, none)] (fun jj v W => (jj = 0 → ∃ g, v = .slice (some ⟨g, 0, none⟩) 0 0 ∧ World.ownsRow W wp.heap.size 24 3 v 0 []) ∧ (jj = 2 → World.ownsRow W wp.heap.size 24 3 v wl.length (wl.flatMap entC)) ∧ (jj = 9 → ∃ g, v = .slice (some ⟨g, 0, none⟩) 1 1 ∧ Bk W g (entA (o.l, o.v, (i : Int))))) #[true, true, true, true, true, true, true, true, true, true, false, false] 3 2 (by simp) (by simp) ?_ rfl (fun _ _ h k => h.trans k) S0 ?_ (by kernel_rfl) (by kernel_rfl) ?_ ?_
            · intro x hx
              simp only [List.mem_cons, List.not_mem_nil, or_false] at hx
              rcases hx with rfl | rfl | rfl <;> rfl
            · intro i v w w' h k
              exact ⟨fun e => (fun h => by obtain ⟨g, h1, h2⟩ := h; exact ⟨g, h1, own_on h2 k⟩) (h.1 e), fun e => (fun h => own_on h k) (h.2.1 e), fun e => (fun h => by obtain ⟨g, h1, h2⟩ := h; exact ⟨g, h1, h2.on k⟩) (h.2.2 e)⟩
            · intro i d c hi
              simp only [List.mem_cons, Prod.mk.injEq, List.not_mem_nil, or_false] at hi
              rcases hi with ⟨rfl, rfl, rfl⟩ | ⟨rfl, rfl, rfl⟩ | ⟨rfl, rfl, rfl⟩
              · refine ⟨_, rfl, rfl, fun p W' l' K hr hm hS hK => ?_⟩
                have kW := hm.on
                clear hm hr
                simp only [putsA, putsD, List.foldl_cons, List.foldl_nil, Act.put, List.setIfInBounds_toArray, List.set_cons_zero, List.set_cons_succ] at hK ⊢
                go_simp
                exact hK _ _ ((On.refl W').alloc _) ⟨fun _ => ⟨_, rfl, own_empty W' _ 3 _ (show wp.heap.size ≤ _ from kW.size)⟩, fun e => absurd e (by decide), fun e => absurd e (by decide)⟩
              · refine ⟨_, rfl, rfl, fun p W' l' K hr hm hS hK => ?_⟩
                obtain ⟨u0, hu0, f0⟩ := hm.get (x := (0, 62, none)) (by simp) (ready_dep hr rfl (e := ⟨0, .data⟩) (by simp) rfl)
                have g0 := f0.1 rfl
                have kW := hm.on
                clear hm hr
                simp only [putsA, putsD, List.foldl_cons, List.foldl_nil, hu0, Option.getD_some, Act.put, List.setIfInBounds_toArray, List.set_cons_zero, List.set_cons_succ] at hK ⊢
                obtain ⟨g, rfl, hE⟩ := g0
                refine wp_append_new elEnt entC_len _ _ rfl rfl rfl hE (HRD.out.on kW) HLT.out (by decide) (show wp.heap.size ≤ _ from kW.size) ?_
                intro v' w'' h1 k1
                exact hK v' w'' k1 ⟨fun e => absurd e (by decide), fun _ => h1, fun e => absurd e (by decide)⟩
              · refine ⟨_, rfl, rfl, fun p W' l' K hr hm hS hK => ?_⟩
                have kW := hm.on
                clear hm hr
                simp only [putsA, putsD, List.foldl_cons, List.foldl_nil, Act.put, List.setIfInBounds_toArray, List.set_cons_zero, List.set_cons_succ] at hK ⊢
                refine wp_eslice rfl rfl ?_
                exact hK _ _ ((On.refl W').alloc _) ⟨fun e => absurd e (by decide), fun e => absurd e (by decide), fun _ => ⟨_, rfl, Bk.new W' _ _⟩⟩
            intro p WE hm hSE
            obtain ⟨u0, hu0, f0⟩ := hm.get (x := (0, 62, none)) (by simp) rfl
            have g0 := f0.1 rfl
            obtain ⟨u2, hu2, f2⟩ := hm.get (x := (2, 64, none)) (by simp) rfl
            have g2 := f2.2.1 rfl
            obtain ⟨u9, hu9, f9⟩ := hm.get (x := (9, 71, none)) (by simp) rfl
            have g9 := f9.2.2 rfl
            have kM := hm.on
            simp only [putsA, putsD, List.foldl_cons, List.foldl_nil, hu0, hu2, hu9, Option.getD_some, Act.put, List.setIfInBounds_toArray, List.set_cons_zero, List.set_cons_succ]
            clear hm hu0 f0 hu2 f2 hu9 f9
            obtain ⟨g9', rfl, B9⟩ := g9
            refine fz_one 10 rfl rfl (by kernel_rfl) (fun K hK => ?_)
            refine wp_append_rdG elEnt entC_len _ _ rfl rfl rfl (flat_oneC entC_one _) g2 (rd_oneE B9) HL1.out (by decide) (show wp.heap.size ≤ _ from kM.size) ?_
            intro v10 w10 h10 q10
            have k10 : On wp.drew w10 := kM.grown q10 (fun q hq => (g2.lt q hq).1)
            have S10 : On wp w10 := S0.trans k10
            refine hK.out _ _ (fun _ => S10) ?_
            clear hK
            obtain ⟨a10, c10, rfl⟩ := own_slice h10
            generalize hn10 : (wl ++ [(o.l, o.v, (i : Int))]).length = n10 at *
            refine fz_take 11 (v := ?_) rfl (by kernel_rfl) (by kernel_rfl) (by kernel_rfl) (by kernel_rfl) (fun _ _ _ h => h) rfl ?_ S10 ?_
            rotate_left
            · intro W hW
              go_simp
              (try with_reducible rfl)
            simp only [Act.put, List.setIfInBounds_toArray, List.set_cons_zero, List.set_cons_succ]
            have MW : Hid (PlM w w10 N bb a10 n10 c10 (wl ++ [(o.l, o.v, (i : Int))])) := ⟨MP.out.on.trans S10, MP.out.lo, MP.out.b7.on S10, hn10.symm, own_mono h10 HNB.out⟩
            have OW : Hid (Bk w10 (wr.heap.size + 1) (bufA b)) := OP11.out.on S10
            clear h10 hn10 q10 k10 S10 S0 g2 B9 kM hSE
            refine fz_done (by kernel_rfl) (NoPanic.normal ?_)
            go_wp2
            go_meet
            case rel => exact ⟨bb, a10, _, c10, _, rfl, HPB2, HPI2, MW, OW⟩
          · have HY : Hid (wput m wl (o.l, o.v, (i : Int)) = wl) := wput_not (by rw [← MP.out.len]; exact hno)
            have HPB2 : Hid (BW m bb wl) := by have := HPB.out; rw [HY.out] at this; exact this
            clear hno HPB HPI HY
            rcases hc with ⟨c1, c2⟩ | ⟨c1, c2⟩ | ⟨c1, c1', c2⟩ | ⟨c1, c2, c3⟩ | ⟨c1, c1', c2, c3⟩ | ⟨c1, c2, c3, c4⟩ | ⟨c1, c1', c2, c3, c4⟩
            all_goals
              go_wp2
              go_meet
              case rel => exact ⟨bb, wa, nw, cw, wl, rfl, HPB2, HIN, MP, OP11⟩
        · have hkb : (o.k == 0) = false := by simp [hk]
          have hcut := HB.out.drop o.l
          have hcin := wcut_in (m := m) (c := o.l) HIN.out
          have cD := fun W => drop_is b o.l W
          have HPB : Hid (BW m (dropB b o.l) (wcut m wl o.l)) := hcut
          have HPI : Hid (∀ x ∈ wcut m wl o.l, EnIn x) := hcin
          generalize dropB b o.l = bb at *
          generalize o.k = ok at f0 hkb
          clear hk hcut hcin
          go_wp2_with (refine wpList_bld rfl rfl rfl M3.out.b7 ?_)
          refine (cD _).mono ?_
          rintro _ w4 ⟨rfl, k4⟩
          have M4 : Hid (PlM w w4 N b wa nw cw wl) := M3.out.go k4
          have M5 : Hid (PlM w (w4.setRow N (bufA bb)) N bb wa nw cw wl) := M4.out.set bb
          have HOQ : Hid (OpAt (w4.setRow N (bufA bb)) wr.heap.size 0 o) := (HOP.out.on k4).setRow (by have := HN10.out; omega) _
          have OQ11 : Hid (Bk (w4.setRow N (bufA bb)) (wr.heap.size + 1) (bufA b)) := (O3'.out.on k4).rowFar (by have := HN10.out; omega) _
          clear k4 cD M3 HOP O3' f0 f1 f2 fl
          go_upto_region 13 with (refine wpList_bst rfl rfl rfl (by exact rfl) M4.out.b7 ?_)
          clear M4
          generalize w4.setRow N (bufA bb) = w5 at *
          have f1 : w5.cell? ⟨wr.heap.size, 1, none⟩ = some (.int .i64 o.l) := HOQ.out.l
          have fl := HOQ.out.lt
          go_wp2_with fail
          refine (first_is wa nw cw wl m o.l _ M5.out.rd HLW.out).mono ?_
          rintro _ wp ⟨rfl, kp⟩
          have MP : Hid (PlM w wp N bb wa nw cw wl) := M5.out.go kp
          have OP11 : Hid (Bk wp (wr.heap.size + 1) (bufA b)) := OQ11.out.on kp
          clear kp M5 OQ11 HOQ f1 fl
          have ho : firstV m wl o.l = -1 ∨ ∃ k : Nat, firstV m wl o.l = (k : Int) := by
            unfold firstV
            split
            · exact Or.inr ⟨_, rfl⟩
            · exact Or.inl rfl
          rcases ho with ho | ⟨k, ho⟩
          · have HPB2 : Hid (BW m bb wl) := by have := HPB.out; rw [wcut_not ho] at this; exact this
            rw [ho]
            clear ho HPB HPI
            go_wp2
            go_meet
            case rel => exact ⟨bb, wa, nw, cw, wl, rfl, HPB2, HIN, MP, OP11⟩
          · obtain ⟨hc1, hc2⟩ := wcut_yes ho
            have HPB2 : Hid (BW m bb (wl.take k ++ wl.drop (k + 1))) := by have := HPB.out; rw [hc1] at this; exact this
            have HPI2 : Hid (∀ x ∈ wl.take k ++ wl.drop (k + 1), EnIn x) := by have := HPI.out; rw [hc1] at this; exact this
            rw [ho]
            obtain ⟨hs1, hs2⟩ := MP.out.shape
            have hln := MP.out.len
            have hkn : k + 1 ≤ nw := by rw [hln]; exact hc2
            have hRW : Rd entC 3 wp.drew (.slice wa wl.length cw) wl := by have h := MP.out.rd; rw [hln] at h; exact h.on ((On.refl wp).drew)
            have HT1 : Hid (Rd entC 3 wp.drew (.slice wa k cw) (wl.take k)) := rd_takeE hRW (Nat.le_of_lt hc2)
            obtain ⟨a4, ha4⟩ : ∃ a4, a4 = if cw = k + 1 then wa else wa.map (·.add ((k + 1) * 3)) := ⟨_, rfl⟩
            obtain ⟨c4, hc4⟩ : ∃ c4, c4 = cw - (k + 1) := ⟨_, rfl⟩
            obtain ⟨dl, hdl⟩ : ∃ dl, dl = (wl.drop (k + 1)).length := ⟨_, rfl⟩
            have HT2 : Hid (Rd entC 3 wp.drew (.slice a4 dl c4) (wl.drop (k + 1))) := by
              show Rd _ _ _ _ _
              rw [ha4, hc4, hdl]
              exact rd_dropE hRW hc2
            have HSL1 : Hid (∀ W, (Instr.sliceAt 35 (.slice wa nw cw) none (some (.int .i64 (k : Int))) none).run Try.prog W = .ok (.slice wa k cw) W) := fun W => sl_takeE hs2 (Nat.le_trans (Nat.le_of_succ_le hkn) hs1) W
            have HSL2 : Hid (∀ W, (Instr.sliceAt 35 (.slice wa nw cw) (some (.int .i64 ((k + 1 : Nat) : Int))) none none).run Try.prog W = .ok (.slice a4 dl c4) W) := fun W => by
              rw [ha4, hc4, hdl, List.length_drop, ← hln]
              exact sl_dropE hkn W
            have HNB : Hid (N + 1 ≤ wp.heap.size) := MP.out.b7.lt
            have HLT : Hid ((wl.take k).length ≤ 1000000) := lens1 k HLW.out
            have HL1 : Hid ((wl.take k).length + (wl.drop (k + 1)).length ≤ 1000000) := lens2 k (k + 1) HLW.out
            have hk9 : k ≤ 900 := Nat.le_trans (Nat.le_of_lt (Nat.lt_of_lt_of_le hc2 HLW.out)) (by decide)
            have hv1 : wrap64 ((k : Int) + 1) = ((k + 1 : Nat) : Int) := wrapN hk9
            have hv3 : IntKind.i64.wrap ((k : Int) + 1) = ((k + 1 : Nat) : Int) := wrapTN hk9
            have x4 : (0 : Int) ≤ (k : Int) := nat_0 k
            clear ho HPB HPI hc1 hc2 hs1 hs2 hln hkn hRW ha4 hc4 hdl hk9
            go_wp2
            have S0 : On wp wp.drew := (On.refl wp).drew
            refine region_fz (fun W => On wp W) [] 11 (by kernel_rfl) rfl ?_
            refine fz_take 1 (v := ?_) rfl (by kernel_rfl) (by kernel_rfl) (by kernel_rfl) (by kernel_rfl) (fun _ _ _ h => h) rfl ?_ S0 ?_
            rotate_left
            · intro W hW
              go_simp
              (try with_reducible rfl)
            simp only [Act.put, List.setIfInBounds_toArray, List.set_cons_zero, List.set_cons_succ]
            refine fz_take 2 (v := ?_) rfl (by kernel_rfl) (by kernel_rfl) (by kernel_rfl) (by kernel_rfl) (fun _ _ _ h => h) rfl ?_ S0 ?_
            rotate_left
            · intro W hW
              go_simp
              (try with_reducible rfl)
            simp only [Act.put, List.setIfInBounds_toArray, List.set_cons_zero, List.set_cons_succ]
            refine fz_take 3 (v := .slice wa k cw) rfl (by kernel_rfl) (by kernel_rfl) (by kernel_rfl) (by kernel_rfl) (fun _ _ _ h => h) rfl (fun W hW => exec_slE rfl (HSL1.out W)) S0 ?_
            simp only [Act.put, List.setIfInBounds_toArray, List.set_cons_zero, List.set_cons_succ]
            refine fz_take 5 (v := ?_) rfl (by kernel_rfl) (by kernel_rfl) (by kernel_rfl) (by kernel_rfl) (fun _ _ _ h => h) rfl ?_ S0 ?_
            rotate_left
            · intro W hW
              go_simp
              (try with_reducible rfl)
            simp only [Act.put, List.setIfInBounds_toArray, List.set_cons_zero, List.set_cons_succ]
            refine fz_take 6 (v := ?_) rfl (by kernel_rfl) (by kernel_rfl) (by kernel_rfl) (by kernel_rfl) (fun _ _ _ h => h) rfl ?_ S0 ?_
            rotate_left
            · intro W hW
              go_simp
              (try with_reducible rfl)
            simp only [Act.put, List.setIfInBounds_toArray, List.set_cons_zero, List.set_cons_succ]
            refine fz_take 7 (v := ?_) rfl (by kernel_rfl) (by kernel_rfl) (by kernel_rfl) (by kernel_rfl) (fun _ _ _ h => h) rfl ?_ S0 ?_
            rotate_left
            · intro W hW
              go_simp
              (try with_reducible rfl)
            simp only [Act.put, List.setIfInBounds_toArray, List.set_cons_zero, List.set_cons_succ]
            refine fz_take 8 (v := .slice a4 dl c4) rfl (by kernel_rfl) (by kernel_rfl) (by kernel_rfl) (by kernel_rfl) (fun _ _ _ h => h) rfl (fun W hW => exec_slE rfl (HSL2.out W)) S0 ?_
            simp only [Act.put, List.setIfInBounds_toArray, List.set_cons_zero, List.set_cons_succ]
            refine fz_grow [(0, 84, none), (4, 88, none)] (fun i v W => (i = 0 → ∃ g, v = .slice (some ⟨g, 0, none⟩) 0 0 ∧ World.ownsRow W wp.heap.size 24 3 v 0 []) ∧ (i = 4 → World.ownsRow W wp.heap.size 24 3 v (wl.take k).length ((wl.take k).flatMap entC))) #[true, true, true, true, true, true, true, true, true, false, false] 2 2 (by simp) (by simp) ?_ rfl (fun _ _ h k => h.trans k) S0 ?_ (by kernel_rfl) (by kernel_rfl) ?_ ?_
            · intro x hx
              simp only [List.mem_cons, List.not_mem_nil, or_false] at hx
              rcases hx with rfl | rfl <;> rfl
            · intro i v w w' h k
              exact ⟨fun e => (fun h => by obtain ⟨g, h1, h2⟩ := h; exact ⟨g, h1, own_on h2 k⟩) (h.1 e), fun e => (fun h => own_on h k) (h.2 e)⟩
            · intro i d c hi
              simp only [List.mem_cons, Prod.mk.injEq, List.not_mem_nil, or_false] at hi
              rcases hi with ⟨rfl, rfl, rfl⟩ | ⟨rfl, rfl, rfl⟩
              · refine ⟨_, rfl, rfl, fun p W' l' K hr hm hS hK => ?_⟩
                have kW := hm.on
                clear hm hr
                simp only [putsA, putsD, List.foldl_cons, List.foldl_nil, Act.put, List.setIfInBounds_toArray, List.set_cons_zero, List.set_cons_succ] at hK ⊢
                go_simp
                exact hK _ _ ((On.refl W').alloc _) ⟨fun _ => ⟨_, rfl, own_empty W' _ 3 _ (show wp.heap.size ≤ _ from kW.size)⟩, fun e => absurd e (by decide)⟩
              · refine ⟨_, rfl, rfl, fun p W' l' K hr hm hS hK => ?_⟩
                obtain ⟨u0, hu0, f0⟩ := hm.get (x := (0, 84, none)) (by simp) (ready_dep hr rfl (e := ⟨0, .data⟩) (by simp) rfl)
                have g0 := f0.1 rfl
                have kW := hm.on
                clear hm hr
                simp only [putsA, putsD, List.foldl_cons, List.foldl_nil, hu0, Option.getD_some, Act.put, List.setIfInBounds_toArray, List.set_cons_zero, List.set_cons_succ] at hK ⊢
                obtain ⟨g, rfl, hE⟩ := g0
                refine wp_append_new elEnt entC_len _ _ rfl rfl rfl hE (HT1.out.on kW) HLT.out (by decide) (show wp.heap.size ≤ _ from kW.size) ?_
                intro v' w'' h1 k1
                exact hK v' w'' k1 ⟨fun e => absurd e (by decide), fun _ => h1⟩
            intro p WE hm hSE
            obtain ⟨u0, hu0, f0⟩ := hm.get (x := (0, 84, none)) (by simp) rfl
            have g0 := f0.1 rfl
            obtain ⟨u4, hu4, f4⟩ := hm.get (x := (4, 88, none)) (by simp) rfl
            have g4 := f4.2 rfl
            have kM := hm.on
            simp only [putsA, putsD, List.foldl_cons, List.foldl_nil, hu0, hu4, Option.getD_some, Act.put, List.setIfInBounds_toArray, List.set_cons_zero, List.set_cons_succ]
            clear hm hu0 f0 hu4 f4
            refine fz_one 9 rfl rfl (by kernel_rfl) (fun K hK => ?_)
            refine wp_append_rdG elEnt entC_len _ _ rfl rfl rfl (flat_oneC entC_one _) g4 (HT2.out.on kM) HL1.out (by decide) (show wp.heap.size ≤ _ from kM.size) ?_
            intro v10 w10 h10 q10
            have k10 : On wp.drew w10 := kM.grown q10 (fun q hq => (g4.lt q hq).1)
            have S10 : On wp w10 := S0.trans k10
            refine hK.out _ _ (fun _ => S10) ?_
            clear hK
            obtain ⟨a10, c10, rfl⟩ := own_slice h10
            generalize hn10 : (wl.take k ++ wl.drop (k + 1)).length = n10 at *
            refine fz_take 10 (v := ?_) rfl (by kernel_rfl) (by kernel_rfl) (by kernel_rfl) (by kernel_rfl) (fun _ _ _ h => h) rfl ?_ S10 ?_
            rotate_left
            · intro W hW
              go_simp
              (try with_reducible rfl)
            simp only [Act.put, List.setIfInBounds_toArray, List.set_cons_zero, List.set_cons_succ]
            have MW : Hid (PlM w w10 N bb a10 n10 c10 (wl.take k ++ wl.drop (k + 1))) := ⟨MP.out.on.trans S10, MP.out.lo, MP.out.b7.on S10, hn10.symm, own_mono h10 HNB.out⟩
            have OW : Hid (Bk w10 (wr.heap.size + 1) (bufA b)) := OP11.out.on S10
            clear h10 hn10 q10 k10 S10 S0 g0 g4 kM hSE
            refine fz_done (by kernel_rfl) (NoPanic.normal ?_)
            go_wp2
            go_meet
            case rel => exact ⟨bb, a10, _, c10, _, rfl, HPB2, HPI2, MW, OW⟩
      case rest =>
        obtain ⟨bn, wa, nw, cw, wl, rfl, HB, HIN, HM, HO11⟩ := hcut
        have hl1 := HB.out.1
        have hl2 := HM.out.len
        obtain ⟨lb, hlb⟩ : ∃ lb, lb = b.l.length := ⟨_, rfl⟩
        have cL := fun W => len_is b W
        rw [← hlb] at cL
        have hne : lb ≠ nw → bn ≠ b := fun h e => h (by rw [hlb, hl2, ← hl1, e])
        have hcase : ((lb : Int) != (nw : Int)) = false ∨ (((lb : Int) != (nw : Int)) = true ∧ bn ≠ b) := by
          by_cases h : lb = nw
          · exact Or.inl (by simp [h])
          · exact Or.inr ⟨by simp; omega, hne h⟩
        clear hl1 hl2 hlb hne f0 f1 f2 fl O3' M3 HOP HLW
        go_wp2_with (refine wpList_bld rfl rfl rfl HO11.out ?_)
        refine (cL _).mono ?_
        rintro _ w5 ⟨rfl, k5⟩
        have M5 : Hid (PlM w w5 N bn wa nw cw wl) := HM.out.go k5
        have O5 : Hid (Bk w5 (wr.heap.size + 1) (bufA b)) := HO11.out.on k5
        clear k5 cL HM HO11
        rcases hcase with hq | ⟨hq, hnb⟩
        rotate_left
        have HNB : Hid (bn ≠ b) := hnb
        clear hnb
        rotate_left
        all_goals
          go_wp2_with (first
            | (refine wpList_bld rfl rfl rfl M5.out.b7 ?_)
            | (refine wpList_bld rfl rfl rfl O5.out ?_)
            | (refine wpList_yield rfl (exec_beq_not rfl rfl rfl HNB.out) ?_))
          clear O5 hq
          go_loopg [13] 6 (fun gg s13 wq => ∃ (t : Nat) (p : Int), t ≤ 6 ∧ gg = 6 - t ∧ s13 = .int .i64 p ∧ Hid (p = (t : Int) - 1) ∧ Hid (PlM w wq N bn wa nw cw wl))
          case atStart => exact ⟨0, -1, by decide, rfl, rfl, rfl, M5⟩
          case round =>
            obtain ⟨t, p, hin, hg, rfl, HPT, HM⟩ := hrel
            have HT : Hid (t ≤ 6) := hin
            have HG2 : Hid (gk = 6 - t) := hg
            clear hin hg M5
            by_cases ht : t < 6
            · have hp4 : p ≤ 4 := by have := HPT.out; omega
              obtain ⟨p1, hp1⟩ : ∃ p1, p1 = p + 1 := ⟨_, rfl⟩
              have hv : wrap64 (p + 1) = p1 := by rw [hp1]; exact wrapS (by have := HPT.out; omega) (by have := HPT.out; omega)
              have HP1 : Hid (p1 = ((t + 1 : Nat) : Int) - 1) := by show _ = _; rw [hp1, HPT.out]; omega
              have HTL : Hid (t < 6) := ht
              clear ht hp1
              go_wp2_with (refine wpList_bld rfl rfl rfl HM.out.b7 ?_)
              refine (same_is bn wa nw cw wl m p _ HM.out.rd HB.out HIN.out).mono ?_
              rintro _ w6 ⟨rfl, k6⟩
              have M6 : Hid (PlM w w6 N bn wa nw cw wl) := HM.out.go k6
              clear k6
              go_wp2
              go_roundg (6 - (t + 1))
              case measure => have := HTL.out; have := HG2.out; omega
              case rel => exact ⟨t + 1, p1, HTL.out, rfl, (by first | rfl | exact congrArg (Value.int .i64) hv), HP1, M6⟩
            · have hp4 : decide (p ≤ 4) = false := decide_eq_false (by have := HPT.out; omega)
              clear ht
              go_wp2
              go_roundg (60 - (i + 1))
              case measure => have := HL.out; have := HG.out; omega
              case rel => exact ⟨i + 1, bn, wa, nw, cw, wl, HL.out, rfl, rfl, by go_num, HB, HIN, HM⟩
    · have hd : decide (i < L.length) = false ∨ ((i : Int) < (L.length : Int) ∧ decide ((i : Int) < 60) = false) := by
        by_cases hji : i < L.length
        · exact Or.inr ⟨nat_lt hji, decide_eq_false (by omega)⟩
        · exact Or.inl (decide_eq_false hji)
      have hl1 := HB.out.1
      have hl2 := HM.out.len
      have hbn : b.l.length = nw := by rw [hl2]; exact hl1
      have cL := fun W => len_is b W
      have cE := fun W => empty_is b W
      rw [hbn] at cL cE
      have he0 : ((nw == 0) = true ∧ ((nw : Int) == 0) = true) ∨ ((nw == 0) = false ∧ ((nw : Int) == 0) = false) := by
        by_cases h : nw = 0
        · exact Or.inl (by simp [h])
        · exact Or.inr (by simp [h])
      clear HI HG hgo hz hl1 hl2 hbn
      rcases hd with hd | ⟨hd, hd2⟩
      all_goals
        go_wp2_with (refine wpList_bld rfl rfl rfl HM.out.b7 ?_)
        refine (same_is b wa nw cw wl m loc _ HM.out.rd HB.out HIN.out).mono ?_
        rintro _ w5 ⟨rfl, k5⟩
        have M5 : Hid (PlM w w5 N b wa nw cw wl) := HM.out.go k5
        clear k5
        go_wp2_with (refine wpList_bld rfl rfl rfl M5.out.b7 ?_)
        refine (cL _).mono ?_
        rintro _ w6 ⟨rfl, k6⟩
        have M6 : Hid (PlM w w6 N b wa nw cw wl) := M5.out.go k6
        clear k6 cL
        go_wp2_with (refine wpList_bld rfl rfl rfl M6.out.b7 ?_)
        refine (cE _).mono ?_
        rintro _ w7 ⟨rfl, k7⟩
        have K7 : Hid (On w w7) := M6.out.on.trans k7
        clear k7 cE
        rcases he0 with ⟨e1, e2⟩ | ⟨e1, e2⟩
        all_goals
          rw [e1]
          go_wp2_with fail
          refine (HA _).mono ?_
          rintro _ w8 ⟨rfl, k8⟩
          have K8 : Hid (On w w8) := K7.out.trans k8
          clear k8
          go_wp2
          go_ret
          exact ⟨rfl, K8.out⟩
end Go.Proofs.Ytnoeofbjnogkmaa
