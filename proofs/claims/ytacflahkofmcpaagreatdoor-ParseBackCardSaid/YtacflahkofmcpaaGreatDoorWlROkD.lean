/- The document's CondOk. -/
import Derived.Test.YtacflahkofmcpaaGreatDoorJ37WlROkC
import Derived.Test.YtacflahkofmcpaaGreatDoorJ14LexCut
namespace Go.Proofs.YtacflahkofmcpaaGreatDoor.Wl
open Go.RowKit
set_option linter.unusedSimpArgs false

theorem atomOk_mem {x : AtomT} (h : x.t = -1) : atomOk x = (x.r == 0 && locOk x.l) := by unfold atomOk; rw [if_pos (by simpa using h)]
theorem atomOk_own {x : AtomT} (h : ¬ x.t = -1) : atomOk x = (x.l == 0 && decide (0 ≤ x.t) && decide (x.t ≤ 9) && regOk x.r) := by unfold atomOk; rw [if_neg (by simpa using h)]

set_option maxHeartbeats 16000000 in
set_option maxRecDepth 8000 in
theorem rcondOk_is (c : CondT) (a : Option Addr) (cc : Nat) (w : World) (h : Rd2 atomC 4 w (.slice a c.any.length cc) c.any) :
    Calls Tryz.prog 66 #[.agg #[.int .i64 c.k, .slice a c.any.length cc]] w fun e w' => e = .returned (.bool (condOk c)) ∧ On w w' := by
  obtain ⟨k, LL⟩ := c
  obtain ⟨_, _, _, _, hm⟩ := h.slice
  unfold condOk
  simp only at h hm ⊢
  by_cases h0 : k = 0
  · subst h0
    clear h
    have e1 : (if (0 : Int) == 0 then LL.length == 0 else if (0 : Int) == 1 || (0 : Int) == 2 then decide (0 < LL.length) && LL.all rowOk else false) = (LL.length == 0) := rfl
    rw [e1]
    clear e1
    rcases Nat.eq_zero_or_pos LL.length with hz | hz
    · rw [hz]
      go_enter Tryz.func66, Tryz.ntmps66
      go_wp2
      go_ret
      exact ⟨rfl, (On.refl w).alloc _⟩
    · have hz' : ((LL.length : Int) == 0) = false := by simpa using (by omega : ¬ (LL.length : Int) = 0)
      have hz2 : (LL.length == 0) = false := decide_eq_false (by omega)
      rw [hz2]
      clear hz2
      go_enter Tryz.func66, Tryz.ntmps66
      go_wp2
      go_ret
      exact ⟨rfl, (On.refl w).alloc _⟩
  · have b0 : (k == 0) = false := by simpa using h0
    rw [b0]
    simp only [Bool.false_eq_true, if_false]
    by_cases hneg : k < 0
    · have b1 : (k == 1 || k == 2) = false := by simp; omega
      rw [b1]
      clear h b1
      go_enter Tryz.func66, Tryz.ntmps66
      go_wp2
      go_ret
      exact ⟨rfl, (On.refl w).alloc _⟩
    by_cases hbig : 2 < k
    · have b1 : (k == 1 || k == 2) = false := by simp; omega
      rw [b1]
      clear h b1
      go_enter Tryz.func66, Tryz.ntmps66
      go_wp2
      go_ret
      exact ⟨rfl, (On.refl w).alloc _⟩
    have b1 : (k == 1 || k == 2) = true := by simp; omega
    rw [b1]
    simp only [if_true]
    clear b1
    rcases Nat.eq_zero_or_pos LL.length with hz | hz
    · rw [hz]
      clear h
      go_enter Tryz.func66, Tryz.ntmps66
      go_wp2
      go_ret
      exact ⟨rfl, (On.refl w).alloc _⟩
    have hz' : ((LL.length : Int) == 0) = false := by simpa using (by omega : ¬ (LL.length : Int) = 0)
    rw [decide_eq_true hz, Bool.true_and]
    obtain ⟨B, hB⟩ : ∃ B, B = LL.all rowOk := ⟨_, rfl⟩
    rw [← hB]
    have HB : Hid (B = (LL.drop 0).all rowOk) := hB
    have HR : Hid (Rd2 atomC 4 w (.slice a LL.length cc) LL) := h
    clear hB h
    have bt : ∀ cs T, Bk (w.alloc (.cells cs T)) w.heap.size cs := fun cs T => Bk.new w cs T
    go_enter Tryz.func66, Tryz.ntmps66
    go_wp2
    go_loopg [3] LL.length (fun gg s4 wq => ∃ n : Nat, n ≤ LL.length ∧ gg = LL.length - n ∧ s4 = .int .i64 n ∧ Hid (On w wq) ∧ Bk wq w.heap.size #[.int .i64 k, .slice a LL.length cc] ∧ Hid (B = (LL.drop n).all rowOk))
    case atStart => exact ⟨0, Nat.zero_le _, rfl, rfl, (On.refl w).alloc _, bt _ _, HB⟩
    case round =>
      clear HB bt
      obtain ⟨n, hn, hk, rfl, HO, TB, HF⟩ := hrel
      have t1 := TB.at (i := 1) rfl
      have tl := TB.lt
      rcases Nat.lt_or_ge n LL.length with hlt | hge
      · obtain ⟨x, hx⟩ : ∃ x, LL[n]? = some x := ⟨_, List.getElem?_eq_getElem hlt⟩
        obtain ⟨g, off, rfl, hg, ax, cx, v0, hxm, rx⟩ := (HR.out.on HO.out).row hx
        rcases Nat.eq_zero_or_pos x.length with hx0 | hx0
        · have hb : B = false := by rw [HF.out, drop_at hx, List.all_cons]; unfold rowOk; rw [decide_eq_false (by omega)]; rfl
          subst hb
          rw [hx0] at v0
          clear hx rx HF hxm
          go_wp2
          go_ret
          exact ⟨rfl, HO.out⟩
        have hx0' : ((x.length : Int) == 0) = false := by simpa using (by omega : ¬ (x.length : Int) = 0)
        have HI : Hid (B = ((x.drop 0).all atomOk && (LL.drop (n + 1)).all rowOk)) := by
          show B = _
          rw [HF.out, drop_at hx, List.all_cons]
          unfold rowOk
          rw [decide_eq_true hx0, Bool.true_and]; rfl
        have HX : Hid (LL[n]? = some x) := hx
        clear HF hx rx
        go_wp2
        clear t1 v0 hx0'
        go_loopg [4] x.length (fun gg s5 wq => ∃ m : Nat, m ≤ x.length ∧ gg = x.length - m ∧ s5 = .int .i64 m ∧ Hid (On w wq) ∧ Bk wq w.heap.size #[.int .i64 k, .slice (some ⟨g, off, none⟩) LL.length cc] ∧ Hid (B = ((x.drop m).all atomOk && (LL.drop (n + 1)).all rowOk)))
        case atStart => exact ⟨0, Nat.zero_le _, rfl, rfl, HO, TB, HI⟩
        case round =>
          clear HI HO TB tl hg
          obtain ⟨m, hm2, hkm, rfl, HO, TB, HI⟩ := hrel
          have t1 := TB.at (i := 1) rfl
          have tl := TB.lt
          obtain ⟨g', off', he, hg, ax, cx, v0, hxm, rx⟩ := (HR.out.on HO.out).row HX.out
          simp only [Option.some.injEq, Addr.mk.injEq, and_true] at he
          obtain ⟨rfl, rfl⟩ := he
          rcases Nat.lt_or_ge m x.length with hlm | hgm
          · obtain ⟨y, hy⟩ : ∃ y, x[m]? = some y := ⟨_, List.getElem?_eq_getElem hlm⟩
            obtain ⟨g2, off2, rfl, hg2, hcell⟩ := rx.at hy
            have HI2 : Hid (B = (atomOk y && ((x.drop (m + 1)).all atomOk && (LL.drop (n + 1)).all rowOk))) := by
              show B = _
              rw [HI.out, drop_at hy, List.all_cons, Bool.and_assoc]
            obtain ⟨t, r, l, v⟩ := y
            have u0 : wr.cell? ⟨g2, off2 + m * 4, none⟩ = _ := hcell 0 _ rfl
            have u1 : wr.cell? ⟨g2, off2 + m * 4 + 1, none⟩ = _ := hcell 1 _ rfl
            have u2 : wr.cell? ⟨g2, off2 + m * 4 + 2, none⟩ = _ := hcell 2 _ rfl
            have u3 : wr.cell? ⟨g2, off2 + m * 4 + 3, none⟩ = _ := hcell 3 _ rfl
            simp only at u0 u1 u2 u3
            clear HI hcell hy rx
            have hN := fun W => rnamed_is l W
            by_cases ht : t = -1
            · have hA : Hid (atomOk ⟨t, r, l, v⟩ = (r == 0 && locOk l)) := atomOk_mem ht
              subst ht
              by_cases hr : r = 0
              · subst hr
                cases hl : locOk l with
                | true =>
                  rw [hl] at hN
                  have HJ : Hid (B = ((x.drop (m + 1)).all atomOk && (LL.drop (n + 1)).all rowOk)) := by
                    show B = _
                    rw [HI2.out, hA.out, hl, show ((0 : Int) == 0 && true) = true from rfl, Bool.true_and]
                  clear HI2
                  go_wp2_with (go_at_call 67; refine (hN _).mono ?_; rintro e w1 ⟨rfl, rfl⟩)
                  go_roundg (x.length - (m + 1))
                  case measure => omega
                  case rel => exact ⟨m + 1, by omega, rfl, by go_num, HO.out.trans (by repeat' (first | exact On.refl _ | refine On.alloc ?_ _ | refine On.setNew ?_ (Nat.le_refl _) _)), TB.on (by repeat' (first | exact On.refl _ | refine On.alloc ?_ _ | refine On.setNew ?_ (Nat.le_refl _) _)), HJ⟩
                | false =>
                  rw [hl] at hN
                  have hb : B = false := by rw [HI2.out, hA.out, hl, show ((0 : Int) == 0 && false) = false from rfl]; rfl
                  subst hb
                  clear HI2
                  go_wp2_with (go_at_call 67; refine (hN _).mono ?_; rintro e w1 ⟨rfl, rfl⟩)
                  go_ret
                  exact ⟨rfl, HO.out.trans (by repeat' (first | exact On.refl _ | refine On.alloc ?_ _ | refine On.setNew ?_ (Nat.le_refl _) _))⟩
              · have br : (r == 0) = false := by simpa using hr
                have hb : B = false := by rw [HI2.out, hA.out, br, Bool.false_and]; rfl
                subst hb
                clear HI2
                go_wp2_with (go_at_call 67; refine (hN _).mono ?_; rintro e w1 ⟨rfl, rfl⟩)
                go_ret
                exact ⟨rfl, HO.out.trans (by repeat' (first | exact On.refl _ | refine On.alloc ?_ _ | refine On.setNew ?_ (Nat.le_refl _) _))⟩
            have bt : (t == -1) = false := by simpa using ht
            have hA : Hid (atomOk ⟨t, r, l, v⟩ = (l == 0 && decide (0 ≤ t) && decide (t ≤ 9) && regOk r)) := atomOk_own ht
            by_cases a0 : 0 ≤ t
            rotate_left
            · have hf : (l == 0 && decide (0 ≤ t) && decide (t ≤ 9) && regOk r) = false := by simp [regOk]; omega
              have HFF : Hid (atomOk ⟨t, r, l, v⟩ = false) := hA.out.trans hf
              clear hf
              have hb : B = false := by rw [HI2.out, HFF.out, Bool.false_and]
              subst hb
              clear HI2
              go_wp2_with (go_at_call 67; refine (hN _).mono ?_; rintro e w1 ⟨rfl, rfl⟩)
              go_ret
              exact ⟨rfl, HO.out.trans (by repeat' (first | exact On.refl _ | refine On.alloc ?_ _ | refine On.setNew ?_ (Nat.le_refl _) _))⟩
            by_cases a1 : t ≤ 9
            rotate_left
            · have hf : (l == 0 && decide (0 ≤ t) && decide (t ≤ 9) && regOk r) = false := by simp [regOk]; omega
              have HFF : Hid (atomOk ⟨t, r, l, v⟩ = false) := hA.out.trans hf
              clear hf
              have hb : B = false := by rw [HI2.out, HFF.out, Bool.false_and]
              subst hb
              clear HI2
              go_wp2_with (go_at_call 67; refine (hN _).mono ?_; rintro e w1 ⟨rfl, rfl⟩)
              go_ret
              exact ⟨rfl, HO.out.trans (by repeat' (first | exact On.refl _ | refine On.alloc ?_ _ | refine On.setNew ?_ (Nat.le_refl _) _))⟩
            by_cases a2 : 0 ≤ r
            rotate_left
            · have hf : (l == 0 && decide (0 ≤ t) && decide (t ≤ 9) && regOk r) = false := by simp [regOk]; omega
              have HFF : Hid (atomOk ⟨t, r, l, v⟩ = false) := hA.out.trans hf
              clear hf
              have hb : B = false := by rw [HI2.out, HFF.out, Bool.false_and]
              subst hb
              clear HI2
              go_wp2_with (go_at_call 67; refine (hN _).mono ?_; rintro e w1 ⟨rfl, rfl⟩)
              go_ret
              exact ⟨rfl, HO.out.trans (by repeat' (first | exact On.refl _ | refine On.alloc ?_ _ | refine On.setNew ?_ (Nat.le_refl _) _))⟩
            by_cases a3 : r ≤ 3
            rotate_left
            · have hf : (l == 0 && decide (0 ≤ t) && decide (t ≤ 9) && regOk r) = false := by simp [regOk]; omega
              have HFF : Hid (atomOk ⟨t, r, l, v⟩ = false) := hA.out.trans hf
              clear hf
              have hb : B = false := by rw [HI2.out, HFF.out, Bool.false_and]
              subst hb
              clear HI2
              go_wp2_with (go_at_call 67; refine (hN _).mono ?_; rintro e w1 ⟨rfl, rfl⟩)
              go_ret
              exact ⟨rfl, HO.out.trans (by repeat' (first | exact On.refl _ | refine On.alloc ?_ _ | refine On.setNew ?_ (Nat.le_refl _) _))⟩
            by_cases hl0 : l = 0
            rotate_left
            · have bl : (l == 0) = false := by simpa using hl0
              have HFF : Hid (atomOk ⟨t, r, l, v⟩ = false) := by rw [Hid, hA.out, bl]; rfl
              have hb : B = false := by rw [HI2.out, HFF.out, Bool.false_and]
              subst hb
              clear HI2
              go_wp2_with (go_at_call 67; refine (hN _).mono ?_; rintro e w1 ⟨rfl, rfl⟩)
              go_ret
              exact ⟨rfl, HO.out.trans (by repeat' (first | exact On.refl _ | refine On.alloc ?_ _ | refine On.setNew ?_ (Nat.le_refl _) _))⟩
            subst hl0
            have HTT : Hid (atomOk ⟨t, r, 0, v⟩ = true) := by rw [Hid, hA.out]; simp [regOk]; omega
            have HJ : Hid (B = ((x.drop (m + 1)).all atomOk && (LL.drop (n + 1)).all rowOk)) := by
              show B = _
              rw [HI2.out, HTT.out, Bool.true_and]
            clear HI2
            go_wp2_with (go_at_call 67; refine (hN _).mono ?_; rintro e w1 ⟨rfl, rfl⟩)
            go_roundg (x.length - (m + 1))
            case measure => omega
            case rel => exact ⟨m + 1, by omega, rfl, by go_num, HO.out.trans (by repeat' (first | exact On.refl _ | refine On.alloc ?_ _ | refine On.setNew ?_ (Nat.le_refl _) _)), TB.on (by repeat' (first | exact On.refl _ | refine On.alloc ?_ _ | refine On.setNew ?_ (Nat.le_refl _) _)), HJ⟩
          · have HJ : Hid (B = (LL.drop (n + 1)).all rowOk) := by
              show B = _
              rw [HI.out, List.drop_of_length_le hgm]; rfl
            clear HI rx
            go_wp2
            go_roundg (LL.length - (n + 1))
            case measure => omega
            case rel => exact ⟨n + 1, by omega, rfl, by go_num, HO, TB, HJ⟩
      · have hb : B = true := by rw [HF.out, List.drop_of_length_le hge]; rfl
        subst hb
        go_wp2
        go_ret
        exact ⟨rfl, HO.out⟩
end Go.Proofs.YtacflahkofmcpaaGreatDoor.Wl
