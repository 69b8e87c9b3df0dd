/- The document's TestOk. -/
import Derived.Test.YtacflahkofmcpaaGreatDoorWlROkB
import Derived.Test.YtacflahkofmcpaaGreatDoorWlROkD
import Derived.Test.YtacflahkofmcpaaGreatDoorJ14LexCut
namespace Go.Proofs.YtacflahkofmcpaaGreatDoor.Wl
open Go.RowKit
set_option linter.unusedSimpArgs false

set_option maxHeartbeats 16000000 in
set_option maxRecDepth 8000 in
theorem rtestOk_is (t : TestT) (v : Value) (w : World) (h : TestRd w v t) :
    Calls Tryz.prog 23 #[v] w fun e w' => e = .returned (.bool (testOk t)) ∧ On w w' := by
  obtain ⟨a1, c1, a2, c2, a3, c3, rfl, hnm, r1, r2, r3⟩ := h.ex
  clear h
  obtain ⟨_, _, _, _, hm1⟩ := r1.slice
  obtain ⟨_, _, _, _, hm2⟩ := r2.slice
  have R1 : Hid (Rd iniC 2 w (.slice a1 t.ini.length c1) t.ini) := r1
  have R2 : Hid (Rd2 insC 9 w (.slice a2 t.thr.length c2) t.thr) := r2
  have R3 : Hid (Rd2 atomC 4 w (.slice a3 t.cond.any.length c3) t.cond.any) := r3
  obtain ⟨B, hB⟩ : ∃ B, B = testOk t := ⟨_, rfl⟩
  rw [← hB]
  have HB : Hid (B = (wordOk t.name && t.ini.all initOk && t.thr.all threadOk && condOk t.cond)) := hB
  clear hB r1 r2 r3
  have hwd := fun W => rword_is t.name W hnm
  have hcd := fun (W : World) (k : On w W) => rcondOk_is t.cond a3 c3 W (R3.out.on k)
  clear hnm R3
  generalize condOk t.cond = bc at *
  generalize wordOk t.name = bw at *
  generalize t.name = nm at *
  generalize t.cond.k = kk at *
  generalize t.ini = INI at *
  generalize t.thr = THR at *
  generalize t.cond.any.length = nany at *
  cases bw with
  | false =>
    obtain rfl : B = false := HB.out
    clear hcd
    go_enter Tryz.func23, Tryz.ntmps23
    go_wp2_with (go_at_call 65; refine (hwd _).mono ?_; rintro e w1 ⟨rfl, rfl⟩)
    go_ret
    exact ⟨rfl, (On.refl w).alloc _⟩
  | true =>
    cases bc with
    | false =>
      obtain rfl : B = false := by rw [HB.out]; simp
      go_enter Tryz.func23, Tryz.ntmps23
      go_wp2_with (first | (go_at_call 65; refine (hwd _).mono ?_; rintro e w1 ⟨rfl, rfl⟩) | (go_at_call 66; refine (hcd _ ((On.refl w).alloc _)).mono ?_; rintro e w2 ⟨rfl, k2⟩))
      go_ret
      exact ⟨rfl, ((On.refl w).alloc _).trans k2⟩
    | true =>
      have HB2 : Hid (B = ((INI.drop 0).all initOk && THR.all threadOk)) := by
        rw [Hid, HB.out]; simp
      clear HB
      have bt : ∀ cs T W, On (w.alloc (.cells cs T)) W → Bk W w.heap.size cs := fun cs T W k => (Bk.new w cs T).on k
      go_enter Tryz.func23, Tryz.ntmps23
      go_wp2_with (first | (go_at_call 65; refine (hwd _).mono ?_; rintro e w1 ⟨rfl, rfl⟩) | (go_at_call 66; refine (hcd _ ((On.refl w).alloc _)).mono ?_; rintro e w2 ⟨rfl, k2⟩))
      have TB := bt _ _ _ k2
      have HO : Hid (On w w2) := ((On.refl w).alloc _).trans k2
      clear bt k2 hwd hcd
      go_wp2
      go_loopg [3] INI.length (fun gg s3 wq => ∃ n : Nat, n ≤ INI.length ∧ gg = INI.length - n ∧ s3 = .int .i64 n ∧ Hid (On w wq) ∧ Bk wq w.heap.size #[.string nm, .slice a1 INI.length c1, .slice a2 THR.length c2, .int .i64 kk, .slice a3 nany c3] ∧ Hid (B = ((INI.drop n).all initOk && THR.all threadOk)))
      case atStart => exact ⟨0, Nat.zero_le _, rfl, rfl, HO, TB, HB2⟩
      case round =>
        clear HB2 HO TB
        obtain ⟨n, hn, hk, rfl, HO, TB, HF⟩ := hrel
        have t1 := TB.at (i := 1) rfl
        have tl := TB.lt
        rcases Nat.lt_or_ge n INI.length with hlt | hge
        · obtain ⟨x, hx⟩ : ∃ x, INI[n]? = some x := ⟨_, List.getElem?_eq_getElem hlt⟩
          obtain ⟨g, off, rfl, hg, hcell⟩ := (R1.out.on HO.out).at hx
          have q0 : wr.cell? ⟨g, off + n * 2, none⟩ = _ := hcell 0 _ rfl
          have HI : Hid (B = (locOk x.l && ((INI.drop (n + 1)).all initOk && THR.all threadOk))) := by
            rw [Hid, HF.out, drop_at hx, List.all_cons, Bool.and_assoc]; rfl
          clear HF hcell hx
          have hN := fun W => rnamed_is x.l W
          cases hl : locOk x.l with
          | true =>
            rw [hl] at hN
            have HJ : Hid (B = ((INI.drop (n + 1)).all initOk && THR.all threadOk)) := by rw [Hid, HI.out, hl, Bool.true_and]
            clear HI
            go_wp2_with (go_at_call 67; refine (hN _).mono ?_; rintro e w1 ⟨rfl, rfl⟩)
            go_roundg (INI.length - (n + 1))
            case measure => omega
            case rel => exact ⟨n + 1, by omega, rfl, by go_num, HO, TB, HJ⟩
          | false =>
            rw [hl] at hN
            obtain rfl : B = false := by rw [HI.out, hl, Bool.false_and]
            clear HI
            go_wp2_with (go_at_call 67; refine (hN _).mono ?_; rintro e w1 ⟨rfl, rfl⟩)
            go_ret
            exact ⟨rfl, HO.out⟩
        · obtain rfl : n = INI.length := by omega
          have HG : Hid (B = (THR.drop 0).all threadOk) := by
            rw [Hid, HF.out, List.drop_of_length_le hge]; rfl
          clear HF
          go_wp2
          clear t1
          go_loopg [4] THR.length (fun gg s4 wq => ∃ n : Nat, n ≤ THR.length ∧ gg = THR.length - n ∧ s4 = .int .i64 n ∧ Hid (On w wq) ∧ Bk wq w.heap.size #[.string nm, .slice a1 INI.length c1, .slice a2 THR.length c2, .int .i64 kk, .slice a3 nany c3] ∧ Hid (B = (THR.drop n).all threadOk))
          case atStart => exact ⟨0, Nat.zero_le _, rfl, rfl, HO, TB, HG⟩
          case round =>
            clear HG HO TB tl hge hn hk
            obtain ⟨n, hn, hk, rfl, HO, TB, HF⟩ := hrel
            have t2 := TB.at (i := 2) rfl
            have tl := TB.lt
            rcases Nat.lt_or_ge n THR.length with hlt | hge
            · obtain ⟨x, hx⟩ : ∃ x, THR[n]? = some x := ⟨_, List.getElem?_eq_getElem hlt⟩
              have HI : Hid (B = ((x.drop 0).all insOk && (THR.drop (n + 1)).all threadOk)) := by
                rw [Hid, HF.out, drop_at hx, List.all_cons]; rfl
              have HX : Hid (THR[n]? = some x) := hx
              clear HF hx
              go_wp2
              clear t2
              go_loopg [5] x.length (fun gg s5 wq => ∃ m : Nat, m ≤ x.length ∧ gg = x.length - m ∧ s5 = .int .i64 m ∧ Hid (On w wq) ∧ Bk wq w.heap.size #[.string nm, .slice a1 INI.length c1, .slice a2 THR.length c2, .int .i64 kk, .slice a3 nany c3] ∧ Hid (B = ((x.drop m).all insOk && (THR.drop (n + 1)).all threadOk)))
              case atStart => exact ⟨0, Nat.zero_le _, rfl, rfl, HO, TB, HI⟩
              case round =>
                clear HI HO TB tl
                obtain ⟨m, hm, hkm, rfl, HO, TB, HI⟩ := hrel
                have t2 := TB.at (i := 2) rfl
                have tl := TB.lt
                obtain ⟨g, off, rfl, hg, ax, cx, v0, hxm, rx⟩ := (R2.out.on HO.out).row HX.out
                rcases Nat.lt_or_ge m x.length with hlm | hgm
                · obtain ⟨y, hy⟩ : ∃ y, x[m]? = some y := ⟨_, List.getElem?_eq_getElem hlm⟩
                  obtain ⟨g2, off2, rfl, hg2, hcell⟩ := rx.at hy
                  have HJ0 : Hid (B = (insOk y && ((x.drop (m + 1)).all insOk && (THR.drop (n + 1)).all threadOk))) := by
                    rw [Hid, HI.out, drop_at hy, List.all_cons, Bool.and_assoc]
                  have hI := fun W => rinsOk_is y W
                  generalize insOk y = by_ at *
                  obtain ⟨k, r, l, ⟨ar, av⟩, o, ⟨br, bv⟩, q⟩ := y
                  have u0 : wr.cell? ⟨g2, off2 + m * 9, none⟩ = _ := hcell 0 _ rfl
                  have u1 : wr.cell? ⟨g2, off2 + m * 9 + 1, none⟩ = _ := hcell 1 _ rfl
                  have u2 : wr.cell? ⟨g2, off2 + m * 9 + 2, none⟩ = _ := hcell 2 _ rfl
                  have u3 : wr.cell? ⟨g2, off2 + m * 9 + 3, none⟩ = _ := hcell 3 _ rfl
                  have u4 : wr.cell? ⟨g2, off2 + m * 9 + 4, none⟩ = _ := hcell 4 _ rfl
                  have u5 : wr.cell? ⟨g2, off2 + m * 9 + 5, none⟩ = _ := hcell 5 _ rfl
                  have u6 : wr.cell? ⟨g2, off2 + m * 9 + 6, none⟩ = _ := hcell 6 _ rfl
                  have u7 : wr.cell? ⟨g2, off2 + m * 9 + 7, none⟩ = _ := hcell 7 _ rfl
                  have u8 : wr.cell? ⟨g2, off2 + m * 9 + 8, none⟩ = _ := hcell 8 _ rfl
                  simp only at u0 u1 u2 u3 u4 u5 u6 u7 u8 hI
                  clear HI hcell hy rx
                  cases by_ with
                  | true =>
                    have HJ : Hid (B = ((x.drop (m + 1)).all insOk && (THR.drop (n + 1)).all threadOk)) := by rw [Hid, HJ0.out, Bool.true_and]
                    clear HJ0
                    go_wp2_with (go_at_call 68; refine (hI _).mono ?_; rintro e w1 ⟨rfl, k1⟩)
                    go_roundg (x.length - (m + 1))
                    case measure => omega
                    case rel => exact ⟨m + 1, by omega, rfl, by go_num, HO.out.trans k1, TB.on k1, HJ⟩
                  | false =>
                    obtain rfl : B = false := by rw [HJ0.out, Bool.false_and]
                    clear HJ0
                    go_wp2_with (go_at_call 68; refine (hI _).mono ?_; rintro e w1 ⟨rfl, k1⟩)
                    go_ret
                    exact ⟨rfl, HO.out.trans k1⟩
                · have HJ : Hid (B = (THR.drop (n + 1)).all threadOk) := by
                    rw [Hid, HI.out, List.drop_of_length_le hgm]; rfl
                  clear HI rx
                  go_wp2
                  go_roundg (THR.length - (n + 1))
                  case measure => omega
                  case rel => exact ⟨n + 1, by omega, rfl, by go_num, HO, TB, HJ⟩
            · obtain rfl : n = THR.length := by omega
              obtain rfl : B = true := by rw [HF.out, List.drop_of_length_le hge]; rfl
              go_wp2
              go_ret
              exact ⟨rfl, HO.out⟩
end Go.Proofs.YtacflahkofmcpaaGreatDoor.Wl
