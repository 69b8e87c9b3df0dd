/- PrintOks: the law's walk. -/
import Derived.Test.YtlnofkoemhojgaaDoorSmallC
import Derived.Test.YtlnofkoemhojgaaDoorAwake4
import Derived.Test.YtlnofkoemhojgaaDoorOkBad
import Derived.Test.YtlnofkoemhojgaaDoorTurnP
import Derived.Test.YtlnofkoemhojgaaDoorRowPut
namespace Go.Proofs.YtlnofkoemhojgaaDoor
open Go.RowKit

theorem Bk.drew {w : World} {N : Nat} {cs : Array Value} (h : Bk w N cs) : Bk w.drew N cs := h
set_option maxHeartbeats 16000000 in
set_option maxRecDepth 8000 in
theorem printOks_go (zs : List Int) (a : Option Addr) (cap : Nat) (at0 kd0 : Int) (w : World) (lw : Lw w) (hz : zs.length ≤ 9223372036854775807) (hr : Rd intC 1 w (.slice a zs.length cap) zs) :
    Calls Tryd.prog 3 #[.slice a zs.length cap, .int .i64 at0, .int .i64 kd0] w fun e w' => e = .returned (.bool true) ∧ On w w' := by
  obtain ⟨m8, hm8, p8⟩ := low8 at0
  obtain ⟨c, hc8, p3⟩ := low3 kd0
  have hs := small_ok zs 8
  have hnm : (smallP zs 8).name.size ≤ 9223372036854775807 := by show (ByteArray.mk #[116]).size ≤ _; decide
  have hlen : 2 ≤ (smallP zs 8).thr.length ∧ (smallP zs 8).thr.length ≤ 3 := by
    have := (thrOf_ok zs 8).1
    show 2 ≤ (thrOf zs 8).1.length ∧ (thrOf zs 8).1.length ≤ 3
    omega
  go_enter Tryd.func3, Tryd.ntmps3
  go_wp2_with fail
  refine (small_is zs a cap 8 w hz hr).mono ?_
  rintro e w1 ⟨v, rfl, ⟨a1, c1, a2, c2, a3, c3, rfl, hI, hT, hA⟩, k1⟩
  have KW : Hid (On w w1) := k1
  clear k1 hr
  generalize smallP zs 8 = T at *
  have TR : TestRd w1 (.agg #[.string T.name, .slice a1 T.ini.length c1, .slice a2 T.thr.length c2, .int .i64 T.cond.k, .slice a3 T.cond.any.length c3]) T := ⟨a1, c1, a2, c2, a3, c3, rfl, hnm, Rd.own (fun _ => rfl) hI, hT.rd (fun _ => rfl), hA.rd (fun _ => rfl)⟩
  have C1 := fun W (k : On w1 W) => ok_is T _ W (lw.on (KW.out.trans k)) (TR.on k)
  rw [hs] at C1
  have hAw := fun (W : World) (k : On w1 W) => awake4_is W (lw.on (KW.out.trans k))
  have hsp : wordOk T.name = true ∧ T.ini.all initOk = true := by
    unfold testOk at hs
    simp only [Bool.and_eq_true] at hs
    exact ⟨hs.1.1.1, hs.1.1.2⟩
  obtain ⟨vs, hvl, hov, hin⟩ := hT
  obtain ⟨L0, hL0⟩ : ∃ L0, T.thr[0]? = some L0 := ⟨_, List.getElem?_eq_getElem (by omega)⟩
  obtain ⟨u0, hu0⟩ : ∃ u0, vs[0]? = some u0 := ⟨_, List.getElem?_eq_getElem (by omega)⟩
  have ho0 := hin 0 u0 L0 hu0 hL0
  obtain ⟨b0, d0, rfl⟩ := own_slice ho0
  obtain ⟨g2, cap2, hv2, _, hb2, hg2, hcell2⟩ := own_cells hov (by omega)
  simp only [Value.slice.injEq] at hv2
  obtain ⟨rfl, _, rfl⟩ := hv2
  have hq0 := hcell2 0 _ hu0
  have hL0m := own_max ho0
  have HI : Hid (iniO w1 w.heap.size (.slice a1 T.ini.length c1) T.ini) := hI
  have HV : Hid (w1.ownsRow w.heap.size 32 1 (.slice (some ⟨g2, 0, none⟩) T.thr.length c2) T.thr.length vs) := hov
  have HU : Hid (vs[0]? = some (.slice b0 L0.length d0)) := hu0
  clear hI hov hu0 hin hA TR hs hcell2 hvl hL0
  generalize T.thr.length = tm at *
  generalize T.cond.k = tk at *
  generalize T.cond.any.length = ta at *
  go_wp2_with fail
  refine (C1 _ ((On.refl w1).alloc _)).mono ?_
  rintro e w2 ⟨rfl, k2⟩
  have B2 := (Bk.new w1 _ _).on k2
  have K2 : Hid (On w1 w2) := ((On.refl w1).alloc _).trans k2
  have t0 := B2.at (i := 0) rfl
  have t1 := B2.at (i := 1) rfl
  have t2 := B2.at (i := 2) rfl
  have t3 := B2.at (i := 3) rfl
  have t4 := B2.at (i := 4) rfl
  have tl := B2.lt
  have tl1 := Nat.lt_succ_of_lt tl
  have q2 := (K2.out.cell (p := ⟨g2, 0, none⟩) hg2).trans hq0
  have g2l := Nat.lt_of_lt_of_le hg2 K2.out.size
  have g2l1 := Nat.lt_succ_of_lt g2l
  have tm0 : ((tm : Int) == 0) = false := by simpa using (by omega : ¬ (tm : Int) = 0)
  clear k2 hq0
  rcases Nat.eq_zero_or_pos L0.length with hL0z | hLp
  · obtain rfl : L0 = [] := List.eq_nil_of_length_eq_zero hL0z
    simp only [List.length_nil] at q2
    clear HU ho0
    go_wp2_with fail
    refine (C1 _ K2.out).mono ?_
    rintro e w3 ⟨rfl, k3⟩
    have K3 : Hid (On w1 w3) := K2.out.trans k3
    clear C1 t0 t1 t2 t3 t4
    go_wp2_with fail
    refine (hAw _ K3.out).mono ?_
    rintro e w4 ⟨rfl, k4⟩
    go_wp2
    go_ret
    exact ⟨rfl, KW.out.trans (K3.out.trans k4)⟩
  · obtain ⟨g, cap0, hv0, _, hbg, hgl, hcell⟩ := own_cells ho0 hLp
    simp only [Value.slice.injEq] at hv0
    obtain ⟨rfl, _, rfl⟩ := hv0
    have z0 : ((L0.length : Int) == 0) = false := by simpa using (by omega : ¬ (L0.length : Int) = 0)
    have zp : (0 : Int) < (L0.length : Int) := by omega
    obtain ⟨kk, hkk, qk⟩ : ∃ kk : Nat, kk < L0.length ∧ (m8 : Int) % (L0.length : Int) = (kk : Int) := ⟨m8 % L0.length, Nat.mod_lt _ hLp, by omega⟩
    obtain ⟨x, hx⟩ : ∃ x, L0[kk]? = some x := ⟨_, List.getElem?_eq_getElem hkk⟩
    have hcx : ∀ (j : Nat) (u : Value), (insC x)[j]? = some u → w2.cell? ⟨g, kk * 9 + j, none⟩ = some u := fun j u hj => by
      refine (K2.out.cell (p := ⟨g, kk * 9 + j, none⟩) hgl).trans (hcell _ _ ?_)
      rw [flat_at insC 9 (fun _ => rfl) L0 kk j x hx (by have := (List.getElem?_eq_some_iff.1 hj).1; exact this), hj]
    have e0 : w2.cell? ⟨g, kk * 9, none⟩ = _ := hcx 0 _ rfl
    have e1 := hcx 1 _ rfl
    have e2 := hcx 2 _ rfl
    have e3 := hcx 3 _ rfl
    have e4 := hcx 4 _ rfl
    have e5 := hcx 5 _ rfl
    have e6 := hcx 6 _ rfl
    have e7 := hcx 7 _ rfl
    have e8 := hcx 8 _ rfl
    have hgl2 := Nat.lt_of_lt_of_le hgl K2.out.size
    have hgl3 := Nat.lt_succ_of_lt hgl2
    have hfr : ∀ j, w2.frozen? ⟨g, j, none⟩ = false := fun j => by
      rcases (own_on ho0 K2.out).2 with ⟨hn, _⟩ | ⟨g', cp, cur, hv, _, hh, _⟩
      · cases hn
      · simp only [Value.slice.injEq, Option.some.injEq, Addr.mk.injEq] at hv
        obtain ⟨⟨rfl, _⟩, _⟩ := hv
        simp [World.frozen?, hh]
    have HO0 : Hid (w1.ownsRow w.heap.size 37 9 (.slice (some ⟨g, 0, none⟩) L0.length d0) L0.length (L0.flatMap insC)) := ho0
    have hgw : ¬ g = w1.heap.size := by omega
    have hgx : ¬ g = w2.heap.size := by omega
    clear hcell hcx ho0 hx C1
    have REST : ∀ (y : InsT) (c' : Nat) (_ : y = turnT c' x) (wc : World), wc = ((putCells w2 g (kk * 9) (insC y)).alloc (.cells (insC y).toArray 37)).drew →
        Hid ((∀ W, On wc W → Calls Tryd.prog 9 #[.agg #[.string T.name, .slice a1 T.ini.length c1, .slice (some ⟨g2, 0, none⟩) tm c2, .int .i64 tk, .slice a3 ta c3]] W fun e w' => e = .returned (.bool false) ∧ On W w') ∧
          (∀ W, On wc W → Calls Tryd.prog 11 #[.agg #[.string T.name, .slice a1 T.ini.length c1, .slice (some ⟨g2, 0, none⟩) tm c2, .int .i64 tk, .slice a3 ta c3]] W fun e w' => e = .returned (.string ⟨#[]⟩) ∧ On W w') ∧
          (∀ W, On wc W → Calls Tryd.prog 12 #[.agg #[.int .i64 y.k, .int .i64 y.r, .int .i64 y.l, .int .i64 y.a.r, .int .i64 y.a.v, .int .i64 y.o, .int .i64 y.b.r, .int .i64 y.b.v, .int .i64 y.n]] W fun e w' => e = .returned (.string ⟨#[]⟩) ∧ On W w') ∧
          (∀ W, On wc W → Calls Tryd.prog 10 #[] W fun e w' => e = .returned (.bool true) ∧ On W w') ∧
          Bk wc w1.heap.size #[.string T.name, .slice a1 T.ini.length c1, .slice (some ⟨g2, 0, none⟩) tm c2, .int .i64 tk, .slice a3 ta c3] ∧ Bk wc w2.heap.size (insC y).toArray ∧ On w wc) := by
      intro y c' hy wc hwc
      subst hy
      have hro := own_on HO0.out K2.out
      have hg : Wa g w2 (putCells w2 g (kk * 9) (insC (turnT c' x))) := Wa.puts (w := w) _ _ _ (Wa.refl _ _)
      have hkon : On (putCells w2 g (kk * 9) (insC (turnT c' x))) wc := by rw [hwc]; exact ((On.refl _).alloc _).drew
      have hI3 := own_on (own_far (own_on HI.out K2.out) hro (by decide) hg) hkon
      have hV3 := own_on (own_far (own_on HV.out K2.out) hro (by decide) hg) hkon
      obtain ⟨g3, cap3, hv3, _, _, hg3, hcell3⟩ := own_cells hV3 (by omega)
      simp only [Value.slice.injEq, Option.some.injEq, Addr.mk.injEq] at hv3
      obtain ⟨⟨rfl, _⟩, _, rfl⟩ := hv3
      have hrow := own_on (row_put hro hkk (turnT c' x)) hkon
      have hrd : Rd insC 9 wc (.slice (some ⟨g, 0, none⟩) (L0.set kk (turnT c' x)).length d0) (L0.set kk (turnT c' x)) := Rd.own (e := 37) (base := w.heap.size) (fun _ => rfl) (by rw [List.length_set]; exact hrow)
      have hq3 := hcell3 0 _ HU.out
      have BR : BadRd wc (.agg #[.string T.name, .slice a1 T.ini.length c1, .slice (some ⟨g2, 0, none⟩) tm c2, .int .i64 tk, .slice a3 ta c3]) T.name T.ini (L0.set kk (turnT c' x)) :=
        ⟨⟨a1, c1, g2, 0, tm, c2, tk, _, _, d0, rfl, hnm, Rd.own (fun _ => rfl) hI3, by omega, by omega, hg3, by rw [List.length_set]; exact hq3, hrd, a3, ta, c3, rfl⟩, hsp.1, hsp.2, thread_bad hkk c' x⟩
      have hon : On w wc := by rw [hwc]; exact ((On.puts hbg _ _ _ (KW.out.trans K2.out)).alloc _).drew
      refine ⟨fun W k => okBad_is _ W (lw.on (hon.trans k)) (BR.on k), fun W k => testBad_is _ W (lw.on (hon.trans k)) (BR.on k), fun W k => ins_no _ (turn_bad c' x) W (lw.on (hon.trans k)), fun W k => awake4_is W (lw.on (hon.trans k)), ?_, ?_, hon⟩
      · exact (B2.wa hg (fun h => hgw h.symm)).on hkon
      · have hb := Bk.new (putCells w2 g (kk * 9) (insC (turnT c' x))) (insC (turnT c' x)).toArray 37
        rw [size_puts] at hb
        rw [hwc]
        exact hb.drew
    have hcc : c = 0 ∨ c = 1 ∨ c = 2 ∨ c = 3 ∨ c = 4 ∨ c = 5 ∨ c = 6 ∨ c = 7 := by omega
    clear hc8 hAw
    rcases hcc with rfl | rfl | rfl | rfl | rfl | rfl | rfl | rfl
    · -- arm 0
      have q3 : bits .and .i64 kd0 7 = 0 := p3
      have hR := REST (⟨7, x.r, x.l, ⟨x.a.r, x.a.v⟩, x.o, ⟨x.b.r, x.b.v⟩, x.n⟩ : InsT) 0 rfl
      clear REST p3
      go_upto_region 22 with fail
      simp only [qk]
      clear qk
      go_cut [] (fun wc => wc = ((putCells w2 g (kk * 9) (insC (⟨7, x.r, x.l, ⟨x.a.r, x.a.v⟩, x.o, ⟨x.b.r, x.b.v⟩, x.n⟩ : InsT))).alloc (.cells (insC (⟨7, x.r, x.l, ⟨x.a.r, x.a.v⟩, x.o, ⟨x.b.r, x.b.v⟩, x.n⟩ : InsT)).toArray 37)).drew)
      case first =>
        clear hR
        go_region
        all_goals (try go_wp2)
        all_goals go_meet
        all_goals exact rfl
      case rest =>
        obtain ⟨OB, TB, IN, AW, BT, BX, hon⟩ := (hR wc hcut).out
        clear hR hcut e0 e1 e2 e3 e4 e5 e6 e7 e8 t0 t1 t2 t3 t4 tl tl1 q2 g2l g2l1 hfr hgl2 hgl3 q3
        have t0 := BT.at (i := 0) rfl
        have t1 := BT.at (i := 1) rfl
        have t2 := BT.at (i := 2) rfl
        have t3 := BT.at (i := 3) rfl
        have t4 := BT.at (i := 4) rfl
        have tl := BT.lt
        go_wp2_with fail
        refine (OB _ (On.refl wc)).mono ?_
        rintro e w3 ⟨rfl, k3⟩
        have BT3 := BT.on k3
        have BX3 := BX.on k3
        clear OB BT BX t0 t1 t2 t3 t4 tl
        have t0 := BT3.at (i := 0) rfl
        have t1 := BT3.at (i := 1) rfl
        have t2 := BT3.at (i := 2) rfl
        have t3 := BT3.at (i := 3) rfl
        have t4 := BT3.at (i := 4) rfl
        have tl := BT3.lt
        go_wp2_with fail
        refine (TB _ k3).mono ?_
        rintro e w4 ⟨rfl, k4⟩
        have BX4 := BX3.on k4
        have K4 : Hid (On wc w4) := k3.trans k4
        clear TB BT3 BX3 t0 t1 t2 t3 t4 tl k3 k4
        have s0 := BX4.at (i := 0) rfl
        have s1 := BX4.at (i := 1) rfl
        have s2 := BX4.at (i := 2) rfl
        have s3 := BX4.at (i := 3) rfl
        have s4 := BX4.at (i := 4) rfl
        have s5 := BX4.at (i := 5) rfl
        have s6 := BX4.at (i := 6) rfl
        have s7 := BX4.at (i := 7) rfl
        have s8 := BX4.at (i := 8) rfl
        have sl := BX4.lt
        go_wp2_with fail
        refine (IN _ K4.out).mono ?_
        rintro e w5 ⟨rfl, k5⟩
        have K5 : Hid (On wc w5) := K4.out.trans k5
        clear IN BX4 s0 s1 s2 s3 s4 s5 s6 s7 s8 sl K4 k5
        go_wp2_with fail
        refine (AW _ K5.out).mono ?_
        rintro e w6 ⟨rfl, k6⟩
        go_wp2
        go_ret
        exact ⟨rfl, hon.trans (K5.out.trans k6)⟩
    · -- arm 1
      have q3 : bits .and .i64 kd0 7 = 1 := p3
      have hR := REST (⟨x.k, 4, x.l, ⟨x.a.r, x.a.v⟩, x.o, ⟨x.b.r, x.b.v⟩, x.n⟩ : InsT) 1 rfl
      clear REST p3
      go_upto_region 22 with fail
      simp only [qk]
      clear qk
      go_cut [] (fun wc => wc = ((putCells w2 g (kk * 9) (insC (⟨x.k, 4, x.l, ⟨x.a.r, x.a.v⟩, x.o, ⟨x.b.r, x.b.v⟩, x.n⟩ : InsT))).alloc (.cells (insC (⟨x.k, 4, x.l, ⟨x.a.r, x.a.v⟩, x.o, ⟨x.b.r, x.b.v⟩, x.n⟩ : InsT)).toArray 37)).drew)
      case first =>
        clear hR
        go_region
        all_goals (try go_wp2)
        all_goals go_meet
        all_goals exact rfl
      case rest =>
        obtain ⟨OB, TB, IN, AW, BT, BX, hon⟩ := (hR wc hcut).out
        clear hR hcut e0 e1 e2 e3 e4 e5 e6 e7 e8 t0 t1 t2 t3 t4 tl tl1 q2 g2l g2l1 hfr hgl2 hgl3 q3
        have t0 := BT.at (i := 0) rfl
        have t1 := BT.at (i := 1) rfl
        have t2 := BT.at (i := 2) rfl
        have t3 := BT.at (i := 3) rfl
        have t4 := BT.at (i := 4) rfl
        have tl := BT.lt
        go_wp2_with fail
        refine (OB _ (On.refl wc)).mono ?_
        rintro e w3 ⟨rfl, k3⟩
        have BT3 := BT.on k3
        have BX3 := BX.on k3
        clear OB BT BX t0 t1 t2 t3 t4 tl
        have t0 := BT3.at (i := 0) rfl
        have t1 := BT3.at (i := 1) rfl
        have t2 := BT3.at (i := 2) rfl
        have t3 := BT3.at (i := 3) rfl
        have t4 := BT3.at (i := 4) rfl
        have tl := BT3.lt
        go_wp2_with fail
        refine (TB _ k3).mono ?_
        rintro e w4 ⟨rfl, k4⟩
        have BX4 := BX3.on k4
        have K4 : Hid (On wc w4) := k3.trans k4
        clear TB BT3 BX3 t0 t1 t2 t3 t4 tl k3 k4
        have s0 := BX4.at (i := 0) rfl
        have s1 := BX4.at (i := 1) rfl
        have s2 := BX4.at (i := 2) rfl
        have s3 := BX4.at (i := 3) rfl
        have s4 := BX4.at (i := 4) rfl
        have s5 := BX4.at (i := 5) rfl
        have s6 := BX4.at (i := 6) rfl
        have s7 := BX4.at (i := 7) rfl
        have s8 := BX4.at (i := 8) rfl
        have sl := BX4.lt
        go_wp2_with fail
        refine (IN _ K4.out).mono ?_
        rintro e w5 ⟨rfl, k5⟩
        have K5 : Hid (On wc w5) := K4.out.trans k5
        clear IN BX4 s0 s1 s2 s3 s4 s5 s6 s7 s8 sl K4 k5
        go_wp2_with fail
        refine (AW _ K5.out).mono ?_
        rintro e w6 ⟨rfl, k6⟩
        go_wp2
        go_ret
        exact ⟨rfl, hon.trans (K5.out.trans k6)⟩
    · -- arm 2
      have q3 : bits .and .i64 kd0 7 = 2 := p3
      have hR := REST (⟨x.k, x.r, 65, ⟨x.a.r, x.a.v⟩, x.o, ⟨x.b.r, x.b.v⟩, x.n⟩ : InsT) 2 rfl
      clear REST p3
      go_upto_region 22 with fail
      simp only [qk]
      clear qk
      go_cut [] (fun wc => wc = ((putCells w2 g (kk * 9) (insC (⟨x.k, x.r, 65, ⟨x.a.r, x.a.v⟩, x.o, ⟨x.b.r, x.b.v⟩, x.n⟩ : InsT))).alloc (.cells (insC (⟨x.k, x.r, 65, ⟨x.a.r, x.a.v⟩, x.o, ⟨x.b.r, x.b.v⟩, x.n⟩ : InsT)).toArray 37)).drew)
      case first =>
        clear hR
        go_region
        all_goals (try go_wp2)
        all_goals go_meet
        all_goals exact rfl
      case rest =>
        obtain ⟨OB, TB, IN, AW, BT, BX, hon⟩ := (hR wc hcut).out
        clear hR hcut e0 e1 e2 e3 e4 e5 e6 e7 e8 t0 t1 t2 t3 t4 tl tl1 q2 g2l g2l1 hfr hgl2 hgl3 q3
        have t0 := BT.at (i := 0) rfl
        have t1 := BT.at (i := 1) rfl
        have t2 := BT.at (i := 2) rfl
        have t3 := BT.at (i := 3) rfl
        have t4 := BT.at (i := 4) rfl
        have tl := BT.lt
        go_wp2_with fail
        refine (OB _ (On.refl wc)).mono ?_
        rintro e w3 ⟨rfl, k3⟩
        have BT3 := BT.on k3
        have BX3 := BX.on k3
        clear OB BT BX t0 t1 t2 t3 t4 tl
        have t0 := BT3.at (i := 0) rfl
        have t1 := BT3.at (i := 1) rfl
        have t2 := BT3.at (i := 2) rfl
        have t3 := BT3.at (i := 3) rfl
        have t4 := BT3.at (i := 4) rfl
        have tl := BT3.lt
        go_wp2_with fail
        refine (TB _ k3).mono ?_
        rintro e w4 ⟨rfl, k4⟩
        have BX4 := BX3.on k4
        have K4 : Hid (On wc w4) := k3.trans k4
        clear TB BT3 BX3 t0 t1 t2 t3 t4 tl k3 k4
        have s0 := BX4.at (i := 0) rfl
        have s1 := BX4.at (i := 1) rfl
        have s2 := BX4.at (i := 2) rfl
        have s3 := BX4.at (i := 3) rfl
        have s4 := BX4.at (i := 4) rfl
        have s5 := BX4.at (i := 5) rfl
        have s6 := BX4.at (i := 6) rfl
        have s7 := BX4.at (i := 7) rfl
        have s8 := BX4.at (i := 8) rfl
        have sl := BX4.lt
        go_wp2_with fail
        refine (IN _ K4.out).mono ?_
        rintro e w5 ⟨rfl, k5⟩
        have K5 : Hid (On wc w5) := K4.out.trans k5
        clear IN BX4 s0 s1 s2 s3 s4 s5 s6 s7 s8 sl K4 k5
        go_wp2_with fail
        refine (AW _ K5.out).mono ?_
        rintro e w6 ⟨rfl, k6⟩
        go_wp2
        go_ret
        exact ⟨rfl, hon.trans (K5.out.trans k6)⟩
    · -- arm 3
      have q3 : bits .and .i64 kd0 7 = 3 := p3
      have hR := REST (⟨x.k, x.r, x.l, ⟨x.a.r, x.a.v⟩, 12, ⟨x.b.r, x.b.v⟩, x.n⟩ : InsT) 3 rfl
      clear REST p3
      go_upto_region 22 with fail
      simp only [qk]
      clear qk
      go_cut [] (fun wc => wc = ((putCells w2 g (kk * 9) (insC (⟨x.k, x.r, x.l, ⟨x.a.r, x.a.v⟩, 12, ⟨x.b.r, x.b.v⟩, x.n⟩ : InsT))).alloc (.cells (insC (⟨x.k, x.r, x.l, ⟨x.a.r, x.a.v⟩, 12, ⟨x.b.r, x.b.v⟩, x.n⟩ : InsT)).toArray 37)).drew)
      case first =>
        clear hR
        go_region
        all_goals (try go_wp2)
        all_goals go_meet
        all_goals exact rfl
      case rest =>
        obtain ⟨OB, TB, IN, AW, BT, BX, hon⟩ := (hR wc hcut).out
        clear hR hcut e0 e1 e2 e3 e4 e5 e6 e7 e8 t0 t1 t2 t3 t4 tl tl1 q2 g2l g2l1 hfr hgl2 hgl3 q3
        have t0 := BT.at (i := 0) rfl
        have t1 := BT.at (i := 1) rfl
        have t2 := BT.at (i := 2) rfl
        have t3 := BT.at (i := 3) rfl
        have t4 := BT.at (i := 4) rfl
        have tl := BT.lt
        go_wp2_with fail
        refine (OB _ (On.refl wc)).mono ?_
        rintro e w3 ⟨rfl, k3⟩
        have BT3 := BT.on k3
        have BX3 := BX.on k3
        clear OB BT BX t0 t1 t2 t3 t4 tl
        have t0 := BT3.at (i := 0) rfl
        have t1 := BT3.at (i := 1) rfl
        have t2 := BT3.at (i := 2) rfl
        have t3 := BT3.at (i := 3) rfl
        have t4 := BT3.at (i := 4) rfl
        have tl := BT3.lt
        go_wp2_with fail
        refine (TB _ k3).mono ?_
        rintro e w4 ⟨rfl, k4⟩
        have BX4 := BX3.on k4
        have K4 : Hid (On wc w4) := k3.trans k4
        clear TB BT3 BX3 t0 t1 t2 t3 t4 tl k3 k4
        have s0 := BX4.at (i := 0) rfl
        have s1 := BX4.at (i := 1) rfl
        have s2 := BX4.at (i := 2) rfl
        have s3 := BX4.at (i := 3) rfl
        have s4 := BX4.at (i := 4) rfl
        have s5 := BX4.at (i := 5) rfl
        have s6 := BX4.at (i := 6) rfl
        have s7 := BX4.at (i := 7) rfl
        have s8 := BX4.at (i := 8) rfl
        have sl := BX4.lt
        go_wp2_with fail
        refine (IN _ K4.out).mono ?_
        rintro e w5 ⟨rfl, k5⟩
        have K5 : Hid (On wc w5) := K4.out.trans k5
        clear IN BX4 s0 s1 s2 s3 s4 s5 s6 s7 s8 sl K4 k5
        go_wp2_with fail
        refine (AW _ K5.out).mono ?_
        rintro e w6 ⟨rfl, k6⟩
        go_wp2
        go_ret
        exact ⟨rfl, hon.trans (K5.out.trans k6)⟩
    · -- arm 4
      have q3 : bits .and .i64 kd0 7 = 4 := p3
      have hR := REST (⟨x.k, x.r, x.l, ⟨x.a.r, x.a.v⟩, x.o, ⟨x.b.r, x.b.v⟩, -1⟩ : InsT) 4 rfl
      clear REST p3
      go_upto_region 22 with fail
      simp only [qk]
      clear qk
      go_cut [] (fun wc => wc = ((putCells w2 g (kk * 9) (insC (⟨x.k, x.r, x.l, ⟨x.a.r, x.a.v⟩, x.o, ⟨x.b.r, x.b.v⟩, -1⟩ : InsT))).alloc (.cells (insC (⟨x.k, x.r, x.l, ⟨x.a.r, x.a.v⟩, x.o, ⟨x.b.r, x.b.v⟩, -1⟩ : InsT)).toArray 37)).drew)
      case first =>
        clear hR
        go_region
        all_goals (try go_wp2)
        all_goals go_meet
        all_goals exact rfl
      case rest =>
        obtain ⟨OB, TB, IN, AW, BT, BX, hon⟩ := (hR wc hcut).out
        clear hR hcut e0 e1 e2 e3 e4 e5 e6 e7 e8 t0 t1 t2 t3 t4 tl tl1 q2 g2l g2l1 hfr hgl2 hgl3 q3
        have t0 := BT.at (i := 0) rfl
        have t1 := BT.at (i := 1) rfl
        have t2 := BT.at (i := 2) rfl
        have t3 := BT.at (i := 3) rfl
        have t4 := BT.at (i := 4) rfl
        have tl := BT.lt
        go_wp2_with fail
        refine (OB _ (On.refl wc)).mono ?_
        rintro e w3 ⟨rfl, k3⟩
        have BT3 := BT.on k3
        have BX3 := BX.on k3
        clear OB BT BX t0 t1 t2 t3 t4 tl
        have t0 := BT3.at (i := 0) rfl
        have t1 := BT3.at (i := 1) rfl
        have t2 := BT3.at (i := 2) rfl
        have t3 := BT3.at (i := 3) rfl
        have t4 := BT3.at (i := 4) rfl
        have tl := BT3.lt
        go_wp2_with fail
        refine (TB _ k3).mono ?_
        rintro e w4 ⟨rfl, k4⟩
        have BX4 := BX3.on k4
        have K4 : Hid (On wc w4) := k3.trans k4
        clear TB BT3 BX3 t0 t1 t2 t3 t4 tl k3 k4
        have s0 := BX4.at (i := 0) rfl
        have s1 := BX4.at (i := 1) rfl
        have s2 := BX4.at (i := 2) rfl
        have s3 := BX4.at (i := 3) rfl
        have s4 := BX4.at (i := 4) rfl
        have s5 := BX4.at (i := 5) rfl
        have s6 := BX4.at (i := 6) rfl
        have s7 := BX4.at (i := 7) rfl
        have s8 := BX4.at (i := 8) rfl
        have sl := BX4.lt
        go_wp2_with fail
        refine (IN _ K4.out).mono ?_
        rintro e w5 ⟨rfl, k5⟩
        have K5 : Hid (On wc w5) := K4.out.trans k5
        clear IN BX4 s0 s1 s2 s3 s4 s5 s6 s7 s8 sl K4 k5
        go_wp2_with fail
        refine (AW _ K5.out).mono ?_
        rintro e w6 ⟨rfl, k6⟩
        go_wp2
        go_ret
        exact ⟨rfl, hon.trans (K5.out.trans k6)⟩
    · -- arm 5
      have q3 : bits .and .i64 kd0 7 = 5 := p3
      have hR := REST (⟨x.k, x.r, x.l, ⟨4, x.a.v⟩, x.o, ⟨x.b.r, x.b.v⟩, x.n⟩ : InsT) 5 rfl
      clear REST p3
      go_upto_region 22 with fail
      simp only [qk]
      clear qk
      go_cut [] (fun wc => wc = ((putCells w2 g (kk * 9) (insC (⟨x.k, x.r, x.l, ⟨4, x.a.v⟩, x.o, ⟨x.b.r, x.b.v⟩, x.n⟩ : InsT))).alloc (.cells (insC (⟨x.k, x.r, x.l, ⟨4, x.a.v⟩, x.o, ⟨x.b.r, x.b.v⟩, x.n⟩ : InsT)).toArray 37)).drew)
      case first =>
        clear hR
        go_region
        all_goals (try go_wp2)
        all_goals go_meet
        all_goals exact rfl
      case rest =>
        obtain ⟨OB, TB, IN, AW, BT, BX, hon⟩ := (hR wc hcut).out
        clear hR hcut e0 e1 e2 e3 e4 e5 e6 e7 e8 t0 t1 t2 t3 t4 tl tl1 q2 g2l g2l1 hfr hgl2 hgl3 q3
        have t0 := BT.at (i := 0) rfl
        have t1 := BT.at (i := 1) rfl
        have t2 := BT.at (i := 2) rfl
        have t3 := BT.at (i := 3) rfl
        have t4 := BT.at (i := 4) rfl
        have tl := BT.lt
        go_wp2_with fail
        refine (OB _ (On.refl wc)).mono ?_
        rintro e w3 ⟨rfl, k3⟩
        have BT3 := BT.on k3
        have BX3 := BX.on k3
        clear OB BT BX t0 t1 t2 t3 t4 tl
        have t0 := BT3.at (i := 0) rfl
        have t1 := BT3.at (i := 1) rfl
        have t2 := BT3.at (i := 2) rfl
        have t3 := BT3.at (i := 3) rfl
        have t4 := BT3.at (i := 4) rfl
        have tl := BT3.lt
        go_wp2_with fail
        refine (TB _ k3).mono ?_
        rintro e w4 ⟨rfl, k4⟩
        have BX4 := BX3.on k4
        have K4 : Hid (On wc w4) := k3.trans k4
        clear TB BT3 BX3 t0 t1 t2 t3 t4 tl k3 k4
        have s0 := BX4.at (i := 0) rfl
        have s1 := BX4.at (i := 1) rfl
        have s2 := BX4.at (i := 2) rfl
        have s3 := BX4.at (i := 3) rfl
        have s4 := BX4.at (i := 4) rfl
        have s5 := BX4.at (i := 5) rfl
        have s6 := BX4.at (i := 6) rfl
        have s7 := BX4.at (i := 7) rfl
        have s8 := BX4.at (i := 8) rfl
        have sl := BX4.lt
        go_wp2_with fail
        refine (IN _ K4.out).mono ?_
        rintro e w5 ⟨rfl, k5⟩
        have K5 : Hid (On wc w5) := K4.out.trans k5
        clear IN BX4 s0 s1 s2 s3 s4 s5 s6 s7 s8 sl K4 k5
        go_wp2_with fail
        refine (AW _ K5.out).mono ?_
        rintro e w6 ⟨rfl, k6⟩
        go_wp2
        go_ret
        exact ⟨rfl, hon.trans (K5.out.trans k6)⟩
    · -- arm 6
      have q3 : bits .and .i64 kd0 7 = 6 := p3
      have hR := REST (⟨x.k, x.r, x.l, ⟨x.a.r, x.a.v⟩, x.o, ⟨-2, x.b.v⟩, x.n⟩ : InsT) 6 rfl
      clear REST p3
      go_upto_region 22 with fail
      simp only [qk]
      clear qk
      go_cut [] (fun wc => wc = ((putCells w2 g (kk * 9) (insC (⟨x.k, x.r, x.l, ⟨x.a.r, x.a.v⟩, x.o, ⟨-2, x.b.v⟩, x.n⟩ : InsT))).alloc (.cells (insC (⟨x.k, x.r, x.l, ⟨x.a.r, x.a.v⟩, x.o, ⟨-2, x.b.v⟩, x.n⟩ : InsT)).toArray 37)).drew)
      case first =>
        clear hR
        go_region
        all_goals (try go_wp2)
        all_goals go_meet
        all_goals exact rfl
      case rest =>
        obtain ⟨OB, TB, IN, AW, BT, BX, hon⟩ := (hR wc hcut).out
        clear hR hcut e0 e1 e2 e3 e4 e5 e6 e7 e8 t0 t1 t2 t3 t4 tl tl1 q2 g2l g2l1 hfr hgl2 hgl3 q3
        have t0 := BT.at (i := 0) rfl
        have t1 := BT.at (i := 1) rfl
        have t2 := BT.at (i := 2) rfl
        have t3 := BT.at (i := 3) rfl
        have t4 := BT.at (i := 4) rfl
        have tl := BT.lt
        go_wp2_with fail
        refine (OB _ (On.refl wc)).mono ?_
        rintro e w3 ⟨rfl, k3⟩
        have BT3 := BT.on k3
        have BX3 := BX.on k3
        clear OB BT BX t0 t1 t2 t3 t4 tl
        have t0 := BT3.at (i := 0) rfl
        have t1 := BT3.at (i := 1) rfl
        have t2 := BT3.at (i := 2) rfl
        have t3 := BT3.at (i := 3) rfl
        have t4 := BT3.at (i := 4) rfl
        have tl := BT3.lt
        go_wp2_with fail
        refine (TB _ k3).mono ?_
        rintro e w4 ⟨rfl, k4⟩
        have BX4 := BX3.on k4
        have K4 : Hid (On wc w4) := k3.trans k4
        clear TB BT3 BX3 t0 t1 t2 t3 t4 tl k3 k4
        have s0 := BX4.at (i := 0) rfl
        have s1 := BX4.at (i := 1) rfl
        have s2 := BX4.at (i := 2) rfl
        have s3 := BX4.at (i := 3) rfl
        have s4 := BX4.at (i := 4) rfl
        have s5 := BX4.at (i := 5) rfl
        have s6 := BX4.at (i := 6) rfl
        have s7 := BX4.at (i := 7) rfl
        have s8 := BX4.at (i := 8) rfl
        have sl := BX4.lt
        go_wp2_with fail
        refine (IN _ K4.out).mono ?_
        rintro e w5 ⟨rfl, k5⟩
        have K5 : Hid (On wc w5) := K4.out.trans k5
        clear IN BX4 s0 s1 s2 s3 s4 s5 s6 s7 s8 sl K4 k5
        go_wp2_with fail
        refine (AW _ K5.out).mono ?_
        rintro e w6 ⟨rfl, k6⟩
        go_wp2
        go_ret
        exact ⟨rfl, hon.trans (K5.out.trans k6)⟩
    · -- arm 7
      have q3 : bits .and .i64 kd0 7 = 7 := p3
      have hR := REST (⟨0, x.r, x.l, ⟨x.a.r, x.a.v⟩, x.o, ⟨x.b.r, x.b.v⟩, x.n⟩ : InsT) 7 rfl
      clear REST p3
      go_upto_region 22 with fail
      simp only [qk]
      clear qk
      go_cut [] (fun wc => wc = ((putCells w2 g (kk * 9) (insC (⟨0, x.r, x.l, ⟨x.a.r, x.a.v⟩, x.o, ⟨x.b.r, x.b.v⟩, x.n⟩ : InsT))).alloc (.cells (insC (⟨0, x.r, x.l, ⟨x.a.r, x.a.v⟩, x.o, ⟨x.b.r, x.b.v⟩, x.n⟩ : InsT)).toArray 37)).drew)
      case first =>
        clear hR
        go_region
        all_goals (try go_wp2)
        all_goals go_meet
        all_goals exact rfl
      case rest =>
        obtain ⟨OB, TB, IN, AW, BT, BX, hon⟩ := (hR wc hcut).out
        clear hR hcut e0 e1 e2 e3 e4 e5 e6 e7 e8 t0 t1 t2 t3 t4 tl tl1 q2 g2l g2l1 hfr hgl2 hgl3 q3
        have t0 := BT.at (i := 0) rfl
        have t1 := BT.at (i := 1) rfl
        have t2 := BT.at (i := 2) rfl
        have t3 := BT.at (i := 3) rfl
        have t4 := BT.at (i := 4) rfl
        have tl := BT.lt
        go_wp2_with fail
        refine (OB _ (On.refl wc)).mono ?_
        rintro e w3 ⟨rfl, k3⟩
        have BT3 := BT.on k3
        have BX3 := BX.on k3
        clear OB BT BX t0 t1 t2 t3 t4 tl
        have t0 := BT3.at (i := 0) rfl
        have t1 := BT3.at (i := 1) rfl
        have t2 := BT3.at (i := 2) rfl
        have t3 := BT3.at (i := 3) rfl
        have t4 := BT3.at (i := 4) rfl
        have tl := BT3.lt
        go_wp2_with fail
        refine (TB _ k3).mono ?_
        rintro e w4 ⟨rfl, k4⟩
        have BX4 := BX3.on k4
        have K4 : Hid (On wc w4) := k3.trans k4
        clear TB BT3 BX3 t0 t1 t2 t3 t4 tl k3 k4
        have s0 := BX4.at (i := 0) rfl
        have s1 := BX4.at (i := 1) rfl
        have s2 := BX4.at (i := 2) rfl
        have s3 := BX4.at (i := 3) rfl
        have s4 := BX4.at (i := 4) rfl
        have s5 := BX4.at (i := 5) rfl
        have s6 := BX4.at (i := 6) rfl
        have s7 := BX4.at (i := 7) rfl
        have s8 := BX4.at (i := 8) rfl
        have sl := BX4.lt
        go_wp2_with fail
        refine (IN _ K4.out).mono ?_
        rintro e w5 ⟨rfl, k5⟩
        have K5 : Hid (On wc w5) := K4.out.trans k5
        clear IN BX4 s0 s1 s2 s3 s4 s5 s6 s7 s8 sl K4 k5
        go_wp2_with fail
        refine (AW _ K5.out).mono ?_
        rintro e w6 ⟨rfl, k6⟩
        go_wp2
        go_ret
        exact ⟨rfl, hon.trans (K5.out.trans k6)⟩
end Go.Proofs.YtlnofkoemhojgaaDoor
