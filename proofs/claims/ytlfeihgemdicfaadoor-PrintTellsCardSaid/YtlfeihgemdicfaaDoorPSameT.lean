/- print.Same. -/
import Derived.Test.YtlfeihgemdicfaaDoorPSame
import Derived.Deep.DeepCutAuto
namespace Go.Proofs.YtlfeihgemdicfaaDoor
open Go.RowKit

set_option maxHeartbeats 8000000 in
set_option maxRecDepth 8000 in
theorem psame_is (a b : TestT) (va vb : Value) (w : World) (h : TestRd w va a) (h' : TestRd w vb b) :
    Calls Tryd.prog 6 #[va, vb] w fun e w' => e = .returned (.bool (sameT a b)) ∧ On w w' := by
  obtain ⟨a1, c1, a2, c2, a3, c3, rfl, hna, r1, r2, r3⟩ := h.ex
  obtain ⟨b1, d1, b2, d2, b3, d3, rfl, hnb, s1, s2, s3⟩ := h'.ex
  have hI := fun W (k : On w W) => sEqIni_is a.ini b.ini a1 b1 c1 d1 W (r1.on k) (s1.on k)
  have hT := fun W (k : On w W) => sFnIns_is a.thr b.thr a2 b2 c2 d2 W (r2.on k) (s2.on k)
  have hC := fun W (k : On w W) => sFnAtm_is a.cond.any b.cond.any a3 b3 c3 d3 W (r3.on k) (s3.on k)
  unfold sameT
  obtain ⟨W0, hW0⟩ : ∃ W0, W0 = (w.alloc (.cells #[.string a.name, .slice a1 a.ini.length c1, .slice a2 a.thr.length c2, .int .i64 a.cond.k, .slice a3 a.cond.any.length c3] 29)).alloc (.cells #[.string b.name, .slice b1 b.ini.length d1, .slice b2 b.thr.length d2, .int .i64 b.cond.k, .slice b3 b.cond.any.length d3] 29) := ⟨_, rfl⟩
  have K0 : On w W0 := by rw [hW0]; exact ((On.refl w).alloc _).alloc _
  have A0 : Bk W0 w.heap.size #[.string a.name, .slice a1 a.ini.length c1, .slice a2 a.thr.length c2, .int .i64 a.cond.k, .slice a3 a.cond.any.length c3] := by rw [hW0]; exact (Bk.new w _ _).alloc _
  have B0 : Bk W0 (w.heap.size + 1) #[.string b.name, .slice b1 b.ini.length d1, .slice b2 b.thr.length d2, .int .i64 b.cond.k, .slice b3 b.cond.any.length d3] := by
    rw [hW0]
    have := Bk.new (w.alloc (.cells #[.string a.name, .slice a1 a.ini.length c1, .slice a2 a.thr.length c2, .int .i64 a.cond.k, .slice a3 a.cond.any.length c3] 29)) #[.string b.name, .slice b1 b.ini.length d1, .slice b2 b.thr.length d2, .int .i64 b.cond.k, .slice b3 b.cond.any.length d3] 29
    rwa [World.size_alloc] at this
  generalize eqL iniE2 a.ini b.ini = I at *
  generalize eqL (eqL insE2) a.thr b.thr = T at *
  generalize eqL (eqL atmE2) a.cond.any b.cond.any = C at *
  clear r1 r2 r3 s1 s2 s3 h h'
  obtain ⟨an, ai, ats, ⟨ak, aa⟩⟩ := a
  obtain ⟨bn, bi, bt, ⟨bk, ba⟩⟩ := b
  simp only at *
  generalize ai.length = m1 at *
  generalize ats.length = m2 at *
  generalize aa.length = m3 at *
  generalize bi.length = n1 at *
  generalize bt.length = n2 at *
  generalize ba.length = n3 at *
  obtain ⟨R, hR⟩ : ∃ R, R = ((an.toList == bn.toList) && (I && (T && ((ak == bk) && C)))) := ⟨_, rfl⟩
  rw [← hR]
  have HR : Hid (R = ((an.toList == bn.toList) && (I && (T && ((ak == bk) && C))))) := hR
  clear hR
  have x0 := A0.at (i := 0) rfl
  have x1 := A0.at (i := 1) rfl
  have x2 := A0.at (i := 2) rfl
  have x3 := A0.at (i := 3) rfl
  have x4 := A0.at (i := 4) rfl
  have xl := A0.lt
  have y0 := B0.at (i := 0) rfl
  have y1 := B0.at (i := 1) rfl
  have y2 := B0.at (i := 2) rfl
  have y3 := B0.at (i := 3) rfl
  have y4 := B0.at (i := 4) rfl
  have yl := B0.lt
  go_enter Tryd.func6, Tryd.ntmps6
  go_upto_region 1 with fail
  rw [← hW0]
  clear hW0
  cases hn : (an.toList == bn.toList) with
  | true =>
    go_wp2_with fail
    refine (hI _ K0).mono ?_
    rintro _ w1 ⟨rfl, k1⟩
    have K1 := K0.trans k1
    have A1 := A0.on k1
    have B1 := B0.on k1
    clear x0 x1 x2 x3 x4 xl y0 y1 y2 y3 y4 yl hI k1 A0 B0
    cases I with
    | false =>
      obtain rfl : R = false := by rw [HR.out, hn]; simp
      go_wp2
      go_ret
      exact ⟨rfl, K1⟩
    | true =>
      have x2 := A1.at (i := 2) rfl
      have xl := A1.lt
      have y2 := B1.at (i := 2) rfl
      have yl := B1.lt
      go_wp2_with fail
      refine (hT _ K1).mono ?_
      rintro _ w2 ⟨rfl, k2⟩
      have K2 := K1.trans k2
      have A2 := A1.on k2
      have B2 := B1.on k2
      clear x2 xl y2 yl hT k2 A1 B1
      cases T with
      | false =>
        obtain rfl : R = false := by rw [HR.out, hn]; simp
        go_wp2
        go_ret
        exact ⟨rfl, K2⟩
      | true =>
        have x3 := A2.at (i := 3) rfl
        have x4 := A2.at (i := 4) rfl
        have xl := A2.lt
        have y3 := B2.at (i := 3) rfl
        have y4 := B2.at (i := 4) rfl
        have yl := B2.lt
        cases hk : (ak == bk) with
        | false =>
          obtain rfl : R = false := by rw [HR.out, hn, hk]; simp
          go_wp2
          go_ret
          exact ⟨rfl, K2⟩
        | true =>
          obtain rfl : R = C := by rw [HR.out, hn, hk]; simp
          go_wp2_with fail
          refine (hC _ K2).mono ?_
          rintro _ w3 ⟨rfl, k3⟩
          go_wp2
          go_ret
          exact ⟨rfl, K2.trans k3⟩
  | false =>
    obtain rfl : R = false := by rw [HR.out, hn, Bool.false_and]
    go_wp2
    go_ret
    exact ⟨rfl, K0⟩
end Go.Proofs.YtlfeihgemdicfaaDoor
