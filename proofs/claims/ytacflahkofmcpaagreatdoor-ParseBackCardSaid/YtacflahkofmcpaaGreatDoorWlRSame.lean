/- The document's SameCond and Same for any two that lie in memory. -/
import Derived.Test.YtacflahkofmcpaaGreatDoorWlPSame
import Derived.Deep.DeepCutAuto
namespace Go.Proofs.YtacflahkofmcpaaGreatDoor.Wl
open Go.RowKit

set_option maxHeartbeats 8000000 in
set_option maxRecDepth 8000 in
theorem rsameCond_is (k1 k2 : Int) (L M : List (List AtomT)) (a b : Option Addr) (c d : Nat) (w : World) (h : Rd2 atomC 4 w (.slice a L.length c) L) (h' : Rd2 atomC 4 w (.slice b M.length d) M) :
    Calls Tryz.prog 33 #[.agg #[.int .i64 k1, .slice a L.length c], .agg #[.int .i64 k2, .slice b M.length d]] w fun e w' => e = .returned (.bool ((k1 == k2) && eqL (eqL atmE2) L M)) ∧ On w w' := by
  obtain ⟨_, _, _, _, hm⟩ := h.slice
  obtain ⟨_, _, _, _, hm'⟩ := h'.slice
  have HA : Hid (Rd2 atomC 4 w (.slice a L.length c) L) := h
  have HB : Hid (Rd2 atomC 4 w (.slice b M.length d) M) := h'
  clear h h'
  obtain ⟨W0, hW0⟩ : ∃ W0, W0 = (w.alloc (.cells #[.int .i64 k1, .slice a L.length c] 26)).alloc (.cells #[.int .i64 k2, .slice b M.length d] 26) := ⟨_, rfl⟩
  have KKS : Hid (On w W0) := by rw [hW0]; exact ((On.refl w).alloc _).alloc _
  have AAS : Bk W0 w.heap.size #[.int .i64 k1, .slice a L.length c] := by rw [hW0]; exact (Bk.new w _ _).alloc _
  have BBS : Bk W0 (w.heap.size + 1) #[.int .i64 k2, .slice b M.length d] := by
    rw [hW0]
    have := Bk.new (w.alloc (.cells #[.int .i64 k1, .slice a L.length c] 26)) #[.int .i64 k2, .slice b M.length d] 26
    rwa [World.size_alloc] at this
  have z0 := AAS.at (i := 0) rfl
  have z1 := AAS.at (i := 1) rfl
  have zl := AAS.lt
  have v0 := BBS.at (i := 0) rfl
  have v1 := BBS.at (i := 1) rfl
  have vl := BBS.lt
  obtain ⟨R, hR⟩ : ∃ R, R = eqL (eqL atmE2) L M := ⟨_, rfl⟩
  rw [← hR]
  cases hk : (k1 == k2) with
  | false =>
    have hk' : (k1 != k2) = true := by rw [bne, hk]; rfl
    rw [Bool.false_and]
    clear hR
    go_enter Tryz.func33, Tryz.ntmps33
    go_upto_region 1 with fail
    rw [← hW0]
    clear hW0
    go_wp2
    go_ret
    exact ⟨rfl, KKS.out⟩
  | true =>
    have hk' : (k1 != k2) = false := by rw [bne, hk]; rfl
    rw [Bool.true_and]
    by_cases hl : L.length = M.length
    · have dn : ((L.length : Int) != (M.length : Int)) = false := by rw [hl]; simp
      have HL : Hid (L.length = M.length) := hl
      have HR : Hid (R = eqL (eqL atmE2) (L.drop 0) (M.drop 0)) := hR
      clear hR hl
      go_enter Tryz.func33, Tryz.ntmps33
      go_upto_region 1 with fail
      rw [← hW0]
      clear hW0
      go_wp2
      clear z0 z1 zl v0 v1 vl
      go_loopg [5] L.length (fun gg s wq => ∃ n : Nat, n ≤ L.length ∧ gg = L.length - n ∧ s = .int .i64 n ∧ Hid (On w wq) ∧ Bk wq w.heap.size #[.int .i64 k1, .slice a L.length c] ∧ Bk wq (w.heap.size + 1) #[.int .i64 k2, .slice b M.length d] ∧ Hid (R = eqL (eqL atmE2) (L.drop n) (M.drop n)))
      case atStart => exact ⟨0, Nat.zero_le _, rfl, rfl, KKS, AAS, BBS, HR⟩
      case round =>
        clear HR AAS BBS KKS
        obtain ⟨n, hn, hk, rfl, HO, A1, B1, HR⟩ := hrel
        have bx1 := A1.at (i := 1) rfl
        have by1 := B1.at (i := 1) rfl
        have bxl := A1.lt
        have byl := B1.lt
        rcases Nat.lt_or_ge n L.length with hlt | hge
        · have hltM : n < M.length := by have := HL.out; omega
          obtain ⟨x, hx⟩ : ∃ x, L[n]? = some x := ⟨_, List.getElem?_eq_getElem hlt⟩
          obtain ⟨y, hy⟩ : ∃ y, M[n]? = some y := ⟨_, List.getElem?_eq_getElem hltM⟩
          obtain ⟨g1, o1, ea1, hg1, ax, cx, hcx, hmx, rx⟩ := (HA.out.on HO.out).row hx
          obtain ⟨g2, o2, ea2, hg2, ay, cy, hcy, hmy, ry⟩ := (HB.out.on HO.out).row hy
          have hr := HR.out
          rw [drop_at hx, drop_at hy, eqL] at hr
          have bn0 : (0 : Int) ≤ (n : Int) := by omega
          have bn1 : (n : Int) < (L.length : Int) := by omega
          have bn2 : (n : Int) < (M.length : Int) := by omega
          subst ea1
          subst ea2
          clear hx hy HR
          by_cases hxl : x.length = y.length
          · have dxy : ((x.length : Int) != (y.length : Int)) = false := by rw [hxl]; simp
            have HXL : Hid (x.length = y.length) := hxl
            have HI : Hid (R = (eqL atmE2 (x.drop 0) (y.drop 0) && eqL (eqL atmE2) (L.drop (n + 1)) (M.drop (n + 1)))) := hr
            have HRX : Hid (Rd atomC 4 wr (.slice ax x.length cx) x) := rx
            have HRY : Hid (Rd atomC 4 wr (.slice ay y.length cy) y) := ry
            have HCX : Hid (wr.cell? ⟨g1, o1 + n, none⟩ = some (.slice ax x.length cx)) := hcx
            have HCY : Hid (wr.cell? ⟨g2, o2 + n, none⟩ = some (.slice ay y.length cy)) := hcy
            obtain ⟨V, hV⟩ : ∃ V, V = wr := ⟨_, rfl⟩
            subst hV
            clear hr hxl rx ry
            go_wp2
            go_quiet (fail)
            go_wp2
            go_loopg [6] x.length (fun gg s wq => ∃ m : Nat, m ≤ x.length ∧ gg = x.length - m ∧ s = .int .i64 m ∧ Hid (On V wq) ∧ Hid (R = (eqL atmE2 (x.drop m) (y.drop m) && eqL (eqL atmE2) (L.drop (n + 1)) (M.drop (n + 1)))))
            case atStart => exact ⟨0, Nat.zero_le _, rfl, rfl, On.drewN (On.refl V) _, HI⟩
            case round =>
              clear HI
              obtain ⟨m, hm0, hkm, rfl, HV, HI⟩ := hrel
              have kV := HV.out
              have A2 := A1.on kV
              have B2 := B1.on kV
              clear bx1 by1 bxl byl
              have bx1 := A2.at (i := 1) rfl
              have by1 := B2.at (i := 1) rfl
              have bxl := A2.lt
              have byl := B2.lt
              have hcx2 := (kV.cell (p := ⟨g1, o1 + n, none⟩) hg1).trans HCX.out
              have hcy2 := (kV.cell (p := ⟨g2, o2 + n, none⟩) hg2).trans HCY.out
              have hg1' := Nat.lt_of_lt_of_le hg1 kV.size
              have hg2' := Nat.lt_of_lt_of_le hg2 kV.size
              rcases Nat.lt_or_ge m x.length with hlm | hgm
              · have hlmy : m < y.length := by have := HXL.out; omega
                obtain ⟨p, hp⟩ : ∃ p, x[m]? = some p := ⟨_, List.getElem?_eq_getElem hlm⟩
                obtain ⟨q, hq⟩ : ∃ q, y[m]? = some q := ⟨_, List.getElem?_eq_getElem hlmy⟩
                obtain ⟨g3, o3, rfl, hg3, hc1⟩ := (HRX.out.on kV).at hp
                obtain ⟨g4, o4, rfl, hg4, hc2⟩ := (HRY.out.on kV).at hq
                have p0 : wr.cell? ⟨g3, o3 + m * 4, none⟩ = _ := hc1 0 _ rfl
                have p1 : wr.cell? ⟨g3, o3 + m * 4 + 1, none⟩ = _ := hc1 1 _ rfl
                have p2 : wr.cell? ⟨g3, o3 + m * 4 + 2, none⟩ = _ := hc1 2 _ rfl
                have p3 : wr.cell? ⟨g3, o3 + m * 4 + 3, none⟩ = _ := hc1 3 _ rfl
                have q0 : wr.cell? ⟨g4, o4 + m * 4, none⟩ = _ := hc2 0 _ rfl
                have q1 : wr.cell? ⟨g4, o4 + m * 4 + 1, none⟩ = _ := hc2 1 _ rfl
                have q2 : wr.cell? ⟨g4, o4 + m * 4 + 2, none⟩ = _ := hc2 2 _ rfl
                have q3 : wr.cell? ⟨g4, o4 + m * 4 + 3, none⟩ = _ := hc2 3 _ rfl
                have hr := HI.out
                rw [drop_at hp, drop_at hq, eqL] at hr
                have bm0 : (0 : Int) ≤ (m : Int) := by omega
                have bm1 : (m : Int) < (x.length : Int) := by omega
                have bm2 : (m : Int) < (y.length : Int) := by omega
                have hEx := fun W => eqVAtm W p.t p.r p.l p.v q.t q.r q.l q.v
                have ePQ : (p.t == q.t && (p.r == q.r && (p.l == q.l && p.v == q.v))) = atmE2 p q := rfl
                rw [ePQ] at hEx
                clear hp hq hc1 hc2 HI
                cases hpq : atmE2 p q with
                | true =>
                  rw [hpq] at hEx hr
                  have HI2 : Hid (R = (eqL atmE2 (x.drop (m + 1)) (y.drop (m + 1)) && eqL (eqL atmE2) (L.drop (n + 1)) (M.drop (n + 1)))) := by
                    show R = _
                    rw [hr, Bool.true_and]
                  clear hr hpq ePQ
                  go_wp2
                  go_quiet (fail)
                  go_wp2
                  go_roundg (x.length - (m + 1))
                  case measure => omega
                  case rel => exact ⟨m + 1, by omega, rfl, by go_num, On.drewN HV.out _, HI2⟩
                | false =>
                  rw [hpq] at hEx hr
                  obtain rfl : R = false := by rw [hr]; simp
                  clear hr hpq ePQ
                  go_wp2
                  go_quiet (fail)
                  go_wp2
                  go_ret
                  exact ⟨rfl, HO.out.trans (On.drewN HV.out _)⟩
              · obtain rfl : m = x.length := by omega
                have HR2 : Hid (R = eqL (eqL atmE2) (L.drop (n + 1)) (M.drop (n + 1))) := by
                  have h := HI.out
                  rw [List.drop_length, HXL.out, List.drop_length] at h
                  exact h
                go_wp2
                go_roundg (L.length - (n + 1))
                case measure => omega
                case rel => exact ⟨n + 1, by omega, rfl, by go_num, HO.out.trans HV.out, A2, B2, HR2⟩
          · have dxy : ((x.length : Int) != (y.length : Int)) = true := by simp; omega
            obtain rfl : R = false := by rw [hr, eqL_len x y hxl]; rfl
            clear hr rx ry
            go_wp2
            go_quiet (fail)
            go_wp2
            go_ret
            exact ⟨rfl, On.drewN HO.out _⟩
        · obtain rfl : n = L.length := by omega
          obtain rfl : R = true := by rw [HR.out, List.drop_length, HL.out, List.drop_length]; rfl
          go_wp2
          go_ret
          exact ⟨rfl, HO.out⟩
    · have dn : ((L.length : Int) != (M.length : Int)) = true := by simp; omega
      obtain rfl : R = false := by rw [hR, eqL_len L M hl]
      clear hR
      go_enter Tryz.func33, Tryz.ntmps33
      go_upto_region 1 with fail
      rw [← hW0]
      clear hW0
      go_wp2
      go_ret
      exact ⟨rfl, KKS.out⟩
set_option maxHeartbeats 16000000 in
set_option maxRecDepth 8000 in
theorem rsame_is (ta tb : TestT) (va vb : Value) (w : World) (h : TestRd w va ta) (h' : TestRd w vb tb) :
    Calls Tryz.prog 12 #[va, vb] w fun e w' => e = .returned (.bool (sameT ta tb)) ∧ On w w' := by
  obtain ⟨a1, c1, a2, c2, a3, c3, rfl, hna, r1, r2, r3⟩ := h.ex
  obtain ⟨b1, d1, b2, d2, b3, d3, rfl, hnb, s1, s2, s3⟩ := h'.ex
  unfold sameT
  obtain ⟨an, I, L, ⟨ak, AA⟩⟩ := ta
  obtain ⟨bn, J, M, ⟨bk, BA⟩⟩ := tb
  simp only at r1 r2 r3 s1 s2 s3 hna hnb ⊢
  obtain ⟨_, _, _, _, m1⟩ := r1.slice
  obtain ⟨_, _, _, _, m2⟩ := r2.slice
  obtain ⟨_, _, _, _, n1⟩ := s1.slice
  obtain ⟨_, _, _, _, n2⟩ := s2.slice
  have hSC := fun W (k : On w W) => rsameCond_is ak bk AA BA a3 b3 c3 d3 W (r3.on k) (s3.on k)
  generalize eqL (eqL atmE2) AA BA = C at *
  have HI1 : Hid (Rd iniC 2 w (.slice a1 I.length c1) I) := r1
  have HI2 : Hid (Rd iniC 2 w (.slice b1 J.length d1) J) := s1
  have HA : Hid (Rd2 insC 9 w (.slice a2 L.length c2) L) := r2
  have HB : Hid (Rd2 insC 9 w (.slice b2 M.length d2) M) := s2
  clear r1 r2 r3 s1 s2 s3 h h'
  obtain ⟨W0, hW0⟩ : ∃ W0, W0 = (w.alloc (.cells #[.string an, .slice a1 I.length c1, .slice a2 L.length c2, .int .i64 ak, .slice a3 AA.length c3] 28)).alloc (.cells #[.string bn, .slice b1 J.length d1, .slice b2 M.length d2, .int .i64 bk, .slice b3 BA.length d3] 28) := ⟨_, rfl⟩
  have K0 : On w W0 := by rw [hW0]; exact ((On.refl w).alloc _).alloc _
  have A0 : Bk W0 w.heap.size #[.string an, .slice a1 I.length c1, .slice a2 L.length c2, .int .i64 ak, .slice a3 AA.length c3] := by rw [hW0]; exact (Bk.new w _ _).alloc _
  have B0 : Bk W0 (w.heap.size + 1) #[.string bn, .slice b1 J.length d1, .slice b2 M.length d2, .int .i64 bk, .slice b3 BA.length d3] := by
    rw [hW0]
    have := Bk.new (w.alloc (.cells #[.string an, .slice a1 I.length c1, .slice a2 L.length c2, .int .i64 ak, .slice a3 AA.length c3] 28)) #[.string bn, .slice b1 J.length d1, .slice b2 M.length d2, .int .i64 bk, .slice b3 BA.length d3] 28
    rwa [World.size_alloc] at this
  have z0 := A0.at (i := 0) rfl
  have v0 := B0.at (i := 0) rfl
  have z1 := A0.at (i := 1) rfl
  have v1 := B0.at (i := 1) rfl
  have z2 := A0.at (i := 2) rfl
  have v2 := B0.at (i := 2) rfl
  have z3 := A0.at (i := 3) rfl
  have v3 := B0.at (i := 3) rfl
  have z4 := A0.at (i := 4) rfl
  have v4 := B0.at (i := 4) rfl
  have zl := A0.lt
  have vl := B0.lt
  obtain ⟨R, hR⟩ : ∃ R, R = ((an.toList == bn.toList) && (eqL iniE2 I J && (eqL (eqL insE2) L M && ((ak == bk) && C)))) := ⟨_, rfl⟩
  rw [← hR]
  cases hn : (an.toList == bn.toList) with
  | false =>
    obtain rfl : R = false := by rw [hR, hn]; rfl
    have hn' : (an.toList != bn.toList) = true := by rw [bne, hn]; rfl
    clear hR
    go_enter Tryz.func12, Tryz.ntmps12
    go_upto_region 1 with fail
    rw [← hW0]
    clear hW0
    go_wp2
    go_ret
    exact ⟨rfl, K0⟩
  | true =>
    have hn' : (an.toList != bn.toList) = false := by rw [bne, hn]; rfl
    by_cases hi : I.length = J.length
    · have di : ((I.length : Int) != (J.length : Int)) = false := by rw [hi]; simp
      have HIL : Hid (I.length = J.length) := hi
      clear hi
      by_cases hl : L.length = M.length
      · have dl : ((L.length : Int) != (M.length : Int)) = false := by rw [hl]; simp
        have HL : Hid (L.length = M.length) := hl
        clear hl
        cases hsc : ((ak == bk) && C) with
        | false =>
          rw [hsc] at hSC
          obtain rfl : R = false := by rw [hR, hsc]; simp
          clear hR
          go_enter Tryz.func12, Tryz.ntmps12
          go_upto_region 1 with fail
          rw [← hW0]
          clear hW0
          go_wp2_with fail
          refine (hSC _ K0).mono ?_
          rintro _ w1 ⟨rfl, k1⟩
          go_wp2
          go_ret
          exact ⟨rfl, K0.trans k1⟩
        | true =>
          rw [hsc] at hSC
          obtain ⟨RT, hRT⟩ : ∃ RT, RT = eqL (eqL insE2) L M := ⟨_, rfl⟩
          have HI0 : Hid (R = (eqL iniE2 (I.drop 0) (J.drop 0) && RT)) := by
            show R = _
            rw [hR, hn, hsc, hRT]
            simp
          have HRT : Hid (RT = eqL (eqL insE2) (L.drop 0) (M.drop 0)) := hRT
          clear hR hRT hsc
          go_enter Tryz.func12, Tryz.ntmps12
          go_upto_region 1 with fail
          rw [← hW0]
          clear hW0
          go_wp2_with fail
          refine (hSC _ K0).mono ?_
          rintro _ w1 ⟨rfl, k1⟩
          have A1 := A0.on k1
          have B1 := B0.on k1
          have K1 : Hid (On w w1) := K0.trans k1
          clear z0 v0 z1 v1 z2 v2 z3 v3 z4 v4 zl vl A0 B0 K0 k1 hSC
          go_wp2
          go_loopg [5] I.length (fun gg s wq => ∃ n : Nat, n ≤ I.length ∧ gg = I.length - n ∧ s = .int .i64 n ∧ Hid (On w wq) ∧ Bk wq w.heap.size #[.string an, .slice a1 I.length c1, .slice a2 L.length c2, .int .i64 ak, .slice a3 AA.length c3] ∧ Bk wq (w.heap.size + 1) #[.string bn, .slice b1 J.length d1, .slice b2 M.length d2, .int .i64 bk, .slice b3 BA.length d3] ∧ Hid (R = (eqL iniE2 (I.drop n) (J.drop n) && RT)))
          case atStart => exact ⟨0, Nat.zero_le _, rfl, rfl, K1, A1, B1, HI0⟩
          case round =>
            clear HI0 K1 A1 B1
            obtain ⟨n, hn0, hk, rfl, HO, A1, B1, HR⟩ := hrel
            have bx1 := A1.at (i := 1) rfl
            have by1 := B1.at (i := 1) rfl
            have bxl := A1.lt
            have byl := B1.lt
            rcases Nat.lt_or_ge n I.length with hlt | hge
            · have hltM : n < J.length := by have := HIL.out; omega
              obtain ⟨p, hp⟩ : ∃ p, I[n]? = some p := ⟨_, List.getElem?_eq_getElem hlt⟩
              obtain ⟨q, hq⟩ : ∃ q, J[n]? = some q := ⟨_, List.getElem?_eq_getElem hltM⟩
              obtain ⟨g3, o3, rfl, hg3, hc1⟩ := (HI1.out.on HO.out).at hp
              obtain ⟨g4, o4, rfl, hg4, hc2⟩ := (HI2.out.on HO.out).at hq
              have p0 : wr.cell? ⟨g3, o3 + n * 2, none⟩ = _ := hc1 0 _ rfl
              have p1 : wr.cell? ⟨g3, o3 + n * 2 + 1, none⟩ = _ := hc1 1 _ rfl
              have q0 : wr.cell? ⟨g4, o4 + n * 2, none⟩ = _ := hc2 0 _ rfl
              have q1 : wr.cell? ⟨g4, o4 + n * 2 + 1, none⟩ = _ := hc2 1 _ rfl
              have hr := HR.out
              rw [drop_at hp, drop_at hq, eqL] at hr
              have bm0 : (0 : Int) ≤ (n : Int) := by omega
              have bm1 : (n : Int) < (I.length : Int) := by omega
              have bm2 : (n : Int) < (J.length : Int) := by omega
              have hEx := fun W => eqVIni W p.l p.v q.l q.v
              have ePQ : (p.l == q.l && p.v == q.v) = iniE2 p q := rfl
              rw [ePQ] at hEx
              clear hp hq hc1 hc2 HR
              cases hpq : iniE2 p q with
              | true =>
                rw [hpq] at hEx hr
                have HI2' : Hid (R = (eqL iniE2 (I.drop (n + 1)) (J.drop (n + 1)) && RT)) := by
                  show R = _
                  rw [hr, Bool.true_and]
                clear hr hpq ePQ
                go_wp2
                go_quiet (fail)
                go_wp2
                go_roundg (I.length - (n + 1))
                case measure => omega
                case rel => exact ⟨n + 1, by omega, rfl, by go_num, On.drewN HO.out _, A1.on ((On.refl wr).drewN _), B1.on ((On.refl wr).drewN _), HI2'⟩
              | false =>
                rw [hpq] at hEx hr
                obtain rfl : R = false := by rw [hr]; simp
                clear hr hpq ePQ
                go_wp2
                go_quiet (fail)
                go_wp2
                go_ret
                exact ⟨rfl, On.drewN HO.out _⟩
            · obtain rfl : n = I.length := by omega
              have hRR : R = RT := by
                have h := HR.out
                rw [List.drop_length, HIL.out, List.drop_length] at h
                exact h
              have HR' : Hid (R = eqL (eqL insE2) (L.drop 0) (M.drop 0)) := by
                show R = _
                rw [hRR]
                exact HRT.out
              clear HR hRR HRT
              have HR := HR'
              have KKS := HO
              have AAS := A1
              have BBS := B1
              clear HR' HO A1 B1
              go_wp2
              clear bx1 by1 bxl byl
              go_loopg [6] L.length (fun gg s wq => ∃ n : Nat, n ≤ L.length ∧ gg = L.length - n ∧ s = .int .i64 n ∧ Hid (On w wq) ∧ Bk wq w.heap.size #[.string an, .slice a1 I.length c1, .slice a2 L.length c2, .int .i64 ak, .slice a3 AA.length c3] ∧ Bk wq (w.heap.size + 1) #[.string bn, .slice b1 J.length d1, .slice b2 M.length d2, .int .i64 bk, .slice b3 BA.length d3] ∧ Hid (R = eqL (eqL insE2) (L.drop n) (M.drop n)))
              case atStart => exact ⟨0, Nat.zero_le _, rfl, rfl, KKS, AAS, BBS, HR⟩
              case round =>
                clear HR AAS BBS KKS
                obtain ⟨n, hn, hk, rfl, HO, A1, B1, HR⟩ := hrel
                have bx2 := A1.at (i := 2) rfl
                have by2 := B1.at (i := 2) rfl
                have bxl := A1.lt
                have byl := B1.lt
                rcases Nat.lt_or_ge n L.length with hlt | hge
                · have hltM : n < M.length := by have := HL.out; omega
                  obtain ⟨x, hx⟩ : ∃ x, L[n]? = some x := ⟨_, List.getElem?_eq_getElem hlt⟩
                  obtain ⟨y, hy⟩ : ∃ y, M[n]? = some y := ⟨_, List.getElem?_eq_getElem hltM⟩
                  obtain ⟨g1, o1, ea1, hg1, ax, cx, hcx, hmx, rx⟩ := (HA.out.on HO.out).row hx
                  obtain ⟨g2, o2, ea2, hg2, ay, cy, hcy, hmy, ry⟩ := (HB.out.on HO.out).row hy
                  have hr := HR.out
                  rw [drop_at hx, drop_at hy, eqL] at hr
                  have bn0 : (0 : Int) ≤ (n : Int) := by omega
                  have bn1 : (n : Int) < (L.length : Int) := by omega
                  have bn2 : (n : Int) < (M.length : Int) := by omega
                  subst ea1
                  subst ea2
                  clear hx hy HR
                  by_cases hxl : x.length = y.length
                  · have dxy : ((x.length : Int) != (y.length : Int)) = false := by rw [hxl]; simp
                    have HXL : Hid (x.length = y.length) := hxl
                    have HI : Hid (R = (eqL insE2 (x.drop 0) (y.drop 0) && eqL (eqL insE2) (L.drop (n + 1)) (M.drop (n + 1)))) := hr
                    have HRX : Hid (Rd insC 9 wr (.slice ax x.length cx) x) := rx
                    have HRY : Hid (Rd insC 9 wr (.slice ay y.length cy) y) := ry
                    have HCX : Hid (wr.cell? ⟨g1, o1 + n, none⟩ = some (.slice ax x.length cx)) := hcx
                    have HCY : Hid (wr.cell? ⟨g2, o2 + n, none⟩ = some (.slice ay y.length cy)) := hcy
                    obtain ⟨V, hV⟩ : ∃ V, V = wr := ⟨_, rfl⟩
                    subst hV
                    clear hr hxl rx ry
                    go_wp2
                    go_quiet (fail)
                    go_wp2
                    go_loopg [7] x.length (fun gg s wq => ∃ m : Nat, m ≤ x.length ∧ gg = x.length - m ∧ s = .int .i64 m ∧ Hid (On V wq) ∧ Hid (R = (eqL insE2 (x.drop m) (y.drop m) && eqL (eqL insE2) (L.drop (n + 1)) (M.drop (n + 1)))))
                    case atStart => exact ⟨0, Nat.zero_le _, rfl, rfl, On.drewN (On.refl V) _, HI⟩
                    case round =>
                      clear HI
                      obtain ⟨m, hm0, hkm, rfl, HV, HI⟩ := hrel
                      have kV := HV.out
                      have A2 := A1.on kV
                      have B2 := B1.on kV
                      clear bx2 by2 bxl byl
                      have bx2 := A2.at (i := 2) rfl
                      have by2 := B2.at (i := 2) rfl
                      have bxl := A2.lt
                      have byl := B2.lt
                      have hcx2 := (kV.cell (p := ⟨g1, o1 + n, none⟩) hg1).trans HCX.out
                      have hcy2 := (kV.cell (p := ⟨g2, o2 + n, none⟩) hg2).trans HCY.out
                      have hg1' := Nat.lt_of_lt_of_le hg1 kV.size
                      have hg2' := Nat.lt_of_lt_of_le hg2 kV.size
                      rcases Nat.lt_or_ge m x.length with hlm | hgm
                      · have hlmy : m < y.length := by have := HXL.out; omega
                        obtain ⟨p, hp⟩ : ∃ p, x[m]? = some p := ⟨_, List.getElem?_eq_getElem hlm⟩
                        obtain ⟨q, hq⟩ : ∃ q, y[m]? = some q := ⟨_, List.getElem?_eq_getElem hlmy⟩
                        obtain ⟨g3, o3, rfl, hg3, hc1⟩ := (HRX.out.on kV).at hp
                        obtain ⟨g4, o4, rfl, hg4, hc2⟩ := (HRY.out.on kV).at hq
                        have p0 : wr.cell? ⟨g3, o3 + m * 9, none⟩ = _ := hc1 0 _ rfl
                        have p1 : wr.cell? ⟨g3, o3 + m * 9 + 1, none⟩ = _ := hc1 1 _ rfl
                        have p2 : wr.cell? ⟨g3, o3 + m * 9 + 2, none⟩ = _ := hc1 2 _ rfl
                        have p3 : wr.cell? ⟨g3, o3 + m * 9 + 3, none⟩ = _ := hc1 3 _ rfl
                        have p4 : wr.cell? ⟨g3, o3 + m * 9 + 4, none⟩ = _ := hc1 4 _ rfl
                        have p5 : wr.cell? ⟨g3, o3 + m * 9 + 5, none⟩ = _ := hc1 5 _ rfl
                        have p6 : wr.cell? ⟨g3, o3 + m * 9 + 6, none⟩ = _ := hc1 6 _ rfl
                        have p7 : wr.cell? ⟨g3, o3 + m * 9 + 7, none⟩ = _ := hc1 7 _ rfl
                        have p8 : wr.cell? ⟨g3, o3 + m * 9 + 8, none⟩ = _ := hc1 8 _ rfl
                        have q0 : wr.cell? ⟨g4, o4 + m * 9, none⟩ = _ := hc2 0 _ rfl
                        have q1 : wr.cell? ⟨g4, o4 + m * 9 + 1, none⟩ = _ := hc2 1 _ rfl
                        have q2 : wr.cell? ⟨g4, o4 + m * 9 + 2, none⟩ = _ := hc2 2 _ rfl
                        have q3 : wr.cell? ⟨g4, o4 + m * 9 + 3, none⟩ = _ := hc2 3 _ rfl
                        have q4 : wr.cell? ⟨g4, o4 + m * 9 + 4, none⟩ = _ := hc2 4 _ rfl
                        have q5 : wr.cell? ⟨g4, o4 + m * 9 + 5, none⟩ = _ := hc2 5 _ rfl
                        have q6 : wr.cell? ⟨g4, o4 + m * 9 + 6, none⟩ = _ := hc2 6 _ rfl
                        have q7 : wr.cell? ⟨g4, o4 + m * 9 + 7, none⟩ = _ := hc2 7 _ rfl
                        have q8 : wr.cell? ⟨g4, o4 + m * 9 + 8, none⟩ = _ := hc2 8 _ rfl
                        have hr := HI.out
                        rw [drop_at hp, drop_at hq, eqL] at hr
                        have bm0 : (0 : Int) ≤ (m : Int) := by omega
                        have bm1 : (m : Int) < (x.length : Int) := by omega
                        have bm2 : (m : Int) < (y.length : Int) := by omega
                        have hEx := fun W => eqVIns W p.k p.r p.l p.a.r p.a.v p.o p.b.r p.b.v p.n q.k q.r q.l q.a.r q.a.v q.o q.b.r q.b.v q.n
                        have ePQ : (p.k == q.k && (p.r == q.r && (p.l == q.l && (p.a.r == q.a.r && (p.a.v == q.a.v && (p.o == q.o && (p.b.r == q.b.r && (p.b.v == q.b.v && p.n == q.n)))))))) = insE2 p q := rfl
                        rw [ePQ] at hEx
                        clear hp hq hc1 hc2 HI
                        cases hpq : insE2 p q with
                        | true =>
                          rw [hpq] at hEx hr
                          have HI2 : Hid (R = (eqL insE2 (x.drop (m + 1)) (y.drop (m + 1)) && eqL (eqL insE2) (L.drop (n + 1)) (M.drop (n + 1)))) := by
                            show R = _
                            rw [hr, Bool.true_and]
                          clear hr hpq ePQ
                          go_wp2
                          go_quiet (fail)
                          go_wp2
                          go_roundg (x.length - (m + 1))
                          case measure => omega
                          case rel => exact ⟨m + 1, by omega, rfl, by go_num, On.drewN HV.out _, HI2⟩
                        | false =>
                          rw [hpq] at hEx hr
                          obtain rfl : R = false := by rw [hr]; simp
                          clear hr hpq ePQ
                          go_wp2
                          go_quiet (fail)
                          go_wp2
                          go_ret
                          exact ⟨rfl, HO.out.trans (On.drewN HV.out _)⟩
                      · obtain rfl : m = x.length := by omega
                        have HR2 : Hid (R = eqL (eqL insE2) (L.drop (n + 1)) (M.drop (n + 1))) := by
                          have h := HI.out
                          rw [List.drop_length, HXL.out, List.drop_length] at h
                          exact h
                        go_wp2
                        go_roundg (L.length - (n + 1))
                        case measure => omega
                        case rel => exact ⟨n + 1, by omega, rfl, by go_num, HO.out.trans HV.out, A2, B2, HR2⟩
                  · have dxy : ((x.length : Int) != (y.length : Int)) = true := by simp; omega
                    obtain rfl : R = false := by rw [hr, eqL_len x y hxl]; rfl
                    clear hr rx ry
                    go_wp2
                    go_quiet (fail)
                    go_wp2
                    go_ret
                    exact ⟨rfl, On.drewN HO.out _⟩
                · obtain rfl : n = L.length := by omega
                  obtain rfl : R = true := by rw [HR.out, List.drop_length, HL.out, List.drop_length]; rfl
                  go_wp2
                  go_ret
                  exact ⟨rfl, HO.out⟩
      · have dl : ((L.length : Int) != (M.length : Int)) = true := by simp; omega
        obtain rfl : R = false := by rw [hR, eqL_len L M hl]; simp
        clear hR
        go_enter Tryz.func12, Tryz.ntmps12
        go_upto_region 1 with fail
        rw [← hW0]
        clear hW0
        go_wp2
        go_ret
        exact ⟨rfl, K0⟩
    · have di : ((I.length : Int) != (J.length : Int)) = true := by simp; omega
      obtain rfl : R = false := by rw [hR, eqL_len I J hi]; simp
      clear hR
      go_enter Tryz.func12, Tryz.ntmps12
      go_upto_region 1 with fail
      rw [← hW0]
      clear hW0
      go_wp2
      go_ret
      exact ⟨rfl, K0⟩
end Go.Proofs.YtacflahkofmcpaaGreatDoor.Wl
