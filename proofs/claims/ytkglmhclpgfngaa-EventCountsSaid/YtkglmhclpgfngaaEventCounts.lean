/- The law EventCounts, walked. -/
import Derived.Test.YtkglmhclpgfngaaAwake10
import Derived.Test.YtkglmhclpgfngaaEvQ
import Derived.Test.YtkglmhclpgfngaaREvU
import Derived.Test.YtkglmhclpgfngaaOfP
namespace Go.Proofs.Ytkglmhclpgfngaa
open Go.RowKit

theorem drop_some {α : Type} {L : List α} {k : Nat} {v : α} {r : List α} (h : L.drop k = v :: r) : k < L.length ∧ L[k]? = some v ∧ r = L.drop (k + 1) := by
  have hk : k < L.length := by
    rcases Nat.lt_or_ge k L.length with h1 | h1
    · exact h1
    · rw [List.drop_of_length_le h1] at h; cases h
  obtain ⟨x, hx, hd⟩ := drop_cons hk
  rw [hd] at h
  simp only [List.cons.injEq] at h
  exact ⟨hk, by rw [hx, h.1], h.2.symm⟩
set_option maxHeartbeats 16000000 in
set_option maxRecDepth 8000 in
theorem eventCounts_walk (ao : Option Addr) (zs : List Int) (cap : Nat) (t : Int) (bo : Option Addr) (vs : List Int) (capb : Nat) (w : World) (hz : zs.length ≤ 9223372036854775807) (hr : Rd intC 1 w (.slice ao zs.length cap) zs) (hzb : vs.length ≤ 9223372036854775807) (hrb : Rd intC 1 w (.slice bo vs.length capb) vs) :
    Calls Try.prog 4 #[.slice ao zs.length cap, .int .i64 t, .slice bo vs.length capb] w fun e w' => e = .returned (.bool true) ∧ On w w' := by
  have hA := fun W => awake10_is W
  have HB : Hid (Rd intC 1 w (.slice bo vs.length capb) vs) := hrb
  have hO := of_is zs ao cap 12 w hz hr
  have hfine := of_fine zs 12
  have hlen := of_len zs 12
  have hmany := of_many zs 12
  have HF : Hid (∀ L ∈ ofT zs 12, fineL L) := hfine
  have HLn : Hid (∀ L ∈ ofT zs 12, L.length ≤ 6) := hlen
  clear hrb hr hz hfine hlen
  generalize ofT zs 12 = LL at *
  generalize iniVals (locsR (smallP zs 12)) (smallP zs 12).ini = IN at *
  generalize locsR (smallP zs 12) = LT at *
  generalize zs.length = mz at *
  obtain ⟨kb, hkb, hbit⟩ := low8 t
  obtain ⟨th, hth⟩ : ∃ th, th = kb % LL.length := ⟨_, rfl⟩
  have hthl : th < LL.length := by rw [hth]; exact Nat.mod_lt _ (by omega)
  have hrem : (kb : Int).tmod (LL.length : Int) = (th : Int) := by rw [hth]; exact (Int.ofNat_tmod _ _).symm
  have hrem2 : (kb : Int) % (LL.length : Int) = (th : Int) := by rw [hth]; exact (Int.natCast_emod _ _).symm
  have hd0 : ((LL.length : Int) == 0) = false := by rw [beq_eq_false_iff_ne]; omega
  have hd1 : ¬ (LL.length : Int) = 0 := by omega
  have hd2 : ¬ LL.length = 0 := by omega
  clear hth
  obtain ⟨L, hL⟩ : ∃ L, LL[th]? = some L := ⟨_, List.getElem?_eq_getElem hthl⟩
  have hthr : threadP LL (th : Int) = L := by
    unfold threadP
    rw [if_pos (by omega), Int.toNat_natCast, List.getD_eq_getElem?_getD, hL]
    rfl
  have hL6 := HLn.out L (List.mem_of_getElem? hL)
  have HLL : Hid (LL[th]? = some L) := hL
  have HTH : Hid (threadP LL (th : Int) = L) := hthr
  clear hL hthr
  by_cases h30 : 30 < vs.length
  · have bp : ∀ pv T, Bk ((w.alloc (.cells pv T))) w.heap.size pv := fun pv T => Bk.new w pv T
    go_enter Try.func4, Try.ntmps4
    go_wp2_with fail
    refine hO.mono ?_
    rintro _ w1 ⟨pv, rfl, hP, k1⟩
    obtain ⟨a1, c1, a2, c2, a3, c3, rfl, _, _, _⟩ := hP.ex
    clear hO hP bp
    go_wp2_with fail
    refine (hA _).mono ?_
    rintro _ w2 ⟨rfl, k2⟩
    go_wp2
    go_ret
    exact ⟨rfl, (k1.alloc _).trans k2⟩
  · have d30 : decide ((30 : Int) < (vs.length : Int)) = false := by simp; omega
    clear h30
    go_enter Try.func4, Try.ntmps4
    go_wp2_with fail
    refine hO.mono ?_
    rintro _ w1 ⟨pv, rfl, hP, k1⟩
    have hU := fun W (k : On w1 W) => unfold_is LL (th : Int) vs bo capb pv W (hP.rd.on k) (HB.out.on (k1.trans k)) (by rw [HTH.out]; omega)
    have hNx0 := fun l W (k : On w1 W) => rnext_is LL (th : Int) l pv W (hP.rd.on k) HF.out
    rw [HTH.out] at hU
    simp only [HTH.out] at hNx0
    have hok := unf_ok (L.length + 1) L (th : Int) (startP L) 0 vs (start_on L) (by have := start_on L; omega)
    have hul := unf_len (L.length + 1) L (th : Int) (startP L) 0 vs (start_on L)
    obtain ⟨a1, c1, a2, c2, a3, c3, rfl, _, _, r3⟩ := hP.ex
    obtain ⟨g3, off3, rfl, hg3, ax, cx, hrc, hxm, _⟩ := r3.row HLL.out
    have HX : Hid (w1.cell? ⟨g3, off3 + th, none⟩ = some (.slice ax L.length cx)) := hrc
    have eU : unfP L (th : Int) vs = unfN (L.length + 1) L (th : Int) (startP L) 0 vs := rfl
    rw [← eU] at hok hul
    clear eU r3 hrc
    generalize unfP L (th : Int) vs = U at *
    obtain ⟨E, ⟨pc, q0, q1, q2, q3⟩, MB⟩ := U
    simp only at hU hok hul
    obtain ⟨hok1, hok2, hok3⟩ := hok
    have hNx := fun W (k : On w1 W) => hNx0 ⟨pc, q0, q1, q2, q3⟩ W k
    unfold nextV insV at hNx
    generalize nextP L ⟨pc, q0, q1, q2, q3⟩ = X at *
    have HK1 : Hid (evOk (th : Int) 0 (vs.drop 0) (E.drop 0)) := hok1
    obtain ⟨RS, hRS⟩ : ∃ RS, RS = restR vs E := ⟨_, rfl⟩
    have HRS : Hid (RS = restR (vs.drop 0) (E.drop 0)) := hRS
    rw [← hRS] at hok2
    have HK2 : Hid (MB = true → RS = []) := hok2
    have hEL : E.length ≤ L.length := by omega
    rw [hok3] at hNx
    unfold locV at hU hNx
    clear hok1 hok2 hok3 hul hRS hNx0 HF HLn
    have bp : ∀ cs T, Bk (w1.alloc (.cells cs T)) w1.heap.size cs := fun cs T => Bk.new w1 cs T
    clear hO hP
    go_wp2_with fail
    refine (hU _ ((On.refl w1).alloc _)).mono ?_
    rintro _ w2 ⟨b1, d1, rfl, ho1, k2⟩
    have P2 := (bp _ _).on k2
    have K12 : On w1 w2 := ((On.refl w1).alloc _).trans k2
    have HE1 : Hid (Rd evC 6 w2 (.slice b1 E.length d1) E) := Rd.own (C := evC) (fun _ => rfl) ho1
    have L2 : Bk (w2.alloc (.cells #[.int .i64 pc, .int .i64 q0, .int .i64 q1, .int .i64 q2, .int .i64 q3] 37)) w2.heap.size #[.int .i64 pc, .int .i64 q0, .int .i64 q1, .int .i64 q2, .int .i64 q3] := Bk.new w2 _ _
    obtain ⟨_, _, _, _, hmE⟩ := HE1.out.slice
    clear hU bp k2 ho1
    go_wp2
    go_loopg [11, 12] E.length (fun gg s11 s12 wq => ∃ n k : Nat, n ≤ E.length ∧ k ≤ vs.length ∧ gg = E.length - n ∧ s11 = .int .i64 k ∧ s12 = .int .i64 n ∧ Hid (On w2 wq) ∧ Bk wq w2.heap.size #[.int .i64 pc, .int .i64 q0, .int .i64 q1, .int .i64 q2, .int .i64 q3] ∧ Hid (evOk (th : Int) n (vs.drop k) (E.drop n)) ∧ Hid (RS = restR (vs.drop k) (E.drop n)))
    case atStart => exact ⟨0, 0, Nat.zero_le _, Nat.zero_le _, rfl, rfl, rfl, (On.refl w2).alloc _, L2, HK1, HRS⟩
    case round =>
      clear HK1 HRS L2
      obtain ⟨n, k, hn, hk, hgk, rfl, rfl, HO, LB, HK, HRS⟩ := hrel
      rcases Nat.lt_or_ge n E.length with hlt' | hge
      · obtain ⟨x, hx, hdr⟩ := drop_cons hlt'
        have hk' := HK.out
        have hrs := HRS.out
        rw [hdr] at hk' hrs
        obtain ⟨g1, o1, rfl, hg1, p0, p1, p2, p3, p4, p5⟩ := rd_ev (HE1.out.on HO.out) hx
        obtain ⟨xt, xi, xk, xl, xr, xw⟩ := x
        obtain ⟨⟨e1, e2, e3, e4, e5⟩, e6, e7⟩ := hk'
        simp only at e1 e2 e3 e4 e5 e6 e7 p0 p1 p2 p3 p4 p5
        subst e1
        subst e2
        have dk1 : decide (xk < 1) = false := by simp; omega
        have dk5 : decide (5 < xk) = false := by simp; omega
        have bn0 : (0 : Int) ≤ (n : Int) := by omega
        have bn1 : (n : Int) < (E.length : Int) := by omega
        have hRd := fun W => ereads_is ⟨(th : Int), (n : Int), xk, xl, xr, xw⟩ W
        have hWr := fun W => ewrites_is ⟨(th : Int), (n : Int), xk, xl, xr, xw⟩ W
        unfold evV at hRd hWr
        simp only at hRd hWr
        have hrs' : RS = (if rdsB xk then restR (vs.drop k).tail (E.drop (n + 1)) else restR (vs.drop k) (E.drop (n + 1))) := hrs
        have HRS' : Hid _ := hrs'
        clear hx hdr HK HRS hrs hrs' e3 e4 hNx
        cases hq : rdsB xk with
        | true =>
          obtain ⟨v, r, ev, er, hnext⟩ := e6 hq
          obtain ⟨hkl, hkv, hrr⟩ := drop_some ev
          subst er
          rw [hrr] at hnext
          have HN : Hid (evOk (th : Int) (n + 1) (vs.drop (k + 1)) (E.drop (n + 1))) := hnext
          have HR2 : Hid (RS = restR (vs.drop (k + 1)) (E.drop (n + 1))) := by
            have := HRS'.out
            rw [hq, ev, hrr] at this
            exact this
          rw [hq] at hRd
          obtain ⟨gv, ov, rfl, hgv, hcv⟩ := HB.out.at hkv
          have hv0 : w.cell? ⟨gv, ov + k, none⟩ = some (.int .i64 xr) := by have := hcv 0 _ rfl; simpa using this
          have KW : On w wr := (k1.trans K12).trans HO.out
          have bk0 : (0 : Int) ≤ (k : Int) := by omega
          have bk1 : (k : Int) < (vs.length : Int) := by omega
          have dkl : decide ((vs.length : Int) ≤ (k : Int)) = false := by simp; omega
          clear e6 e7 ev hkv hrr hnext hcv HRS'
          go_wp2_with fail
          refine (hRd _).mono ?_
          rintro _ w5 ⟨rfl, k5⟩
          have r0 := (k5.cell (p := ⟨g1, o1 + n * 6, none⟩) hg1).trans p0
          have r1 := (k5.cell (p := ⟨g1, o1 + n * 6 + 1, none⟩) hg1).trans p1
          have r2 := (k5.cell (p := ⟨g1, o1 + n * 6 + 2, none⟩) hg1).trans p2
          have r3 := (k5.cell (p := ⟨g1, o1 + n * 6 + 3, none⟩) hg1).trans p3
          have r4 := (k5.cell (p := ⟨g1, o1 + n * 6 + 4, none⟩) hg1).trans p4
          have r5 := (k5.cell (p := ⟨g1, o1 + n * 6 + 5, none⟩) hg1).trans p5
          have hg5 := Nat.lt_of_lt_of_le hg1 k5.size
          have hv5 := ((KW.trans k5).cell (p := ⟨gv, ov + k, none⟩) hgv).trans hv0
          have hgv5 := Nat.lt_of_lt_of_le hgv (KW.trans k5).size
          have L5 := LB.on k5
          have O5 := HO.out.trans k5
          clear p0 p1 p2 p3 p4 p5 hg1 hv0 hgv hRd k5 KW LB HO
          go_wp2
          go_quiet (fail)
          obtain ⟨w6, hw6⟩ : ∃ w6, w6 = w5.drewN nq := ⟨_, rfl⟩
          have k6 : On w5 w6 := by rw [hw6]; exact On.drewN (On.refl w5) _
          have s0 := (k6.cell (p := ⟨g1, o1 + n * 6, none⟩) hg5).trans r0
          have s1 := (k6.cell (p := ⟨g1, o1 + n * 6 + 1, none⟩) hg5).trans r1
          have s2 := (k6.cell (p := ⟨g1, o1 + n * 6 + 2, none⟩) hg5).trans r2
          have s3 := (k6.cell (p := ⟨g1, o1 + n * 6 + 3, none⟩) hg5).trans r3
          have s4 := (k6.cell (p := ⟨g1, o1 + n * 6 + 4, none⟩) hg5).trans r4
          have s5 := (k6.cell (p := ⟨g1, o1 + n * 6 + 5, none⟩) hg5).trans r5
          have hg6 := Nat.lt_of_lt_of_le hg5 k6.size
          have L6 := L5.on k6
          have O6 := O5.trans k6
          rw [← hw6]
          clear hw6 r0 r1 r2 r3 r4 r5 hg5 hv5 hgv5 L5 O5 k6
          cases hw : wrsB xk with
          | true =>
            rw [hw] at hWr
            clear e5
            go_wp2_with fail
            refine (hWr _).mono ?_
            rintro _ w7 ⟨rfl, k7⟩
            have L7 := L6.on k7
            have O7 := O6.trans k7
            go_wp2
            go_roundg (E.length - (n + 1))
            case measure => omega
            case rel => exact ⟨n + 1, k + 1, by omega, by omega, rfl, by go_num, by go_num, O7, L7, HN, HR2⟩
          | false =>
            rw [hw] at hWr
            have ew := e5 hw
            subst ew
            clear e5
            go_wp2_with fail
            refine (hWr _).mono ?_
            rintro _ w7 ⟨rfl, k7⟩
            have u0 := (k7.cell (p := ⟨g1, o1 + n * 6, none⟩) hg6).trans s0
            have u1 := (k7.cell (p := ⟨g1, o1 + n * 6 + 1, none⟩) hg6).trans s1
            have u2 := (k7.cell (p := ⟨g1, o1 + n * 6 + 2, none⟩) hg6).trans s2
            have u3 := (k7.cell (p := ⟨g1, o1 + n * 6 + 3, none⟩) hg6).trans s3
            have u4 := (k7.cell (p := ⟨g1, o1 + n * 6 + 4, none⟩) hg6).trans s4
            have u5 := (k7.cell (p := ⟨g1, o1 + n * 6 + 5, none⟩) hg6).trans s5
            have hg7 := Nat.lt_of_lt_of_le hg6 k7.size
            have L7 := L6.on k7
            have O7 := O6.trans k7
            go_wp2
            go_roundg (E.length - (n + 1))
            case measure => omega
            case rel => exact ⟨n + 1, k + 1, by omega, by omega, rfl, by go_num, by go_num, O7, L7, HN, HR2⟩
        | false =>
          obtain ⟨er, hnext⟩ := e7 hq
          subst er
          have HN : Hid (evOk (th : Int) (n + 1) (vs.drop k) (E.drop (n + 1))) := hnext
          have HR2 : Hid (RS = restR (vs.drop k) (E.drop (n + 1))) := by
            have := HRS'.out
            rw [hq] at this
            exact this
          rw [hq] at hRd
          clear e6 e7 hnext HRS'
          go_wp2_with fail
          refine (hRd _).mono ?_
          rintro _ w6 ⟨rfl, k6⟩
          have s0 := (k6.cell (p := ⟨g1, o1 + n * 6, none⟩) hg1).trans p0
          have s1 := (k6.cell (p := ⟨g1, o1 + n * 6 + 1, none⟩) hg1).trans p1
          have s2 := (k6.cell (p := ⟨g1, o1 + n * 6 + 2, none⟩) hg1).trans p2
          have s3 := (k6.cell (p := ⟨g1, o1 + n * 6 + 3, none⟩) hg1).trans p3
          have s4 := (k6.cell (p := ⟨g1, o1 + n * 6 + 4, none⟩) hg1).trans p4
          have s5 := (k6.cell (p := ⟨g1, o1 + n * 6 + 5, none⟩) hg1).trans p5
          have hg6 := Nat.lt_of_lt_of_le hg1 k6.size
          have L6 := LB.on k6
          have O6 := HO.out.trans k6
          clear p0 p1 p2 p3 p4 p5 hg1 hRd k6 LB HO
          cases hw : wrsB xk with
          | true =>
            rw [hw] at hWr
            clear e5
            go_wp2_with fail
            refine (hWr _).mono ?_
            rintro _ w7 ⟨rfl, k7⟩
            have L7 := L6.on k7
            have O7 := O6.trans k7
            go_wp2
            go_roundg (E.length - (n + 1))
            case measure => omega
            case rel => exact ⟨n + 1, k, by omega, by omega, rfl, by go_num, by go_num, O7, L7, HN, HR2⟩
          | false =>
            rw [hw] at hWr
            have ew := e5 hw
            subst ew
            clear e5
            go_wp2_with fail
            refine (hWr _).mono ?_
            rintro _ w7 ⟨rfl, k7⟩
            have u0 := (k7.cell (p := ⟨g1, o1 + n * 6, none⟩) hg6).trans s0
            have u1 := (k7.cell (p := ⟨g1, o1 + n * 6 + 1, none⟩) hg6).trans s1
            have u2 := (k7.cell (p := ⟨g1, o1 + n * 6 + 2, none⟩) hg6).trans s2
            have u3 := (k7.cell (p := ⟨g1, o1 + n * 6 + 3, none⟩) hg6).trans s3
            have u4 := (k7.cell (p := ⟨g1, o1 + n * 6 + 4, none⟩) hg6).trans s4
            have u5 := (k7.cell (p := ⟨g1, o1 + n * 6 + 5, none⟩) hg6).trans s5
            have hg7 := Nat.lt_of_lt_of_le hg6 k7.size
            have L7 := L6.on k7
            have O7 := O6.trans k7
            go_wp2
            go_roundg (E.length - (n + 1))
            case measure => omega
            case rel => exact ⟨n + 1, k, by omega, by omega, rfl, by go_num, by go_num, O7, L7, HN, HR2⟩
      · obtain rfl : n = E.length := by omega
        have hRSe : RS = vs.drop k := by have := HRS.out; rw [List.drop_length] at this; exact this
        have hmk : MB = true → k = vs.length := fun hm => by
          have h0 := HK2.out hm
          rw [hRSe] at h0
          have := congrArg List.length h0
          simp only [List.length_drop, List.length_nil] at this
          omega
        have P5 := P2.on HO.out
        have K15 : On w1 wr := K12.trans HO.out
        have p0 := P5.at (i := 0) rfl
        have p1 := P5.at (i := 1) rfl
        have p2 := P5.at (i := 2) rfl
        have pl := P5.lt
        have y0 := LB.at (i := 0) rfl
        have y1 := LB.at (i := 1) rfl
        have y2 := LB.at (i := 2) rfl
        have y3 := LB.at (i := 3) rfl
        have y4 := LB.at (i := 4) rfl
        have yl := LB.lt
        clear hRSe HRS HK HK2
        have bt0 : (0 : Int) ≤ (th : Int) := by omega
        have bt1 : (th : Int) < (LL.length : Int) := by omega
        have dle : decide ((E.length : Int) ≤ (L.length : Int)) = true := by simp; omega
        go_wp2_with fail
        refine (hNx _ K15).mono ?_
        rintro _ w7 ⟨rfl, k7⟩
        have P7 := P5.on k7
        have K17 := K15.trans k7
        have hx7 : w7.cell? ⟨g3, off3 + th, none⟩ = some (.slice ax L.length cx) := (K17.cell (p := ⟨g3, off3 + th, none⟩) hg3).trans HX.out
        have hg7 := Nat.lt_of_lt_of_le hg3 K17.size
        clear p0 p1 p2 pl y0 y1 y2 y3 y4 yl
        have p0 := P7.at (i := 0) rfl
        have p1 := P7.at (i := 1) rfl
        have p2 := P7.at (i := 2) rfl
        have pl := P7.lt
        have ka : ∀ A, On w (w7.alloc A) := fun A => (k1.trans K17).alloc A
        have hg7' : ∀ A, (w7.alloc A).cell? ⟨g3, off3 + th, none⟩ = some (.slice ax L.length cx) := fun A => (((On.refl w7).alloc A).cell (p := ⟨g3, off3 + th, none⟩) hg7).trans hx7
        cases MB with
        | false =>
          go_wp2_with (go_at_call 11; refine (hA _).mono ?_; rintro _ wz ⟨rfl, kz⟩)
          go_ret
          exact ⟨rfl, (ka _).trans kz⟩
        | true =>
          obtain rfl := hmk rfl
          go_wp2_with (go_at_call 11; refine (hA _).mono ?_; rintro _ wz ⟨rfl, kz⟩)
          go_ret
          exact ⟨rfl, (ka _).trans kz⟩
end Go.Proofs.Ytkglmhclpgfngaa
