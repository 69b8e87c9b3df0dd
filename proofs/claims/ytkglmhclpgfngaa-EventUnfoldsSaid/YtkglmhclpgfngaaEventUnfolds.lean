/- The law EventUnfolds, walked. -/
import Derived.Test.YtkglmhclpgfngaaAwake10
import Derived.Test.YtkglmhclpgfngaaREvU
import Derived.Test.YtkglmhclpgfngaaOfP
namespace Go.Proofs.Ytkglmhclpgfngaa
open Go.RowKit

set_option maxHeartbeats 16000000 in
set_option maxRecDepth 8000 in
theorem eventUnfolds_walk (ao : Option Addr) (zs : List Int) (cap : Nat) (t : Int) (bo : Option Addr) (vs : List Int) (capb : Nat) (w : World) (hz : zs.length ≤ 9223372036854775807) (hr : Rd intC 1 w (.slice ao zs.length cap) zs) (hzb : vs.length ≤ 9223372036854775807) (hrb : Rd intC 1 w (.slice bo vs.length capb) vs) :
    Calls Try.prog 5 #[.slice ao zs.length cap, .int .i64 t, .slice bo vs.length capb] w fun e w' => e = .returned (.bool true) ∧ On w w' := by
  have hA := fun W => awake10_is W
  have HB : Hid (Rd intC 1 w (.slice bo vs.length capb) vs) := hrb
  by_cases h50 : 50 < vs.length
  · clear hrb
    go_enter Try.func5, Try.ntmps5
    go_wp2_with fail
    refine (hA _).mono ?_
    rintro _ w1 ⟨rfl, k1⟩
    go_wp2
    go_ret
    exact ⟨rfl, k1⟩
  · have d50 : decide ((50 : Int) < (vs.length : Int)) = false := by simp; omega
    have hO := of_is zs ao cap 12 w hz hr
    have hfine := of_fine zs 12
    have hlen := thread_len (of_len zs 12) t
    have hlt := of_locs zs 12
    have hin := of_inis zs 12
    have HF : Hid (∀ L ∈ ofT zs 12, fineL L) := hfine
    clear hrb hr hz h50 hfine
    generalize ofT zs 12 = LL at *
    generalize iniVals (locsR (smallP zs 12)) (smallP zs 12).ini = IN at *
    generalize locsR (smallP zs 12) = LT at *
    generalize zs.length = mz at *
    have HIN : Hid (IN.length = LT.length) := hin
    clear hin
    go_enter Try.func5, Try.ntmps5
    go_wp2_with fail
    refine hO.mono ?_
    rintro _ w1 ⟨pv, rfl, hP, k1⟩
    have hU := fun W (k : On w1 W) => unfold_is LL t vs bo capb pv W (hP.rd.on k) (HB.out.on (k1.trans k)) (by omega)
    have hV := fun W (k : On w1 W) => runfold_is LL t vs bo capb pv W (hP.rd.on k) (HB.out.on (k1.trans k)) (by omega) HF.out
    have hI := fun W (k : On w1 W) => inits_is LT IN LL pv W (hP.on k) (by omega) HIN.out
    have hJ := fun W (k : On w1 W) => rinits_is LT IN LL pv W (hP.on k) (by omega) HIN.out
    obtain ⟨a1, c1, a2, c2, a3, c3, rfl, _, _, _⟩ := hP.ex
    generalize unfP (threadP LL t) t vs = U at *
    obtain ⟨E, ⟨pc, q0, q1, q2, q3⟩, MB⟩ := U
    simp only at hU hV
    unfold locV at hU hV
    have hIE := inits_len LT.length IN
    generalize initsP LT.length IN = IE at *
    have HIE : Hid (IE.length = LT.length) := hIE
    clear hIE
    have bp : ∀ cs T, Bk (w1.alloc (.cells cs T)) w1.heap.size cs := fun cs T => Bk.new w1 cs T
    clear hO hP HF hlen
    go_wp2_with fail
    refine (hU _ ((On.refl w1).alloc _)).mono ?_
    rintro _ w2 ⟨b1, d1, rfl, ho1, k2⟩
    have P2 := (bp _ _).on k2
    have K12 : On w1 w2 := ((On.refl w1).alloc _).trans k2
    have HE1 : Hid (Rd evC 6 w2 (.slice b1 E.length d1) E) := Rd.own (C := evC) (fun _ => rfl) ho1
    have hs2 := P2.lt
    have p0 := P2.at (i := 0) rfl
    have p1 := P2.at (i := 1) rfl
    have p2 := P2.at (i := 2) rfl
    have pl := P2.lt
    have bl : ∀ cs T, Bk (w2.alloc (.cells cs T)) w2.heap.size cs := fun cs T => Bk.new w2 cs T
    clear hU bp k2 ho1
    go_wp2_with fail
    refine (hV _ (K12.alloc _)).mono ?_
    rintro _ w3 ⟨b2, d2, rfl, ho2, k3⟩
    have k23 : On w2 w3 := ((On.refl w2).alloc _).trans k3
    have P3 := P2.on k23
    have L3 : Bk w3 w2.heap.size #[.int .i64 pc, .int .i64 q0, .int .i64 q1, .int .i64 q2, .int .i64 q3] := (bl _ _).on k3
    have K13 := K12.trans k23
    have HE2 : Hid (Rd evC 6 w3 (.slice b2 E.length d2) E) := Rd.own (C := evC) (fun _ => rfl) ho2
    have HE3 : Hid (Rd evC 6 w3 (.slice b1 E.length d1) E) := HE1.out.on k23
    have hS := fun W (k : On w3 W) => evSame_is E b1 d1 b2 d2 W (HE3.out.on k) (HE2.out.on k)
    have bm : ∀ cs T, Bk (w3.alloc (.cells cs T)) w3.heap.size cs := fun cs T => Bk.new w3 cs T
    have hqL := fun W => eqLoc_same W pc q0 q1 q2 q3
    have hE := fun W => eqEv_same W
    obtain ⟨_, _, _, _, hmE⟩ := HE2.out.slice
    clear hV k3 ho2 p0 p1 p2 pl HE1 P2 K12 bl
    go_wp2_with fail
    refine (hS _ ((On.refl w3).alloc _)).mono ?_
    rintro _ w4 ⟨rfl, k4⟩
    have M4 : Bk w4 w3.heap.size #[.int .i64 pc, .int .i64 q0, .int .i64 q1, .int .i64 q2, .int .i64 q3] := (bm _ _).on k4
    have k34 : On w3 w4 := ((On.refl w3).alloc _).trans k4
    have L4 := L3.on k34
    have P4 := P3.on k34
    have K14 := K13.trans k34
    have y0 := L4.at (i := 0) rfl
    have y1 := L4.at (i := 1) rfl
    have y2 := L4.at (i := 2) rfl
    have y3 := L4.at (i := 3) rfl
    have y4 := L4.at (i := 4) rfl
    have yl := L4.lt
    have z0 := M4.at (i := 0) rfl
    have z1 := M4.at (i := 1) rfl
    have z2 := M4.at (i := 2) rfl
    have z3 := M4.at (i := 3) rfl
    have z4 := M4.at (i := 4) rfl
    have zl := M4.lt
    have HE4 : Hid (Rd evC 6 w4 (.slice b2 E.length d2) E) := HE2.out.on k34
    have HE5 : Hid (Rd evC 6 w4 (.slice b1 E.length d1) E) := HE3.out.on k34
    clear hS bm k4 HE2 HE3 L3 P3
    go_wp2
    clear y0 y1 y2 y3 y4 yl z0 z1 z2 z3 z4 zl hqL
    go_loopg [14] E.length (fun gg s14 wq => ∃ n : Nat, n ≤ E.length ∧ gg = E.length - n ∧ s14 = .int .i64 n ∧ Hid (On w4 wq))
    case atStart => exact ⟨0, Nat.zero_le _, rfl, rfl, On.refl w4⟩
    case round =>
      obtain ⟨n, hn, hk, rfl, HO⟩ := hrel
      rcases Nat.lt_or_ge n E.length with hlt' | hge
      · obtain ⟨x, hx⟩ : ∃ x, E[n]? = some x := ⟨_, List.getElem?_eq_getElem hlt'⟩
        obtain ⟨g1, o1, rfl, hg1, p0, p1, p2, p3, p4, p5⟩ := rd_ev (HE5.out.on HO.out) hx
        obtain ⟨g2, o2, rfl, hg2, q0, q1, q2, q3, q4, q5⟩ := rd_ev (HE4.out.on HO.out) hx
        have bn0 : (0 : Int) ≤ (n : Int) := by omega
        have bn1 : (n : Int) < (E.length : Int) := by omega
        have hEx := fun W => hE W x.t x.i x.k x.l x.r x.w
        have hR1 := fun W => ereads_is x W
        have hR2 := fun W => rreads_is x W
        have hW1 := fun W => ewrites_is x W
        have hW2 := fun W => rwrites_is x W
        have hF1 := fun W => efences_is x W
        have hF2 := fun W => rfences_is x W
        unfold evV at hR1 hR2 hW1 hW2 hF1 hF2
        generalize rdsB x.k = RB at *
        generalize wrsB x.k = WB at *
        generalize fncB x.k = FB at *
        clear hx hE hI hJ
        have hon : ∀ W W', On wr W → On W W' → On wr W' := fun W W' h k => h.trans k
        have K0 : On wr wr.drew := On.drew (On.refl wr)
        go_upto_region 11 with fail
        refine region_fin (fun W => On wr W) 99 48 (by kernel_rfl) rfl ?_
        refine fin_take 0 (v := ?_) rfl (by kernel_rfl) (by kernel_rfl) (by kernel_rfl) (by kernel_rfl) (fun _ _ _ h => h) rfl ?_ K0 ?_
        rotate_left
        · intro W hW
          go_simp
          (try with_reducible rfl)
        simp only [Act.put, List.setIfInBounds_toArray, List.set_cons_zero, List.set_cons_succ]
        refine fin_take 1 (v := ?_) rfl (by kernel_rfl) (by kernel_rfl) (by kernel_rfl) (by kernel_rfl) (fun _ _ _ h => h) rfl ?_ K0 ?_
        rotate_left
        · intro W hW
          go_simp
          (try with_reducible rfl)
        simp only [Act.put, List.setIfInBounds_toArray, List.set_cons_zero, List.set_cons_succ]
        refine fin_take 2 (v := ?_) rfl (by kernel_rfl) (by kernel_rfl) (by kernel_rfl) (by kernel_rfl) (fun _ _ _ h => h) rfl ?_ K0 ?_
        rotate_left
        · intro W hW
          go_simp
          (try with_reducible rfl)
        simp only [Act.put, List.setIfInBounds_toArray, List.set_cons_zero, List.set_cons_succ]
        refine fin_take 3 (v := ?_) rfl (by kernel_rfl) (by kernel_rfl) (by kernel_rfl) (by kernel_rfl) (fun _ _ _ h => h) rfl ?_ K0 ?_
        rotate_left
        · intro W hW
          have f0 := (hW.cell (p := ⟨g1, o1 + n * 6, none⟩) hg1).trans p0
          have f1 := (hW.cell (p := ⟨g1, o1 + n * 6 + 1, none⟩) hg1).trans p1
          have f2 := (hW.cell (p := ⟨g1, o1 + n * 6 + 2, none⟩) hg1).trans p2
          have f3 := (hW.cell (p := ⟨g1, o1 + n * 6 + 3, none⟩) hg1).trans p3
          have f4 := (hW.cell (p := ⟨g1, o1 + n * 6 + 4, none⟩) hg1).trans p4
          have f5 := (hW.cell (p := ⟨g1, o1 + n * 6 + 5, none⟩) hg1).trans p5
          have h0 := (hW.cell (p := ⟨g2, o2 + n * 6, none⟩) hg2).trans q0
          have h1 := (hW.cell (p := ⟨g2, o2 + n * 6 + 1, none⟩) hg2).trans q1
          have h2 := (hW.cell (p := ⟨g2, o2 + n * 6 + 2, none⟩) hg2).trans q2
          have h3 := (hW.cell (p := ⟨g2, o2 + n * 6 + 3, none⟩) hg2).trans q3
          have h4 := (hW.cell (p := ⟨g2, o2 + n * 6 + 4, none⟩) hg2).trans q4
          have h5 := (hW.cell (p := ⟨g2, o2 + n * 6 + 5, none⟩) hg2).trans q5
          have fl1 := Nat.lt_of_lt_of_le hg1 hW.size
          have fl2 := Nat.lt_of_lt_of_le hg2 hW.size
          go_simp
          (try with_reducible rfl)
        simp only [Act.put, List.setIfInBounds_toArray, List.set_cons_zero, List.set_cons_succ]
        refine fin_take 4 (v := ?_) rfl (by kernel_rfl) (by kernel_rfl) (by kernel_rfl) (by kernel_rfl) (fun _ _ _ h => h) rfl ?_ K0 ?_
        rotate_left
        · intro W hW
          go_simp
          (try with_reducible rfl)
        simp only [Act.put, List.setIfInBounds_toArray, List.set_cons_zero, List.set_cons_succ]
        refine fin_take 5 (v := ?_) rfl (by kernel_rfl) (by kernel_rfl) (by kernel_rfl) (by kernel_rfl) (fun _ _ _ h => h) rfl ?_ K0 ?_
        rotate_left
        · intro W hW
          go_simp
          (try with_reducible rfl)
        simp only [Act.put, List.setIfInBounds_toArray, List.set_cons_zero, List.set_cons_succ]
        refine fin_take 6 (v := ?_) rfl (by kernel_rfl) (by kernel_rfl) (by kernel_rfl) (by kernel_rfl) (fun _ _ _ h => h) rfl ?_ K0 ?_
        rotate_left
        · intro W hW
          go_simp
          (try with_reducible rfl)
        simp only [Act.put, List.setIfInBounds_toArray, List.set_cons_zero, List.set_cons_succ]
        refine fin_take 7 (v := ?_) rfl (by kernel_rfl) (by kernel_rfl) (by kernel_rfl) (by kernel_rfl) (fun _ _ _ h => h) rfl ?_ K0 ?_
        rotate_left
        · intro W hW
          have f0 := (hW.cell (p := ⟨g1, o1 + n * 6, none⟩) hg1).trans p0
          have f1 := (hW.cell (p := ⟨g1, o1 + n * 6 + 1, none⟩) hg1).trans p1
          have f2 := (hW.cell (p := ⟨g1, o1 + n * 6 + 2, none⟩) hg1).trans p2
          have f3 := (hW.cell (p := ⟨g1, o1 + n * 6 + 3, none⟩) hg1).trans p3
          have f4 := (hW.cell (p := ⟨g1, o1 + n * 6 + 4, none⟩) hg1).trans p4
          have f5 := (hW.cell (p := ⟨g1, o1 + n * 6 + 5, none⟩) hg1).trans p5
          have h0 := (hW.cell (p := ⟨g2, o2 + n * 6, none⟩) hg2).trans q0
          have h1 := (hW.cell (p := ⟨g2, o2 + n * 6 + 1, none⟩) hg2).trans q1
          have h2 := (hW.cell (p := ⟨g2, o2 + n * 6 + 2, none⟩) hg2).trans q2
          have h3 := (hW.cell (p := ⟨g2, o2 + n * 6 + 3, none⟩) hg2).trans q3
          have h4 := (hW.cell (p := ⟨g2, o2 + n * 6 + 4, none⟩) hg2).trans q4
          have h5 := (hW.cell (p := ⟨g2, o2 + n * 6 + 5, none⟩) hg2).trans q5
          have fl1 := Nat.lt_of_lt_of_le hg1 hW.size
          have fl2 := Nat.lt_of_lt_of_le hg2 hW.size
          go_simp
          (try with_reducible rfl)
        simp only [Act.put, List.setIfInBounds_toArray, List.set_cons_zero, List.set_cons_succ]
        refine fin_take 8 (v := ?_) rfl (by kernel_rfl) (by kernel_rfl) (by kernel_rfl) (by kernel_rfl) (fun _ _ _ h => h) rfl ?_ K0 ?_
        rotate_left
        · intro W hW
          go_simp
          (try with_reducible rfl)
        simp only [Act.put, List.setIfInBounds_toArray, List.set_cons_zero, List.set_cons_succ]
        refine fin_take 9 (v := ?_) rfl (by kernel_rfl) (by kernel_rfl) (by kernel_rfl) (by kernel_rfl) (fun _ _ _ h => h) rfl ?_ K0 ?_
        rotate_left
        · intro W hW
          go_simp
          (try with_reducible rfl)
        simp only [Act.put, List.setIfInBounds_toArray, List.set_cons_zero, List.set_cons_succ]
        refine fin_takeG 10 (v := ?_) rfl (by kernel_rfl) (by kernel_rfl) (by kernel_rfl) (by kernel_rfl) (fun _ _ _ h => h) (by rfl) ?_ K0 ?_
        rotate_left
        · intro W hW
          go_simp
          (try with_reducible rfl)
        simp only [Act.put, List.setIfInBounds_toArray, List.set_cons_zero, List.set_cons_succ]
        refine fin_takeG 11 (v := ?_) rfl (by kernel_rfl) (by kernel_rfl) (by kernel_rfl) (by kernel_rfl) (fun _ _ _ h => h) (by rfl) ?_ K0 ?_
        rotate_left
        · intro W hW
          go_simp
          (try with_reducible rfl)
        simp only [Act.put, List.setIfInBounds_toArray, List.set_cons_zero, List.set_cons_succ]
        refine fin_takeG 12 (v := ?_) rfl (by kernel_rfl) (by kernel_rfl) (by kernel_rfl) (by kernel_rfl) (fun _ _ _ h => h) (by rfl) ?_ K0 ?_
        rotate_left
        · intro W hW
          go_simp
          (try with_reducible rfl)
        simp only [Act.put, List.setIfInBounds_toArray, List.set_cons_zero, List.set_cons_succ]
        refine fin_takeG 13 (v := ?_) rfl (by kernel_rfl) (by kernel_rfl) (by kernel_rfl) (by kernel_rfl) (fun _ _ _ h => h) (by rfl) ?_ K0 ?_
        rotate_left
        · intro W hW
          have f0 := (hW.cell (p := ⟨g1, o1 + n * 6, none⟩) hg1).trans p0
          have f1 := (hW.cell (p := ⟨g1, o1 + n * 6 + 1, none⟩) hg1).trans p1
          have f2 := (hW.cell (p := ⟨g1, o1 + n * 6 + 2, none⟩) hg1).trans p2
          have f3 := (hW.cell (p := ⟨g1, o1 + n * 6 + 3, none⟩) hg1).trans p3
          have f4 := (hW.cell (p := ⟨g1, o1 + n * 6 + 4, none⟩) hg1).trans p4
          have f5 := (hW.cell (p := ⟨g1, o1 + n * 6 + 5, none⟩) hg1).trans p5
          have h0 := (hW.cell (p := ⟨g2, o2 + n * 6, none⟩) hg2).trans q0
          have h1 := (hW.cell (p := ⟨g2, o2 + n * 6 + 1, none⟩) hg2).trans q1
          have h2 := (hW.cell (p := ⟨g2, o2 + n * 6 + 2, none⟩) hg2).trans q2
          have h3 := (hW.cell (p := ⟨g2, o2 + n * 6 + 3, none⟩) hg2).trans q3
          have h4 := (hW.cell (p := ⟨g2, o2 + n * 6 + 4, none⟩) hg2).trans q4
          have h5 := (hW.cell (p := ⟨g2, o2 + n * 6 + 5, none⟩) hg2).trans q5
          have fl1 := Nat.lt_of_lt_of_le hg1 hW.size
          have fl2 := Nat.lt_of_lt_of_le hg2 hW.size
          go_simp
          (try with_reducible rfl)
        simp only [Act.put, List.setIfInBounds_toArray, List.set_cons_zero, List.set_cons_succ]
        refine fin_takeG 15 (v := ?_) rfl (by kernel_rfl) (by kernel_rfl) (by kernel_rfl) (by kernel_rfl) (fun _ _ _ h => h) (by rfl) ?_ K0 ?_
        rotate_left
        · intro W hW
          go_simp
          (try with_reducible rfl)
        simp only [Act.put, List.setIfInBounds_toArray, List.set_cons_zero, List.set_cons_succ]
        refine fin_takeG 16 (v := ?_) rfl (by kernel_rfl) (by kernel_rfl) (by kernel_rfl) (by kernel_rfl) (fun _ _ _ h => h) (by rfl) ?_ K0 ?_
        rotate_left
        · intro W hW
          go_simp
          (try with_reducible rfl)
        simp only [Act.put, List.setIfInBounds_toArray, List.set_cons_zero, List.set_cons_succ]
        refine fin_takeG 17 (v := ?_) rfl (by kernel_rfl) (by kernel_rfl) (by kernel_rfl) (by kernel_rfl) (fun _ _ _ h => h) (by rfl) ?_ K0 ?_
        rotate_left
        · intro W hW
          go_simp
          (try with_reducible rfl)
        simp only [Act.put, List.setIfInBounds_toArray, List.set_cons_zero, List.set_cons_succ]
        refine fin_takeG 18 (v := ?_) rfl (by kernel_rfl) (by kernel_rfl) (by kernel_rfl) (by kernel_rfl) (fun _ _ _ h => h) (by rfl) ?_ K0 ?_
        rotate_left
        · intro W hW
          have f0 := (hW.cell (p := ⟨g1, o1 + n * 6, none⟩) hg1).trans p0
          have f1 := (hW.cell (p := ⟨g1, o1 + n * 6 + 1, none⟩) hg1).trans p1
          have f2 := (hW.cell (p := ⟨g1, o1 + n * 6 + 2, none⟩) hg1).trans p2
          have f3 := (hW.cell (p := ⟨g1, o1 + n * 6 + 3, none⟩) hg1).trans p3
          have f4 := (hW.cell (p := ⟨g1, o1 + n * 6 + 4, none⟩) hg1).trans p4
          have f5 := (hW.cell (p := ⟨g1, o1 + n * 6 + 5, none⟩) hg1).trans p5
          have h0 := (hW.cell (p := ⟨g2, o2 + n * 6, none⟩) hg2).trans q0
          have h1 := (hW.cell (p := ⟨g2, o2 + n * 6 + 1, none⟩) hg2).trans q1
          have h2 := (hW.cell (p := ⟨g2, o2 + n * 6 + 2, none⟩) hg2).trans q2
          have h3 := (hW.cell (p := ⟨g2, o2 + n * 6 + 3, none⟩) hg2).trans q3
          have h4 := (hW.cell (p := ⟨g2, o2 + n * 6 + 4, none⟩) hg2).trans q4
          have h5 := (hW.cell (p := ⟨g2, o2 + n * 6 + 5, none⟩) hg2).trans q5
          have fl1 := Nat.lt_of_lt_of_le hg1 hW.size
          have fl2 := Nat.lt_of_lt_of_le hg2 hW.size
          go_simp
          (try with_reducible rfl)
        simp only [Act.put, List.setIfInBounds_toArray, List.set_cons_zero, List.set_cons_succ]
        refine fin_oneG 14 rfl (by rfl) (by kernel_rfl) (fun K hK => ?_)
        go_simp
        refine (hR1 _).mono ?_
        rintro _ w1 ⟨rfl, kw1⟩
        have Sw1 := hon _ _ K0 kw1
        have Kw1 := K0.trans kw1
        refine hK.out _ _ (fun _ => Sw1) ?_
        clear hK
        refine fin_oneG 19 rfl (by rfl) (by kernel_rfl) (fun K hK => ?_)
        go_simp
        refine (hR2 _).mono ?_
        rintro _ w2 ⟨rfl, kw2⟩
        have Sw2 := hon _ _ Sw1 kw2
        have Kw2 := Kw1.trans kw2
        refine hK.out _ _ (fun _ => Sw2) ?_
        clear hK
        refine fin_takeG 20 (v := ?_) rfl (by kernel_rfl) (by kernel_rfl) (by kernel_rfl) (by kernel_rfl) (fun _ _ _ h => h) (by rfl) ?_ Sw2 ?_
        rotate_left
        · intro W hW
          go_simp
          (try with_reducible rfl)
        simp only [Act.put, List.setIfInBounds_toArray, List.set_cons_zero, List.set_cons_succ]
        refine fin_take 21 (v := ?_) rfl (by kernel_rfl) (by kernel_rfl) (by kernel_rfl) (by kernel_rfl) (fun _ _ _ h => h) rfl ?_ Sw2 ?_
        rotate_left
        · intro W hW
          go_simp
          (try with_reducible rfl)
        simp only [Act.put, List.setIfInBounds_toArray, List.set_cons_zero, List.set_cons_succ]
        refine fin_take 22 (v := ?_) rfl (by kernel_rfl) (by kernel_rfl) (by kernel_rfl) (by kernel_rfl) (fun _ _ _ h => h) rfl ?_ Sw2 ?_
        rotate_left
        · intro W hW
          go_simp
          (try with_reducible rfl)
        simp only [Act.put, List.setIfInBounds_toArray, List.set_cons_zero, List.set_cons_succ]
        refine fin_takeG 23 (v := ?_) rfl (by kernel_rfl) (by kernel_rfl) (by kernel_rfl) (by kernel_rfl) (fun _ _ _ h => h) (by rfl) ?_ Sw2 ?_
        rotate_left
        · intro W hW
          go_simp
          (try with_reducible rfl)
        simp only [Act.put, List.setIfInBounds_toArray, List.set_cons_zero, List.set_cons_succ]
        refine fin_takeG 24 (v := ?_) rfl (by kernel_rfl) (by kernel_rfl) (by kernel_rfl) (by kernel_rfl) (fun _ _ _ h => h) (by rfl) ?_ Sw2 ?_
        rotate_left
        · intro W hW
          go_simp
          (try with_reducible rfl)
        simp only [Act.put, List.setIfInBounds_toArray, List.set_cons_zero, List.set_cons_succ]
        refine fin_takeG 25 (v := ?_) rfl (by kernel_rfl) (by kernel_rfl) (by kernel_rfl) (by kernel_rfl) (fun _ _ _ h => h) (by rfl) ?_ Sw2 ?_
        rotate_left
        · intro W hW
          go_simp
          (try with_reducible rfl)
        simp only [Act.put, List.setIfInBounds_toArray, List.set_cons_zero, List.set_cons_succ]
        refine fin_takeG 26 (v := ?_) rfl (by kernel_rfl) (by kernel_rfl) (by kernel_rfl) (by kernel_rfl) (fun _ _ _ h => h) (by rfl) ?_ Sw2 ?_
        rotate_left
        · intro W hW
          have f0 := (hW.cell (p := ⟨g1, o1 + n * 6, none⟩) hg1).trans p0
          have f1 := (hW.cell (p := ⟨g1, o1 + n * 6 + 1, none⟩) hg1).trans p1
          have f2 := (hW.cell (p := ⟨g1, o1 + n * 6 + 2, none⟩) hg1).trans p2
          have f3 := (hW.cell (p := ⟨g1, o1 + n * 6 + 3, none⟩) hg1).trans p3
          have f4 := (hW.cell (p := ⟨g1, o1 + n * 6 + 4, none⟩) hg1).trans p4
          have f5 := (hW.cell (p := ⟨g1, o1 + n * 6 + 5, none⟩) hg1).trans p5
          have h0 := (hW.cell (p := ⟨g2, o2 + n * 6, none⟩) hg2).trans q0
          have h1 := (hW.cell (p := ⟨g2, o2 + n * 6 + 1, none⟩) hg2).trans q1
          have h2 := (hW.cell (p := ⟨g2, o2 + n * 6 + 2, none⟩) hg2).trans q2
          have h3 := (hW.cell (p := ⟨g2, o2 + n * 6 + 3, none⟩) hg2).trans q3
          have h4 := (hW.cell (p := ⟨g2, o2 + n * 6 + 4, none⟩) hg2).trans q4
          have h5 := (hW.cell (p := ⟨g2, o2 + n * 6 + 5, none⟩) hg2).trans q5
          have fl1 := Nat.lt_of_lt_of_le hg1 hW.size
          have fl2 := Nat.lt_of_lt_of_le hg2 hW.size
          go_simp
          (try with_reducible rfl)
        simp only [Act.put, List.setIfInBounds_toArray, List.set_cons_zero, List.set_cons_succ]
        refine fin_takeG 28 (v := ?_) rfl (by kernel_rfl) (by kernel_rfl) (by kernel_rfl) (by kernel_rfl) (fun _ _ _ h => h) (by rfl) ?_ Sw2 ?_
        rotate_left
        · intro W hW
          go_simp
          (try with_reducible rfl)
        simp only [Act.put, List.setIfInBounds_toArray, List.set_cons_zero, List.set_cons_succ]
        refine fin_takeG 29 (v := ?_) rfl (by kernel_rfl) (by kernel_rfl) (by kernel_rfl) (by kernel_rfl) (fun _ _ _ h => h) (by rfl) ?_ Sw2 ?_
        rotate_left
        · intro W hW
          go_simp
          (try with_reducible rfl)
        simp only [Act.put, List.setIfInBounds_toArray, List.set_cons_zero, List.set_cons_succ]
        refine fin_takeG 30 (v := ?_) rfl (by kernel_rfl) (by kernel_rfl) (by kernel_rfl) (by kernel_rfl) (fun _ _ _ h => h) (by rfl) ?_ Sw2 ?_
        rotate_left
        · intro W hW
          go_simp
          (try with_reducible rfl)
        simp only [Act.put, List.setIfInBounds_toArray, List.set_cons_zero, List.set_cons_succ]
        refine fin_takeG 31 (v := ?_) rfl (by kernel_rfl) (by kernel_rfl) (by kernel_rfl) (by kernel_rfl) (fun _ _ _ h => h) (by rfl) ?_ Sw2 ?_
        rotate_left
        · intro W hW
          have f0 := (hW.cell (p := ⟨g1, o1 + n * 6, none⟩) hg1).trans p0
          have f1 := (hW.cell (p := ⟨g1, o1 + n * 6 + 1, none⟩) hg1).trans p1
          have f2 := (hW.cell (p := ⟨g1, o1 + n * 6 + 2, none⟩) hg1).trans p2
          have f3 := (hW.cell (p := ⟨g1, o1 + n * 6 + 3, none⟩) hg1).trans p3
          have f4 := (hW.cell (p := ⟨g1, o1 + n * 6 + 4, none⟩) hg1).trans p4
          have f5 := (hW.cell (p := ⟨g1, o1 + n * 6 + 5, none⟩) hg1).trans p5
          have h0 := (hW.cell (p := ⟨g2, o2 + n * 6, none⟩) hg2).trans q0
          have h1 := (hW.cell (p := ⟨g2, o2 + n * 6 + 1, none⟩) hg2).trans q1
          have h2 := (hW.cell (p := ⟨g2, o2 + n * 6 + 2, none⟩) hg2).trans q2
          have h3 := (hW.cell (p := ⟨g2, o2 + n * 6 + 3, none⟩) hg2).trans q3
          have h4 := (hW.cell (p := ⟨g2, o2 + n * 6 + 4, none⟩) hg2).trans q4
          have h5 := (hW.cell (p := ⟨g2, o2 + n * 6 + 5, none⟩) hg2).trans q5
          have fl1 := Nat.lt_of_lt_of_le hg1 hW.size
          have fl2 := Nat.lt_of_lt_of_le hg2 hW.size
          go_simp
          (try with_reducible rfl)
        simp only [Act.put, List.setIfInBounds_toArray, List.set_cons_zero, List.set_cons_succ]
        refine fin_oneG 27 rfl (by rfl) (by kernel_rfl) (fun K hK => ?_)
        go_simp
        refine (hW1 _).mono ?_
        rintro _ w3 ⟨rfl, kw3⟩
        have Sw3 := hon _ _ Sw2 kw3
        have Kw3 := Kw2.trans kw3
        refine hK.out _ _ (fun _ => Sw3) ?_
        clear hK
        refine fin_oneG 32 rfl (by rfl) (by kernel_rfl) (fun K hK => ?_)
        go_simp
        refine (hW2 _).mono ?_
        rintro _ w4 ⟨rfl, kw4⟩
        have Sw4 := hon _ _ Sw3 kw4
        have Kw4 := Kw3.trans kw4
        refine hK.out _ _ (fun _ => Sw4) ?_
        clear hK
        refine fin_takeG 33 (v := ?_) rfl (by kernel_rfl) (by kernel_rfl) (by kernel_rfl) (by kernel_rfl) (fun _ _ _ h => h) (by rfl) ?_ Sw4 ?_
        rotate_left
        · intro W hW
          go_simp
          (try with_reducible rfl)
        simp only [Act.put, List.setIfInBounds_toArray, List.set_cons_zero, List.set_cons_succ]
        refine fin_take 34 (v := ?_) rfl (by kernel_rfl) (by kernel_rfl) (by kernel_rfl) (by kernel_rfl) (fun _ _ _ h => h) rfl ?_ Sw4 ?_
        rotate_left
        · intro W hW
          go_simp
          (try with_reducible rfl)
        simp only [Act.put, List.setIfInBounds_toArray, List.set_cons_zero, List.set_cons_succ]
        refine fin_take 35 (v := ?_) rfl (by kernel_rfl) (by kernel_rfl) (by kernel_rfl) (by kernel_rfl) (fun _ _ _ h => h) rfl ?_ Sw4 ?_
        rotate_left
        · intro W hW
          go_simp
          (try with_reducible rfl)
        simp only [Act.put, List.setIfInBounds_toArray, List.set_cons_zero, List.set_cons_succ]
        refine fin_takeG 36 (v := ?_) rfl (by kernel_rfl) (by kernel_rfl) (by kernel_rfl) (by kernel_rfl) (fun _ _ _ h => h) (by rfl) ?_ Sw4 ?_
        rotate_left
        · intro W hW
          go_simp
          (try with_reducible rfl)
        simp only [Act.put, List.setIfInBounds_toArray, List.set_cons_zero, List.set_cons_succ]
        refine fin_takeG 37 (v := ?_) rfl (by kernel_rfl) (by kernel_rfl) (by kernel_rfl) (by kernel_rfl) (fun _ _ _ h => h) (by rfl) ?_ Sw4 ?_
        rotate_left
        · intro W hW
          go_simp
          (try with_reducible rfl)
        simp only [Act.put, List.setIfInBounds_toArray, List.set_cons_zero, List.set_cons_succ]
        refine fin_takeG 38 (v := ?_) rfl (by kernel_rfl) (by kernel_rfl) (by kernel_rfl) (by kernel_rfl) (fun _ _ _ h => h) (by rfl) ?_ Sw4 ?_
        rotate_left
        · intro W hW
          go_simp
          (try with_reducible rfl)
        simp only [Act.put, List.setIfInBounds_toArray, List.set_cons_zero, List.set_cons_succ]
        refine fin_takeG 39 (v := ?_) rfl (by kernel_rfl) (by kernel_rfl) (by kernel_rfl) (by kernel_rfl) (fun _ _ _ h => h) (by rfl) ?_ Sw4 ?_
        rotate_left
        · intro W hW
          have f0 := (hW.cell (p := ⟨g1, o1 + n * 6, none⟩) hg1).trans p0
          have f1 := (hW.cell (p := ⟨g1, o1 + n * 6 + 1, none⟩) hg1).trans p1
          have f2 := (hW.cell (p := ⟨g1, o1 + n * 6 + 2, none⟩) hg1).trans p2
          have f3 := (hW.cell (p := ⟨g1, o1 + n * 6 + 3, none⟩) hg1).trans p3
          have f4 := (hW.cell (p := ⟨g1, o1 + n * 6 + 4, none⟩) hg1).trans p4
          have f5 := (hW.cell (p := ⟨g1, o1 + n * 6 + 5, none⟩) hg1).trans p5
          have h0 := (hW.cell (p := ⟨g2, o2 + n * 6, none⟩) hg2).trans q0
          have h1 := (hW.cell (p := ⟨g2, o2 + n * 6 + 1, none⟩) hg2).trans q1
          have h2 := (hW.cell (p := ⟨g2, o2 + n * 6 + 2, none⟩) hg2).trans q2
          have h3 := (hW.cell (p := ⟨g2, o2 + n * 6 + 3, none⟩) hg2).trans q3
          have h4 := (hW.cell (p := ⟨g2, o2 + n * 6 + 4, none⟩) hg2).trans q4
          have h5 := (hW.cell (p := ⟨g2, o2 + n * 6 + 5, none⟩) hg2).trans q5
          have fl1 := Nat.lt_of_lt_of_le hg1 hW.size
          have fl2 := Nat.lt_of_lt_of_le hg2 hW.size
          go_simp
          (try with_reducible rfl)
        simp only [Act.put, List.setIfInBounds_toArray, List.set_cons_zero, List.set_cons_succ]
        refine fin_takeG 41 (v := ?_) rfl (by kernel_rfl) (by kernel_rfl) (by kernel_rfl) (by kernel_rfl) (fun _ _ _ h => h) (by rfl) ?_ Sw4 ?_
        rotate_left
        · intro W hW
          go_simp
          (try with_reducible rfl)
        simp only [Act.put, List.setIfInBounds_toArray, List.set_cons_zero, List.set_cons_succ]
        refine fin_takeG 42 (v := ?_) rfl (by kernel_rfl) (by kernel_rfl) (by kernel_rfl) (by kernel_rfl) (fun _ _ _ h => h) (by rfl) ?_ Sw4 ?_
        rotate_left
        · intro W hW
          go_simp
          (try with_reducible rfl)
        simp only [Act.put, List.setIfInBounds_toArray, List.set_cons_zero, List.set_cons_succ]
        refine fin_takeG 43 (v := ?_) rfl (by kernel_rfl) (by kernel_rfl) (by kernel_rfl) (by kernel_rfl) (fun _ _ _ h => h) (by rfl) ?_ Sw4 ?_
        rotate_left
        · intro W hW
          go_simp
          (try with_reducible rfl)
        simp only [Act.put, List.setIfInBounds_toArray, List.set_cons_zero, List.set_cons_succ]
        refine fin_takeG 44 (v := ?_) rfl (by kernel_rfl) (by kernel_rfl) (by kernel_rfl) (by kernel_rfl) (fun _ _ _ h => h) (by rfl) ?_ Sw4 ?_
        rotate_left
        · intro W hW
          have f0 := (hW.cell (p := ⟨g1, o1 + n * 6, none⟩) hg1).trans p0
          have f1 := (hW.cell (p := ⟨g1, o1 + n * 6 + 1, none⟩) hg1).trans p1
          have f2 := (hW.cell (p := ⟨g1, o1 + n * 6 + 2, none⟩) hg1).trans p2
          have f3 := (hW.cell (p := ⟨g1, o1 + n * 6 + 3, none⟩) hg1).trans p3
          have f4 := (hW.cell (p := ⟨g1, o1 + n * 6 + 4, none⟩) hg1).trans p4
          have f5 := (hW.cell (p := ⟨g1, o1 + n * 6 + 5, none⟩) hg1).trans p5
          have h0 := (hW.cell (p := ⟨g2, o2 + n * 6, none⟩) hg2).trans q0
          have h1 := (hW.cell (p := ⟨g2, o2 + n * 6 + 1, none⟩) hg2).trans q1
          have h2 := (hW.cell (p := ⟨g2, o2 + n * 6 + 2, none⟩) hg2).trans q2
          have h3 := (hW.cell (p := ⟨g2, o2 + n * 6 + 3, none⟩) hg2).trans q3
          have h4 := (hW.cell (p := ⟨g2, o2 + n * 6 + 4, none⟩) hg2).trans q4
          have h5 := (hW.cell (p := ⟨g2, o2 + n * 6 + 5, none⟩) hg2).trans q5
          have fl1 := Nat.lt_of_lt_of_le hg1 hW.size
          have fl2 := Nat.lt_of_lt_of_le hg2 hW.size
          go_simp
          (try with_reducible rfl)
        simp only [Act.put, List.setIfInBounds_toArray, List.set_cons_zero, List.set_cons_succ]
        refine fin_oneG 40 rfl (by rfl) (by kernel_rfl) (fun K hK => ?_)
        go_simp
        refine (hF1 _).mono ?_
        rintro _ w5 ⟨rfl, kw5⟩
        have Sw5 := hon _ _ Sw4 kw5
        have Kw5 := Kw4.trans kw5
        refine hK.out _ _ (fun _ => Sw5) ?_
        clear hK
        refine fin_oneG 45 rfl (by rfl) (by kernel_rfl) (fun K hK => ?_)
        go_simp
        refine (hF2 _).mono ?_
        rintro _ w6 ⟨rfl, kw6⟩
        have Sw6 := hon _ _ Sw5 kw6
        have Kw6 := Kw5.trans kw6
        refine hK.out _ _ (fun _ => Sw6) ?_
        clear hK
        refine fin_takeG 46 (v := ?_) rfl (by kernel_rfl) (by kernel_rfl) (by kernel_rfl) (by kernel_rfl) (fun _ _ _ h => h) (by rfl) ?_ Sw6 ?_
        rotate_left
        · intro W hW
          go_simp
          (try with_reducible rfl)
        simp only [Act.put, List.setIfInBounds_toArray, List.set_cons_zero, List.set_cons_succ]
        refine fin_take 47 (v := ?_) rfl (by kernel_rfl) (by kernel_rfl) (by kernel_rfl) (by kernel_rfl) (fun _ _ _ h => h) rfl ?_ Sw6 ?_
        rotate_left
        · intro W hW
          go_simp
          (try with_reducible rfl)
        simp only [Act.put, List.setIfInBounds_toArray, List.set_cons_zero, List.set_cons_succ]
        refine fin_done (by kernel_rfl) (NoPanic.normal ?_)
        go_wp2
        go_roundg (E.length - (n + 1))
        case measure => omega
        case rel => exact ⟨n + 1, by omega, rfl, by go_num, HO.out.trans Kw6⟩
      · obtain rfl : n = E.length := by omega
        have P5 := P4.on HO.out
        have K15 := K14.trans HO.out
        go_upto_region 13 with fail
        obtain ⟨W5, hW5⟩ : ∃ W5, W5 = wr.drew := ⟨_, rfl⟩
        have P6 : Bk wr.drew w1.heap.size #[.slice a1 LT.length c1, .slice a2 IN.length c2, .slice a3 LL.length c3] := P5
        refine region_fin (fun W => Bk W w1.heap.size #[.slice a1 LT.length c1, .slice a2 IN.length c2, .slice a3 LL.length c3]) 99 6 (by kernel_rfl) rfl ?_
        refine fin_take 0 (v := ?_) rfl (by kernel_rfl) (by kernel_rfl) (by kernel_rfl) (by kernel_rfl) (fun _ _ _ h => h) rfl ?_ P6 ?_
        rotate_left
        · intro W hW
          have f0 := hW.at (i := 0) rfl
          have f1 := hW.at (i := 1) rfl
          have f2 := hW.at (i := 2) rfl
          have fl := hW.lt
          go_simp
          (try with_reducible rfl)
        simp only [Act.put, List.setIfInBounds_toArray, List.set_cons_zero, List.set_cons_succ]
        refine fin_take 2 (v := ?_) rfl (by kernel_rfl) (by kernel_rfl) (by kernel_rfl) (by kernel_rfl) (fun _ _ _ h => h) rfl ?_ P6 ?_
        rotate_left
        · intro W hW
          have f0 := hW.at (i := 0) rfl
          have f1 := hW.at (i := 1) rfl
          have f2 := hW.at (i := 2) rfl
          have fl := hW.lt
          go_simp
          (try with_reducible rfl)
        simp only [Act.put, List.setIfInBounds_toArray, List.set_cons_zero, List.set_cons_succ]
        refine fin_one 1 rfl rfl (by kernel_rfl) (fun K hK => ?_)
        go_simp
        refine (hI _ (On.drew K15)).mono ?_
        rintro _ w7 ⟨e1, f1, rfl, hi1, k7⟩
        have P7 := P6.on k7
        have K17 : On w1 w7 := (On.drew K15).trans k7
        have HI1 : Hid (Rd evC 6 w7 (.slice e1 IE.length f1) IE) := Rd.own (C := evC) (fun _ => rfl) (by rw [HIE.out]; exact hi1)
        clear hi1
        refine hK.out _ _ (fun _ => P7) ?_
        clear hK
        refine fin_one 3 rfl rfl (by kernel_rfl) (fun K hK => ?_)
        go_simp
        refine (hJ _ K17).mono ?_
        rintro _ w8 ⟨e2, f2, rfl, hi2, k8⟩
        have P8 := P7.on k8
        have K18 : On w1 w8 := K17.trans k8
        have HI2 : Hid (Rd evC 6 w8 (.slice e2 IE.length f2) IE) := Rd.own (C := evC) (fun _ => rfl) (by rw [HIE.out]; exact hi2)
        have HI3 : Hid (Rd evC 6 w8 (.slice e1 IE.length f1) IE) := HI1.out.on k8
        clear hi2 HI1
        refine hK.out _ _ (fun _ => P8) ?_
        clear hK
        refine fin_take 4 (v := ?_) rfl (by kernel_rfl) (by kernel_rfl) (by kernel_rfl) (by kernel_rfl) (fun _ _ _ h => h) rfl ?_ P8 ?_
        rotate_left
        · intro W hW
          go_simp
          (try with_reducible rfl)
        simp only [Act.put, List.setIfInBounds_toArray, List.set_cons_zero, List.set_cons_succ]
        refine fin_take 5 (v := ?_) rfl (by kernel_rfl) (by kernel_rfl) (by kernel_rfl) (by kernel_rfl) (fun _ _ _ h => h) rfl ?_ P8 ?_
        rotate_left
        · intro W hW
          go_simp
          (try with_reducible rfl)
        simp only [Act.put, List.setIfInBounds_toArray, List.set_cons_zero, List.set_cons_succ]
        refine fin_done (by kernel_rfl) (NoPanic.normal ?_)
        clear hI hJ P6 P7 P8 P5 hW5 k8 k7 HO
        go_wp2
        go_loopg [17] LT.length (fun gg s17 wq => ∃ n : Nat, n ≤ LT.length ∧ gg = LT.length - n ∧ s17 = .int .i64 n ∧ Hid (On w8 wq))
        case atStart => exact ⟨0, Nat.zero_le _, rfl, rfl, On.refl w8⟩
        case round =>
          obtain ⟨n, hn, hk, rfl, HO⟩ := hrel
          rcases Nat.lt_or_ge n LT.length with hlt' | hge
          · obtain ⟨x, hx⟩ : ∃ x, IE[n]? = some x := ⟨_, List.getElem?_eq_getElem (by rw [HIE.out]; exact hlt')⟩
            obtain ⟨g1, o1, rfl, hg1, p0, p1, p2, p3, p4, p5⟩ := rd_ev (HI3.out.on HO.out) hx
            obtain ⟨g2, o2, rfl, hg2, q0, q1, q2, q3, q4, q5⟩ := rd_ev (HI2.out.on HO.out) hx
            have bn0 : (0 : Int) ≤ (n : Int) := by omega
            have bn1 : (n : Int) < (LT.length : Int) := by omega
            have hEx := fun W => hE W x.t x.i x.k x.l x.r x.w
            clear hx hE
            go_wp2
            go_quiet (fail)
            go_wp2
            go_roundg (LT.length - (n + 1))
            case measure => omega
            case rel => exact ⟨n + 1, by omega, rfl, by go_num, On.drewN HO.out _⟩
          · obtain rfl : n = LT.length := by omega
            go_wp2_with fail
            refine (hA _).mono ?_
            rintro _ w9 ⟨rfl, k9⟩
            go_wp2
            go_ret
            exact ⟨rfl, ((k1.trans K18).trans HO.out).trans k9⟩
end Go.Proofs.Ytkglmhclpgfngaa
