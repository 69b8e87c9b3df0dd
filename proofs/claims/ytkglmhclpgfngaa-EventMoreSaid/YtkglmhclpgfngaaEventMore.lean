/- The law EventMore, walked. -/
import Derived.Test.YtkglmhclpgfngaaAwake10
import Derived.Test.YtkglmhclpgfngaaEvQ
import Derived.Test.YtkglmhclpgfngaaOfP
import Derived.Test.YtkglmhclpgfngaaREvU
import Derived.Test.YtkglmhclpgfngaaAppI
import Derived.Test.YtkglmhclpgfngaaRegFin3
import Derived.Deep.DeepCutAuto
namespace Go.Proofs.Ytkglmhclpgfngaa
open Go.RowKit

theorem neEvLoc : (23 : TypeId) ≠ 37 := by decide
theorem own_set5T {w : World} {N base k n : Nat} {cs : List Value} {T e : TypeId} {v : Value} {xs : List Value} (ho : w.ownsRow base e k v n xs) (h : w.heap[N]? = some (.cells cs.toArray T (0, 0))) (hne : e ≠ T) (v0 v1 v2 v3 v4 : Value) :
    (((((w.setCell ⟨N, 0, none⟩ v0).setCell ⟨N, 1, none⟩ v1).setCell ⟨N, 2, none⟩ v2).setCell ⟨N, 3, none⟩ v3).setCell ⟨N, 4, none⟩ v4).ownsRow base e k v n xs := own_putsT hne [v0, v1, v2, v3, v4] w cs 0 ho h
theorem neIntLoc : (2 : TypeId) ≠ 37 := by decide
set_option maxHeartbeats 16000000 in
set_option maxRecDepth 8000 in
theorem eventMore_walk (ao : Option Addr) (zs : List Int) (cap : Nat) (t : Int) (bo : Option Addr) (vs : List Int) (capb : Nat) (v : Int) (w : World) (hz : zs.length ≤ 9223372036854775807) (hr : Rd intC 1 w (.slice ao zs.length cap) zs) (hzb : vs.length ≤ 9223372036854775807) (hrb : Rd intC 1 w (.slice bo vs.length capb) vs) :
    Calls Try.prog 7 #[.slice ao zs.length cap, .int .i64 t, .slice bo vs.length capb, .int .i64 v] w fun e w' => e = .returned (.bool true) ∧ On w w' := by
  have hA := fun W => awake10_is W
  have HB : Hid (Rd intC 1 w (.slice bo vs.length capb) vs) := hrb
  have hO := of_is zs ao cap 12 w hz hr
  have hlen := of_len zs 12
  have hmany := of_many zs 12
  have HLn : Hid (∀ L ∈ ofT zs 12, L.length ≤ 6) := hlen
  clear hrb hr hz hlen
  generalize ofT zs 12 = LL at *
  generalize iniVals (locsR (smallP zs 12)) (smallP zs 12).ini = IN at *
  generalize locsR (smallP zs 12) = LT at *
  generalize zs.length = mz at *
  obtain ⟨kb, hkb, hbit⟩ := low8 t
  obtain ⟨th, hth⟩ : ∃ th, th = kb % LL.length := ⟨_, rfl⟩
  have hthl : th < LL.length := by rw [hth]; exact Nat.mod_lt _ (by omega)
  have hrem : (kb : Int).tmod (LL.length : Int) = (th : Int) := by rw [hth]; exact (Int.ofNat_tmod _ _).symm
  have hrem2 : (kb : Int) % (LL.length : Int) = (th : Int) := by rw [hth]; exact (Int.natCast_emod _ _).symm
  have hd0 : ((LL.length : Int) == 0) = false := by rw [beq_eq_false_iff_ne]; omega
  have hd1 : ¬ (LL.length : Int) = 0 := by omega
  have hd2 : ¬ LL.length = 0 := by omega
  clear hth
  obtain ⟨L, hL⟩ : ∃ L, LL[th]? = some L := ⟨_, List.getElem?_eq_getElem hthl⟩
  have hthr : threadP LL (th : Int) = L := by
    unfold threadP
    rw [if_pos (by omega), Int.toNat_natCast, List.getD_eq_getElem?_getD, hL]
    rfl
  have hL6 := HLn.out L (List.mem_of_getElem? hL)
  have HLL : Hid (LL[th]? = some L) := hL
  have HTH : Hid (threadP LL (th : Int) = L) := hthr
  clear hL hthr
  by_cases h20 : 20 < vs.length
  · have bp : ∀ pv T, Bk ((w.alloc (.cells pv T))) w.heap.size pv := fun pv T => Bk.new w pv T
    go_enter Try.func7, Try.ntmps7
    go_wp2_with fail
    refine hO.mono ?_
    rintro _ w1 ⟨pv, rfl, hP, k1⟩
    obtain ⟨a1, c1, a2, c2, a3, c3, rfl, _, _, _⟩ := hP.ex
    clear hO hP bp
    go_wp2_with fail
    refine (hA _).mono ?_
    rintro _ w2 ⟨rfl, k2⟩
    go_wp2
    go_ret
    exact ⟨rfl, (k1.alloc _).trans k2⟩
  · have d20 : decide ((20 : Int) < (vs.length : Int)) = false := by simp; omega
    have hv20 : vs.length ≤ 20 := by omega
    clear h20
    go_enter Try.func7, Try.ntmps7
    go_wp2_with fail
    refine hO.mono ?_
    rintro _ w1 ⟨pv, rfl, hP, k1⟩
    have hU := fun W (k : On w1 W) => unfold_is LL (th : Int) vs bo capb pv W (hP.rd.on k) (HB.out.on (k1.trans k)) (by rw [HTH.out]; omega)
    rw [HTH.out] at hU
    have hV := fun (bx : Option Addr) (dx : Nat) W (k : On w1 W) (hx : Rd intC 1 W (.slice bx (vs ++ [v]).length dx) (vs ++ [v])) => unfold_is LL (th : Int) (vs ++ [v]) bx dx pv W (hP.rd.on k) hx (by rw [HTH.out]; omega)
    have HLV : Hid ((vs ++ [v]).length = vs.length + 1) := by show _ = _; simp
    rw [HLV.out] at hV
    rw [HTH.out] at hV
    have hok := unf_ok (L.length + 1) L (th : Int) (startP L) 0 vs (start_on L) (by have := start_on L; omega)
    have hone := unf_one (L.length + 1) L (th : Int) (startP L) 0 vs v (start_on L) (by have := start_on L; omega)
    obtain ⟨a1, c1, a2, c2, a3, c3, rfl, _, _, _⟩ := hP.ex
    have eU : unfP L (th : Int) vs = unfN (L.length + 1) L (th : Int) (startP L) 0 vs := rfl
    have eV : unfP L (th : Int) (vs ++ [v]) = unfN (L.length + 1) L (th : Int) (startP L) 0 (vs ++ [v]) := rfl
    rw [← eU] at hok hone
    rw [← eV] at hone
    clear eU eV
    generalize unfP L (th : Int) vs = U at *
    generalize unfP L (th : Int) (vs ++ [v]) = U2 at *
    obtain ⟨E, ⟨pc, q0, q1, q2, q3⟩, MB⟩ := U
    obtain ⟨F, ⟨s0, s1, s2, s3, s4⟩, MC⟩ := U2
    simp only at hU hV hok hone
    have HK1 : Hid (evOk (th : Int) 0 (vs.drop 0) (E.drop 0)) := hok.1
    have HON : Hid ((MB = false → F = E) ∧ (MB = true → ∃ e T, F = E ++ e :: T ∧ rdsB e.k = true ∧ e.r = v)) := hone
    unfold locV at hU hV
    clear hok hone HLn
    have bp : ∀ cs T, Bk (w1.alloc (.cells cs T)) w1.heap.size cs := fun cs T => Bk.new w1 cs T
    clear hO hP
    go_wp2_with fail
    refine (hU _ ((On.refl w1).alloc _)).mono ?_
    rintro _ w2 ⟨b1, d1, rfl, ho1, k2⟩
    have P2 : Bk w2 w1.heap.size #[.slice a1 LT.length c1, .slice a2 IN.length c2, .slice a3 LL.length c3] := (bp _ _).on k2
    have K12 : On w1 w2 := ((On.refl w1).alloc _).trans k2
    have HE1 : Hid (Rd evC 6 w2 (.slice b1 E.length d1) E) := Rd.own (C := evC) (fun _ => rfl) ho1
    obtain ⟨W5, hW5⟩ : ∃ W5, W5 = w2.alloc (.cells #[.int .i64 pc, .int .i64 q0, .int .i64 q1, .int .i64 q2, .int .i64 q3] 37) := ⟨_, rfl⟩
    have P5 : Bk W5 w1.heap.size #[.slice a1 LT.length c1, .slice a2 IN.length c2, .slice a3 LL.length c3] := by rw [hW5]; exact P2.alloc _
    have k25 : On w2 W5 := by rw [hW5]; exact (On.refl w2).alloc _
    have K15 : On w1 W5 := K12.trans k25
    have HE5 : Hid (Rd evC 6 W5 (.slice b1 E.length d1) E) := HE1.out.on k25
    have kB : On w W5 := k1.trans K15
    have hN5 := P5.lt
    obtain ⟨_, _, _, _, hmE⟩ := HE1.out.slice
    clear hU bp k2 ho1 HE1
    go_upto_region 6 with fail
    rw [← hW5]
    clear hW5 P2 K12 k25
    go_cut [13] (fun u13 wc => ∃ b d, u13 = .slice b F.length d ∧ wc.ownsRow W5.heap.size 23 6 (.slice b F.length d) F.length (F.flatMap evC) ∧ On W5 wc)
    case first =>
      have hV := fun bx dx W (k : On W5 W) hx => hV bx dx W (K15.trans k) hx
      refine region_fz (fun W => Bk W w1.heap.size #[.slice a1 LT.length c1, .slice a2 IN.length c2, .slice a3 LL.length c3]) [] 17 (by kernel_rfl) rfl ?_
      obtain ⟨V0, hV0⟩ : ∃ V0, V0 = W5.drew := ⟨_, rfl⟩
      rw [← hV0]
      have kV0 : On W5 V0 := by rw [hV0]; exact (On.refl W5).drew
      have PV0 : Bk V0 w1.heap.size #[.slice a1 LT.length c1, .slice a2 IN.length c2, .slice a3 LL.length c3] := P5.on kV0
      clear hV0 HON HK1 HE5 hA
      refine fz_take 0 (v := ?_) rfl (by kernel_rfl) (by kernel_rfl) (by kernel_rfl) (by kernel_rfl) (fun _ _ _ h => h) rfl ?_ PV0 ?_
      rotate_left
      · intro W hW
        have f0 := hW.at (i := 0) rfl
        have f1 := hW.at (i := 1) rfl
        have f2 := hW.at (i := 2) rfl
        have fl := hW.lt
        go_simp
        (try with_reducible rfl)
      simp only [Act.put, List.setIfInBounds_toArray, List.set_cons_zero, List.set_cons_succ]
      refine fz_take 1 (v := ?_) rfl (by kernel_rfl) (by kernel_rfl) (by kernel_rfl) (by kernel_rfl) (fun _ _ _ h => h) rfl ?_ PV0 ?_
      rotate_left
      · intro W hW
        go_simp
        (try with_reducible rfl)
      simp only [Act.put, List.setIfInBounds_toArray, List.set_cons_zero, List.set_cons_succ]
      refine fz_take 3 (v := ?_) rfl (by kernel_rfl) (by kernel_rfl) (by kernel_rfl) (by kernel_rfl) (fun _ _ _ h => h) rfl ?_ PV0 ?_
      rotate_left
      · intro W hW
        go_simp
        (try with_reducible rfl)
      simp only [Act.put, List.setIfInBounds_toArray, List.set_cons_zero, List.set_cons_succ]
      refine fz_take 5 (v := ?_) rfl (by kernel_rfl) (by kernel_rfl) (by kernel_rfl) (by kernel_rfl) (fun _ _ _ h => h) rfl ?_ PV0 ?_
      rotate_left
      · intro W hW
        go_simp
        (try with_reducible rfl)
      simp only [Act.put, List.setIfInBounds_toArray, List.set_cons_zero, List.set_cons_succ]
      refine fz_three 2 6 13 rfl rfl rfl rfl rfl rfl (by kernel_rfl) (fun K hK => ?_) (fun K hK => ?_) (fun K hK => ?_)
      · go_simp
        obtain ⟨Va, hVa⟩ : ∃ Va, Va = V0.alloc (.cells #[] 2) := ⟨_, rfl⟩
        rw [← hVa]
        have kk : On V0 Va := by rw [hVa]; exact (On.refl V0).alloc _
        have tVa : Va.heap[V0.heap.size]? = some (.cells #[] 2 (0, 0)) := by rw [hVa]; exact heap_alloc_new V0 _
        have szVa : V0.heap.size < Va.heap.size := by rw [hVa]; simp
        have sgVa := kV0.size
        have PVa := PV0.on kk
        have kVa : On W5 Va := kV0.trans kk
        have o40Va : Va.ownsRow W5.heap.size 2 1 (.slice (some ⟨V0.heap.size, 0, none⟩) 0 0) ([] : List Int).length (([] : List Int).flatMap intC) := by rw [hVa]; exact World.ownsRow_made V0 #[] 0 (by omega) (Nat.zero_le _) rfl
        clear hVa kk
        refine hK.out _ _ (fun _ => PVa) ?_
        clear hK
        refine fz_three 4 6 13 rfl rfl rfl rfl rfl rfl (by kernel_rfl) (fun K hK => ?_) (fun K hK => ?_) (fun K hK => ?_)
        · refine wp_append_rd (Operand.tmp 40) (Operand.tmp 41) rfl rfl rfl o40Va (HB.out.on (kB.trans kVa)) (by simp; omega) (by have := kVa.size; omega) ?_
          intro v42 Vab own42 hg42
          simp only [List.nil_append] at own42
          obtain ⟨b42, d42, rfl⟩ := own_slice own42
          have PVab := Bk.grown PVa hg42 hN5 (fun g hg => (o40Va.lt g hg).1)
          have kVab : On W5 Vab := On.grown kVa hg42 (fun g hg => (o40Va.lt g hg).1)
          have szVab := hg42.size
          refine hK.out _ _ (fun _ => PVab) ?_
          clear hK
          simp only [Act.put, List.setIfInBounds_toArray, List.set_cons_zero, List.set_cons_succ]
          refine fz_two 6 13 rfl rfl rfl rfl (by kernel_rfl) (fun K hK => ?_) (fun K hK => ?_)
          · go_simp
            obtain ⟨Vabc, hVabc⟩ : ∃ Vabc, Vabc = Vab.alloc (.cells #[.int .i64 v] 2) := ⟨_, rfl⟩
            rw [← hVabc]
            have kk : On Vab Vabc := by rw [hVabc]; exact (On.refl Vab).alloc _
            have tVabc : Vabc.heap[Vab.heap.size]? = some (.cells #[.int .i64 v] 2 (0, 0)) := by rw [hVabc]; exact heap_alloc_new Vab _
            have szVabc : Vab.heap.size < Vabc.heap.size := by rw [hVabc]; simp
            have sgVabc := kVab.size
            have PVabc := PVab.on kk
            have o42Vabc := own_on own42 kk
            have kVabc : On W5 Vabc := kVab.trans kk
            clear hVabc kk
            refine hK.out _ _ (fun _ => PVabc) ?_
            clear hK
            refine fz_two 7 13 rfl rfl rfl rfl (by kernel_rfl) (fun K hK => ?_) (fun K hK => ?_)
            · have R6 : Rd intC 1 Vabc (.slice (some ⟨Vab.heap.size, 0, none⟩) [v].length 1) [v] := Rd.bk (C := intC) (k := 1) (fun _ => rfl) (L := [v]) ⟨_, tVabc⟩ 1 (by simp) (by simp)
              refine wp_append_rd (Operand.tmp 42) (Operand.tmp 44) rfl rfl rfl o42Vabc R6 (by simp; omega) (by have := kVabc.size; omega) ?_
              intro v45 Vabcd own45 hg45
              rw [HLV.out] at own45
              obtain ⟨b45, d45, rfl⟩ := own_slice own45
              have PVabcd := Bk.grown PVabc hg45 hN5 (fun g hg => (o42Vabc.lt g hg).1)
              have kVabcd : On W5 Vabcd := On.grown kVabc hg45 (fun g hg => (o42Vabc.lt g hg).1)
              have szVabcd := hg45.size
              refine hK.out _ _ (fun _ => PVabcd) ?_
              clear hK
              simp only [Act.put, List.setIfInBounds_toArray, List.set_cons_zero, List.set_cons_succ]
              refine fz_two 8 13 rfl rfl rfl rfl (by kernel_rfl) (fun K hK => ?_) (fun K hK => ?_)
              · go_simp
                have R45 : Rd intC 1 Vabcd (.slice b45 (vs.length + 1) d45) (vs ++ [v]) := Rd.own (C := intC) (fun _ => rfl) (by rw [HLV.out]; exact own45)
                refine (hV _ _ _ kVabcd R45).mono ?_
                rintro _ Vabcde ⟨b8, d8, rfl, ho8, kk⟩
                have PVabcde := PVabcd.on kk
                have kVabcde : On W5 Vabcde := kVabcd.trans kk
                have e8Vabcde := own_mono ho8 (by have := kVabcd.size; omega : W5.heap.size ≤ Vabcd.heap.size)
                clear kk ho8
                refine hK.out _ _ (fun _ => PVabcde) ?_
                clear hK
                refine fz_take 9 (v := ?_) rfl (by kernel_rfl) (by kernel_rfl) (by kernel_rfl) (by kernel_rfl) (fun _ _ _ h => h) rfl ?_ PVabcde ?_
                rotate_left
                · intro W hW
                  go_simp
                  (try with_reducible rfl)
                simp only [Act.put, List.setIfInBounds_toArray, List.set_cons_zero, List.set_cons_succ]
                refine fz_take 10 (v := ?_) rfl (by kernel_rfl) (by kernel_rfl) (by kernel_rfl) (by kernel_rfl) (fun _ _ _ h => h) rfl ?_ PVabcde ?_
                rotate_left
                · intro W hW
                  go_simp
                  (try with_reducible rfl)
                simp only [Act.put, List.setIfInBounds_toArray, List.set_cons_zero, List.set_cons_succ]
                refine fz_take 11 (v := ?_) rfl (by kernel_rfl) (by kernel_rfl) (by kernel_rfl) (by kernel_rfl) (fun _ _ _ h => h) rfl ?_ PVabcde ?_
                rotate_left
                · intro W hW
                  go_simp
                  (try with_reducible rfl)
                simp only [Act.put, List.setIfInBounds_toArray, List.set_cons_zero, List.set_cons_succ]
                refine fz_take 12 (v := ?_) rfl (by kernel_rfl) (by kernel_rfl) (by kernel_rfl) (by kernel_rfl) (fun _ _ _ h => h) rfl ?_ PVabcde ?_
                rotate_left
                · intro W hW
                  go_simp
                  (try with_reducible rfl)
                simp only [Act.put, List.setIfInBounds_toArray, List.set_cons_zero, List.set_cons_succ]
                refine fz_one 13 rfl rfl (by kernel_rfl) (fun K hK => ?_)
                go_simp
                obtain ⟨Vabcdef, hVabcdef⟩ : ∃ Vabcdef, Vabcdef = Vabcde.alloc (.cells #[.int .i64 0, .int .i64 0, .int .i64 0, .int .i64 0, .int .i64 0] 37) := ⟨_, rfl⟩
                rw [← hVabcdef]
                have kk : On Vabcde Vabcdef := by rw [hVabcdef]; exact (On.refl Vabcde).alloc _
                have tVabcdef : Vabcdef.heap[Vabcde.heap.size]? = some (.cells #[.int .i64 0, .int .i64 0, .int .i64 0, .int .i64 0, .int .i64 0] 37 (0, 0)) := by rw [hVabcdef]; exact heap_alloc_new Vabcde _
                have szVabcdef : Vabcde.heap.size < Vabcdef.heap.size := by rw [hVabcdef]; simp
                have sgVabcdef := kVabcde.size
                have PVabcdef := PVabcde.on kk
                have e8Vabcdef := own_on e8Vabcde kk
                have kVabcdef : On W5 Vabcdef := kVabcde.trans kk
                clear hVabcdef kk
                refine hK.out _ _ (fun _ => PVabcdef) ?_
                clear hK
                refine fz_take 14 (v := ?_) rfl (by kernel_rfl) (by kernel_rfl) (by kernel_rfl) (by kernel_rfl) (fun _ _ _ h => h) rfl ?_ PVabcdef ?_
                rotate_left
                · intro W hW
                  go_simp
                  (try with_reducible rfl)
                simp only [Act.put, List.setIfInBounds_toArray, List.set_cons_zero, List.set_cons_succ]
                have M14 : Bk Vabcdef Vabcde.heap.size #[.int .i64 0, .int .i64 0, .int .i64 0, .int .i64 0, .int .i64 0] := ⟨_, tVabcdef⟩
                have y0 := M14.at (i := 0) rfl
                have y1 := M14.at (i := 1) rfl
                have y2 := M14.at (i := 2) rfl
                have y3 := M14.at (i := 3) rfl
                have y4 := M14.at (i := 4) rfl
                have yf := fun i => M14.fr i
                have yl := M14.lt
                refine fz_one 15 rfl rfl (by kernel_rfl) (fun K hK => ?_)
                go_simp
                have PZ : Bk (((((Vabcdef.setCell ⟨Vabcde.heap.size, 0, none⟩ (.int .i64 s0)).setCell ⟨Vabcde.heap.size, 1, none⟩ (.int .i64 s1)).setCell ⟨Vabcde.heap.size, 2, none⟩ (.int .i64 s2)).setCell ⟨Vabcde.heap.size, 3, none⟩ (.int .i64 s3)).setCell ⟨Vabcde.heap.size, 4, none⟩ (.int .i64 s4)) w1.heap.size #[.slice a1 LT.length c1, .slice a2 IN.length c2, .slice a3 LL.length c3] := by
                  have hg14 := sgVabcdef
                  repeat' (first | with_reducible refine Bk.far ?_ (by omega) _ _ | with_reducible exact PVabcdef)
                refine hK.out _ _ (fun _ => PZ) ?_
                clear hK
                refine fz_take 16 (v := ?_) rfl (by kernel_rfl) (by kernel_rfl) (by kernel_rfl) (by kernel_rfl) (fun _ _ _ h => h) rfl ?_ PZ ?_
                rotate_left
                · intro W hW
                  go_simp
                  (try with_reducible rfl)
                simp only [Act.put, List.setIfInBounds_toArray, List.set_cons_zero, List.set_cons_succ]
                refine fz_done (by kernel_rfl) (NoPanic.normal ?_)
                have hg14 := sgVabcdef
                go_wp2
                go_meet
                case rel =>
                  refine ⟨b8, d8, rfl, own_set5T (cs := [.int .i64 0, .int .i64 0, .int .i64 0, .int .i64 0, .int .i64 0]) e8Vabcdef tVabcdef neEvLoc _ _ _ _ _, ?_⟩
                  repeat' (first | with_reducible refine On.setNew ?_ (by omega) _ | with_reducible exact kVabcdef)
              · go_simp
                obtain ⟨Vabcdf, hVabcdf⟩ : ∃ Vabcdf, Vabcdf = Vabcd.alloc (.cells #[.int .i64 0, .int .i64 0, .int .i64 0, .int .i64 0, .int .i64 0] 37) := ⟨_, rfl⟩
                rw [← hVabcdf]
                have kk : On Vabcd Vabcdf := by rw [hVabcdf]; exact (On.refl Vabcd).alloc _
                have tVabcdf : Vabcdf.heap[Vabcd.heap.size]? = some (.cells #[.int .i64 0, .int .i64 0, .int .i64 0, .int .i64 0, .int .i64 0] 37 (0, 0)) := by rw [hVabcdf]; exact heap_alloc_new Vabcd _
                have szVabcdf : Vabcd.heap.size < Vabcdf.heap.size := by rw [hVabcdf]; simp
                have sgVabcdf := kVabcd.size
                have PVabcdf := PVabcd.on kk
                have o45Vabcdf := own_on own45 kk
                have kVabcdf : On W5 Vabcdf := kVabcd.trans kk
                clear hVabcdf kk
                refine hK.out _ _ (fun _ => PVabcdf) ?_
                clear hK
                refine fz_one 8 rfl rfl (by kernel_rfl) (fun K hK => ?_)
                go_simp
                have R45 : Rd intC 1 Vabcdf (.slice b45 (vs.length + 1) d45) (vs ++ [v]) := Rd.own (C := intC) (fun _ => rfl) (by rw [HLV.out]; exact o45Vabcdf)
                refine (hV _ _ _ kVabcdf R45).mono ?_
                rintro _ Vabcdfe ⟨b8, d8, rfl, ho8, kk⟩
                have PVabcdfe := PVabcdf.on kk
                have N14Vabcdfe := Ty.on tVabcdf kk
                have kVabcdfe : On W5 Vabcdfe := kVabcdf.trans kk
                have e8Vabcdfe := own_mono ho8 (by have := kVabcdf.size; omega : W5.heap.size ≤ Vabcdf.heap.size)
                clear kk ho8
                refine hK.out _ _ (fun _ => PVabcdfe) ?_
                clear hK
                refine fz_take 9 (v := ?_) rfl (by kernel_rfl) (by kernel_rfl) (by kernel_rfl) (by kernel_rfl) (fun _ _ _ h => h) rfl ?_ PVabcdfe ?_
                rotate_left
                · intro W hW
                  go_simp
                  (try with_reducible rfl)
                simp only [Act.put, List.setIfInBounds_toArray, List.set_cons_zero, List.set_cons_succ]
                refine fz_take 10 (v := ?_) rfl (by kernel_rfl) (by kernel_rfl) (by kernel_rfl) (by kernel_rfl) (fun _ _ _ h => h) rfl ?_ PVabcdfe ?_
                rotate_left
                · intro W hW
                  go_simp
                  (try with_reducible rfl)
                simp only [Act.put, List.setIfInBounds_toArray, List.set_cons_zero, List.set_cons_succ]
                refine fz_take 11 (v := ?_) rfl (by kernel_rfl) (by kernel_rfl) (by kernel_rfl) (by kernel_rfl) (fun _ _ _ h => h) rfl ?_ PVabcdfe ?_
                rotate_left
                · intro W hW
                  go_simp
                  (try with_reducible rfl)
                simp only [Act.put, List.setIfInBounds_toArray, List.set_cons_zero, List.set_cons_succ]
                refine fz_take 12 (v := ?_) rfl (by kernel_rfl) (by kernel_rfl) (by kernel_rfl) (by kernel_rfl) (fun _ _ _ h => h) rfl ?_ PVabcdfe ?_
                rotate_left
                · intro W hW
                  go_simp
                  (try with_reducible rfl)
                simp only [Act.put, List.setIfInBounds_toArray, List.set_cons_zero, List.set_cons_succ]
                refine fz_take 14 (v := ?_) rfl (by kernel_rfl) (by kernel_rfl) (by kernel_rfl) (by kernel_rfl) (fun _ _ _ h => h) rfl ?_ PVabcdfe ?_
                rotate_left
                · intro W hW
                  go_simp
                  (try with_reducible rfl)
                simp only [Act.put, List.setIfInBounds_toArray, List.set_cons_zero, List.set_cons_succ]
                have M14 : Bk Vabcdfe Vabcd.heap.size #[.int .i64 0, .int .i64 0, .int .i64 0, .int .i64 0, .int .i64 0] := ⟨_, N14Vabcdfe⟩
                have y0 := M14.at (i := 0) rfl
                have y1 := M14.at (i := 1) rfl
                have y2 := M14.at (i := 2) rfl
                have y3 := M14.at (i := 3) rfl
                have y4 := M14.at (i := 4) rfl
                have yf := fun i => M14.fr i
                have yl := M14.lt
                refine fz_one 15 rfl rfl (by kernel_rfl) (fun K hK => ?_)
                go_simp
                have PZ : Bk (((((Vabcdfe.setCell ⟨Vabcd.heap.size, 0, none⟩ (.int .i64 s0)).setCell ⟨Vabcd.heap.size, 1, none⟩ (.int .i64 s1)).setCell ⟨Vabcd.heap.size, 2, none⟩ (.int .i64 s2)).setCell ⟨Vabcd.heap.size, 3, none⟩ (.int .i64 s3)).setCell ⟨Vabcd.heap.size, 4, none⟩ (.int .i64 s4)) w1.heap.size #[.slice a1 LT.length c1, .slice a2 IN.length c2, .slice a3 LL.length c3] := by
                  have hg14 := sgVabcdf
                  repeat' (first | with_reducible refine Bk.far ?_ (by omega) _ _ | with_reducible exact PVabcdfe)
                refine hK.out _ _ (fun _ => PZ) ?_
                clear hK
                refine fz_take 16 (v := ?_) rfl (by kernel_rfl) (by kernel_rfl) (by kernel_rfl) (by kernel_rfl) (fun _ _ _ h => h) rfl ?_ PZ ?_
                rotate_left
                · intro W hW
                  go_simp
                  (try with_reducible rfl)
                simp only [Act.put, List.setIfInBounds_toArray, List.set_cons_zero, List.set_cons_succ]
                refine fz_done (by kernel_rfl) (NoPanic.normal ?_)
                have hg14 := sgVabcdf
                go_wp2
                go_meet
                case rel =>
                  refine ⟨b8, d8, rfl, own_set5T (cs := [.int .i64 0, .int .i64 0, .int .i64 0, .int .i64 0, .int .i64 0]) e8Vabcdfe N14Vabcdfe neEvLoc _ _ _ _ _, ?_⟩
                  repeat' (first | with_reducible refine On.setNew ?_ (by omega) _ | with_reducible exact kVabcdfe)
            · go_simp
              obtain ⟨Vabcf, hVabcf⟩ : ∃ Vabcf, Vabcf = Vabc.alloc (.cells #[.int .i64 0, .int .i64 0, .int .i64 0, .int .i64 0, .int .i64 0] 37) := ⟨_, rfl⟩
              rw [← hVabcf]
              have kk : On Vabc Vabcf := by rw [hVabcf]; exact (On.refl Vabc).alloc _
              have tVabcf : Vabcf.heap[Vabc.heap.size]? = some (.cells #[.int .i64 0, .int .i64 0, .int .i64 0, .int .i64 0, .int .i64 0] 37 (0, 0)) := by rw [hVabcf]; exact heap_alloc_new Vabc _
              have szVabcf : Vabc.heap.size < Vabcf.heap.size := by rw [hVabcf]; simp
              have sgVabcf := kVabc.size
              have PVabcf := PVabc.on kk
              have N6Vabcf := Ty.on tVabc kk
              have o42Vabcf := own_on o42Vabc kk
              have kVabcf : On W5 Vabcf := kVabc.trans kk
              clear hVabcf kk
              refine hK.out _ _ (fun _ => PVabcf) ?_
              clear hK
              refine fz_one 7 rfl rfl (by kernel_rfl) (fun K hK => ?_)
              have R6 : Rd intC 1 Vabcf (.slice (some ⟨Vab.heap.size, 0, none⟩) [v].length 1) [v] := Rd.bk (C := intC) (k := 1) (fun _ => rfl) (L := [v]) ⟨_, N6Vabcf⟩ 1 (by simp) (by simp)
              refine wp_append_rd (Operand.tmp 42) (Operand.tmp 44) rfl rfl rfl o42Vabcf R6 (by simp; omega) (by have := kVabcf.size; omega) ?_
              intro v45 Vabcfd own45 hg45
              rw [HLV.out] at own45
              obtain ⟨b45, d45, rfl⟩ := own_slice own45
              have PVabcfd := Bk.grown PVabcf hg45 hN5 (fun g hg => (o42Vabcf.lt g hg).1)
              have N14Vabcfd := Ty.grown tVabcf o42Vabcf neIntLoc hg45
              have kVabcfd : On W5 Vabcfd := On.grown kVabcf hg45 (fun g hg => (o42Vabcf.lt g hg).1)
              have szVabcfd := hg45.size
              refine hK.out _ _ (fun _ => PVabcfd) ?_
              clear hK
              simp only [Act.put, List.setIfInBounds_toArray, List.set_cons_zero, List.set_cons_succ]
              refine fz_one 8 rfl rfl (by kernel_rfl) (fun K hK => ?_)
              go_simp
              have R45 : Rd intC 1 Vabcfd (.slice b45 (vs.length + 1) d45) (vs ++ [v]) := Rd.own (C := intC) (fun _ => rfl) (by rw [HLV.out]; exact own45)
              refine (hV _ _ _ kVabcfd R45).mono ?_
              rintro _ Vabcfde ⟨b8, d8, rfl, ho8, kk⟩
              have PVabcfde := PVabcfd.on kk
              have N14Vabcfde := Ty.on N14Vabcfd kk
              have kVabcfde : On W5 Vabcfde := kVabcfd.trans kk
              have e8Vabcfde := own_mono ho8 (by have := kVabcfd.size; omega : W5.heap.size ≤ Vabcfd.heap.size)
              clear kk ho8
              refine hK.out _ _ (fun _ => PVabcfde) ?_
              clear hK
              refine fz_take 9 (v := ?_) rfl (by kernel_rfl) (by kernel_rfl) (by kernel_rfl) (by kernel_rfl) (fun _ _ _ h => h) rfl ?_ PVabcfde ?_
              rotate_left
              · intro W hW
                go_simp
                (try with_reducible rfl)
              simp only [Act.put, List.setIfInBounds_toArray, List.set_cons_zero, List.set_cons_succ]
              refine fz_take 10 (v := ?_) rfl (by kernel_rfl) (by kernel_rfl) (by kernel_rfl) (by kernel_rfl) (fun _ _ _ h => h) rfl ?_ PVabcfde ?_
              rotate_left
              · intro W hW
                go_simp
                (try with_reducible rfl)
              simp only [Act.put, List.setIfInBounds_toArray, List.set_cons_zero, List.set_cons_succ]
              refine fz_take 11 (v := ?_) rfl (by kernel_rfl) (by kernel_rfl) (by kernel_rfl) (by kernel_rfl) (fun _ _ _ h => h) rfl ?_ PVabcfde ?_
              rotate_left
              · intro W hW
                go_simp
                (try with_reducible rfl)
              simp only [Act.put, List.setIfInBounds_toArray, List.set_cons_zero, List.set_cons_succ]
              refine fz_take 12 (v := ?_) rfl (by kernel_rfl) (by kernel_rfl) (by kernel_rfl) (by kernel_rfl) (fun _ _ _ h => h) rfl ?_ PVabcfde ?_
              rotate_left
              · intro W hW
                go_simp
                (try with_reducible rfl)
              simp only [Act.put, List.setIfInBounds_toArray, List.set_cons_zero, List.set_cons_succ]
              refine fz_take 14 (v := ?_) rfl (by kernel_rfl) (by kernel_rfl) (by kernel_rfl) (by kernel_rfl) (fun _ _ _ h => h) rfl ?_ PVabcfde ?_
              rotate_left
              · intro W hW
                go_simp
                (try with_reducible rfl)
              simp only [Act.put, List.setIfInBounds_toArray, List.set_cons_zero, List.set_cons_succ]
              have M14 : Bk Vabcfde Vabc.heap.size #[.int .i64 0, .int .i64 0, .int .i64 0, .int .i64 0, .int .i64 0] := ⟨_, N14Vabcfde⟩
              have y0 := M14.at (i := 0) rfl
              have y1 := M14.at (i := 1) rfl
              have y2 := M14.at (i := 2) rfl
              have y3 := M14.at (i := 3) rfl
              have y4 := M14.at (i := 4) rfl
              have yf := fun i => M14.fr i
              have yl := M14.lt
              refine fz_one 15 rfl rfl (by kernel_rfl) (fun K hK => ?_)
              go_simp
              have PZ : Bk (((((Vabcfde.setCell ⟨Vabc.heap.size, 0, none⟩ (.int .i64 s0)).setCell ⟨Vabc.heap.size, 1, none⟩ (.int .i64 s1)).setCell ⟨Vabc.heap.size, 2, none⟩ (.int .i64 s2)).setCell ⟨Vabc.heap.size, 3, none⟩ (.int .i64 s3)).setCell ⟨Vabc.heap.size, 4, none⟩ (.int .i64 s4)) w1.heap.size #[.slice a1 LT.length c1, .slice a2 IN.length c2, .slice a3 LL.length c3] := by
                have hg14 := sgVabcf
                repeat' (first | with_reducible refine Bk.far ?_ (by omega) _ _ | with_reducible exact PVabcfde)
              refine hK.out _ _ (fun _ => PZ) ?_
              clear hK
              refine fz_take 16 (v := ?_) rfl (by kernel_rfl) (by kernel_rfl) (by kernel_rfl) (by kernel_rfl) (fun _ _ _ h => h) rfl ?_ PZ ?_
              rotate_left
              · intro W hW
                go_simp
                (try with_reducible rfl)
              simp only [Act.put, List.setIfInBounds_toArray, List.set_cons_zero, List.set_cons_succ]
              refine fz_done (by kernel_rfl) (NoPanic.normal ?_)
              have hg14 := sgVabcf
              go_wp2
              go_meet
              case rel =>
                refine ⟨b8, d8, rfl, own_set5T (cs := [.int .i64 0, .int .i64 0, .int .i64 0, .int .i64 0, .int .i64 0]) e8Vabcfde N14Vabcfde neEvLoc _ _ _ _ _, ?_⟩
                repeat' (first | with_reducible refine On.setNew ?_ (by omega) _ | with_reducible exact kVabcfde)
          · go_simp
            obtain ⟨Vabf, hVabf⟩ : ∃ Vabf, Vabf = Vab.alloc (.cells #[.int .i64 0, .int .i64 0, .int .i64 0, .int .i64 0, .int .i64 0] 37) := ⟨_, rfl⟩
            rw [← hVabf]
            have kk : On Vab Vabf := by rw [hVabf]; exact (On.refl Vab).alloc _
            have tVabf : Vabf.heap[Vab.heap.size]? = some (.cells #[.int .i64 0, .int .i64 0, .int .i64 0, .int .i64 0, .int .i64 0] 37 (0, 0)) := by rw [hVabf]; exact heap_alloc_new Vab _
            have szVabf : Vab.heap.size < Vabf.heap.size := by rw [hVabf]; simp
            have sgVabf := kVab.size
            have PVabf := PVab.on kk
            have o42Vabf := own_on own42 kk
            have kVabf : On W5 Vabf := kVab.trans kk
            clear hVabf kk
            refine hK.out _ _ (fun _ => PVabf) ?_
            clear hK
            refine fz_one 6 rfl rfl (by kernel_rfl) (fun K hK => ?_)
            go_simp
            obtain ⟨Vabfc, hVabfc⟩ : ∃ Vabfc, Vabfc = Vabf.alloc (.cells #[.int .i64 v] 2) := ⟨_, rfl⟩
            rw [← hVabfc]
            have kk : On Vabf Vabfc := by rw [hVabfc]; exact (On.refl Vabf).alloc _
            have tVabfc : Vabfc.heap[Vabf.heap.size]? = some (.cells #[.int .i64 v] 2 (0, 0)) := by rw [hVabfc]; exact heap_alloc_new Vabf _
            have szVabfc : Vabf.heap.size < Vabfc.heap.size := by rw [hVabfc]; simp
            have sgVabfc := kVabf.size
            have PVabfc := PVabf.on kk
            have N14Vabfc := Ty.on tVabf kk
            have o42Vabfc := own_on o42Vabf kk
            have kVabfc : On W5 Vabfc := kVabf.trans kk
            clear hVabfc kk
            refine hK.out _ _ (fun _ => PVabfc) ?_
            clear hK
            refine fz_one 7 rfl rfl (by kernel_rfl) (fun K hK => ?_)
            have R6 : Rd intC 1 Vabfc (.slice (some ⟨Vabf.heap.size, 0, none⟩) [v].length 1) [v] := Rd.bk (C := intC) (k := 1) (fun _ => rfl) (L := [v]) ⟨_, tVabfc⟩ 1 (by simp) (by simp)
            refine wp_append_rd (Operand.tmp 42) (Operand.tmp 44) rfl rfl rfl o42Vabfc R6 (by simp; omega) (by have := kVabfc.size; omega) ?_
            intro v45 Vabfcd own45 hg45
            rw [HLV.out] at own45
            obtain ⟨b45, d45, rfl⟩ := own_slice own45
            have PVabfcd := Bk.grown PVabfc hg45 hN5 (fun g hg => (o42Vabfc.lt g hg).1)
            have N14Vabfcd := Ty.grown N14Vabfc o42Vabfc neIntLoc hg45
            have kVabfcd : On W5 Vabfcd := On.grown kVabfc hg45 (fun g hg => (o42Vabfc.lt g hg).1)
            have szVabfcd := hg45.size
            refine hK.out _ _ (fun _ => PVabfcd) ?_
            clear hK
            simp only [Act.put, List.setIfInBounds_toArray, List.set_cons_zero, List.set_cons_succ]
            refine fz_one 8 rfl rfl (by kernel_rfl) (fun K hK => ?_)
            go_simp
            have R45 : Rd intC 1 Vabfcd (.slice b45 (vs.length + 1) d45) (vs ++ [v]) := Rd.own (C := intC) (fun _ => rfl) (by rw [HLV.out]; exact own45)
            refine (hV _ _ _ kVabfcd R45).mono ?_
            rintro _ Vabfcde ⟨b8, d8, rfl, ho8, kk⟩
            have PVabfcde := PVabfcd.on kk
            have N14Vabfcde := Ty.on N14Vabfcd kk
            have kVabfcde : On W5 Vabfcde := kVabfcd.trans kk
            have e8Vabfcde := own_mono ho8 (by have := kVabfcd.size; omega : W5.heap.size ≤ Vabfcd.heap.size)
            clear kk ho8
            refine hK.out _ _ (fun _ => PVabfcde) ?_
            clear hK
            refine fz_take 9 (v := ?_) rfl (by kernel_rfl) (by kernel_rfl) (by kernel_rfl) (by kernel_rfl) (fun _ _ _ h => h) rfl ?_ PVabfcde ?_
            rotate_left
            · intro W hW
              go_simp
              (try with_reducible rfl)
            simp only [Act.put, List.setIfInBounds_toArray, List.set_cons_zero, List.set_cons_succ]
            refine fz_take 10 (v := ?_) rfl (by kernel_rfl) (by kernel_rfl) (by kernel_rfl) (by kernel_rfl) (fun _ _ _ h => h) rfl ?_ PVabfcde ?_
            rotate_left
            · intro W hW
              go_simp
              (try with_reducible rfl)
            simp only [Act.put, List.setIfInBounds_toArray, List.set_cons_zero, List.set_cons_succ]
            refine fz_take 11 (v := ?_) rfl (by kernel_rfl) (by kernel_rfl) (by kernel_rfl) (by kernel_rfl) (fun _ _ _ h => h) rfl ?_ PVabfcde ?_
            rotate_left
            · intro W hW
              go_simp
              (try with_reducible rfl)
            simp only [Act.put, List.setIfInBounds_toArray, List.set_cons_zero, List.set_cons_succ]
            refine fz_take 12 (v := ?_) rfl (by kernel_rfl) (by kernel_rfl) (by kernel_rfl) (by kernel_rfl) (fun _ _ _ h => h) rfl ?_ PVabfcde ?_
            rotate_left
            · intro W hW
              go_simp
              (try with_reducible rfl)
            simp only [Act.put, List.setIfInBounds_toArray, List.set_cons_zero, List.set_cons_succ]
            refine fz_take 14 (v := ?_) rfl (by kernel_rfl) (by kernel_rfl) (by kernel_rfl) (by kernel_rfl) (fun _ _ _ h => h) rfl ?_ PVabfcde ?_
            rotate_left
            · intro W hW
              go_simp
              (try with_reducible rfl)
            simp only [Act.put, List.setIfInBounds_toArray, List.set_cons_zero, List.set_cons_succ]
            have M14 : Bk Vabfcde Vab.heap.size #[.int .i64 0, .int .i64 0, .int .i64 0, .int .i64 0, .int .i64 0] := ⟨_, N14Vabfcde⟩
            have y0 := M14.at (i := 0) rfl
            have y1 := M14.at (i := 1) rfl
            have y2 := M14.at (i := 2) rfl
            have y3 := M14.at (i := 3) rfl
            have y4 := M14.at (i := 4) rfl
            have yf := fun i => M14.fr i
            have yl := M14.lt
            refine fz_one 15 rfl rfl (by kernel_rfl) (fun K hK => ?_)
            go_simp
            have PZ : Bk (((((Vabfcde.setCell ⟨Vab.heap.size, 0, none⟩ (.int .i64 s0)).setCell ⟨Vab.heap.size, 1, none⟩ (.int .i64 s1)).setCell ⟨Vab.heap.size, 2, none⟩ (.int .i64 s2)).setCell ⟨Vab.heap.size, 3, none⟩ (.int .i64 s3)).setCell ⟨Vab.heap.size, 4, none⟩ (.int .i64 s4)) w1.heap.size #[.slice a1 LT.length c1, .slice a2 IN.length c2, .slice a3 LL.length c3] := by
              have hg14 := sgVabf
              repeat' (first | with_reducible refine Bk.far ?_ (by omega) _ _ | with_reducible exact PVabfcde)
            refine hK.out _ _ (fun _ => PZ) ?_
            clear hK
            refine fz_take 16 (v := ?_) rfl (by kernel_rfl) (by kernel_rfl) (by kernel_rfl) (by kernel_rfl) (fun _ _ _ h => h) rfl ?_ PZ ?_
            rotate_left
            · intro W hW
              go_simp
              (try with_reducible rfl)
            simp only [Act.put, List.setIfInBounds_toArray, List.set_cons_zero, List.set_cons_succ]
            refine fz_done (by kernel_rfl) (NoPanic.normal ?_)
            have hg14 := sgVabf
            go_wp2
            go_meet
            case rel =>
              refine ⟨b8, d8, rfl, own_set5T (cs := [.int .i64 0, .int .i64 0, .int .i64 0, .int .i64 0, .int .i64 0]) e8Vabfcde N14Vabfcde neEvLoc _ _ _ _ _, ?_⟩
              repeat' (first | with_reducible refine On.setNew ?_ (by omega) _ | with_reducible exact kVabfcde)
        · go_simp
          obtain ⟨Vac, hVac⟩ : ∃ Vac, Vac = Va.alloc (.cells #[.int .i64 v] 2) := ⟨_, rfl⟩
          rw [← hVac]
          have kk : On Va Vac := by rw [hVac]; exact (On.refl Va).alloc _
          have tVac : Vac.heap[Va.heap.size]? = some (.cells #[.int .i64 v] 2 (0, 0)) := by rw [hVac]; exact heap_alloc_new Va _
          have szVac : Va.heap.size < Vac.heap.size := by rw [hVac]; simp
          have sgVac := kVa.size
          have PVac := PVa.on kk
          have o40Vac := own_on o40Va kk
          have kVac : On W5 Vac := kVa.trans kk
          clear hVac kk
          refine hK.out _ _ (fun _ => PVac) ?_
          clear hK
          refine fz_two 4 13 rfl rfl rfl rfl (by kernel_rfl) (fun K hK => ?_) (fun K hK => ?_)
          · refine wp_append_rd (Operand.tmp 40) (Operand.tmp 41) rfl rfl rfl o40Vac (HB.out.on (kB.trans kVac)) (by simp; omega) (by have := kVac.size; omega) ?_
            intro v42 Vacb own42 hg42
            simp only [List.nil_append] at own42
            obtain ⟨b42, d42, rfl⟩ := own_slice own42
            have PVacb := Bk.grown PVac hg42 hN5 (fun g hg => (o40Vac.lt g hg).1)
            have N6Vacb : Vacb.heap[Va.heap.size]? = some (.cells #[.int .i64 v] 2 (0, 0)) := (hg42.block Va.heap.size (lt_of_block tVac) (fun e => by have e1 : some Va.heap.size = some V0.heap.size := e; simp only [Option.some.injEq] at e1; omega)).trans tVac
            have kVacb : On W5 Vacb := On.grown kVac hg42 (fun g hg => (o40Vac.lt g hg).1)
            have szVacb := hg42.size
            refine hK.out _ _ (fun _ => PVacb) ?_
            clear hK
            simp only [Act.put, List.setIfInBounds_toArray, List.set_cons_zero, List.set_cons_succ]
            refine fz_two 7 13 rfl rfl rfl rfl (by kernel_rfl) (fun K hK => ?_) (fun K hK => ?_)
            · have R6 : Rd intC 1 Vacb (.slice (some ⟨Va.heap.size, 0, none⟩) [v].length 1) [v] := Rd.bk (C := intC) (k := 1) (fun _ => rfl) (L := [v]) ⟨_, N6Vacb⟩ 1 (by simp) (by simp)
              refine wp_append_rd (Operand.tmp 42) (Operand.tmp 44) rfl rfl rfl own42 R6 (by simp; omega) (by have := kVacb.size; omega) ?_
              intro v45 Vacbd own45 hg45
              rw [HLV.out] at own45
              obtain ⟨b45, d45, rfl⟩ := own_slice own45
              have PVacbd := Bk.grown PVacb hg45 hN5 (fun g hg => (own42.lt g hg).1)
              have kVacbd : On W5 Vacbd := On.grown kVacb hg45 (fun g hg => (own42.lt g hg).1)
              have szVacbd := hg45.size
              refine hK.out _ _ (fun _ => PVacbd) ?_
              clear hK
              simp only [Act.put, List.setIfInBounds_toArray, List.set_cons_zero, List.set_cons_succ]
              refine fz_two 8 13 rfl rfl rfl rfl (by kernel_rfl) (fun K hK => ?_) (fun K hK => ?_)
              · go_simp
                have R45 : Rd intC 1 Vacbd (.slice b45 (vs.length + 1) d45) (vs ++ [v]) := Rd.own (C := intC) (fun _ => rfl) (by rw [HLV.out]; exact own45)
                refine (hV _ _ _ kVacbd R45).mono ?_
                rintro _ Vacbde ⟨b8, d8, rfl, ho8, kk⟩
                have PVacbde := PVacbd.on kk
                have kVacbde : On W5 Vacbde := kVacbd.trans kk
                have e8Vacbde := own_mono ho8 (by have := kVacbd.size; omega : W5.heap.size ≤ Vacbd.heap.size)
                clear kk ho8
                refine hK.out _ _ (fun _ => PVacbde) ?_
                clear hK
                refine fz_take 9 (v := ?_) rfl (by kernel_rfl) (by kernel_rfl) (by kernel_rfl) (by kernel_rfl) (fun _ _ _ h => h) rfl ?_ PVacbde ?_
                rotate_left
                · intro W hW
                  go_simp
                  (try with_reducible rfl)
                simp only [Act.put, List.setIfInBounds_toArray, List.set_cons_zero, List.set_cons_succ]
                refine fz_take 10 (v := ?_) rfl (by kernel_rfl) (by kernel_rfl) (by kernel_rfl) (by kernel_rfl) (fun _ _ _ h => h) rfl ?_ PVacbde ?_
                rotate_left
                · intro W hW
                  go_simp
                  (try with_reducible rfl)
                simp only [Act.put, List.setIfInBounds_toArray, List.set_cons_zero, List.set_cons_succ]
                refine fz_take 11 (v := ?_) rfl (by kernel_rfl) (by kernel_rfl) (by kernel_rfl) (by kernel_rfl) (fun _ _ _ h => h) rfl ?_ PVacbde ?_
                rotate_left
                · intro W hW
                  go_simp
                  (try with_reducible rfl)
                simp only [Act.put, List.setIfInBounds_toArray, List.set_cons_zero, List.set_cons_succ]
                refine fz_take 12 (v := ?_) rfl (by kernel_rfl) (by kernel_rfl) (by kernel_rfl) (by kernel_rfl) (fun _ _ _ h => h) rfl ?_ PVacbde ?_
                rotate_left
                · intro W hW
                  go_simp
                  (try with_reducible rfl)
                simp only [Act.put, List.setIfInBounds_toArray, List.set_cons_zero, List.set_cons_succ]
                refine fz_one 13 rfl rfl (by kernel_rfl) (fun K hK => ?_)
                go_simp
                obtain ⟨Vacbdef, hVacbdef⟩ : ∃ Vacbdef, Vacbdef = Vacbde.alloc (.cells #[.int .i64 0, .int .i64 0, .int .i64 0, .int .i64 0, .int .i64 0] 37) := ⟨_, rfl⟩
                rw [← hVacbdef]
                have kk : On Vacbde Vacbdef := by rw [hVacbdef]; exact (On.refl Vacbde).alloc _
                have tVacbdef : Vacbdef.heap[Vacbde.heap.size]? = some (.cells #[.int .i64 0, .int .i64 0, .int .i64 0, .int .i64 0, .int .i64 0] 37 (0, 0)) := by rw [hVacbdef]; exact heap_alloc_new Vacbde _
                have szVacbdef : Vacbde.heap.size < Vacbdef.heap.size := by rw [hVacbdef]; simp
                have sgVacbdef := kVacbde.size
                have PVacbdef := PVacbde.on kk
                have e8Vacbdef := own_on e8Vacbde kk
                have kVacbdef : On W5 Vacbdef := kVacbde.trans kk
                clear hVacbdef kk
                refine hK.out _ _ (fun _ => PVacbdef) ?_
                clear hK
                refine fz_take 14 (v := ?_) rfl (by kernel_rfl) (by kernel_rfl) (by kernel_rfl) (by kernel_rfl) (fun _ _ _ h => h) rfl ?_ PVacbdef ?_
                rotate_left
                · intro W hW
                  go_simp
                  (try with_reducible rfl)
                simp only [Act.put, List.setIfInBounds_toArray, List.set_cons_zero, List.set_cons_succ]
                have M14 : Bk Vacbdef Vacbde.heap.size #[.int .i64 0, .int .i64 0, .int .i64 0, .int .i64 0, .int .i64 0] := ⟨_, tVacbdef⟩
                have y0 := M14.at (i := 0) rfl
                have y1 := M14.at (i := 1) rfl
                have y2 := M14.at (i := 2) rfl
                have y3 := M14.at (i := 3) rfl
                have y4 := M14.at (i := 4) rfl
                have yf := fun i => M14.fr i
                have yl := M14.lt
                refine fz_one 15 rfl rfl (by kernel_rfl) (fun K hK => ?_)
                go_simp
                have PZ : Bk (((((Vacbdef.setCell ⟨Vacbde.heap.size, 0, none⟩ (.int .i64 s0)).setCell ⟨Vacbde.heap.size, 1, none⟩ (.int .i64 s1)).setCell ⟨Vacbde.heap.size, 2, none⟩ (.int .i64 s2)).setCell ⟨Vacbde.heap.size, 3, none⟩ (.int .i64 s3)).setCell ⟨Vacbde.heap.size, 4, none⟩ (.int .i64 s4)) w1.heap.size #[.slice a1 LT.length c1, .slice a2 IN.length c2, .slice a3 LL.length c3] := by
                  have hg14 := sgVacbdef
                  repeat' (first | with_reducible refine Bk.far ?_ (by omega) _ _ | with_reducible exact PVacbdef)
                refine hK.out _ _ (fun _ => PZ) ?_
                clear hK
                refine fz_take 16 (v := ?_) rfl (by kernel_rfl) (by kernel_rfl) (by kernel_rfl) (by kernel_rfl) (fun _ _ _ h => h) rfl ?_ PZ ?_
                rotate_left
                · intro W hW
                  go_simp
                  (try with_reducible rfl)
                simp only [Act.put, List.setIfInBounds_toArray, List.set_cons_zero, List.set_cons_succ]
                refine fz_done (by kernel_rfl) (NoPanic.normal ?_)
                have hg14 := sgVacbdef
                go_wp2
                go_meet
                case rel =>
                  refine ⟨b8, d8, rfl, own_set5T (cs := [.int .i64 0, .int .i64 0, .int .i64 0, .int .i64 0, .int .i64 0]) e8Vacbdef tVacbdef neEvLoc _ _ _ _ _, ?_⟩
                  repeat' (first | with_reducible refine On.setNew ?_ (by omega) _ | with_reducible exact kVacbdef)
              · go_simp
                obtain ⟨Vacbdf, hVacbdf⟩ : ∃ Vacbdf, Vacbdf = Vacbd.alloc (.cells #[.int .i64 0, .int .i64 0, .int .i64 0, .int .i64 0, .int .i64 0] 37) := ⟨_, rfl⟩
                rw [← hVacbdf]
                have kk : On Vacbd Vacbdf := by rw [hVacbdf]; exact (On.refl Vacbd).alloc _
                have tVacbdf : Vacbdf.heap[Vacbd.heap.size]? = some (.cells #[.int .i64 0, .int .i64 0, .int .i64 0, .int .i64 0, .int .i64 0] 37 (0, 0)) := by rw [hVacbdf]; exact heap_alloc_new Vacbd _
                have szVacbdf : Vacbd.heap.size < Vacbdf.heap.size := by rw [hVacbdf]; simp
                have sgVacbdf := kVacbd.size
                have PVacbdf := PVacbd.on kk
                have o45Vacbdf := own_on own45 kk
                have kVacbdf : On W5 Vacbdf := kVacbd.trans kk
                clear hVacbdf kk
                refine hK.out _ _ (fun _ => PVacbdf) ?_
                clear hK
                refine fz_one 8 rfl rfl (by kernel_rfl) (fun K hK => ?_)
                go_simp
                have R45 : Rd intC 1 Vacbdf (.slice b45 (vs.length + 1) d45) (vs ++ [v]) := Rd.own (C := intC) (fun _ => rfl) (by rw [HLV.out]; exact o45Vacbdf)
                refine (hV _ _ _ kVacbdf R45).mono ?_
                rintro _ Vacbdfe ⟨b8, d8, rfl, ho8, kk⟩
                have PVacbdfe := PVacbdf.on kk
                have N14Vacbdfe := Ty.on tVacbdf kk
                have kVacbdfe : On W5 Vacbdfe := kVacbdf.trans kk
                have e8Vacbdfe := own_mono ho8 (by have := kVacbdf.size; omega : W5.heap.size ≤ Vacbdf.heap.size)
                clear kk ho8
                refine hK.out _ _ (fun _ => PVacbdfe) ?_
                clear hK
                refine fz_take 9 (v := ?_) rfl (by kernel_rfl) (by kernel_rfl) (by kernel_rfl) (by kernel_rfl) (fun _ _ _ h => h) rfl ?_ PVacbdfe ?_
                rotate_left
                · intro W hW
                  go_simp
                  (try with_reducible rfl)
                simp only [Act.put, List.setIfInBounds_toArray, List.set_cons_zero, List.set_cons_succ]
                refine fz_take 10 (v := ?_) rfl (by kernel_rfl) (by kernel_rfl) (by kernel_rfl) (by kernel_rfl) (fun _ _ _ h => h) rfl ?_ PVacbdfe ?_
                rotate_left
                · intro W hW
                  go_simp
                  (try with_reducible rfl)
                simp only [Act.put, List.setIfInBounds_toArray, List.set_cons_zero, List.set_cons_succ]
                refine fz_take 11 (v := ?_) rfl (by kernel_rfl) (by kernel_rfl) (by kernel_rfl) (by kernel_rfl) (fun _ _ _ h => h) rfl ?_ PVacbdfe ?_
                rotate_left
                · intro W hW
                  go_simp
                  (try with_reducible rfl)
                simp only [Act.put, List.setIfInBounds_toArray, List.set_cons_zero, List.set_cons_succ]
                refine fz_take 12 (v := ?_) rfl (by kernel_rfl) (by kernel_rfl) (by kernel_rfl) (by kernel_rfl) (fun _ _ _ h => h) rfl ?_ PVacbdfe ?_
                rotate_left
                · intro W hW
                  go_simp
                  (try with_reducible rfl)
                simp only [Act.put, List.setIfInBounds_toArray, List.set_cons_zero, List.set_cons_succ]
                refine fz_take 14 (v := ?_) rfl (by kernel_rfl) (by kernel_rfl) (by kernel_rfl) (by kernel_rfl) (fun _ _ _ h => h) rfl ?_ PVacbdfe ?_
                rotate_left
                · intro W hW
                  go_simp
                  (try with_reducible rfl)
                simp only [Act.put, List.setIfInBounds_toArray, List.set_cons_zero, List.set_cons_succ]
                have M14 : Bk Vacbdfe Vacbd.heap.size #[.int .i64 0, .int .i64 0, .int .i64 0, .int .i64 0, .int .i64 0] := ⟨_, N14Vacbdfe⟩
                have y0 := M14.at (i := 0) rfl
                have y1 := M14.at (i := 1) rfl
                have y2 := M14.at (i := 2) rfl
                have y3 := M14.at (i := 3) rfl
                have y4 := M14.at (i := 4) rfl
                have yf := fun i => M14.fr i
                have yl := M14.lt
                refine fz_one 15 rfl rfl (by kernel_rfl) (fun K hK => ?_)
                go_simp
                have PZ : Bk (((((Vacbdfe.setCell ⟨Vacbd.heap.size, 0, none⟩ (.int .i64 s0)).setCell ⟨Vacbd.heap.size, 1, none⟩ (.int .i64 s1)).setCell ⟨Vacbd.heap.size, 2, none⟩ (.int .i64 s2)).setCell ⟨Vacbd.heap.size, 3, none⟩ (.int .i64 s3)).setCell ⟨Vacbd.heap.size, 4, none⟩ (.int .i64 s4)) w1.heap.size #[.slice a1 LT.length c1, .slice a2 IN.length c2, .slice a3 LL.length c3] := by
                  have hg14 := sgVacbdf
                  repeat' (first | with_reducible refine Bk.far ?_ (by omega) _ _ | with_reducible exact PVacbdfe)
                refine hK.out _ _ (fun _ => PZ) ?_
                clear hK
                refine fz_take 16 (v := ?_) rfl (by kernel_rfl) (by kernel_rfl) (by kernel_rfl) (by kernel_rfl) (fun _ _ _ h => h) rfl ?_ PZ ?_
                rotate_left
                · intro W hW
                  go_simp
                  (try with_reducible rfl)
                simp only [Act.put, List.setIfInBounds_toArray, List.set_cons_zero, List.set_cons_succ]
                refine fz_done (by kernel_rfl) (NoPanic.normal ?_)
                have hg14 := sgVacbdf
                go_wp2
                go_meet
                case rel =>
                  refine ⟨b8, d8, rfl, own_set5T (cs := [.int .i64 0, .int .i64 0, .int .i64 0, .int .i64 0, .int .i64 0]) e8Vacbdfe N14Vacbdfe neEvLoc _ _ _ _ _, ?_⟩
                  repeat' (first | with_reducible refine On.setNew ?_ (by omega) _ | with_reducible exact kVacbdfe)
            · go_simp
              obtain ⟨Vacbf, hVacbf⟩ : ∃ Vacbf, Vacbf = Vacb.alloc (.cells #[.int .i64 0, .int .i64 0, .int .i64 0, .int .i64 0, .int .i64 0] 37) := ⟨_, rfl⟩
              rw [← hVacbf]
              have kk : On Vacb Vacbf := by rw [hVacbf]; exact (On.refl Vacb).alloc _
              have tVacbf : Vacbf.heap[Vacb.heap.size]? = some (.cells #[.int .i64 0, .int .i64 0, .int .i64 0, .int .i64 0, .int .i64 0] 37 (0, 0)) := by rw [hVacbf]; exact heap_alloc_new Vacb _
              have szVacbf : Vacb.heap.size < Vacbf.heap.size := by rw [hVacbf]; simp
              have sgVacbf := kVacb.size
              have PVacbf := PVacb.on kk
              have N6Vacbf := Ty.on N6Vacb kk
              have o42Vacbf := own_on own42 kk
              have kVacbf : On W5 Vacbf := kVacb.trans kk
              clear hVacbf kk
              refine hK.out _ _ (fun _ => PVacbf) ?_
              clear hK
              refine fz_one 7 rfl rfl (by kernel_rfl) (fun K hK => ?_)
              have R6 : Rd intC 1 Vacbf (.slice (some ⟨Va.heap.size, 0, none⟩) [v].length 1) [v] := Rd.bk (C := intC) (k := 1) (fun _ => rfl) (L := [v]) ⟨_, N6Vacbf⟩ 1 (by simp) (by simp)
              refine wp_append_rd (Operand.tmp 42) (Operand.tmp 44) rfl rfl rfl o42Vacbf R6 (by simp; omega) (by have := kVacbf.size; omega) ?_
              intro v45 Vacbfd own45 hg45
              rw [HLV.out] at own45
              obtain ⟨b45, d45, rfl⟩ := own_slice own45
              have PVacbfd := Bk.grown PVacbf hg45 hN5 (fun g hg => (o42Vacbf.lt g hg).1)
              have N14Vacbfd := Ty.grown tVacbf o42Vacbf neIntLoc hg45
              have kVacbfd : On W5 Vacbfd := On.grown kVacbf hg45 (fun g hg => (o42Vacbf.lt g hg).1)
              have szVacbfd := hg45.size
              refine hK.out _ _ (fun _ => PVacbfd) ?_
              clear hK
              simp only [Act.put, List.setIfInBounds_toArray, List.set_cons_zero, List.set_cons_succ]
              refine fz_one 8 rfl rfl (by kernel_rfl) (fun K hK => ?_)
              go_simp
              have R45 : Rd intC 1 Vacbfd (.slice b45 (vs.length + 1) d45) (vs ++ [v]) := Rd.own (C := intC) (fun _ => rfl) (by rw [HLV.out]; exact own45)
              refine (hV _ _ _ kVacbfd R45).mono ?_
              rintro _ Vacbfde ⟨b8, d8, rfl, ho8, kk⟩
              have PVacbfde := PVacbfd.on kk
              have N14Vacbfde := Ty.on N14Vacbfd kk
              have kVacbfde : On W5 Vacbfde := kVacbfd.trans kk
              have e8Vacbfde := own_mono ho8 (by have := kVacbfd.size; omega : W5.heap.size ≤ Vacbfd.heap.size)
              clear kk ho8
              refine hK.out _ _ (fun _ => PVacbfde) ?_
              clear hK
              refine fz_take 9 (v := ?_) rfl (by kernel_rfl) (by kernel_rfl) (by kernel_rfl) (by kernel_rfl) (fun _ _ _ h => h) rfl ?_ PVacbfde ?_
              rotate_left
              · intro W hW
                go_simp
                (try with_reducible rfl)
              simp only [Act.put, List.setIfInBounds_toArray, List.set_cons_zero, List.set_cons_succ]
              refine fz_take 10 (v := ?_) rfl (by kernel_rfl) (by kernel_rfl) (by kernel_rfl) (by kernel_rfl) (fun _ _ _ h => h) rfl ?_ PVacbfde ?_
              rotate_left
              · intro W hW
                go_simp
                (try with_reducible rfl)
              simp only [Act.put, List.setIfInBounds_toArray, List.set_cons_zero, List.set_cons_succ]
              refine fz_take 11 (v := ?_) rfl (by kernel_rfl) (by kernel_rfl) (by kernel_rfl) (by kernel_rfl) (fun _ _ _ h => h) rfl ?_ PVacbfde ?_
              rotate_left
              · intro W hW
                go_simp
                (try with_reducible rfl)
              simp only [Act.put, List.setIfInBounds_toArray, List.set_cons_zero, List.set_cons_succ]
              refine fz_take 12 (v := ?_) rfl (by kernel_rfl) (by kernel_rfl) (by kernel_rfl) (by kernel_rfl) (fun _ _ _ h => h) rfl ?_ PVacbfde ?_
              rotate_left
              · intro W hW
                go_simp
                (try with_reducible rfl)
              simp only [Act.put, List.setIfInBounds_toArray, List.set_cons_zero, List.set_cons_succ]
              refine fz_take 14 (v := ?_) rfl (by kernel_rfl) (by kernel_rfl) (by kernel_rfl) (by kernel_rfl) (fun _ _ _ h => h) rfl ?_ PVacbfde ?_
              rotate_left
              · intro W hW
                go_simp
                (try with_reducible rfl)
              simp only [Act.put, List.setIfInBounds_toArray, List.set_cons_zero, List.set_cons_succ]
              have M14 : Bk Vacbfde Vacb.heap.size #[.int .i64 0, .int .i64 0, .int .i64 0, .int .i64 0, .int .i64 0] := ⟨_, N14Vacbfde⟩
              have y0 := M14.at (i := 0) rfl
              have y1 := M14.at (i := 1) rfl
              have y2 := M14.at (i := 2) rfl
              have y3 := M14.at (i := 3) rfl
              have y4 := M14.at (i := 4) rfl
              have yf := fun i => M14.fr i
              have yl := M14.lt
              refine fz_one 15 rfl rfl (by kernel_rfl) (fun K hK => ?_)
              go_simp
              have PZ : Bk (((((Vacbfde.setCell ⟨Vacb.heap.size, 0, none⟩ (.int .i64 s0)).setCell ⟨Vacb.heap.size, 1, none⟩ (.int .i64 s1)).setCell ⟨Vacb.heap.size, 2, none⟩ (.int .i64 s2)).setCell ⟨Vacb.heap.size, 3, none⟩ (.int .i64 s3)).setCell ⟨Vacb.heap.size, 4, none⟩ (.int .i64 s4)) w1.heap.size #[.slice a1 LT.length c1, .slice a2 IN.length c2, .slice a3 LL.length c3] := by
                have hg14 := sgVacbf
                repeat' (first | with_reducible refine Bk.far ?_ (by omega) _ _ | with_reducible exact PVacbfde)
              refine hK.out _ _ (fun _ => PZ) ?_
              clear hK
              refine fz_take 16 (v := ?_) rfl (by kernel_rfl) (by kernel_rfl) (by kernel_rfl) (by kernel_rfl) (fun _ _ _ h => h) rfl ?_ PZ ?_
              rotate_left
              · intro W hW
                go_simp
                (try with_reducible rfl)
              simp only [Act.put, List.setIfInBounds_toArray, List.set_cons_zero, List.set_cons_succ]
              refine fz_done (by kernel_rfl) (NoPanic.normal ?_)
              have hg14 := sgVacbf
              go_wp2
              go_meet
              case rel =>
                refine ⟨b8, d8, rfl, own_set5T (cs := [.int .i64 0, .int .i64 0, .int .i64 0, .int .i64 0, .int .i64 0]) e8Vacbfde N14Vacbfde neEvLoc _ _ _ _ _, ?_⟩
                repeat' (first | with_reducible refine On.setNew ?_ (by omega) _ | with_reducible exact kVacbfde)
          · go_simp
            obtain ⟨Vacf, hVacf⟩ : ∃ Vacf, Vacf = Vac.alloc (.cells #[.int .i64 0, .int .i64 0, .int .i64 0, .int .i64 0, .int .i64 0] 37) := ⟨_, rfl⟩
            rw [← hVacf]
            have kk : On Vac Vacf := by rw [hVacf]; exact (On.refl Vac).alloc _
            have tVacf : Vacf.heap[Vac.heap.size]? = some (.cells #[.int .i64 0, .int .i64 0, .int .i64 0, .int .i64 0, .int .i64 0] 37 (0, 0)) := by rw [hVacf]; exact heap_alloc_new Vac _
            have szVacf : Vac.heap.size < Vacf.heap.size := by rw [hVacf]; simp
            have sgVacf := kVac.size
            have PVacf := PVac.on kk
            have N6Vacf := Ty.on tVac kk
            have o40Vacf := own_on o40Vac kk
            have kVacf : On W5 Vacf := kVac.trans kk
            clear hVacf kk
            refine hK.out _ _ (fun _ => PVacf) ?_
            clear hK
            refine fz_one 4 rfl rfl (by kernel_rfl) (fun K hK => ?_)
            refine wp_append_rd (Operand.tmp 40) (Operand.tmp 41) rfl rfl rfl o40Vacf (HB.out.on (kB.trans kVacf)) (by simp; omega) (by have := kVacf.size; omega) ?_
            intro v42 Vacfb own42 hg42
            simp only [List.nil_append] at own42
            obtain ⟨b42, d42, rfl⟩ := own_slice own42
            have PVacfb := Bk.grown PVacf hg42 hN5 (fun g hg => (o40Vacf.lt g hg).1)
            have N6Vacfb : Vacfb.heap[Va.heap.size]? = some (.cells #[.int .i64 v] 2 (0, 0)) := (hg42.block Va.heap.size (lt_of_block N6Vacf) (fun e => by have e1 : some Va.heap.size = some V0.heap.size := e; simp only [Option.some.injEq] at e1; omega)).trans N6Vacf
            have N14Vacfb := Ty.grown tVacf o40Vacf neIntLoc hg42
            have kVacfb : On W5 Vacfb := On.grown kVacf hg42 (fun g hg => (o40Vacf.lt g hg).1)
            have szVacfb := hg42.size
            refine hK.out _ _ (fun _ => PVacfb) ?_
            clear hK
            simp only [Act.put, List.setIfInBounds_toArray, List.set_cons_zero, List.set_cons_succ]
            refine fz_one 7 rfl rfl (by kernel_rfl) (fun K hK => ?_)
            have R6 : Rd intC 1 Vacfb (.slice (some ⟨Va.heap.size, 0, none⟩) [v].length 1) [v] := Rd.bk (C := intC) (k := 1) (fun _ => rfl) (L := [v]) ⟨_, N6Vacfb⟩ 1 (by simp) (by simp)
            refine wp_append_rd (Operand.tmp 42) (Operand.tmp 44) rfl rfl rfl own42 R6 (by simp; omega) (by have := kVacfb.size; omega) ?_
            intro v45 Vacfbd own45 hg45
            rw [HLV.out] at own45
            obtain ⟨b45, d45, rfl⟩ := own_slice own45
            have PVacfbd := Bk.grown PVacfb hg45 hN5 (fun g hg => (own42.lt g hg).1)
            have N14Vacfbd := Ty.grown N14Vacfb own42 neIntLoc hg45
            have kVacfbd : On W5 Vacfbd := On.grown kVacfb hg45 (fun g hg => (own42.lt g hg).1)
            have szVacfbd := hg45.size
            refine hK.out _ _ (fun _ => PVacfbd) ?_
            clear hK
            simp only [Act.put, List.setIfInBounds_toArray, List.set_cons_zero, List.set_cons_succ]
            refine fz_one 8 rfl rfl (by kernel_rfl) (fun K hK => ?_)
            go_simp
            have R45 : Rd intC 1 Vacfbd (.slice b45 (vs.length + 1) d45) (vs ++ [v]) := Rd.own (C := intC) (fun _ => rfl) (by rw [HLV.out]; exact own45)
            refine (hV _ _ _ kVacfbd R45).mono ?_
            rintro _ Vacfbde ⟨b8, d8, rfl, ho8, kk⟩
            have PVacfbde := PVacfbd.on kk
            have N14Vacfbde := Ty.on N14Vacfbd kk
            have kVacfbde : On W5 Vacfbde := kVacfbd.trans kk
            have e8Vacfbde := own_mono ho8 (by have := kVacfbd.size; omega : W5.heap.size ≤ Vacfbd.heap.size)
            clear kk ho8
            refine hK.out _ _ (fun _ => PVacfbde) ?_
            clear hK
            refine fz_take 9 (v := ?_) rfl (by kernel_rfl) (by kernel_rfl) (by kernel_rfl) (by kernel_rfl) (fun _ _ _ h => h) rfl ?_ PVacfbde ?_
            rotate_left
            · intro W hW
              go_simp
              (try with_reducible rfl)
            simp only [Act.put, List.setIfInBounds_toArray, List.set_cons_zero, List.set_cons_succ]
            refine fz_take 10 (v := ?_) rfl (by kernel_rfl) (by kernel_rfl) (by kernel_rfl) (by kernel_rfl) (fun _ _ _ h => h) rfl ?_ PVacfbde ?_
            rotate_left
            · intro W hW
              go_simp
              (try with_reducible rfl)
            simp only [Act.put, List.setIfInBounds_toArray, List.set_cons_zero, List.set_cons_succ]
            refine fz_take 11 (v := ?_) rfl (by kernel_rfl) (by kernel_rfl) (by kernel_rfl) (by kernel_rfl) (fun _ _ _ h => h) rfl ?_ PVacfbde ?_
            rotate_left
            · intro W hW
              go_simp
              (try with_reducible rfl)
            simp only [Act.put, List.setIfInBounds_toArray, List.set_cons_zero, List.set_cons_succ]
            refine fz_take 12 (v := ?_) rfl (by kernel_rfl) (by kernel_rfl) (by kernel_rfl) (by kernel_rfl) (fun _ _ _ h => h) rfl ?_ PVacfbde ?_
            rotate_left
            · intro W hW
              go_simp
              (try with_reducible rfl)
            simp only [Act.put, List.setIfInBounds_toArray, List.set_cons_zero, List.set_cons_succ]
            refine fz_take 14 (v := ?_) rfl (by kernel_rfl) (by kernel_rfl) (by kernel_rfl) (by kernel_rfl) (fun _ _ _ h => h) rfl ?_ PVacfbde ?_
            rotate_left
            · intro W hW
              go_simp
              (try with_reducible rfl)
            simp only [Act.put, List.setIfInBounds_toArray, List.set_cons_zero, List.set_cons_succ]
            have M14 : Bk Vacfbde Vac.heap.size #[.int .i64 0, .int .i64 0, .int .i64 0, .int .i64 0, .int .i64 0] := ⟨_, N14Vacfbde⟩
            have y0 := M14.at (i := 0) rfl
            have y1 := M14.at (i := 1) rfl
            have y2 := M14.at (i := 2) rfl
            have y3 := M14.at (i := 3) rfl
            have y4 := M14.at (i := 4) rfl
            have yf := fun i => M14.fr i
            have yl := M14.lt
            refine fz_one 15 rfl rfl (by kernel_rfl) (fun K hK => ?_)
            go_simp
            have PZ : Bk (((((Vacfbde.setCell ⟨Vac.heap.size, 0, none⟩ (.int .i64 s0)).setCell ⟨Vac.heap.size, 1, none⟩ (.int .i64 s1)).setCell ⟨Vac.heap.size, 2, none⟩ (.int .i64 s2)).setCell ⟨Vac.heap.size, 3, none⟩ (.int .i64 s3)).setCell ⟨Vac.heap.size, 4, none⟩ (.int .i64 s4)) w1.heap.size #[.slice a1 LT.length c1, .slice a2 IN.length c2, .slice a3 LL.length c3] := by
              have hg14 := sgVacf
              repeat' (first | with_reducible refine Bk.far ?_ (by omega) _ _ | with_reducible exact PVacfbde)
            refine hK.out _ _ (fun _ => PZ) ?_
            clear hK
            refine fz_take 16 (v := ?_) rfl (by kernel_rfl) (by kernel_rfl) (by kernel_rfl) (by kernel_rfl) (fun _ _ _ h => h) rfl ?_ PZ ?_
            rotate_left
            · intro W hW
              go_simp
              (try with_reducible rfl)
            simp only [Act.put, List.setIfInBounds_toArray, List.set_cons_zero, List.set_cons_succ]
            refine fz_done (by kernel_rfl) (NoPanic.normal ?_)
            have hg14 := sgVacf
            go_wp2
            go_meet
            case rel =>
              refine ⟨b8, d8, rfl, own_set5T (cs := [.int .i64 0, .int .i64 0, .int .i64 0, .int .i64 0, .int .i64 0]) e8Vacfbde N14Vacfbde neEvLoc _ _ _ _ _, ?_⟩
              repeat' (first | with_reducible refine On.setNew ?_ (by omega) _ | with_reducible exact kVacfbde)
        · go_simp
          obtain ⟨Vaf, hVaf⟩ : ∃ Vaf, Vaf = Va.alloc (.cells #[.int .i64 0, .int .i64 0, .int .i64 0, .int .i64 0, .int .i64 0] 37) := ⟨_, rfl⟩
          rw [← hVaf]
          have kk : On Va Vaf := by rw [hVaf]; exact (On.refl Va).alloc _
          have tVaf : Vaf.heap[Va.heap.size]? = some (.cells #[.int .i64 0, .int .i64 0, .int .i64 0, .int .i64 0, .int .i64 0] 37 (0, 0)) := by rw [hVaf]; exact heap_alloc_new Va _
          have szVaf : Va.heap.size < Vaf.heap.size := by rw [hVaf]; simp
          have sgVaf := kVa.size
          have PVaf := PVa.on kk
          have o40Vaf := own_on o40Va kk
          have kVaf : On W5 Vaf := kVa.trans kk
          clear hVaf kk
          refine hK.out _ _ (fun _ => PVaf) ?_
          clear hK
          refine fz_two 4 6 rfl rfl rfl rfl (by kernel_rfl) (fun K hK => ?_) (fun K hK => ?_)
          · refine wp_append_rd (Operand.tmp 40) (Operand.tmp 41) rfl rfl rfl o40Vaf (HB.out.on (kB.trans kVaf)) (by simp; omega) (by have := kVaf.size; omega) ?_
            intro v42 Vafb own42 hg42
            simp only [List.nil_append] at own42
            obtain ⟨b42, d42, rfl⟩ := own_slice own42
            have PVafb := Bk.grown PVaf hg42 hN5 (fun g hg => (o40Vaf.lt g hg).1)
            have N14Vafb := Ty.grown tVaf o40Vaf neIntLoc hg42
            have kVafb : On W5 Vafb := On.grown kVaf hg42 (fun g hg => (o40Vaf.lt g hg).1)
            have szVafb := hg42.size
            refine hK.out _ _ (fun _ => PVafb) ?_
            clear hK
            simp only [Act.put, List.setIfInBounds_toArray, List.set_cons_zero, List.set_cons_succ]
            refine fz_one 6 rfl rfl (by kernel_rfl) (fun K hK => ?_)
            go_simp
            obtain ⟨Vafbc, hVafbc⟩ : ∃ Vafbc, Vafbc = Vafb.alloc (.cells #[.int .i64 v] 2) := ⟨_, rfl⟩
            rw [← hVafbc]
            have kk : On Vafb Vafbc := by rw [hVafbc]; exact (On.refl Vafb).alloc _
            have tVafbc : Vafbc.heap[Vafb.heap.size]? = some (.cells #[.int .i64 v] 2 (0, 0)) := by rw [hVafbc]; exact heap_alloc_new Vafb _
            have szVafbc : Vafb.heap.size < Vafbc.heap.size := by rw [hVafbc]; simp
            have sgVafbc := kVafb.size
            have PVafbc := PVafb.on kk
            have N14Vafbc := Ty.on N14Vafb kk
            have o42Vafbc := own_on own42 kk
            have kVafbc : On W5 Vafbc := kVafb.trans kk
            clear hVafbc kk
            refine hK.out _ _ (fun _ => PVafbc) ?_
            clear hK
            refine fz_one 7 rfl rfl (by kernel_rfl) (fun K hK => ?_)
            have R6 : Rd intC 1 Vafbc (.slice (some ⟨Vafb.heap.size, 0, none⟩) [v].length 1) [v] := Rd.bk (C := intC) (k := 1) (fun _ => rfl) (L := [v]) ⟨_, tVafbc⟩ 1 (by simp) (by simp)
            refine wp_append_rd (Operand.tmp 42) (Operand.tmp 44) rfl rfl rfl o42Vafbc R6 (by simp; omega) (by have := kVafbc.size; omega) ?_
            intro v45 Vafbcd own45 hg45
            rw [HLV.out] at own45
            obtain ⟨b45, d45, rfl⟩ := own_slice own45
            have PVafbcd := Bk.grown PVafbc hg45 hN5 (fun g hg => (o42Vafbc.lt g hg).1)
            have N14Vafbcd := Ty.grown N14Vafbc o42Vafbc neIntLoc hg45
            have kVafbcd : On W5 Vafbcd := On.grown kVafbc hg45 (fun g hg => (o42Vafbc.lt g hg).1)
            have szVafbcd := hg45.size
            refine hK.out _ _ (fun _ => PVafbcd) ?_
            clear hK
            simp only [Act.put, List.setIfInBounds_toArray, List.set_cons_zero, List.set_cons_succ]
            refine fz_one 8 rfl rfl (by kernel_rfl) (fun K hK => ?_)
            go_simp
            have R45 : Rd intC 1 Vafbcd (.slice b45 (vs.length + 1) d45) (vs ++ [v]) := Rd.own (C := intC) (fun _ => rfl) (by rw [HLV.out]; exact own45)
            refine (hV _ _ _ kVafbcd R45).mono ?_
            rintro _ Vafbcde ⟨b8, d8, rfl, ho8, kk⟩
            have PVafbcde := PVafbcd.on kk
            have N14Vafbcde := Ty.on N14Vafbcd kk
            have kVafbcde : On W5 Vafbcde := kVafbcd.trans kk
            have e8Vafbcde := own_mono ho8 (by have := kVafbcd.size; omega : W5.heap.size ≤ Vafbcd.heap.size)
            clear kk ho8
            refine hK.out _ _ (fun _ => PVafbcde) ?_
            clear hK
            refine fz_take 9 (v := ?_) rfl (by kernel_rfl) (by kernel_rfl) (by kernel_rfl) (by kernel_rfl) (fun _ _ _ h => h) rfl ?_ PVafbcde ?_
            rotate_left
            · intro W hW
              go_simp
              (try with_reducible rfl)
            simp only [Act.put, List.setIfInBounds_toArray, List.set_cons_zero, List.set_cons_succ]
            refine fz_take 10 (v := ?_) rfl (by kernel_rfl) (by kernel_rfl) (by kernel_rfl) (by kernel_rfl) (fun _ _ _ h => h) rfl ?_ PVafbcde ?_
            rotate_left
            · intro W hW
              go_simp
              (try with_reducible rfl)
            simp only [Act.put, List.setIfInBounds_toArray, List.set_cons_zero, List.set_cons_succ]
            refine fz_take 11 (v := ?_) rfl (by kernel_rfl) (by kernel_rfl) (by kernel_rfl) (by kernel_rfl) (fun _ _ _ h => h) rfl ?_ PVafbcde ?_
            rotate_left
            · intro W hW
              go_simp
              (try with_reducible rfl)
            simp only [Act.put, List.setIfInBounds_toArray, List.set_cons_zero, List.set_cons_succ]
            refine fz_take 12 (v := ?_) rfl (by kernel_rfl) (by kernel_rfl) (by kernel_rfl) (by kernel_rfl) (fun _ _ _ h => h) rfl ?_ PVafbcde ?_
            rotate_left
            · intro W hW
              go_simp
              (try with_reducible rfl)
            simp only [Act.put, List.setIfInBounds_toArray, List.set_cons_zero, List.set_cons_succ]
            refine fz_take 14 (v := ?_) rfl (by kernel_rfl) (by kernel_rfl) (by kernel_rfl) (by kernel_rfl) (fun _ _ _ h => h) rfl ?_ PVafbcde ?_
            rotate_left
            · intro W hW
              go_simp
              (try with_reducible rfl)
            simp only [Act.put, List.setIfInBounds_toArray, List.set_cons_zero, List.set_cons_succ]
            have M14 : Bk Vafbcde Va.heap.size #[.int .i64 0, .int .i64 0, .int .i64 0, .int .i64 0, .int .i64 0] := ⟨_, N14Vafbcde⟩
            have y0 := M14.at (i := 0) rfl
            have y1 := M14.at (i := 1) rfl
            have y2 := M14.at (i := 2) rfl
            have y3 := M14.at (i := 3) rfl
            have y4 := M14.at (i := 4) rfl
            have yf := fun i => M14.fr i
            have yl := M14.lt
            refine fz_one 15 rfl rfl (by kernel_rfl) (fun K hK => ?_)
            go_simp
            have PZ : Bk (((((Vafbcde.setCell ⟨Va.heap.size, 0, none⟩ (.int .i64 s0)).setCell ⟨Va.heap.size, 1, none⟩ (.int .i64 s1)).setCell ⟨Va.heap.size, 2, none⟩ (.int .i64 s2)).setCell ⟨Va.heap.size, 3, none⟩ (.int .i64 s3)).setCell ⟨Va.heap.size, 4, none⟩ (.int .i64 s4)) w1.heap.size #[.slice a1 LT.length c1, .slice a2 IN.length c2, .slice a3 LL.length c3] := by
              have hg14 := sgVaf
              repeat' (first | with_reducible refine Bk.far ?_ (by omega) _ _ | with_reducible exact PVafbcde)
            refine hK.out _ _ (fun _ => PZ) ?_
            clear hK
            refine fz_take 16 (v := ?_) rfl (by kernel_rfl) (by kernel_rfl) (by kernel_rfl) (by kernel_rfl) (fun _ _ _ h => h) rfl ?_ PZ ?_
            rotate_left
            · intro W hW
              go_simp
              (try with_reducible rfl)
            simp only [Act.put, List.setIfInBounds_toArray, List.set_cons_zero, List.set_cons_succ]
            refine fz_done (by kernel_rfl) (NoPanic.normal ?_)
            have hg14 := sgVaf
            go_wp2
            go_meet
            case rel =>
              refine ⟨b8, d8, rfl, own_set5T (cs := [.int .i64 0, .int .i64 0, .int .i64 0, .int .i64 0, .int .i64 0]) e8Vafbcde N14Vafbcde neEvLoc _ _ _ _ _, ?_⟩
              repeat' (first | with_reducible refine On.setNew ?_ (by omega) _ | with_reducible exact kVafbcde)
          · go_simp
            obtain ⟨Vafc, hVafc⟩ : ∃ Vafc, Vafc = Vaf.alloc (.cells #[.int .i64 v] 2) := ⟨_, rfl⟩
            rw [← hVafc]
            have kk : On Vaf Vafc := by rw [hVafc]; exact (On.refl Vaf).alloc _
            have tVafc : Vafc.heap[Vaf.heap.size]? = some (.cells #[.int .i64 v] 2 (0, 0)) := by rw [hVafc]; exact heap_alloc_new Vaf _
            have szVafc : Vaf.heap.size < Vafc.heap.size := by rw [hVafc]; simp
            have sgVafc := kVaf.size
            have PVafc := PVaf.on kk
            have N14Vafc := Ty.on tVaf kk
            have o40Vafc := own_on o40Vaf kk
            have kVafc : On W5 Vafc := kVaf.trans kk
            clear hVafc kk
            refine hK.out _ _ (fun _ => PVafc) ?_
            clear hK
            refine fz_one 4 rfl rfl (by kernel_rfl) (fun K hK => ?_)
            refine wp_append_rd (Operand.tmp 40) (Operand.tmp 41) rfl rfl rfl o40Vafc (HB.out.on (kB.trans kVafc)) (by simp; omega) (by have := kVafc.size; omega) ?_
            intro v42 Vafcb own42 hg42
            simp only [List.nil_append] at own42
            obtain ⟨b42, d42, rfl⟩ := own_slice own42
            have PVafcb := Bk.grown PVafc hg42 hN5 (fun g hg => (o40Vafc.lt g hg).1)
            have N6Vafcb : Vafcb.heap[Vaf.heap.size]? = some (.cells #[.int .i64 v] 2 (0, 0)) := (hg42.block Vaf.heap.size (lt_of_block tVafc) (fun e => by have e1 : some Vaf.heap.size = some V0.heap.size := e; simp only [Option.some.injEq] at e1; omega)).trans tVafc
            have N14Vafcb := Ty.grown N14Vafc o40Vafc neIntLoc hg42
            have kVafcb : On W5 Vafcb := On.grown kVafc hg42 (fun g hg => (o40Vafc.lt g hg).1)
            have szVafcb := hg42.size
            refine hK.out _ _ (fun _ => PVafcb) ?_
            clear hK
            simp only [Act.put, List.setIfInBounds_toArray, List.set_cons_zero, List.set_cons_succ]
            refine fz_one 7 rfl rfl (by kernel_rfl) (fun K hK => ?_)
            have R6 : Rd intC 1 Vafcb (.slice (some ⟨Vaf.heap.size, 0, none⟩) [v].length 1) [v] := Rd.bk (C := intC) (k := 1) (fun _ => rfl) (L := [v]) ⟨_, N6Vafcb⟩ 1 (by simp) (by simp)
            refine wp_append_rd (Operand.tmp 42) (Operand.tmp 44) rfl rfl rfl own42 R6 (by simp; omega) (by have := kVafcb.size; omega) ?_
            intro v45 Vafcbd own45 hg45
            rw [HLV.out] at own45
            obtain ⟨b45, d45, rfl⟩ := own_slice own45
            have PVafcbd := Bk.grown PVafcb hg45 hN5 (fun g hg => (own42.lt g hg).1)
            have N14Vafcbd := Ty.grown N14Vafcb own42 neIntLoc hg45
            have kVafcbd : On W5 Vafcbd := On.grown kVafcb hg45 (fun g hg => (own42.lt g hg).1)
            have szVafcbd := hg45.size
            refine hK.out _ _ (fun _ => PVafcbd) ?_
            clear hK
            simp only [Act.put, List.setIfInBounds_toArray, List.set_cons_zero, List.set_cons_succ]
            refine fz_one 8 rfl rfl (by kernel_rfl) (fun K hK => ?_)
            go_simp
            have R45 : Rd intC 1 Vafcbd (.slice b45 (vs.length + 1) d45) (vs ++ [v]) := Rd.own (C := intC) (fun _ => rfl) (by rw [HLV.out]; exact own45)
            refine (hV _ _ _ kVafcbd R45).mono ?_
            rintro _ Vafcbde ⟨b8, d8, rfl, ho8, kk⟩
            have PVafcbde := PVafcbd.on kk
            have N14Vafcbde := Ty.on N14Vafcbd kk
            have kVafcbde : On W5 Vafcbde := kVafcbd.trans kk
            have e8Vafcbde := own_mono ho8 (by have := kVafcbd.size; omega : W5.heap.size ≤ Vafcbd.heap.size)
            clear kk ho8
            refine hK.out _ _ (fun _ => PVafcbde) ?_
            clear hK
            refine fz_take 9 (v := ?_) rfl (by kernel_rfl) (by kernel_rfl) (by kernel_rfl) (by kernel_rfl) (fun _ _ _ h => h) rfl ?_ PVafcbde ?_
            rotate_left
            · intro W hW
              go_simp
              (try with_reducible rfl)
            simp only [Act.put, List.setIfInBounds_toArray, List.set_cons_zero, List.set_cons_succ]
            refine fz_take 10 (v := ?_) rfl (by kernel_rfl) (by kernel_rfl) (by kernel_rfl) (by kernel_rfl) (fun _ _ _ h => h) rfl ?_ PVafcbde ?_
            rotate_left
            · intro W hW
              go_simp
              (try with_reducible rfl)
            simp only [Act.put, List.setIfInBounds_toArray, List.set_cons_zero, List.set_cons_succ]
            refine fz_take 11 (v := ?_) rfl (by kernel_rfl) (by kernel_rfl) (by kernel_rfl) (by kernel_rfl) (fun _ _ _ h => h) rfl ?_ PVafcbde ?_
            rotate_left
            · intro W hW
              go_simp
              (try with_reducible rfl)
            simp only [Act.put, List.setIfInBounds_toArray, List.set_cons_zero, List.set_cons_succ]
            refine fz_take 12 (v := ?_) rfl (by kernel_rfl) (by kernel_rfl) (by kernel_rfl) (by kernel_rfl) (fun _ _ _ h => h) rfl ?_ PVafcbde ?_
            rotate_left
            · intro W hW
              go_simp
              (try with_reducible rfl)
            simp only [Act.put, List.setIfInBounds_toArray, List.set_cons_zero, List.set_cons_succ]
            refine fz_take 14 (v := ?_) rfl (by kernel_rfl) (by kernel_rfl) (by kernel_rfl) (by kernel_rfl) (fun _ _ _ h => h) rfl ?_ PVafcbde ?_
            rotate_left
            · intro W hW
              go_simp
              (try with_reducible rfl)
            simp only [Act.put, List.setIfInBounds_toArray, List.set_cons_zero, List.set_cons_succ]
            have M14 : Bk Vafcbde Va.heap.size #[.int .i64 0, .int .i64 0, .int .i64 0, .int .i64 0, .int .i64 0] := ⟨_, N14Vafcbde⟩
            have y0 := M14.at (i := 0) rfl
            have y1 := M14.at (i := 1) rfl
            have y2 := M14.at (i := 2) rfl
            have y3 := M14.at (i := 3) rfl
            have y4 := M14.at (i := 4) rfl
            have yf := fun i => M14.fr i
            have yl := M14.lt
            refine fz_one 15 rfl rfl (by kernel_rfl) (fun K hK => ?_)
            go_simp
            have PZ : Bk (((((Vafcbde.setCell ⟨Va.heap.size, 0, none⟩ (.int .i64 s0)).setCell ⟨Va.heap.size, 1, none⟩ (.int .i64 s1)).setCell ⟨Va.heap.size, 2, none⟩ (.int .i64 s2)).setCell ⟨Va.heap.size, 3, none⟩ (.int .i64 s3)).setCell ⟨Va.heap.size, 4, none⟩ (.int .i64 s4)) w1.heap.size #[.slice a1 LT.length c1, .slice a2 IN.length c2, .slice a3 LL.length c3] := by
              have hg14 := sgVaf
              repeat' (first | with_reducible refine Bk.far ?_ (by omega) _ _ | with_reducible exact PVafcbde)
            refine hK.out _ _ (fun _ => PZ) ?_
            clear hK
            refine fz_take 16 (v := ?_) rfl (by kernel_rfl) (by kernel_rfl) (by kernel_rfl) (by kernel_rfl) (fun _ _ _ h => h) rfl ?_ PZ ?_
            rotate_left
            · intro W hW
              go_simp
              (try with_reducible rfl)
            simp only [Act.put, List.setIfInBounds_toArray, List.set_cons_zero, List.set_cons_succ]
            refine fz_done (by kernel_rfl) (NoPanic.normal ?_)
            have hg14 := sgVaf
            go_wp2
            go_meet
            case rel =>
              refine ⟨b8, d8, rfl, own_set5T (cs := [.int .i64 0, .int .i64 0, .int .i64 0, .int .i64 0, .int .i64 0]) e8Vafcbde N14Vafcbde neEvLoc _ _ _ _ _, ?_⟩
              repeat' (first | with_reducible refine On.setNew ?_ (by omega) _ | with_reducible exact kVafcbde)
      · go_simp
        obtain ⟨Vc, hVc⟩ : ∃ Vc, Vc = V0.alloc (.cells #[.int .i64 v] 2) := ⟨_, rfl⟩
        rw [← hVc]
        have kk : On V0 Vc := by rw [hVc]; exact (On.refl V0).alloc _
        have tVc : Vc.heap[V0.heap.size]? = some (.cells #[.int .i64 v] 2 (0, 0)) := by rw [hVc]; exact heap_alloc_new V0 _
        have szVc : V0.heap.size < Vc.heap.size := by rw [hVc]; simp
        have sgVc := kV0.size
        have PVc := PV0.on kk
        have kVc : On W5 Vc := kV0.trans kk
        clear hVc kk
        refine hK.out _ _ (fun _ => PVc) ?_
        clear hK
        refine fz_two 2 13 rfl rfl rfl rfl (by kernel_rfl) (fun K hK => ?_) (fun K hK => ?_)
        · go_simp
          obtain ⟨Vca, hVca⟩ : ∃ Vca, Vca = Vc.alloc (.cells #[] 2) := ⟨_, rfl⟩
          rw [← hVca]
          have kk : On Vc Vca := by rw [hVca]; exact (On.refl Vc).alloc _
          have tVca : Vca.heap[Vc.heap.size]? = some (.cells #[] 2 (0, 0)) := by rw [hVca]; exact heap_alloc_new Vc _
          have szVca : Vc.heap.size < Vca.heap.size := by rw [hVca]; simp
          have sgVca := kVc.size
          have PVca := PVc.on kk
          have N6Vca := Ty.on tVc kk
          have kVca : On W5 Vca := kVc.trans kk
          have o40Vca : Vca.ownsRow W5.heap.size 2 1 (.slice (some ⟨Vc.heap.size, 0, none⟩) 0 0) ([] : List Int).length (([] : List Int).flatMap intC) := by rw [hVca]; exact World.ownsRow_made Vc #[] 0 (by omega) (Nat.zero_le _) rfl
          clear hVca kk
          refine hK.out _ _ (fun _ => PVca) ?_
          clear hK
          refine fz_two 4 13 rfl rfl rfl rfl (by kernel_rfl) (fun K hK => ?_) (fun K hK => ?_)
          · refine wp_append_rd (Operand.tmp 40) (Operand.tmp 41) rfl rfl rfl o40Vca (HB.out.on (kB.trans kVca)) (by simp; omega) (by have := kVca.size; omega) ?_
            intro v42 Vcab own42 hg42
            simp only [List.nil_append] at own42
            obtain ⟨b42, d42, rfl⟩ := own_slice own42
            have PVcab := Bk.grown PVca hg42 hN5 (fun g hg => (o40Vca.lt g hg).1)
            have N6Vcab : Vcab.heap[V0.heap.size]? = some (.cells #[.int .i64 v] 2 (0, 0)) := (hg42.block V0.heap.size (lt_of_block N6Vca) (fun e => by have e1 : some V0.heap.size = some Vc.heap.size := e; simp only [Option.some.injEq] at e1; omega)).trans N6Vca
            have kVcab : On W5 Vcab := On.grown kVca hg42 (fun g hg => (o40Vca.lt g hg).1)
            have szVcab := hg42.size
            refine hK.out _ _ (fun _ => PVcab) ?_
            clear hK
            simp only [Act.put, List.setIfInBounds_toArray, List.set_cons_zero, List.set_cons_succ]
            refine fz_two 7 13 rfl rfl rfl rfl (by kernel_rfl) (fun K hK => ?_) (fun K hK => ?_)
            · have R6 : Rd intC 1 Vcab (.slice (some ⟨V0.heap.size, 0, none⟩) [v].length 1) [v] := Rd.bk (C := intC) (k := 1) (fun _ => rfl) (L := [v]) ⟨_, N6Vcab⟩ 1 (by simp) (by simp)
              refine wp_append_rd (Operand.tmp 42) (Operand.tmp 44) rfl rfl rfl own42 R6 (by simp; omega) (by have := kVcab.size; omega) ?_
              intro v45 Vcabd own45 hg45
              rw [HLV.out] at own45
              obtain ⟨b45, d45, rfl⟩ := own_slice own45
              have PVcabd := Bk.grown PVcab hg45 hN5 (fun g hg => (own42.lt g hg).1)
              have kVcabd : On W5 Vcabd := On.grown kVcab hg45 (fun g hg => (own42.lt g hg).1)
              have szVcabd := hg45.size
              refine hK.out _ _ (fun _ => PVcabd) ?_
              clear hK
              simp only [Act.put, List.setIfInBounds_toArray, List.set_cons_zero, List.set_cons_succ]
              refine fz_two 8 13 rfl rfl rfl rfl (by kernel_rfl) (fun K hK => ?_) (fun K hK => ?_)
              · go_simp
                have R45 : Rd intC 1 Vcabd (.slice b45 (vs.length + 1) d45) (vs ++ [v]) := Rd.own (C := intC) (fun _ => rfl) (by rw [HLV.out]; exact own45)
                refine (hV _ _ _ kVcabd R45).mono ?_
                rintro _ Vcabde ⟨b8, d8, rfl, ho8, kk⟩
                have PVcabde := PVcabd.on kk
                have kVcabde : On W5 Vcabde := kVcabd.trans kk
                have e8Vcabde := own_mono ho8 (by have := kVcabd.size; omega : W5.heap.size ≤ Vcabd.heap.size)
                clear kk ho8
                refine hK.out _ _ (fun _ => PVcabde) ?_
                clear hK
                refine fz_take 9 (v := ?_) rfl (by kernel_rfl) (by kernel_rfl) (by kernel_rfl) (by kernel_rfl) (fun _ _ _ h => h) rfl ?_ PVcabde ?_
                rotate_left
                · intro W hW
                  go_simp
                  (try with_reducible rfl)
                simp only [Act.put, List.setIfInBounds_toArray, List.set_cons_zero, List.set_cons_succ]
                refine fz_take 10 (v := ?_) rfl (by kernel_rfl) (by kernel_rfl) (by kernel_rfl) (by kernel_rfl) (fun _ _ _ h => h) rfl ?_ PVcabde ?_
                rotate_left
                · intro W hW
                  go_simp
                  (try with_reducible rfl)
                simp only [Act.put, List.setIfInBounds_toArray, List.set_cons_zero, List.set_cons_succ]
                refine fz_take 11 (v := ?_) rfl (by kernel_rfl) (by kernel_rfl) (by kernel_rfl) (by kernel_rfl) (fun _ _ _ h => h) rfl ?_ PVcabde ?_
                rotate_left
                · intro W hW
                  go_simp
                  (try with_reducible rfl)
                simp only [Act.put, List.setIfInBounds_toArray, List.set_cons_zero, List.set_cons_succ]
                refine fz_take 12 (v := ?_) rfl (by kernel_rfl) (by kernel_rfl) (by kernel_rfl) (by kernel_rfl) (fun _ _ _ h => h) rfl ?_ PVcabde ?_
                rotate_left
                · intro W hW
                  go_simp
                  (try with_reducible rfl)
                simp only [Act.put, List.setIfInBounds_toArray, List.set_cons_zero, List.set_cons_succ]
                refine fz_one 13 rfl rfl (by kernel_rfl) (fun K hK => ?_)
                go_simp
                obtain ⟨Vcabdef, hVcabdef⟩ : ∃ Vcabdef, Vcabdef = Vcabde.alloc (.cells #[.int .i64 0, .int .i64 0, .int .i64 0, .int .i64 0, .int .i64 0] 37) := ⟨_, rfl⟩
                rw [← hVcabdef]
                have kk : On Vcabde Vcabdef := by rw [hVcabdef]; exact (On.refl Vcabde).alloc _
                have tVcabdef : Vcabdef.heap[Vcabde.heap.size]? = some (.cells #[.int .i64 0, .int .i64 0, .int .i64 0, .int .i64 0, .int .i64 0] 37 (0, 0)) := by rw [hVcabdef]; exact heap_alloc_new Vcabde _
                have szVcabdef : Vcabde.heap.size < Vcabdef.heap.size := by rw [hVcabdef]; simp
                have sgVcabdef := kVcabde.size
                have PVcabdef := PVcabde.on kk
                have e8Vcabdef := own_on e8Vcabde kk
                have kVcabdef : On W5 Vcabdef := kVcabde.trans kk
                clear hVcabdef kk
                refine hK.out _ _ (fun _ => PVcabdef) ?_
                clear hK
                refine fz_take 14 (v := ?_) rfl (by kernel_rfl) (by kernel_rfl) (by kernel_rfl) (by kernel_rfl) (fun _ _ _ h => h) rfl ?_ PVcabdef ?_
                rotate_left
                · intro W hW
                  go_simp
                  (try with_reducible rfl)
                simp only [Act.put, List.setIfInBounds_toArray, List.set_cons_zero, List.set_cons_succ]
                have M14 : Bk Vcabdef Vcabde.heap.size #[.int .i64 0, .int .i64 0, .int .i64 0, .int .i64 0, .int .i64 0] := ⟨_, tVcabdef⟩
                have y0 := M14.at (i := 0) rfl
                have y1 := M14.at (i := 1) rfl
                have y2 := M14.at (i := 2) rfl
                have y3 := M14.at (i := 3) rfl
                have y4 := M14.at (i := 4) rfl
                have yf := fun i => M14.fr i
                have yl := M14.lt
                refine fz_one 15 rfl rfl (by kernel_rfl) (fun K hK => ?_)
                go_simp
                have PZ : Bk (((((Vcabdef.setCell ⟨Vcabde.heap.size, 0, none⟩ (.int .i64 s0)).setCell ⟨Vcabde.heap.size, 1, none⟩ (.int .i64 s1)).setCell ⟨Vcabde.heap.size, 2, none⟩ (.int .i64 s2)).setCell ⟨Vcabde.heap.size, 3, none⟩ (.int .i64 s3)).setCell ⟨Vcabde.heap.size, 4, none⟩ (.int .i64 s4)) w1.heap.size #[.slice a1 LT.length c1, .slice a2 IN.length c2, .slice a3 LL.length c3] := by
                  have hg14 := sgVcabdef
                  repeat' (first | with_reducible refine Bk.far ?_ (by omega) _ _ | with_reducible exact PVcabdef)
                refine hK.out _ _ (fun _ => PZ) ?_
                clear hK
                refine fz_take 16 (v := ?_) rfl (by kernel_rfl) (by kernel_rfl) (by kernel_rfl) (by kernel_rfl) (fun _ _ _ h => h) rfl ?_ PZ ?_
                rotate_left
                · intro W hW
                  go_simp
                  (try with_reducible rfl)
                simp only [Act.put, List.setIfInBounds_toArray, List.set_cons_zero, List.set_cons_succ]
                refine fz_done (by kernel_rfl) (NoPanic.normal ?_)
                have hg14 := sgVcabdef
                go_wp2
                go_meet
                case rel =>
                  refine ⟨b8, d8, rfl, own_set5T (cs := [.int .i64 0, .int .i64 0, .int .i64 0, .int .i64 0, .int .i64 0]) e8Vcabdef tVcabdef neEvLoc _ _ _ _ _, ?_⟩
                  repeat' (first | with_reducible refine On.setNew ?_ (by omega) _ | with_reducible exact kVcabdef)
              · go_simp
                obtain ⟨Vcabdf, hVcabdf⟩ : ∃ Vcabdf, Vcabdf = Vcabd.alloc (.cells #[.int .i64 0, .int .i64 0, .int .i64 0, .int .i64 0, .int .i64 0] 37) := ⟨_, rfl⟩
                rw [← hVcabdf]
                have kk : On Vcabd Vcabdf := by rw [hVcabdf]; exact (On.refl Vcabd).alloc _
                have tVcabdf : Vcabdf.heap[Vcabd.heap.size]? = some (.cells #[.int .i64 0, .int .i64 0, .int .i64 0, .int .i64 0, .int .i64 0] 37 (0, 0)) := by rw [hVcabdf]; exact heap_alloc_new Vcabd _
                have szVcabdf : Vcabd.heap.size < Vcabdf.heap.size := by rw [hVcabdf]; simp
                have sgVcabdf := kVcabd.size
                have PVcabdf := PVcabd.on kk
                have o45Vcabdf := own_on own45 kk
                have kVcabdf : On W5 Vcabdf := kVcabd.trans kk
                clear hVcabdf kk
                refine hK.out _ _ (fun _ => PVcabdf) ?_
                clear hK
                refine fz_one 8 rfl rfl (by kernel_rfl) (fun K hK => ?_)
                go_simp
                have R45 : Rd intC 1 Vcabdf (.slice b45 (vs.length + 1) d45) (vs ++ [v]) := Rd.own (C := intC) (fun _ => rfl) (by rw [HLV.out]; exact o45Vcabdf)
                refine (hV _ _ _ kVcabdf R45).mono ?_
                rintro _ Vcabdfe ⟨b8, d8, rfl, ho8, kk⟩
                have PVcabdfe := PVcabdf.on kk
                have N14Vcabdfe := Ty.on tVcabdf kk
                have kVcabdfe : On W5 Vcabdfe := kVcabdf.trans kk
                have e8Vcabdfe := own_mono ho8 (by have := kVcabdf.size; omega : W5.heap.size ≤ Vcabdf.heap.size)
                clear kk ho8
                refine hK.out _ _ (fun _ => PVcabdfe) ?_
                clear hK
                refine fz_take 9 (v := ?_) rfl (by kernel_rfl) (by kernel_rfl) (by kernel_rfl) (by kernel_rfl) (fun _ _ _ h => h) rfl ?_ PVcabdfe ?_
                rotate_left
                · intro W hW
                  go_simp
                  (try with_reducible rfl)
                simp only [Act.put, List.setIfInBounds_toArray, List.set_cons_zero, List.set_cons_succ]
                refine fz_take 10 (v := ?_) rfl (by kernel_rfl) (by kernel_rfl) (by kernel_rfl) (by kernel_rfl) (fun _ _ _ h => h) rfl ?_ PVcabdfe ?_
                rotate_left
                · intro W hW
                  go_simp
                  (try with_reducible rfl)
                simp only [Act.put, List.setIfInBounds_toArray, List.set_cons_zero, List.set_cons_succ]
                refine fz_take 11 (v := ?_) rfl (by kernel_rfl) (by kernel_rfl) (by kernel_rfl) (by kernel_rfl) (fun _ _ _ h => h) rfl ?_ PVcabdfe ?_
                rotate_left
                · intro W hW
                  go_simp
                  (try with_reducible rfl)
                simp only [Act.put, List.setIfInBounds_toArray, List.set_cons_zero, List.set_cons_succ]
                refine fz_take 12 (v := ?_) rfl (by kernel_rfl) (by kernel_rfl) (by kernel_rfl) (by kernel_rfl) (fun _ _ _ h => h) rfl ?_ PVcabdfe ?_
                rotate_left
                · intro W hW
                  go_simp
                  (try with_reducible rfl)
                simp only [Act.put, List.setIfInBounds_toArray, List.set_cons_zero, List.set_cons_succ]
                refine fz_take 14 (v := ?_) rfl (by kernel_rfl) (by kernel_rfl) (by kernel_rfl) (by kernel_rfl) (fun _ _ _ h => h) rfl ?_ PVcabdfe ?_
                rotate_left
                · intro W hW
                  go_simp
                  (try with_reducible rfl)
                simp only [Act.put, List.setIfInBounds_toArray, List.set_cons_zero, List.set_cons_succ]
                have M14 : Bk Vcabdfe Vcabd.heap.size #[.int .i64 0, .int .i64 0, .int .i64 0, .int .i64 0, .int .i64 0] := ⟨_, N14Vcabdfe⟩
                have y0 := M14.at (i := 0) rfl
                have y1 := M14.at (i := 1) rfl
                have y2 := M14.at (i := 2) rfl
                have y3 := M14.at (i := 3) rfl
                have y4 := M14.at (i := 4) rfl
                have yf := fun i => M14.fr i
                have yl := M14.lt
                refine fz_one 15 rfl rfl (by kernel_rfl) (fun K hK => ?_)
                go_simp
                have PZ : Bk (((((Vcabdfe.setCell ⟨Vcabd.heap.size, 0, none⟩ (.int .i64 s0)).setCell ⟨Vcabd.heap.size, 1, none⟩ (.int .i64 s1)).setCell ⟨Vcabd.heap.size, 2, none⟩ (.int .i64 s2)).setCell ⟨Vcabd.heap.size, 3, none⟩ (.int .i64 s3)).setCell ⟨Vcabd.heap.size, 4, none⟩ (.int .i64 s4)) w1.heap.size #[.slice a1 LT.length c1, .slice a2 IN.length c2, .slice a3 LL.length c3] := by
                  have hg14 := sgVcabdf
                  repeat' (first | with_reducible refine Bk.far ?_ (by omega) _ _ | with_reducible exact PVcabdfe)
                refine hK.out _ _ (fun _ => PZ) ?_
                clear hK
                refine fz_take 16 (v := ?_) rfl (by kernel_rfl) (by kernel_rfl) (by kernel_rfl) (by kernel_rfl) (fun _ _ _ h => h) rfl ?_ PZ ?_
                rotate_left
                · intro W hW
                  go_simp
                  (try with_reducible rfl)
                simp only [Act.put, List.setIfInBounds_toArray, List.set_cons_zero, List.set_cons_succ]
                refine fz_done (by kernel_rfl) (NoPanic.normal ?_)
                have hg14 := sgVcabdf
                go_wp2
                go_meet
                case rel =>
                  refine ⟨b8, d8, rfl, own_set5T (cs := [.int .i64 0, .int .i64 0, .int .i64 0, .int .i64 0, .int .i64 0]) e8Vcabdfe N14Vcabdfe neEvLoc _ _ _ _ _, ?_⟩
                  repeat' (first | with_reducible refine On.setNew ?_ (by omega) _ | with_reducible exact kVcabdfe)
            · go_simp
              obtain ⟨Vcabf, hVcabf⟩ : ∃ Vcabf, Vcabf = Vcab.alloc (.cells #[.int .i64 0, .int .i64 0, .int .i64 0, .int .i64 0, .int .i64 0] 37) := ⟨_, rfl⟩
              rw [← hVcabf]
              have kk : On Vcab Vcabf := by rw [hVcabf]; exact (On.refl Vcab).alloc _
              have tVcabf : Vcabf.heap[Vcab.heap.size]? = some (.cells #[.int .i64 0, .int .i64 0, .int .i64 0, .int .i64 0, .int .i64 0] 37 (0, 0)) := by rw [hVcabf]; exact heap_alloc_new Vcab _
              have szVcabf : Vcab.heap.size < Vcabf.heap.size := by rw [hVcabf]; simp
              have sgVcabf := kVcab.size
              have PVcabf := PVcab.on kk
              have N6Vcabf := Ty.on N6Vcab kk
              have o42Vcabf := own_on own42 kk
              have kVcabf : On W5 Vcabf := kVcab.trans kk
              clear hVcabf kk
              refine hK.out _ _ (fun _ => PVcabf) ?_
              clear hK
              refine fz_one 7 rfl rfl (by kernel_rfl) (fun K hK => ?_)
              have R6 : Rd intC 1 Vcabf (.slice (some ⟨V0.heap.size, 0, none⟩) [v].length 1) [v] := Rd.bk (C := intC) (k := 1) (fun _ => rfl) (L := [v]) ⟨_, N6Vcabf⟩ 1 (by simp) (by simp)
              refine wp_append_rd (Operand.tmp 42) (Operand.tmp 44) rfl rfl rfl o42Vcabf R6 (by simp; omega) (by have := kVcabf.size; omega) ?_
              intro v45 Vcabfd own45 hg45
              rw [HLV.out] at own45
              obtain ⟨b45, d45, rfl⟩ := own_slice own45
              have PVcabfd := Bk.grown PVcabf hg45 hN5 (fun g hg => (o42Vcabf.lt g hg).1)
              have N14Vcabfd := Ty.grown tVcabf o42Vcabf neIntLoc hg45
              have kVcabfd : On W5 Vcabfd := On.grown kVcabf hg45 (fun g hg => (o42Vcabf.lt g hg).1)
              have szVcabfd := hg45.size
              refine hK.out _ _ (fun _ => PVcabfd) ?_
              clear hK
              simp only [Act.put, List.setIfInBounds_toArray, List.set_cons_zero, List.set_cons_succ]
              refine fz_one 8 rfl rfl (by kernel_rfl) (fun K hK => ?_)
              go_simp
              have R45 : Rd intC 1 Vcabfd (.slice b45 (vs.length + 1) d45) (vs ++ [v]) := Rd.own (C := intC) (fun _ => rfl) (by rw [HLV.out]; exact own45)
              refine (hV _ _ _ kVcabfd R45).mono ?_
              rintro _ Vcabfde ⟨b8, d8, rfl, ho8, kk⟩
              have PVcabfde := PVcabfd.on kk
              have N14Vcabfde := Ty.on N14Vcabfd kk
              have kVcabfde : On W5 Vcabfde := kVcabfd.trans kk
              have e8Vcabfde := own_mono ho8 (by have := kVcabfd.size; omega : W5.heap.size ≤ Vcabfd.heap.size)
              clear kk ho8
              refine hK.out _ _ (fun _ => PVcabfde) ?_
              clear hK
              refine fz_take 9 (v := ?_) rfl (by kernel_rfl) (by kernel_rfl) (by kernel_rfl) (by kernel_rfl) (fun _ _ _ h => h) rfl ?_ PVcabfde ?_
              rotate_left
              · intro W hW
                go_simp
                (try with_reducible rfl)
              simp only [Act.put, List.setIfInBounds_toArray, List.set_cons_zero, List.set_cons_succ]
              refine fz_take 10 (v := ?_) rfl (by kernel_rfl) (by kernel_rfl) (by kernel_rfl) (by kernel_rfl) (fun _ _ _ h => h) rfl ?_ PVcabfde ?_
              rotate_left
              · intro W hW
                go_simp
                (try with_reducible rfl)
              simp only [Act.put, List.setIfInBounds_toArray, List.set_cons_zero, List.set_cons_succ]
              refine fz_take 11 (v := ?_) rfl (by kernel_rfl) (by kernel_rfl) (by kernel_rfl) (by kernel_rfl) (fun _ _ _ h => h) rfl ?_ PVcabfde ?_
              rotate_left
              · intro W hW
                go_simp
                (try with_reducible rfl)
              simp only [Act.put, List.setIfInBounds_toArray, List.set_cons_zero, List.set_cons_succ]
              refine fz_take 12 (v := ?_) rfl (by kernel_rfl) (by kernel_rfl) (by kernel_rfl) (by kernel_rfl) (fun _ _ _ h => h) rfl ?_ PVcabfde ?_
              rotate_left
              · intro W hW
                go_simp
                (try with_reducible rfl)
              simp only [Act.put, List.setIfInBounds_toArray, List.set_cons_zero, List.set_cons_succ]
              refine fz_take 14 (v := ?_) rfl (by kernel_rfl) (by kernel_rfl) (by kernel_rfl) (by kernel_rfl) (fun _ _ _ h => h) rfl ?_ PVcabfde ?_
              rotate_left
              · intro W hW
                go_simp
                (try with_reducible rfl)
              simp only [Act.put, List.setIfInBounds_toArray, List.set_cons_zero, List.set_cons_succ]
              have M14 : Bk Vcabfde Vcab.heap.size #[.int .i64 0, .int .i64 0, .int .i64 0, .int .i64 0, .int .i64 0] := ⟨_, N14Vcabfde⟩
              have y0 := M14.at (i := 0) rfl
              have y1 := M14.at (i := 1) rfl
              have y2 := M14.at (i := 2) rfl
              have y3 := M14.at (i := 3) rfl
              have y4 := M14.at (i := 4) rfl
              have yf := fun i => M14.fr i
              have yl := M14.lt
              refine fz_one 15 rfl rfl (by kernel_rfl) (fun K hK => ?_)
              go_simp
              have PZ : Bk (((((Vcabfde.setCell ⟨Vcab.heap.size, 0, none⟩ (.int .i64 s0)).setCell ⟨Vcab.heap.size, 1, none⟩ (.int .i64 s1)).setCell ⟨Vcab.heap.size, 2, none⟩ (.int .i64 s2)).setCell ⟨Vcab.heap.size, 3, none⟩ (.int .i64 s3)).setCell ⟨Vcab.heap.size, 4, none⟩ (.int .i64 s4)) w1.heap.size #[.slice a1 LT.length c1, .slice a2 IN.length c2, .slice a3 LL.length c3] := by
                have hg14 := sgVcabf
                repeat' (first | with_reducible refine Bk.far ?_ (by omega) _ _ | with_reducible exact PVcabfde)
              refine hK.out _ _ (fun _ => PZ) ?_
              clear hK
              refine fz_take 16 (v := ?_) rfl (by kernel_rfl) (by kernel_rfl) (by kernel_rfl) (by kernel_rfl) (fun _ _ _ h => h) rfl ?_ PZ ?_
              rotate_left
              · intro W hW
                go_simp
                (try with_reducible rfl)
              simp only [Act.put, List.setIfInBounds_toArray, List.set_cons_zero, List.set_cons_succ]
              refine fz_done (by kernel_rfl) (NoPanic.normal ?_)
              have hg14 := sgVcabf
              go_wp2
              go_meet
              case rel =>
                refine ⟨b8, d8, rfl, own_set5T (cs := [.int .i64 0, .int .i64 0, .int .i64 0, .int .i64 0, .int .i64 0]) e8Vcabfde N14Vcabfde neEvLoc _ _ _ _ _, ?_⟩
                repeat' (first | with_reducible refine On.setNew ?_ (by omega) _ | with_reducible exact kVcabfde)
          · go_simp
            obtain ⟨Vcaf, hVcaf⟩ : ∃ Vcaf, Vcaf = Vca.alloc (.cells #[.int .i64 0, .int .i64 0, .int .i64 0, .int .i64 0, .int .i64 0] 37) := ⟨_, rfl⟩
            rw [← hVcaf]
            have kk : On Vca Vcaf := by rw [hVcaf]; exact (On.refl Vca).alloc _
            have tVcaf : Vcaf.heap[Vca.heap.size]? = some (.cells #[.int .i64 0, .int .i64 0, .int .i64 0, .int .i64 0, .int .i64 0] 37 (0, 0)) := by rw [hVcaf]; exact heap_alloc_new Vca _
            have szVcaf : Vca.heap.size < Vcaf.heap.size := by rw [hVcaf]; simp
            have sgVcaf := kVca.size
            have PVcaf := PVca.on kk
            have N6Vcaf := Ty.on N6Vca kk
            have o40Vcaf := own_on o40Vca kk
            have kVcaf : On W5 Vcaf := kVca.trans kk
            clear hVcaf kk
            refine hK.out _ _ (fun _ => PVcaf) ?_
            clear hK
            refine fz_one 4 rfl rfl (by kernel_rfl) (fun K hK => ?_)
            refine wp_append_rd (Operand.tmp 40) (Operand.tmp 41) rfl rfl rfl o40Vcaf (HB.out.on (kB.trans kVcaf)) (by simp; omega) (by have := kVcaf.size; omega) ?_
            intro v42 Vcafb own42 hg42
            simp only [List.nil_append] at own42
            obtain ⟨b42, d42, rfl⟩ := own_slice own42
            have PVcafb := Bk.grown PVcaf hg42 hN5 (fun g hg => (o40Vcaf.lt g hg).1)
            have N6Vcafb : Vcafb.heap[V0.heap.size]? = some (.cells #[.int .i64 v] 2 (0, 0)) := (hg42.block V0.heap.size (lt_of_block N6Vcaf) (fun e => by have e1 : some V0.heap.size = some Vc.heap.size := e; simp only [Option.some.injEq] at e1; omega)).trans N6Vcaf
            have N14Vcafb := Ty.grown tVcaf o40Vcaf neIntLoc hg42
            have kVcafb : On W5 Vcafb := On.grown kVcaf hg42 (fun g hg => (o40Vcaf.lt g hg).1)
            have szVcafb := hg42.size
            refine hK.out _ _ (fun _ => PVcafb) ?_
            clear hK
            simp only [Act.put, List.setIfInBounds_toArray, List.set_cons_zero, List.set_cons_succ]
            refine fz_one 7 rfl rfl (by kernel_rfl) (fun K hK => ?_)
            have R6 : Rd intC 1 Vcafb (.slice (some ⟨V0.heap.size, 0, none⟩) [v].length 1) [v] := Rd.bk (C := intC) (k := 1) (fun _ => rfl) (L := [v]) ⟨_, N6Vcafb⟩ 1 (by simp) (by simp)
            refine wp_append_rd (Operand.tmp 42) (Operand.tmp 44) rfl rfl rfl own42 R6 (by simp; omega) (by have := kVcafb.size; omega) ?_
            intro v45 Vcafbd own45 hg45
            rw [HLV.out] at own45
            obtain ⟨b45, d45, rfl⟩ := own_slice own45
            have PVcafbd := Bk.grown PVcafb hg45 hN5 (fun g hg => (own42.lt g hg).1)
            have N14Vcafbd := Ty.grown N14Vcafb own42 neIntLoc hg45
            have kVcafbd : On W5 Vcafbd := On.grown kVcafb hg45 (fun g hg => (own42.lt g hg).1)
            have szVcafbd := hg45.size
            refine hK.out _ _ (fun _ => PVcafbd) ?_
            clear hK
            simp only [Act.put, List.setIfInBounds_toArray, List.set_cons_zero, List.set_cons_succ]
            refine fz_one 8 rfl rfl (by kernel_rfl) (fun K hK => ?_)
            go_simp
            have R45 : Rd intC 1 Vcafbd (.slice b45 (vs.length + 1) d45) (vs ++ [v]) := Rd.own (C := intC) (fun _ => rfl) (by rw [HLV.out]; exact own45)
            refine (hV _ _ _ kVcafbd R45).mono ?_
            rintro _ Vcafbde ⟨b8, d8, rfl, ho8, kk⟩
            have PVcafbde := PVcafbd.on kk
            have N14Vcafbde := Ty.on N14Vcafbd kk
            have kVcafbde : On W5 Vcafbde := kVcafbd.trans kk
            have e8Vcafbde := own_mono ho8 (by have := kVcafbd.size; omega : W5.heap.size ≤ Vcafbd.heap.size)
            clear kk ho8
            refine hK.out _ _ (fun _ => PVcafbde) ?_
            clear hK
            refine fz_take 9 (v := ?_) rfl (by kernel_rfl) (by kernel_rfl) (by kernel_rfl) (by kernel_rfl) (fun _ _ _ h => h) rfl ?_ PVcafbde ?_
            rotate_left
            · intro W hW
              go_simp
              (try with_reducible rfl)
            simp only [Act.put, List.setIfInBounds_toArray, List.set_cons_zero, List.set_cons_succ]
            refine fz_take 10 (v := ?_) rfl (by kernel_rfl) (by kernel_rfl) (by kernel_rfl) (by kernel_rfl) (fun _ _ _ h => h) rfl ?_ PVcafbde ?_
            rotate_left
            · intro W hW
              go_simp
              (try with_reducible rfl)
            simp only [Act.put, List.setIfInBounds_toArray, List.set_cons_zero, List.set_cons_succ]
            refine fz_take 11 (v := ?_) rfl (by kernel_rfl) (by kernel_rfl) (by kernel_rfl) (by kernel_rfl) (fun _ _ _ h => h) rfl ?_ PVcafbde ?_
            rotate_left
            · intro W hW
              go_simp
              (try with_reducible rfl)
            simp only [Act.put, List.setIfInBounds_toArray, List.set_cons_zero, List.set_cons_succ]
            refine fz_take 12 (v := ?_) rfl (by kernel_rfl) (by kernel_rfl) (by kernel_rfl) (by kernel_rfl) (fun _ _ _ h => h) rfl ?_ PVcafbde ?_
            rotate_left
            · intro W hW
              go_simp
              (try with_reducible rfl)
            simp only [Act.put, List.setIfInBounds_toArray, List.set_cons_zero, List.set_cons_succ]
            refine fz_take 14 (v := ?_) rfl (by kernel_rfl) (by kernel_rfl) (by kernel_rfl) (by kernel_rfl) (fun _ _ _ h => h) rfl ?_ PVcafbde ?_
            rotate_left
            · intro W hW
              go_simp
              (try with_reducible rfl)
            simp only [Act.put, List.setIfInBounds_toArray, List.set_cons_zero, List.set_cons_succ]
            have M14 : Bk Vcafbde Vca.heap.size #[.int .i64 0, .int .i64 0, .int .i64 0, .int .i64 0, .int .i64 0] := ⟨_, N14Vcafbde⟩
            have y0 := M14.at (i := 0) rfl
            have y1 := M14.at (i := 1) rfl
            have y2 := M14.at (i := 2) rfl
            have y3 := M14.at (i := 3) rfl
            have y4 := M14.at (i := 4) rfl
            have yf := fun i => M14.fr i
            have yl := M14.lt
            refine fz_one 15 rfl rfl (by kernel_rfl) (fun K hK => ?_)
            go_simp
            have PZ : Bk (((((Vcafbde.setCell ⟨Vca.heap.size, 0, none⟩ (.int .i64 s0)).setCell ⟨Vca.heap.size, 1, none⟩ (.int .i64 s1)).setCell ⟨Vca.heap.size, 2, none⟩ (.int .i64 s2)).setCell ⟨Vca.heap.size, 3, none⟩ (.int .i64 s3)).setCell ⟨Vca.heap.size, 4, none⟩ (.int .i64 s4)) w1.heap.size #[.slice a1 LT.length c1, .slice a2 IN.length c2, .slice a3 LL.length c3] := by
              have hg14 := sgVcaf
              repeat' (first | with_reducible refine Bk.far ?_ (by omega) _ _ | with_reducible exact PVcafbde)
            refine hK.out _ _ (fun _ => PZ) ?_
            clear hK
            refine fz_take 16 (v := ?_) rfl (by kernel_rfl) (by kernel_rfl) (by kernel_rfl) (by kernel_rfl) (fun _ _ _ h => h) rfl ?_ PZ ?_
            rotate_left
            · intro W hW
              go_simp
              (try with_reducible rfl)
            simp only [Act.put, List.setIfInBounds_toArray, List.set_cons_zero, List.set_cons_succ]
            refine fz_done (by kernel_rfl) (NoPanic.normal ?_)
            have hg14 := sgVcaf
            go_wp2
            go_meet
            case rel =>
              refine ⟨b8, d8, rfl, own_set5T (cs := [.int .i64 0, .int .i64 0, .int .i64 0, .int .i64 0, .int .i64 0]) e8Vcafbde N14Vcafbde neEvLoc _ _ _ _ _, ?_⟩
              repeat' (first | with_reducible refine On.setNew ?_ (by omega) _ | with_reducible exact kVcafbde)
        · go_simp
          obtain ⟨Vcf, hVcf⟩ : ∃ Vcf, Vcf = Vc.alloc (.cells #[.int .i64 0, .int .i64 0, .int .i64 0, .int .i64 0, .int .i64 0] 37) := ⟨_, rfl⟩
          rw [← hVcf]
          have kk : On Vc Vcf := by rw [hVcf]; exact (On.refl Vc).alloc _
          have tVcf : Vcf.heap[Vc.heap.size]? = some (.cells #[.int .i64 0, .int .i64 0, .int .i64 0, .int .i64 0, .int .i64 0] 37 (0, 0)) := by rw [hVcf]; exact heap_alloc_new Vc _
          have szVcf : Vc.heap.size < Vcf.heap.size := by rw [hVcf]; simp
          have sgVcf := kVc.size
          have PVcf := PVc.on kk
          have N6Vcf := Ty.on tVc kk
          have kVcf : On W5 Vcf := kVc.trans kk
          clear hVcf kk
          refine hK.out _ _ (fun _ => PVcf) ?_
          clear hK
          refine fz_one 2 rfl rfl (by kernel_rfl) (fun K hK => ?_)
          go_simp
          obtain ⟨Vcfa, hVcfa⟩ : ∃ Vcfa, Vcfa = Vcf.alloc (.cells #[] 2) := ⟨_, rfl⟩
          rw [← hVcfa]
          have kk : On Vcf Vcfa := by rw [hVcfa]; exact (On.refl Vcf).alloc _
          have tVcfa : Vcfa.heap[Vcf.heap.size]? = some (.cells #[] 2 (0, 0)) := by rw [hVcfa]; exact heap_alloc_new Vcf _
          have szVcfa : Vcf.heap.size < Vcfa.heap.size := by rw [hVcfa]; simp
          have sgVcfa := kVcf.size
          have PVcfa := PVcf.on kk
          have N6Vcfa := Ty.on N6Vcf kk
          have N14Vcfa := Ty.on tVcf kk
          have kVcfa : On W5 Vcfa := kVcf.trans kk
          have o40Vcfa : Vcfa.ownsRow W5.heap.size 2 1 (.slice (some ⟨Vcf.heap.size, 0, none⟩) 0 0) ([] : List Int).length (([] : List Int).flatMap intC) := by rw [hVcfa]; exact World.ownsRow_made Vcf #[] 0 (by omega) (Nat.zero_le _) rfl
          clear hVcfa kk
          refine hK.out _ _ (fun _ => PVcfa) ?_
          clear hK
          refine fz_one 4 rfl rfl (by kernel_rfl) (fun K hK => ?_)
          refine wp_append_rd (Operand.tmp 40) (Operand.tmp 41) rfl rfl rfl o40Vcfa (HB.out.on (kB.trans kVcfa)) (by simp; omega) (by have := kVcfa.size; omega) ?_
          intro v42 Vcfab own42 hg42
          simp only [List.nil_append] at own42
          obtain ⟨b42, d42, rfl⟩ := own_slice own42
          have PVcfab := Bk.grown PVcfa hg42 hN5 (fun g hg => (o40Vcfa.lt g hg).1)
          have N6Vcfab : Vcfab.heap[V0.heap.size]? = some (.cells #[.int .i64 v] 2 (0, 0)) := (hg42.block V0.heap.size (lt_of_block N6Vcfa) (fun e => by have e1 : some V0.heap.size = some Vcf.heap.size := e; simp only [Option.some.injEq] at e1; omega)).trans N6Vcfa
          have N14Vcfab := Ty.grown N14Vcfa o40Vcfa neIntLoc hg42
          have kVcfab : On W5 Vcfab := On.grown kVcfa hg42 (fun g hg => (o40Vcfa.lt g hg).1)
          have szVcfab := hg42.size
          refine hK.out _ _ (fun _ => PVcfab) ?_
          clear hK
          simp only [Act.put, List.setIfInBounds_toArray, List.set_cons_zero, List.set_cons_succ]
          refine fz_one 7 rfl rfl (by kernel_rfl) (fun K hK => ?_)
          have R6 : Rd intC 1 Vcfab (.slice (some ⟨V0.heap.size, 0, none⟩) [v].length 1) [v] := Rd.bk (C := intC) (k := 1) (fun _ => rfl) (L := [v]) ⟨_, N6Vcfab⟩ 1 (by simp) (by simp)
          refine wp_append_rd (Operand.tmp 42) (Operand.tmp 44) rfl rfl rfl own42 R6 (by simp; omega) (by have := kVcfab.size; omega) ?_
          intro v45 Vcfabd own45 hg45
          rw [HLV.out] at own45
          obtain ⟨b45, d45, rfl⟩ := own_slice own45
          have PVcfabd := Bk.grown PVcfab hg45 hN5 (fun g hg => (own42.lt g hg).1)
          have N14Vcfabd := Ty.grown N14Vcfab own42 neIntLoc hg45
          have kVcfabd : On W5 Vcfabd := On.grown kVcfab hg45 (fun g hg => (own42.lt g hg).1)
          have szVcfabd := hg45.size
          refine hK.out _ _ (fun _ => PVcfabd) ?_
          clear hK
          simp only [Act.put, List.setIfInBounds_toArray, List.set_cons_zero, List.set_cons_succ]
          refine fz_one 8 rfl rfl (by kernel_rfl) (fun K hK => ?_)
          go_simp
          have R45 : Rd intC 1 Vcfabd (.slice b45 (vs.length + 1) d45) (vs ++ [v]) := Rd.own (C := intC) (fun _ => rfl) (by rw [HLV.out]; exact own45)
          refine (hV _ _ _ kVcfabd R45).mono ?_
          rintro _ Vcfabde ⟨b8, d8, rfl, ho8, kk⟩
          have PVcfabde := PVcfabd.on kk
          have N14Vcfabde := Ty.on N14Vcfabd kk
          have kVcfabde : On W5 Vcfabde := kVcfabd.trans kk
          have e8Vcfabde := own_mono ho8 (by have := kVcfabd.size; omega : W5.heap.size ≤ Vcfabd.heap.size)
          clear kk ho8
          refine hK.out _ _ (fun _ => PVcfabde) ?_
          clear hK
          refine fz_take 9 (v := ?_) rfl (by kernel_rfl) (by kernel_rfl) (by kernel_rfl) (by kernel_rfl) (fun _ _ _ h => h) rfl ?_ PVcfabde ?_
          rotate_left
          · intro W hW
            go_simp
            (try with_reducible rfl)
          simp only [Act.put, List.setIfInBounds_toArray, List.set_cons_zero, List.set_cons_succ]
          refine fz_take 10 (v := ?_) rfl (by kernel_rfl) (by kernel_rfl) (by kernel_rfl) (by kernel_rfl) (fun _ _ _ h => h) rfl ?_ PVcfabde ?_
          rotate_left
          · intro W hW
            go_simp
            (try with_reducible rfl)
          simp only [Act.put, List.setIfInBounds_toArray, List.set_cons_zero, List.set_cons_succ]
          refine fz_take 11 (v := ?_) rfl (by kernel_rfl) (by kernel_rfl) (by kernel_rfl) (by kernel_rfl) (fun _ _ _ h => h) rfl ?_ PVcfabde ?_
          rotate_left
          · intro W hW
            go_simp
            (try with_reducible rfl)
          simp only [Act.put, List.setIfInBounds_toArray, List.set_cons_zero, List.set_cons_succ]
          refine fz_take 12 (v := ?_) rfl (by kernel_rfl) (by kernel_rfl) (by kernel_rfl) (by kernel_rfl) (fun _ _ _ h => h) rfl ?_ PVcfabde ?_
          rotate_left
          · intro W hW
            go_simp
            (try with_reducible rfl)
          simp only [Act.put, List.setIfInBounds_toArray, List.set_cons_zero, List.set_cons_succ]
          refine fz_take 14 (v := ?_) rfl (by kernel_rfl) (by kernel_rfl) (by kernel_rfl) (by kernel_rfl) (fun _ _ _ h => h) rfl ?_ PVcfabde ?_
          rotate_left
          · intro W hW
            go_simp
            (try with_reducible rfl)
          simp only [Act.put, List.setIfInBounds_toArray, List.set_cons_zero, List.set_cons_succ]
          have M14 : Bk Vcfabde Vc.heap.size #[.int .i64 0, .int .i64 0, .int .i64 0, .int .i64 0, .int .i64 0] := ⟨_, N14Vcfabde⟩
          have y0 := M14.at (i := 0) rfl
          have y1 := M14.at (i := 1) rfl
          have y2 := M14.at (i := 2) rfl
          have y3 := M14.at (i := 3) rfl
          have y4 := M14.at (i := 4) rfl
          have yf := fun i => M14.fr i
          have yl := M14.lt
          refine fz_one 15 rfl rfl (by kernel_rfl) (fun K hK => ?_)
          go_simp
          have PZ : Bk (((((Vcfabde.setCell ⟨Vc.heap.size, 0, none⟩ (.int .i64 s0)).setCell ⟨Vc.heap.size, 1, none⟩ (.int .i64 s1)).setCell ⟨Vc.heap.size, 2, none⟩ (.int .i64 s2)).setCell ⟨Vc.heap.size, 3, none⟩ (.int .i64 s3)).setCell ⟨Vc.heap.size, 4, none⟩ (.int .i64 s4)) w1.heap.size #[.slice a1 LT.length c1, .slice a2 IN.length c2, .slice a3 LL.length c3] := by
            have hg14 := sgVcf
            repeat' (first | with_reducible refine Bk.far ?_ (by omega) _ _ | with_reducible exact PVcfabde)
          refine hK.out _ _ (fun _ => PZ) ?_
          clear hK
          refine fz_take 16 (v := ?_) rfl (by kernel_rfl) (by kernel_rfl) (by kernel_rfl) (by kernel_rfl) (fun _ _ _ h => h) rfl ?_ PZ ?_
          rotate_left
          · intro W hW
            go_simp
            (try with_reducible rfl)
          simp only [Act.put, List.setIfInBounds_toArray, List.set_cons_zero, List.set_cons_succ]
          refine fz_done (by kernel_rfl) (NoPanic.normal ?_)
          have hg14 := sgVcf
          go_wp2
          go_meet
          case rel =>
            refine ⟨b8, d8, rfl, own_set5T (cs := [.int .i64 0, .int .i64 0, .int .i64 0, .int .i64 0, .int .i64 0]) e8Vcfabde N14Vcfabde neEvLoc _ _ _ _ _, ?_⟩
            repeat' (first | with_reducible refine On.setNew ?_ (by omega) _ | with_reducible exact kVcfabde)
      · go_simp
        obtain ⟨Vf, hVf⟩ : ∃ Vf, Vf = V0.alloc (.cells #[.int .i64 0, .int .i64 0, .int .i64 0, .int .i64 0, .int .i64 0] 37) := ⟨_, rfl⟩
        rw [← hVf]
        have kk : On V0 Vf := by rw [hVf]; exact (On.refl V0).alloc _
        have tVf : Vf.heap[V0.heap.size]? = some (.cells #[.int .i64 0, .int .i64 0, .int .i64 0, .int .i64 0, .int .i64 0] 37 (0, 0)) := by rw [hVf]; exact heap_alloc_new V0 _
        have szVf : V0.heap.size < Vf.heap.size := by rw [hVf]; simp
        have sgVf := kV0.size
        have PVf := PV0.on kk
        have kVf : On W5 Vf := kV0.trans kk
        clear hVf kk
        refine hK.out _ _ (fun _ => PVf) ?_
        clear hK
        refine fz_two 2 6 rfl rfl rfl rfl (by kernel_rfl) (fun K hK => ?_) (fun K hK => ?_)
        · go_simp
          obtain ⟨Vfa, hVfa⟩ : ∃ Vfa, Vfa = Vf.alloc (.cells #[] 2) := ⟨_, rfl⟩
          rw [← hVfa]
          have kk : On Vf Vfa := by rw [hVfa]; exact (On.refl Vf).alloc _
          have tVfa : Vfa.heap[Vf.heap.size]? = some (.cells #[] 2 (0, 0)) := by rw [hVfa]; exact heap_alloc_new Vf _
          have szVfa : Vf.heap.size < Vfa.heap.size := by rw [hVfa]; simp
          have sgVfa := kVf.size
          have PVfa := PVf.on kk
          have N14Vfa := Ty.on tVf kk
          have kVfa : On W5 Vfa := kVf.trans kk
          have o40Vfa : Vfa.ownsRow W5.heap.size 2 1 (.slice (some ⟨Vf.heap.size, 0, none⟩) 0 0) ([] : List Int).length (([] : List Int).flatMap intC) := by rw [hVfa]; exact World.ownsRow_made Vf #[] 0 (by omega) (Nat.zero_le _) rfl
          clear hVfa kk
          refine hK.out _ _ (fun _ => PVfa) ?_
          clear hK
          refine fz_two 4 6 rfl rfl rfl rfl (by kernel_rfl) (fun K hK => ?_) (fun K hK => ?_)
          · refine wp_append_rd (Operand.tmp 40) (Operand.tmp 41) rfl rfl rfl o40Vfa (HB.out.on (kB.trans kVfa)) (by simp; omega) (by have := kVfa.size; omega) ?_
            intro v42 Vfab own42 hg42
            simp only [List.nil_append] at own42
            obtain ⟨b42, d42, rfl⟩ := own_slice own42
            have PVfab := Bk.grown PVfa hg42 hN5 (fun g hg => (o40Vfa.lt g hg).1)
            have N14Vfab := Ty.grown N14Vfa o40Vfa neIntLoc hg42
            have kVfab : On W5 Vfab := On.grown kVfa hg42 (fun g hg => (o40Vfa.lt g hg).1)
            have szVfab := hg42.size
            refine hK.out _ _ (fun _ => PVfab) ?_
            clear hK
            simp only [Act.put, List.setIfInBounds_toArray, List.set_cons_zero, List.set_cons_succ]
            refine fz_one 6 rfl rfl (by kernel_rfl) (fun K hK => ?_)
            go_simp
            obtain ⟨Vfabc, hVfabc⟩ : ∃ Vfabc, Vfabc = Vfab.alloc (.cells #[.int .i64 v] 2) := ⟨_, rfl⟩
            rw [← hVfabc]
            have kk : On Vfab Vfabc := by rw [hVfabc]; exact (On.refl Vfab).alloc _
            have tVfabc : Vfabc.heap[Vfab.heap.size]? = some (.cells #[.int .i64 v] 2 (0, 0)) := by rw [hVfabc]; exact heap_alloc_new Vfab _
            have szVfabc : Vfab.heap.size < Vfabc.heap.size := by rw [hVfabc]; simp
            have sgVfabc := kVfab.size
            have PVfabc := PVfab.on kk
            have N14Vfabc := Ty.on N14Vfab kk
            have o42Vfabc := own_on own42 kk
            have kVfabc : On W5 Vfabc := kVfab.trans kk
            clear hVfabc kk
            refine hK.out _ _ (fun _ => PVfabc) ?_
            clear hK
            refine fz_one 7 rfl rfl (by kernel_rfl) (fun K hK => ?_)
            have R6 : Rd intC 1 Vfabc (.slice (some ⟨Vfab.heap.size, 0, none⟩) [v].length 1) [v] := Rd.bk (C := intC) (k := 1) (fun _ => rfl) (L := [v]) ⟨_, tVfabc⟩ 1 (by simp) (by simp)
            refine wp_append_rd (Operand.tmp 42) (Operand.tmp 44) rfl rfl rfl o42Vfabc R6 (by simp; omega) (by have := kVfabc.size; omega) ?_
            intro v45 Vfabcd own45 hg45
            rw [HLV.out] at own45
            obtain ⟨b45, d45, rfl⟩ := own_slice own45
            have PVfabcd := Bk.grown PVfabc hg45 hN5 (fun g hg => (o42Vfabc.lt g hg).1)
            have N14Vfabcd := Ty.grown N14Vfabc o42Vfabc neIntLoc hg45
            have kVfabcd : On W5 Vfabcd := On.grown kVfabc hg45 (fun g hg => (o42Vfabc.lt g hg).1)
            have szVfabcd := hg45.size
            refine hK.out _ _ (fun _ => PVfabcd) ?_
            clear hK
            simp only [Act.put, List.setIfInBounds_toArray, List.set_cons_zero, List.set_cons_succ]
            refine fz_one 8 rfl rfl (by kernel_rfl) (fun K hK => ?_)
            go_simp
            have R45 : Rd intC 1 Vfabcd (.slice b45 (vs.length + 1) d45) (vs ++ [v]) := Rd.own (C := intC) (fun _ => rfl) (by rw [HLV.out]; exact own45)
            refine (hV _ _ _ kVfabcd R45).mono ?_
            rintro _ Vfabcde ⟨b8, d8, rfl, ho8, kk⟩
            have PVfabcde := PVfabcd.on kk
            have N14Vfabcde := Ty.on N14Vfabcd kk
            have kVfabcde : On W5 Vfabcde := kVfabcd.trans kk
            have e8Vfabcde := own_mono ho8 (by have := kVfabcd.size; omega : W5.heap.size ≤ Vfabcd.heap.size)
            clear kk ho8
            refine hK.out _ _ (fun _ => PVfabcde) ?_
            clear hK
            refine fz_take 9 (v := ?_) rfl (by kernel_rfl) (by kernel_rfl) (by kernel_rfl) (by kernel_rfl) (fun _ _ _ h => h) rfl ?_ PVfabcde ?_
            rotate_left
            · intro W hW
              go_simp
              (try with_reducible rfl)
            simp only [Act.put, List.setIfInBounds_toArray, List.set_cons_zero, List.set_cons_succ]
            refine fz_take 10 (v := ?_) rfl (by kernel_rfl) (by kernel_rfl) (by kernel_rfl) (by kernel_rfl) (fun _ _ _ h => h) rfl ?_ PVfabcde ?_
            rotate_left
            · intro W hW
              go_simp
              (try with_reducible rfl)
            simp only [Act.put, List.setIfInBounds_toArray, List.set_cons_zero, List.set_cons_succ]
            refine fz_take 11 (v := ?_) rfl (by kernel_rfl) (by kernel_rfl) (by kernel_rfl) (by kernel_rfl) (fun _ _ _ h => h) rfl ?_ PVfabcde ?_
            rotate_left
            · intro W hW
              go_simp
              (try with_reducible rfl)
            simp only [Act.put, List.setIfInBounds_toArray, List.set_cons_zero, List.set_cons_succ]
            refine fz_take 12 (v := ?_) rfl (by kernel_rfl) (by kernel_rfl) (by kernel_rfl) (by kernel_rfl) (fun _ _ _ h => h) rfl ?_ PVfabcde ?_
            rotate_left
            · intro W hW
              go_simp
              (try with_reducible rfl)
            simp only [Act.put, List.setIfInBounds_toArray, List.set_cons_zero, List.set_cons_succ]
            refine fz_take 14 (v := ?_) rfl (by kernel_rfl) (by kernel_rfl) (by kernel_rfl) (by kernel_rfl) (fun _ _ _ h => h) rfl ?_ PVfabcde ?_
            rotate_left
            · intro W hW
              go_simp
              (try with_reducible rfl)
            simp only [Act.put, List.setIfInBounds_toArray, List.set_cons_zero, List.set_cons_succ]
            have M14 : Bk Vfabcde V0.heap.size #[.int .i64 0, .int .i64 0, .int .i64 0, .int .i64 0, .int .i64 0] := ⟨_, N14Vfabcde⟩
            have y0 := M14.at (i := 0) rfl
            have y1 := M14.at (i := 1) rfl
            have y2 := M14.at (i := 2) rfl
            have y3 := M14.at (i := 3) rfl
            have y4 := M14.at (i := 4) rfl
            have yf := fun i => M14.fr i
            have yl := M14.lt
            refine fz_one 15 rfl rfl (by kernel_rfl) (fun K hK => ?_)
            go_simp
            have PZ : Bk (((((Vfabcde.setCell ⟨V0.heap.size, 0, none⟩ (.int .i64 s0)).setCell ⟨V0.heap.size, 1, none⟩ (.int .i64 s1)).setCell ⟨V0.heap.size, 2, none⟩ (.int .i64 s2)).setCell ⟨V0.heap.size, 3, none⟩ (.int .i64 s3)).setCell ⟨V0.heap.size, 4, none⟩ (.int .i64 s4)) w1.heap.size #[.slice a1 LT.length c1, .slice a2 IN.length c2, .slice a3 LL.length c3] := by
              have hg14 := sgVf
              repeat' (first | with_reducible refine Bk.far ?_ (by omega) _ _ | with_reducible exact PVfabcde)
            refine hK.out _ _ (fun _ => PZ) ?_
            clear hK
            refine fz_take 16 (v := ?_) rfl (by kernel_rfl) (by kernel_rfl) (by kernel_rfl) (by kernel_rfl) (fun _ _ _ h => h) rfl ?_ PZ ?_
            rotate_left
            · intro W hW
              go_simp
              (try with_reducible rfl)
            simp only [Act.put, List.setIfInBounds_toArray, List.set_cons_zero, List.set_cons_succ]
            refine fz_done (by kernel_rfl) (NoPanic.normal ?_)
            have hg14 := sgVf
            go_wp2
            go_meet
            case rel =>
              refine ⟨b8, d8, rfl, own_set5T (cs := [.int .i64 0, .int .i64 0, .int .i64 0, .int .i64 0, .int .i64 0]) e8Vfabcde N14Vfabcde neEvLoc _ _ _ _ _, ?_⟩
              repeat' (first | with_reducible refine On.setNew ?_ (by omega) _ | with_reducible exact kVfabcde)
          · go_simp
            obtain ⟨Vfac, hVfac⟩ : ∃ Vfac, Vfac = Vfa.alloc (.cells #[.int .i64 v] 2) := ⟨_, rfl⟩
            rw [← hVfac]
            have kk : On Vfa Vfac := by rw [hVfac]; exact (On.refl Vfa).alloc _
            have tVfac : Vfac.heap[Vfa.heap.size]? = some (.cells #[.int .i64 v] 2 (0, 0)) := by rw [hVfac]; exact heap_alloc_new Vfa _
            have szVfac : Vfa.heap.size < Vfac.heap.size := by rw [hVfac]; simp
            have sgVfac := kVfa.size
            have PVfac := PVfa.on kk
            have N14Vfac := Ty.on N14Vfa kk
            have o40Vfac := own_on o40Vfa kk
            have kVfac : On W5 Vfac := kVfa.trans kk
            clear hVfac kk
            refine hK.out _ _ (fun _ => PVfac) ?_
            clear hK
            refine fz_one 4 rfl rfl (by kernel_rfl) (fun K hK => ?_)
            refine wp_append_rd (Operand.tmp 40) (Operand.tmp 41) rfl rfl rfl o40Vfac (HB.out.on (kB.trans kVfac)) (by simp; omega) (by have := kVfac.size; omega) ?_
            intro v42 Vfacb own42 hg42
            simp only [List.nil_append] at own42
            obtain ⟨b42, d42, rfl⟩ := own_slice own42
            have PVfacb := Bk.grown PVfac hg42 hN5 (fun g hg => (o40Vfac.lt g hg).1)
            have N6Vfacb : Vfacb.heap[Vfa.heap.size]? = some (.cells #[.int .i64 v] 2 (0, 0)) := (hg42.block Vfa.heap.size (lt_of_block tVfac) (fun e => by have e1 : some Vfa.heap.size = some Vf.heap.size := e; simp only [Option.some.injEq] at e1; omega)).trans tVfac
            have N14Vfacb := Ty.grown N14Vfac o40Vfac neIntLoc hg42
            have kVfacb : On W5 Vfacb := On.grown kVfac hg42 (fun g hg => (o40Vfac.lt g hg).1)
            have szVfacb := hg42.size
            refine hK.out _ _ (fun _ => PVfacb) ?_
            clear hK
            simp only [Act.put, List.setIfInBounds_toArray, List.set_cons_zero, List.set_cons_succ]
            refine fz_one 7 rfl rfl (by kernel_rfl) (fun K hK => ?_)
            have R6 : Rd intC 1 Vfacb (.slice (some ⟨Vfa.heap.size, 0, none⟩) [v].length 1) [v] := Rd.bk (C := intC) (k := 1) (fun _ => rfl) (L := [v]) ⟨_, N6Vfacb⟩ 1 (by simp) (by simp)
            refine wp_append_rd (Operand.tmp 42) (Operand.tmp 44) rfl rfl rfl own42 R6 (by simp; omega) (by have := kVfacb.size; omega) ?_
            intro v45 Vfacbd own45 hg45
            rw [HLV.out] at own45
            obtain ⟨b45, d45, rfl⟩ := own_slice own45
            have PVfacbd := Bk.grown PVfacb hg45 hN5 (fun g hg => (own42.lt g hg).1)
            have N14Vfacbd := Ty.grown N14Vfacb own42 neIntLoc hg45
            have kVfacbd : On W5 Vfacbd := On.grown kVfacb hg45 (fun g hg => (own42.lt g hg).1)
            have szVfacbd := hg45.size
            refine hK.out _ _ (fun _ => PVfacbd) ?_
            clear hK
            simp only [Act.put, List.setIfInBounds_toArray, List.set_cons_zero, List.set_cons_succ]
            refine fz_one 8 rfl rfl (by kernel_rfl) (fun K hK => ?_)
            go_simp
            have R45 : Rd intC 1 Vfacbd (.slice b45 (vs.length + 1) d45) (vs ++ [v]) := Rd.own (C := intC) (fun _ => rfl) (by rw [HLV.out]; exact own45)
            refine (hV _ _ _ kVfacbd R45).mono ?_
            rintro _ Vfacbde ⟨b8, d8, rfl, ho8, kk⟩
            have PVfacbde := PVfacbd.on kk
            have N14Vfacbde := Ty.on N14Vfacbd kk
            have kVfacbde : On W5 Vfacbde := kVfacbd.trans kk
            have e8Vfacbde := own_mono ho8 (by have := kVfacbd.size; omega : W5.heap.size ≤ Vfacbd.heap.size)
            clear kk ho8
            refine hK.out _ _ (fun _ => PVfacbde) ?_
            clear hK
            refine fz_take 9 (v := ?_) rfl (by kernel_rfl) (by kernel_rfl) (by kernel_rfl) (by kernel_rfl) (fun _ _ _ h => h) rfl ?_ PVfacbde ?_
            rotate_left
            · intro W hW
              go_simp
              (try with_reducible rfl)
            simp only [Act.put, List.setIfInBounds_toArray, List.set_cons_zero, List.set_cons_succ]
            refine fz_take 10 (v := ?_) rfl (by kernel_rfl) (by kernel_rfl) (by kernel_rfl) (by kernel_rfl) (fun _ _ _ h => h) rfl ?_ PVfacbde ?_
            rotate_left
            · intro W hW
              go_simp
              (try with_reducible rfl)
            simp only [Act.put, List.setIfInBounds_toArray, List.set_cons_zero, List.set_cons_succ]
            refine fz_take 11 (v := ?_) rfl (by kernel_rfl) (by kernel_rfl) (by kernel_rfl) (by kernel_rfl) (fun _ _ _ h => h) rfl ?_ PVfacbde ?_
            rotate_left
            · intro W hW
              go_simp
              (try with_reducible rfl)
            simp only [Act.put, List.setIfInBounds_toArray, List.set_cons_zero, List.set_cons_succ]
            refine fz_take 12 (v := ?_) rfl (by kernel_rfl) (by kernel_rfl) (by kernel_rfl) (by kernel_rfl) (fun _ _ _ h => h) rfl ?_ PVfacbde ?_
            rotate_left
            · intro W hW
              go_simp
              (try with_reducible rfl)
            simp only [Act.put, List.setIfInBounds_toArray, List.set_cons_zero, List.set_cons_succ]
            refine fz_take 14 (v := ?_) rfl (by kernel_rfl) (by kernel_rfl) (by kernel_rfl) (by kernel_rfl) (fun _ _ _ h => h) rfl ?_ PVfacbde ?_
            rotate_left
            · intro W hW
              go_simp
              (try with_reducible rfl)
            simp only [Act.put, List.setIfInBounds_toArray, List.set_cons_zero, List.set_cons_succ]
            have M14 : Bk Vfacbde V0.heap.size #[.int .i64 0, .int .i64 0, .int .i64 0, .int .i64 0, .int .i64 0] := ⟨_, N14Vfacbde⟩
            have y0 := M14.at (i := 0) rfl
            have y1 := M14.at (i := 1) rfl
            have y2 := M14.at (i := 2) rfl
            have y3 := M14.at (i := 3) rfl
            have y4 := M14.at (i := 4) rfl
            have yf := fun i => M14.fr i
            have yl := M14.lt
            refine fz_one 15 rfl rfl (by kernel_rfl) (fun K hK => ?_)
            go_simp
            have PZ : Bk (((((Vfacbde.setCell ⟨V0.heap.size, 0, none⟩ (.int .i64 s0)).setCell ⟨V0.heap.size, 1, none⟩ (.int .i64 s1)).setCell ⟨V0.heap.size, 2, none⟩ (.int .i64 s2)).setCell ⟨V0.heap.size, 3, none⟩ (.int .i64 s3)).setCell ⟨V0.heap.size, 4, none⟩ (.int .i64 s4)) w1.heap.size #[.slice a1 LT.length c1, .slice a2 IN.length c2, .slice a3 LL.length c3] := by
              have hg14 := sgVf
              repeat' (first | with_reducible refine Bk.far ?_ (by omega) _ _ | with_reducible exact PVfacbde)
            refine hK.out _ _ (fun _ => PZ) ?_
            clear hK
            refine fz_take 16 (v := ?_) rfl (by kernel_rfl) (by kernel_rfl) (by kernel_rfl) (by kernel_rfl) (fun _ _ _ h => h) rfl ?_ PZ ?_
            rotate_left
            · intro W hW
              go_simp
              (try with_reducible rfl)
            simp only [Act.put, List.setIfInBounds_toArray, List.set_cons_zero, List.set_cons_succ]
            refine fz_done (by kernel_rfl) (NoPanic.normal ?_)
            have hg14 := sgVf
            go_wp2
            go_meet
            case rel =>
              refine ⟨b8, d8, rfl, own_set5T (cs := [.int .i64 0, .int .i64 0, .int .i64 0, .int .i64 0, .int .i64 0]) e8Vfacbde N14Vfacbde neEvLoc _ _ _ _ _, ?_⟩
              repeat' (first | with_reducible refine On.setNew ?_ (by omega) _ | with_reducible exact kVfacbde)
        · go_simp
          obtain ⟨Vfc, hVfc⟩ : ∃ Vfc, Vfc = Vf.alloc (.cells #[.int .i64 v] 2) := ⟨_, rfl⟩
          rw [← hVfc]
          have kk : On Vf Vfc := by rw [hVfc]; exact (On.refl Vf).alloc _
          have tVfc : Vfc.heap[Vf.heap.size]? = some (.cells #[.int .i64 v] 2 (0, 0)) := by rw [hVfc]; exact heap_alloc_new Vf _
          have szVfc : Vf.heap.size < Vfc.heap.size := by rw [hVfc]; simp
          have sgVfc := kVf.size
          have PVfc := PVf.on kk
          have N14Vfc := Ty.on tVf kk
          have kVfc : On W5 Vfc := kVf.trans kk
          clear hVfc kk
          refine hK.out _ _ (fun _ => PVfc) ?_
          clear hK
          refine fz_one 2 rfl rfl (by kernel_rfl) (fun K hK => ?_)
          go_simp
          obtain ⟨Vfca, hVfca⟩ : ∃ Vfca, Vfca = Vfc.alloc (.cells #[] 2) := ⟨_, rfl⟩
          rw [← hVfca]
          have kk : On Vfc Vfca := by rw [hVfca]; exact (On.refl Vfc).alloc _
          have tVfca : Vfca.heap[Vfc.heap.size]? = some (.cells #[] 2 (0, 0)) := by rw [hVfca]; exact heap_alloc_new Vfc _
          have szVfca : Vfc.heap.size < Vfca.heap.size := by rw [hVfca]; simp
          have sgVfca := kVfc.size
          have PVfca := PVfc.on kk
          have N6Vfca := Ty.on tVfc kk
          have N14Vfca := Ty.on N14Vfc kk
          have kVfca : On W5 Vfca := kVfc.trans kk
          have o40Vfca : Vfca.ownsRow W5.heap.size 2 1 (.slice (some ⟨Vfc.heap.size, 0, none⟩) 0 0) ([] : List Int).length (([] : List Int).flatMap intC) := by rw [hVfca]; exact World.ownsRow_made Vfc #[] 0 (by omega) (Nat.zero_le _) rfl
          clear hVfca kk
          refine hK.out _ _ (fun _ => PVfca) ?_
          clear hK
          refine fz_one 4 rfl rfl (by kernel_rfl) (fun K hK => ?_)
          refine wp_append_rd (Operand.tmp 40) (Operand.tmp 41) rfl rfl rfl o40Vfca (HB.out.on (kB.trans kVfca)) (by simp; omega) (by have := kVfca.size; omega) ?_
          intro v42 Vfcab own42 hg42
          simp only [List.nil_append] at own42
          obtain ⟨b42, d42, rfl⟩ := own_slice own42
          have PVfcab := Bk.grown PVfca hg42 hN5 (fun g hg => (o40Vfca.lt g hg).1)
          have N6Vfcab : Vfcab.heap[Vf.heap.size]? = some (.cells #[.int .i64 v] 2 (0, 0)) := (hg42.block Vf.heap.size (lt_of_block N6Vfca) (fun e => by have e1 : some Vf.heap.size = some Vfc.heap.size := e; simp only [Option.some.injEq] at e1; omega)).trans N6Vfca
          have N14Vfcab := Ty.grown N14Vfca o40Vfca neIntLoc hg42
          have kVfcab : On W5 Vfcab := On.grown kVfca hg42 (fun g hg => (o40Vfca.lt g hg).1)
          have szVfcab := hg42.size
          refine hK.out _ _ (fun _ => PVfcab) ?_
          clear hK
          simp only [Act.put, List.setIfInBounds_toArray, List.set_cons_zero, List.set_cons_succ]
          refine fz_one 7 rfl rfl (by kernel_rfl) (fun K hK => ?_)
          have R6 : Rd intC 1 Vfcab (.slice (some ⟨Vf.heap.size, 0, none⟩) [v].length 1) [v] := Rd.bk (C := intC) (k := 1) (fun _ => rfl) (L := [v]) ⟨_, N6Vfcab⟩ 1 (by simp) (by simp)
          refine wp_append_rd (Operand.tmp 42) (Operand.tmp 44) rfl rfl rfl own42 R6 (by simp; omega) (by have := kVfcab.size; omega) ?_
          intro v45 Vfcabd own45 hg45
          rw [HLV.out] at own45
          obtain ⟨b45, d45, rfl⟩ := own_slice own45
          have PVfcabd := Bk.grown PVfcab hg45 hN5 (fun g hg => (own42.lt g hg).1)
          have N14Vfcabd := Ty.grown N14Vfcab own42 neIntLoc hg45
          have kVfcabd : On W5 Vfcabd := On.grown kVfcab hg45 (fun g hg => (own42.lt g hg).1)
          have szVfcabd := hg45.size
          refine hK.out _ _ (fun _ => PVfcabd) ?_
          clear hK
          simp only [Act.put, List.setIfInBounds_toArray, List.set_cons_zero, List.set_cons_succ]
          refine fz_one 8 rfl rfl (by kernel_rfl) (fun K hK => ?_)
          go_simp
          have R45 : Rd intC 1 Vfcabd (.slice b45 (vs.length + 1) d45) (vs ++ [v]) := Rd.own (C := intC) (fun _ => rfl) (by rw [HLV.out]; exact own45)
          refine (hV _ _ _ kVfcabd R45).mono ?_
          rintro _ Vfcabde ⟨b8, d8, rfl, ho8, kk⟩
          have PVfcabde := PVfcabd.on kk
          have N14Vfcabde := Ty.on N14Vfcabd kk
          have kVfcabde : On W5 Vfcabde := kVfcabd.trans kk
          have e8Vfcabde := own_mono ho8 (by have := kVfcabd.size; omega : W5.heap.size ≤ Vfcabd.heap.size)
          clear kk ho8
          refine hK.out _ _ (fun _ => PVfcabde) ?_
          clear hK
          refine fz_take 9 (v := ?_) rfl (by kernel_rfl) (by kernel_rfl) (by kernel_rfl) (by kernel_rfl) (fun _ _ _ h => h) rfl ?_ PVfcabde ?_
          rotate_left
          · intro W hW
            go_simp
            (try with_reducible rfl)
          simp only [Act.put, List.setIfInBounds_toArray, List.set_cons_zero, List.set_cons_succ]
          refine fz_take 10 (v := ?_) rfl (by kernel_rfl) (by kernel_rfl) (by kernel_rfl) (by kernel_rfl) (fun _ _ _ h => h) rfl ?_ PVfcabde ?_
          rotate_left
          · intro W hW
            go_simp
            (try with_reducible rfl)
          simp only [Act.put, List.setIfInBounds_toArray, List.set_cons_zero, List.set_cons_succ]
          refine fz_take 11 (v := ?_) rfl (by kernel_rfl) (by kernel_rfl) (by kernel_rfl) (by kernel_rfl) (fun _ _ _ h => h) rfl ?_ PVfcabde ?_
          rotate_left
          · intro W hW
            go_simp
            (try with_reducible rfl)
          simp only [Act.put, List.setIfInBounds_toArray, List.set_cons_zero, List.set_cons_succ]
          refine fz_take 12 (v := ?_) rfl (by kernel_rfl) (by kernel_rfl) (by kernel_rfl) (by kernel_rfl) (fun _ _ _ h => h) rfl ?_ PVfcabde ?_
          rotate_left
          · intro W hW
            go_simp
            (try with_reducible rfl)
          simp only [Act.put, List.setIfInBounds_toArray, List.set_cons_zero, List.set_cons_succ]
          refine fz_take 14 (v := ?_) rfl (by kernel_rfl) (by kernel_rfl) (by kernel_rfl) (by kernel_rfl) (fun _ _ _ h => h) rfl ?_ PVfcabde ?_
          rotate_left
          · intro W hW
            go_simp
            (try with_reducible rfl)
          simp only [Act.put, List.setIfInBounds_toArray, List.set_cons_zero, List.set_cons_succ]
          have M14 : Bk Vfcabde V0.heap.size #[.int .i64 0, .int .i64 0, .int .i64 0, .int .i64 0, .int .i64 0] := ⟨_, N14Vfcabde⟩
          have y0 := M14.at (i := 0) rfl
          have y1 := M14.at (i := 1) rfl
          have y2 := M14.at (i := 2) rfl
          have y3 := M14.at (i := 3) rfl
          have y4 := M14.at (i := 4) rfl
          have yf := fun i => M14.fr i
          have yl := M14.lt
          refine fz_one 15 rfl rfl (by kernel_rfl) (fun K hK => ?_)
          go_simp
          have PZ : Bk (((((Vfcabde.setCell ⟨V0.heap.size, 0, none⟩ (.int .i64 s0)).setCell ⟨V0.heap.size, 1, none⟩ (.int .i64 s1)).setCell ⟨V0.heap.size, 2, none⟩ (.int .i64 s2)).setCell ⟨V0.heap.size, 3, none⟩ (.int .i64 s3)).setCell ⟨V0.heap.size, 4, none⟩ (.int .i64 s4)) w1.heap.size #[.slice a1 LT.length c1, .slice a2 IN.length c2, .slice a3 LL.length c3] := by
            have hg14 := sgVf
            repeat' (first | with_reducible refine Bk.far ?_ (by omega) _ _ | with_reducible exact PVfcabde)
          refine hK.out _ _ (fun _ => PZ) ?_
          clear hK
          refine fz_take 16 (v := ?_) rfl (by kernel_rfl) (by kernel_rfl) (by kernel_rfl) (by kernel_rfl) (fun _ _ _ h => h) rfl ?_ PZ ?_
          rotate_left
          · intro W hW
            go_simp
            (try with_reducible rfl)
          simp only [Act.put, List.setIfInBounds_toArray, List.set_cons_zero, List.set_cons_succ]
          refine fz_done (by kernel_rfl) (NoPanic.normal ?_)
          have hg14 := sgVf
          go_wp2
          go_meet
          case rel =>
            refine ⟨b8, d8, rfl, own_set5T (cs := [.int .i64 0, .int .i64 0, .int .i64 0, .int .i64 0, .int .i64 0]) e8Vfcabde N14Vfcabde neEvLoc _ _ _ _ _, ?_⟩
            repeat' (first | with_reducible refine On.setNew ?_ (by omega) _ | with_reducible exact kVfcabde)
    case rest =>
      obtain ⟨b2, d2, rfl, ho2, kC⟩ := hcut
      have HE6 : Hid (Rd evC 6 wc (.slice b1 E.length d1) E) := HE5.out.on kC
      have HF6 : Hid (Rd evC 6 wc (.slice b2 F.length d2) F) := Rd.own (C := evC) (fun _ => rfl) ho2
      have K6 : On w wc := kB.trans kC
      have hE := fun W => eqEv_same W
      obtain ⟨_, _, _, _, hmF⟩ := HF6.out.slice
      have HAT : Hid (∀ n x, E[n]? = some x → x.t = (th : Int) ∧ x.i = ((0 + n : Nat) : Int)) := fun n x hx => evOk_at E _ 0 _ n x HK1.out hx
      have HFN : Hid (∀ n x, E[n]? = some x → F[n]? = some x) := fun n x hx => by
        cases MB with
        | false => rw [HON.out.1 rfl]; exact hx
        | true =>
          obtain ⟨e, T, h, _⟩ := HON.out.2 rfl
          rw [h, List.getElem?_append_left (List.getElem?_eq_some_iff.1 hx).1]
          exact hx
      clear HE5 ho2 kC HK1 hV P5 K15 kB hN5
      cases MB with
      | false =>
        have hFE := HON.out.1 rfl
        subst hFE
        clear HON HFN
        go_wp2
        go_loopg [16] F.length (fun gg s16 wq => ∃ n : Nat, n ≤ F.length ∧ gg = F.length - n ∧ s16 = .int .i64 n ∧ Hid (On wc wq))
        case atStart => exact ⟨0, Nat.zero_le _, rfl, rfl, On.refl wc⟩
        case round =>
          obtain ⟨n, hn, hk, rfl, HO⟩ := hrel
          rcases Nat.lt_or_ge n F.length with hlt' | hge
          · obtain ⟨x, hx⟩ : ∃ x, F[n]? = some x := ⟨_, List.getElem?_eq_getElem hlt'⟩
            obtain ⟨h1, h2⟩ := HAT.out n x hx
            obtain ⟨g1, o1, rfl, hg1, p0, p1, p2, p3, p4, p5⟩ := rd_ev (HE6.out.on HO.out) hx
            obtain ⟨g2, o2, rfl, hg2, q0, q1, q2, q3, q4, q5⟩ := rd_ev (HF6.out.on HO.out) (hx)
            rw [Nat.zero_add] at h2
            obtain ⟨xt, xi, xk, xl, xr, xw⟩ := x
            simp only at h1 h2 p0 p1 p2 p3 p4 p5 q0 q1 q2 q3 q4 q5
            subst h1
            subst h2
            have bn0 : (0 : Int) ≤ (n : Int) := by omega
            have bn1 : (n : Int) < (F.length : Int) := by omega
            have bn2 : (n : Int) < (F.length : Int) := by omega
            have hnF : n < F.length := by omega
            have hEx := fun W => hE W (th : Int) (n : Int) xk xl xr xw
            clear hx hE
            go_wp2
            go_quiet (fail)
            go_wp2
            go_roundg (F.length - (n + 1))
            case measure => omega
            case rel => exact ⟨n + 1, by omega, rfl, by go_num, On.drewN HO.out _⟩
          · obtain rfl : n = F.length := by omega
            go_wp2_with (go_at_call 11; refine (hA _).mono ?_; rintro _ wz ⟨rfl, kz⟩)
            go_ret
            exact ⟨rfl, (K6.trans HO.out).trans kz⟩
      | true =>
        obtain ⟨e, T, hFE, her, hev⟩ := HON.out.2 rfl
        have hFl : F.length = E.length + 1 + T.length := by rw [hFE]; simp; omega
        have hFe : F[E.length]? = some e := by rw [hFE, List.getElem?_append_right (Nat.le_refl _), Nat.sub_self]; rfl
        have HFe : Hid (F[E.length]? = some e) := hFe
        have dl1 : decide (F.length < E.length) = false := by simp; omega
        have dl2 : ((F.length : Int) == (E.length : Int)) = false := by rw [beq_eq_false_iff_ne]; omega
        have dl4 : (F.length == E.length) = false := by rw [beq_eq_false_iff_ne]; omega
        have dl3 : decide ((F.length : Int) < (E.length : Int)) = false := by simp; omega
        have hFg : E.length < F.length := by omega
        have HER : Hid (rdsB e.k = true) := her
        clear HON hFE hFl hFe her
        go_wp2
        go_loopg [16] E.length (fun gg s16 wq => ∃ n : Nat, n ≤ E.length ∧ gg = E.length - n ∧ s16 = .int .i64 n ∧ Hid (On wc wq))
        case atStart => exact ⟨0, Nat.zero_le _, rfl, rfl, On.refl wc⟩
        case round =>
          obtain ⟨n, hn, hk, rfl, HO⟩ := hrel
          rcases Nat.lt_or_ge n E.length with hlt' | hge
          · obtain ⟨x, hx⟩ : ∃ x, E[n]? = some x := ⟨_, List.getElem?_eq_getElem hlt'⟩
            obtain ⟨h1, h2⟩ := HAT.out n x hx
            obtain ⟨g1, o1, rfl, hg1, p0, p1, p2, p3, p4, p5⟩ := rd_ev (HE6.out.on HO.out) hx
            obtain ⟨g2, o2, rfl, hg2, q0, q1, q2, q3, q4, q5⟩ := rd_ev (HF6.out.on HO.out) (HFN.out n x hx)
            rw [Nat.zero_add] at h2
            obtain ⟨xt, xi, xk, xl, xr, xw⟩ := x
            simp only at h1 h2 p0 p1 p2 p3 p4 p5 q0 q1 q2 q3 q4 q5
            subst h1
            subst h2
            have bn0 : (0 : Int) ≤ (n : Int) := by omega
            have bn1 : (n : Int) < (E.length : Int) := by omega
            have bn2 : (n : Int) < (F.length : Int) := by omega
            have hnF : n < F.length := by omega
            have hEx := fun W => hE W (th : Int) (n : Int) xk xl xr xw
            clear hx hE
            go_wp2
            go_quiet (fail)
            go_wp2
            go_roundg (E.length - (n + 1))
            case measure => omega
            case rel => exact ⟨n + 1, by omega, rfl, by go_num, On.drewN HO.out _⟩
          · obtain rfl : n = E.length := by omega
            obtain ⟨g2, o2, rfl, hg2, q0, q1, q2, q3, q4, q5⟩ := rd_ev (HF6.out.on HO.out) HFe.out
            have hRd := fun W => ereads_is e W
            rw [HER.out] at hRd
            unfold evV at hRd
            obtain ⟨et, ei, ek, el, er, ew⟩ := e
            simp only at hev hRd q0 q1 q2 q3 q4 q5
            subst hev
            have bn0 : (0 : Int) ≤ (E.length : Int) := by omega
            have bn1 : (E.length : Int) < (F.length : Int) := by omega
            have KR : On w wr := K6.trans HO.out
            clear hE HAT HFN HER
            go_wp2_with fail
            refine (hRd _).mono ?_
            rintro _ w8 ⟨rfl, k8⟩
            have r4 := (k8.cell (p := ⟨g2, o2 + E.length * 6 + 4, none⟩) hg2).trans q4
            have hg8 := Nat.lt_of_lt_of_le hg2 k8.size
            clear q0 q1 q2 q3 q4 q5 hg2 hRd
            go_wp2_with (go_at_call 11; refine (hA _).mono ?_; rintro _ wz ⟨rfl, kz⟩)
            go_ret
            exact ⟨rfl, (KR.trans k8).trans kz⟩
end Go.Proofs.Ytkglmhclpgfngaa
