/- The law VmWaits, walked. -/
import Derived.Test.YtplihlmejnohnaaGreatDoorJ51VmL
import Derived.Test.YtplihlmejnohnaaGreatDoorJ36AgS
namespace Go.Proofs.YtplihlmejnohnaaGreatDoor
open Go.RowKit

theorem and_one (z : Int) : ∃ n : Nat, n < 2 ∧ bits .and .i64 z 1 = (n : Int) := by
  obtain ⟨k, h, e, g⟩ := i64_low z 1 1 (by decide) (by decide)
  exact ⟨k, by simpa using h, e⟩
theorem and_low (z : Int) : ∃ n : Nat, bits .and .i64 z 65535 = (n : Int) := ⟨_, low16 z⟩
def arrF (f : Nat → Int) : List Value := (List.range 24).map (fun q => .int .i64 (f q))
theorem arrF_len (f : Nat → Int) : (arrF f).length = 24 := by unfold arrF; simp
theorem arrF_at (f : Nat → Int) {q : Nat} (h : q < 24) : (arrF f).toArray[q]? = some (.int .i64 (f q)) := by
  unfold arrF
  rw [List.getElem?_toArray, List.getElem?_map, List.getElem?_range h]
  rfl
theorem arrF_set (f : Nat → Int) {q : Nat} (h : q < 24) (v : Int) : (arrF f).set q (.int .i64 v) = arrF (upf f q v) := by
  apply List.ext_getElem?
  intro i
  rw [List.getElem?_set]
  unfold arrF
  rw [List.length_map, List.length_range, List.getElem?_map, List.getElem?_map]
  by_cases hi : i < 24
  · rw [List.getElem?_range hi]
    unfold upf
    by_cases hq : q = i
    · subst hq
      rw [if_pos rfl, if_pos h]
      show _ = some (Value.int .i64 (if q = q then v else f q))
      rw [if_pos rfl]
    · rw [if_neg hq]
      show some _ = some (Value.int .i64 (if i = q then v else f i))
      rw [if_neg (fun e => hq e.symm)]
  · rw [List.getElem?_eq_none (by simpa using hi)]
    by_cases hq : q = i
    · omega
    · rw [if_neg hq]
      rfl
theorem arrF_eq {f g : Nat → Int} (h : ∀ q, q < 24 → f q = g q) : arrF f = arrF g := by
  unfold arrF
  apply List.map_congr_left
  intro q hq
  rw [h q (List.mem_range.1 hq)]
theorem arr24_info : (Tryz.prog.info? 55).map (fun i => (i.zero, i.size)) = some (some (.agg (arrF (fun _ => 0)).toArray), 24) := by kernel_rfl
theorem arr24_zero : ∀ w, (zeroValue 55).run Tryz.prog w = .ok (.agg (arrF (fun _ => 0)).toArray) w := (zero_of_info arr24_info).1
theorem cnt_zero (LL : List (List InsT)) (IN : List Int) (m : Int) (q : Nat) : cntQ (startV LL IN m) q = 0 := by
  unfold cntQ
  show (if m = 3 then (if _ then (filtW 3 [] _).length else 0) else if _ then ([] : List EnT).length else 0) = 0
  split <;> split <;> rfl
theorem cntQ_le {LL : List (List InsT)} {V : VmT} (hL : LOk LL) (k : VOk LL V) (q : Nat) : cntQ V q ≤ 10 := by
  have h : ∀ t, (V.b t).length ≤ 10 := fun t => by
    have h1 := k.few t
    have h2 := k.pc1 t
    have h3 := thr_any (LL := LL) (Q := fun L => L.length ≤ 10) (Nat.zero_le _) hL.ten t
    omega
  unfold cntQ filtW
  split <;> split
  · exact Nat.le_trans (List.length_filter_le _ _) (h _)
  · omega
  · exact h _
  · omega
theorem wrapQ {n : Nat} (h : n ≤ 10) : IntKind.i64.wrap ((n : Int) - 1) = (n : Int) - 1 := by
  rcases Nat.eq_zero_or_pos n with rfl | hp
  · rfl
  · exact wrapT (by omega) (by omega)
theorem arr_up {V V' : VmT} {mm : Int} {s : StT} {qq : Nat} (H : ∀ q : Nat, (cntQ V' q : Int) = cntQ V q + (if s.k = 2 ∧ (q : Int) = qqS mm s then 1 else 0) - (if s.k = 6 ∧ (q : Int) = qqS mm s then 1 else 0)) (hq : (qq : Int) = qqS mm s) (hk : s.k = 2) :
    arrF (upf (fun q => (cntQ V q : Nat)) qq ((cntQ V qq : Nat) + 1)) = arrF (fun q => (cntQ V' q : Nat)) := arrF_eq (fun q _ => by
  show upf (fun q => ((cntQ V q : Nat) : Int)) qq ((cntQ V qq : Nat) + 1) q = (cntQ V' q : Int)
  have := H q
  rw [if_neg (show ¬ (s.k = 6 ∧ (q : Int) = qqS mm s) from fun h => by rw [hk] at h; cases h.1)] at this
  unfold upf
  by_cases h : q = qq
  · subst h
    rw [if_pos ⟨hk, hq⟩] at this
    rw [if_pos rfl]
    omega
  · rw [if_neg (show ¬ (s.k = 2 ∧ (q : Int) = qqS mm s) from fun g => h (by have := g.2; omega))] at this
    rw [if_neg h]
    show ((cntQ V q : Nat) : Int) = (cntQ V' q : Int)
    omega)
theorem arr_down {V V' : VmT} {mm : Int} {s : StT} {qq : Nat} (H : ∀ q : Nat, (cntQ V' q : Int) = cntQ V q + (if s.k = 2 ∧ (q : Int) = qqS mm s then 1 else 0) - (if s.k = 6 ∧ (q : Int) = qqS mm s then 1 else 0)) (hq : (qq : Int) = qqS mm s) (hk : s.k = 6) :
    arrF (upf (fun q => (cntQ V q : Nat)) qq ((cntQ V qq : Nat) - 1)) = arrF (fun q => (cntQ V' q : Nat)) := arrF_eq (fun q _ => by
  show upf (fun q => ((cntQ V q : Nat) : Int)) qq ((cntQ V qq : Nat) - 1) q = (cntQ V' q : Int)
  have := H q
  rw [if_neg (show ¬ (s.k = 2 ∧ (q : Int) = qqS mm s) from fun h => by rw [hk] at h; cases h.1)] at this
  unfold upf
  by_cases h : q = qq
  · subst h
    rw [if_pos ⟨hk, hq⟩] at this
    rw [if_pos rfl]
    omega
  · rw [if_neg (show ¬ (s.k = 6 ∧ (q : Int) = qqS mm s) from fun g => h (by have := g.2; omega))] at this
    rw [if_neg h]
    show ((cntQ V q : Nat) : Int) = (cntQ V' q : Int)
    omega)
theorem arr_same {V V' : VmT} {mm : Int} {s : StT} (H : ∀ q : Nat, (cntQ V' q : Int) = cntQ V q + (if s.k = 2 ∧ (q : Int) = qqS mm s then 1 else 0) - (if s.k = 6 ∧ (q : Int) = qqS mm s then 1 else 0)) (hk : ¬ s.k = 2) (hk' : ¬ s.k = 6) :
    arrF (fun q => (cntQ V q : Nat)) = arrF (fun q => (cntQ V' q : Nat)) := arrF_eq (fun q _ => by
  have := H q
  rw [if_neg (fun h => hk h.1), if_neg (fun h => hk' h.1)] at this
  show (cntQ V q : Int) = (cntQ V' q : Int)
  omega)
theorem w4_a {t : Nat} (h : t < 4) : wrap64 (4 + (t : Int)) = ((4 + t : Nat) : Int) := by rw [wrapS (by omega) (by omega)]; omega
theorem w4_b {t : Nat} (h : t < 4) : IntKind.i64.wrap (4 + (t : Int)) = ((4 + t : Nat) : Int) := by rw [wrapT (by omega) (by omega)]; omega
theorem w4_c {t : Nat} (h : t < 4) : wrap64 (4 * (t : Int)) = ((4 * t : Nat) : Int) := by rw [wrapS (by omega) (by omega)]; omega
theorem w4_d {t : Nat} (h : t < 4) : IntKind.i64.wrap (4 * (t : Int)) = ((4 * t : Nat) : Int) := by rw [wrapT (by omega) (by omega)]; omega
theorem w4_e {t : Nat} (h : t < 4) : wrap64 (8 + ((4 * t : Nat) : Int)) = ((8 + 4 * t : Nat) : Int) := by rw [wrapS (by omega) (by omega)]; omega
theorem w4_f {t : Nat} (h : t < 4) : IntKind.i64.wrap (8 + ((4 * t : Nat) : Int)) = ((8 + 4 * t : Nat) : Int) := by rw [wrapT (by omega) (by omega)]; omega
theorem w4_g {t l : Nat} (h : t < 4) (h' : l < 4) : wrap64 (((8 + 4 * t : Nat) : Int) + (l : Int)) = ((8 + 4 * t + l : Nat) : Int) := by rw [wrapS (by omega) (by omega)]; omega
theorem w4_h {t l : Nat} (h : t < 4) (h' : l < 4) : IntKind.i64.wrap (((8 + 4 * t : Nat) : Int) + (l : Int)) = ((8 + 4 * t + l : Nat) : Int) := by rw [wrapT (by omega) (by omega)]; omega
theorem c10_a {n : Nat} (h : n ≤ 10) : wrap64 ((n : Int) + 1) = (n : Int) + 1 := wrapS (by omega) (by omega)
theorem c10_b {n : Nat} (h : n ≤ 10) : IntKind.i64.wrap ((n : Int) + 1) = (n : Int) + 1 := wrapT (by omega) (by omega)
theorem c10_c {n : Nat} (h : n ≤ 10) : wrap64 ((n : Int) - 1) = (n : Int) - 1 := wrapS (by omega) (by omega)
theorem upw_one {n m : Nat} (h : n < m) (hm : m ≤ 1000) : IntKind.i64.wrap ((n : Int) + 1) = ((n + 1 : Nat) : Int) := wrapT (k := (n : Int) + 1) (by omega) (by omega)
set_option maxHeartbeats 16000000 in
set_option maxRecDepth 8000 in
theorem vmWaits_walk (ao : Option Addr) (zs : List Int) (cap : Nat) (m0 : Int) (bo : Option Addr) (vs : List Int) (capb : Nat) (w : World) (hz : zs.length ≤ 9223372036854775807) (hr : Rd intC 1 w (.slice ao zs.length cap) zs) (hzb : vs.length ≤ 9223372036854775807) (hrb : Rd intC 1 w (.slice bo vs.length capb) vs) (hW : W16 w) :
    Calls Tryz.prog 7 #[.slice ao zs.length cap, .int .i64 m0, .slice bo vs.length capb] w fun e w' => e = .returned (.bool true) ∧ On w w' := by
  have HB : Hid (Rd intC 1 w (.slice bo vs.length capb) vs) := hrb
  have HZB : Hid (vs.length ≤ 9223372036854775807) := hzb
  clear hrb hzb
  obtain ⟨mb, hmb2, hmb⟩ := and_one m0
  obtain ⟨mm, hmm⟩ : ∃ mm : Int, mm = (mb : Int) + 2 := ⟨_, rfl⟩
  have hov0 : IntKind.i64.wrap ((mb : Int) + 2) = mm := by rw [wrapT (by omega) (by omega)]; exact hmm.symm
  have hov1 : wrap64 ((mb : Int) + 2) = mm := by rw [wrapS (by omega) (by omega)]; exact hmm.symm
  have HM : Hid (1 ≤ mm ∧ mm ≤ 3) := by show _ ∧ _; omega
  have HM2 : Hid (mm = 2 ∨ mm = 3) := by show _ ∨ _; omega
  clear hmm hmb2
  have HW : Hid (W16 w) := hW
  have HA : Hid (∀ W, On w W → Calls Tryz.prog 18 #[] W fun e w' => e = .returned (.bool true) ∧ On W w') := fun W h => awake16_is W (hW.on h).lw (hW.on h).db (hW.on h).pw
  have hO := of_is zs ao cap 12 w hz hr
  obtain ⟨LL, hLL⟩ : ∃ LL, LL = ofT zs 12 := ⟨_, rfl⟩
  have HAG : Hid (AgOk (ltO zs 12) (inO zs 12) LL) := by rw [hLL]; exact ag_made zs 12
  have HLK : Hid (LOk LL) := by rw [hLL]; exact lok_made zs 12
  have HIN : Hid (∀ v ∈ inO zs 12, B64 v) := in_made zs 12
  have hO' : Calls Tryz.prog 9 #[.slice ao zs.length cap, .int .i64 12] w fun e w' => ∃ pv, e = .returned pv ∧ ProgFl w' pv (ltO zs 12) (inO zs 12) LL ∧ On w w' := by rw [hLL]; exact hO
  generalize ltO zs 12 = LT at *
  generalize inO zs 12 = IN at *
  clear hO hLL hr hz hW
  go_enter Tryz.func7, Tryz.ntmps7
  go_wp2_with fail
  refine hO'.mono ?_
  rintro _ w1 ⟨pv, rfl, hpv, k1⟩
  obtain ⟨b1, d1, b2, d2, b3, d3, rfl, _, _, _⟩ := hpv.ex
  obtain ⟨i1, hi1⟩ : ∃ i1, i1 = LT.length := ⟨_, rfl⟩
  obtain ⟨i2, hi2⟩ : ∃ i2, i2 = IN.length := ⟨_, rfl⟩
  obtain ⟨i3, hi3⟩ : ∃ i3, i3 = LL.length := ⟨_, rfl⟩
  rw [← hi1, ← hi2, ← hi3] at hpv ⊢
  have HPV : Hid (ProgFl w1 (.agg #[.slice b1 i1 d1, .slice b2 i2 d2, .slice b3 i3 d3]) LT IN LL) := hpv
  have K1 : Hid (On w w1) := k1
  clear hO' hpv k1 hi1 hi2 hi3
  go_wp2_with (refine wpList_al rfl rfl prog_zeroV ?_)
  intro wa ka ba
  go_wp2_with (refine wpList_sto (cs := #[.slice b1 i1 d1, .slice b2 i2 d2, .slice b3 i3 d3]) rfl rfl rfl rfl ba prog_sz rfl (prog_one _ _ _ _ _ _ _ _ _) ?_)
  intro w2 PB oj
  have K2 : Hid (On w1 w2) := oj.on ka (Nat.le_refl _)
  have p0 := PB.at (i := 0) (v := .slice b1 i1 d1) rfl
  have p1 := PB.at (i := 1) (v := .slice b2 i2 d2) rfl
  have p2 := PB.at (i := 2) (v := .slice b3 i3 d3) rfl
  have pl := PB.lt
  have hN := new_vm LT IN LL _ mm w2 (HW.out.on (K1.out.trans K2.out)).lw (HW.out.on (K1.out.trans K2.out)).db (HPV.out.on K2.out) HAG.out HM.out.1 HM.out.2
  clear ka ba oj
  go_wp2_with fail
  refine hN.mono ?_
  rintro _ w3 ⟨N, P0, P1, P2, x, rfl, hV, hPO, kx, hxN, kx3⟩
  have HPO : Hid (ProgOw w2.heap.size x (.agg #[P0, P1, P2]) LT IN LL) := hPO
  have FX : Hid (VmFx x LL N P0 P1 P2) := ⟨HLK.out, hxN, fun W k => (HPO.out.on k).fl.rd⟩
  have S0 : Hid (VmSt x LL N P0 P1 P2 w3 (startV LL IN mm)) := ⟨hV, VOk.new HLK.out HIN.out HM.out.1 HM.out.2, kx3⟩
  have HX : Hid (On w x) := (K1.out.trans K2.out).trans kx
  have PX : Hid (Tb x w1.heap.size #[.slice b1 i1 d1, .slice b2 i2 d2, .slice b3 i3 d3] 27) := PB.on kx
  clear hN hV hPO kx hxN kx3 p0 p1 p2 pl PB
  unfold ptV
  clear hov0 hov1 hmb
  go_wp2_with (refine wpList_al rfl rfl arr24_zero ?_)
  intro w4 k4 b4
  have S1 : Hid (VmSt x LL N P0 P1 P2 w4 (startV LL IN mm)) := S0.out.go k4
  obtain ⟨A, hA⟩ : ∃ A, A = w3.heap.size := ⟨_, rfl⟩
  have HNA : Hid (x.heap.size ≤ N ∧ N < A) := ⟨FX.out.top, by rw [hA]; exact S0.out.vm.lt⟩
  rw [← hA] at b4
  have HC : Hid (Tb w4 A (arrF (fun q => (cntQ (startV LL IN mm) q : Nat))).toArray 55) := by
    show Tb _ _ _ _
    rw [arrF_eq (g := fun _ => 0) (fun q _ => by rw [cnt_zero]; rfl)]
    exact b4
  clear S0 k4 b4
  go_wp2_with fail
  rw [← hA]
  clear hA
  go_loopg [11] 40 (fun gg s11 wq => ∃ (n : Nat) (V : VmT), n ≤ 40 ∧ n ≤ vs.length ∧ gg = 40 - n ∧ s11 = .int .i64 n ∧ Hid (VmSt x LL N P0 P1 P2 wq V) ∧ Hid (V.m = mm) ∧ Hid (Tb wq A (arrF (fun q => (cntQ V q : Nat))).toArray 55))
  case atStart => exact ⟨0, _, by decide, Nat.zero_le _, rfl, rfl, S1, rfl, HC⟩
  case round =>
    clear S1 HC
    obtain ⟨n, V, hn, hnv, hg, rfl, HS, HVM, HC⟩ := hrel
    rcases Nat.lt_or_ge n vs.length with hlt | hge
    · rcases Nat.lt_or_ge n 40 with hlt4 | hge4
      · have d1 : decide ((n : Int) < vs.length) = true := decide_eq_true (by omega)
        have d2 : decide ((n : Int) < 40) = true := decide_eq_true (by omega)
        have cE := fun W (k : On wr W) => vs_en FX.out (HS.out.go k)
        have cL := fun W (k : On wr W) => vs_list LL V W (HW.out.on ((HX.out.trans HS.out.on).trans k)).dt
        unfold ptV at cE
        go_wp2_with fail
        refine (cE _ (On.refl wr)).mono ?_
        rintro _ w5 ⟨rfl, k5⟩
        go_wp2_with fail
        refine (cL _ k5).mono ?_
        rintro _ w6 ⟨xa, xc, rfl, hRL, k6⟩
        have K6 : Hid (On wr w6) := k5.trans k6
        have HRL : Hid (Rd natC 1 w6 (.slice xa (mayL LL V 24).length xc) (mayL LL V 24)) := hRL
        have HML : Hid (∀ p ∈ mayL LL V 24, p < 24 ∧ mayN LL V p = true) := fun p hp => may_mem hp
        clear cE cL k5 k6 hRL
        generalize mayL LL V 24 = ML at *
        by_cases h0 : ML.length = 0
        · have e0 : ((ML.length : Int) == 0) = true := by rw [h0]; rfl
          have K7 : Hid (On w w6) := (HX.out.trans HS.out.on).trans K6.out
          clear h0
          go_wp2_with fail
          refine (HA.out _ K7.out).mono ?_
          rintro _ w7 ⟨rfl, k7⟩
          go_wp2
          go_ret
          exact ⟨rfl, K7.out.trans k7⟩
        · have e0 : ((ML.length : Int) == 0) = false := by rw [beq_eq_false_iff_ne]; omega
          obtain ⟨z, hz⟩ : ∃ z, vs[n]? = some z := ⟨_, List.getElem?_eq_getElem hlt⟩
          obtain ⟨j, hj⟩ := and_low z
          obtain ⟨r, hr, _, hrem⟩ := rem_nat j ML.length (by omega)
          obtain ⟨p, hp⟩ : ∃ p, ML[r]? = some p := ⟨_, List.getElem?_eq_getElem hr⟩
          obtain ⟨hp24, hpm⟩ := HML.out p (List.mem_of_getElem? hp)
          obtain ⟨g1, o1, eb, v1⟩ := rd_cell (HB.out.on ((HX.out.trans HS.out.on).trans K6.out)) hz
          obtain ⟨g2, o2, ex, v2⟩ := rd_celln HRL.out hp
          subst eb ex
          have b1 : (n : Int) < (vs.length : Int) := by omega
          have b2 : decide ((n : Int) < 0) = false := decide_eq_false (by omega)
          have b4 : (0 : Int) ≤ (n : Int) := by omega
          have r1 : (r : Int) < (ML.length : Int) := by omega
          have r2 : decide ((r : Int) < 0) = false := decide_eq_false (by omega)
          have r4 : (0 : Int) ≤ (r : Int) := by omega
          have cP := vs_pickN FX.out (HS.out.go K6.out) p hp24 hpm
          have HSO : Hid (SOk V (stepOf LL V p)) := step_ok FX.out.lok HS.out.ok hp24 hpm
          have HCP : Hid (∀ q : Nat, (cntQ (pickV LL V p) q : Int) = cntQ V q + (if (stepOf LL V p).k = 2 ∧ (q : Int) = qqS mm (stepOf LL V p) then 1 else 0) - (if (stepOf LL V p).k = 6 ∧ (q : Int) = qqS mm (stepOf LL V p) then 1 else 0)) := fun q => by
            have := cnt_pick LL FX.out.lok HS.out.ok (by rw [HVM.out]; exact HM2.out) hp24 hpm (q := q)
            rw [HVM.out] at this
            exact this
          have HVP : Hid ((pickV LL V p).m = mm) := HVM.out
          have HLE : Hid (∀ q, cntQ V q ≤ 10) := fun q => cntQ_le FX.out.lok HS.out.ok q
          generalize stepOf LL V p = s at *
          generalize pickV LL V p = V' at *
          have C6 : Hid (Tb w6 A (arrF (fun q => (cntQ V q : Nat))).toArray 55) := HC.out.on K6.out
          have HN6 : Hid (N < w6.heap.size) := (HS.out.go K6.out).vm.lt
          unfold ptV at cP
          clear h0 hz hr hp hp24 hpm HRL HML HS HC HVM K6
          go_wp2_with fail
          refine cP.mono ?_
          rintro _ w7 ⟨rfl, S7, O7⟩
          have HS7 : Hid (VmSt x LL N P0 P1 P2 w7 V') := S7
          have C7 : Hid (Tb w7 A (arrF (fun q => (cntQ V q : Nat))).toArray 55) := O7.tk C6.out (by have := HNA.out; omega)
          clear cP S7 O7 C6 v1 v2 hj hrem b1 b2 b4 r1 r2 r4
          go_wp2_with (refine wpList_al rfl rfl step_zero ?_)
          intro wa ka ba
          go_wp2_with (refine wpList_sto (cs := (stC s).toArray) rfl rfl rfl rfl ba step_sz rfl (stC_one _) ?_)
          intro w8 b8 o8
          have K8 : Hid (On w7 w8) := o8.on ka (Nat.le_refl _)
          have HS8 : Hid (VmSt x LL N P0 P1 P2 w8 V') := HS7.out.go K8.out
          have HNE : Hid (w7.heap.size ≠ A) := by have := C7.out.lt; show _ ≠ _; omega
          have C8 : Hid (Tb w8 A (arrF (fun q => (cntQ V q : Nat))).toArray 55) := C7.out.on K8.out
          obtain ⟨tn, htn⟩ : ∃ tn : Nat, s.t = (tn : Int) := ⟨s.t.toNat, by have := HSO.out.t0; omega⟩
          obtain ⟨ln, hln⟩ : ∃ ln : Nat, s.l = (ln : Int) := ⟨s.l.toNat, by have := HSO.out.l0; omega⟩
          have ht4 : tn < 4 := by have := HSO.out.t1; omega
          have hl4 : ln < 4 := by have := HSO.out.l1; omega
          have s1 := b8.at (i := 1) (v := .int .i64 tn) (by show some (Value.int .i64 s.t) = _; rw [htn])
          have s2 := b8.at (i := 2) (v := .int .i64 s.k) rfl
          have s3 := b8.at (i := 3) (v := .int .i64 ln) (by show some (Value.int .i64 s.l) = _; rw [hln])
          have sl := b8.lt
          have t1 : decide ((tn : Int) < 0) = false := decide_eq_false (by omega)
          have t2 : decide ((3 : Int) < (tn : Int)) = false := decide_eq_false (by omega)
          have l1 : decide ((ln : Int) < 0) = false := decide_eq_false (by omega)
          have l2 : decide ((3 : Int) < (ln : Int)) = false := decide_eq_false (by omega)
          have HT : Hid (s.t = (tn : Int) ∧ tn < 4) := ⟨htn, ht4⟩
          have HLN : Hid (s.l = (ln : Int) ∧ ln < 4) := ⟨hln, hl4⟩
          obtain ⟨z0, hz0⟩ : ∃ z0 : Int, z0 = ((4 + tn : Nat) : Int) := ⟨_, rfl⟩
          have q1 : wrap64 (4 + (tn : Int)) = z0 := by rw [hz0]; exact w4_a ht4
          have q2 : IntKind.i64.wrap (4 + (tn : Int)) = z0 := by rw [hz0]; exact w4_b ht4
          have HZ0 : Hid (z0 = ((4 + tn : Nat) : Int)) := hz0
          clear hz0
          clear ka ba o8 HS7 C7 htn hln ht4 hl4
          obtain ⟨qq, hqq⟩ : ∃ qq : Nat, qq = if mm = 3 then 8 + 4 * tn + ln else 4 + tn := ⟨_, rfl⟩
          have HQQ : Hid ((qq : Int) = qqS mm s ∧ qq < 24) := by
            show _ ∧ _
            unfold qqS
            rw [hqq, HT.out.1, HLN.out.1]
            have := HT.out.2
            have := HLN.out.2
            split
            · exact ⟨by omega, by omega⟩
            · exact ⟨by omega, by omega⟩
          have x1 := C8.out.at (arrF_at (fun q => (cntQ V q : Nat)) HQQ.out.2)
          have xf := C8.out.bk.fr qq
          have xl := C8.out.lt
          have y1 : (qq : Int) < 24 := by have := HQQ.out.2; omega
          have y2 : decide ((qq : Int) < 0) = false := decide_eq_false (by omega)
          have y4 : (0 : Int) ≤ (qq : Int) := by omega
          have a1 : wrap64 ((cntQ V qq : Nat) + 1 : Int) = (cntQ V qq : Nat) + 1 := c10_a (HLE.out qq)
          have a2 : IntKind.i64.wrap ((cntQ V qq : Nat) + 1 : Int) = (cntQ V qq : Nat) + 1 := c10_b (HLE.out qq)
          have a3 : wrap64 ((cntQ V qq : Nat) - 1 : Int) = (cntQ V qq : Nat) - 1 := c10_c (HLE.out qq)
          have a4 : IntKind.i64.wrap ((cntQ V qq : Nat) - 1 : Int) = (cntQ V qq : Nat) - 1 := wrapQ (HLE.out qq)
          have HQE : Hid (qq = if mm = 3 then 8 + 4 * tn + ln else 4 + tn) := hqq
          clear hqq
          go_upto_if 92 with fail
          go_cut [15] (fun u15 wc => u15 = .int .i64 qq ∧ wc = w8)
          case first =>
            clear x1 xf xl y1 y2 y4 a1 a2 a3 a4 q1 q2
            rcases HM2.out with hm2 | hm3
            · have e3 : (mm == 3) = false := by rw [hm2]; rfl
              have HZ : Hid (z0 = (qq : Int)) := by show _ = _; rw [HZ0.out, HQE.out, if_neg (by omega)]
              clear hm2
              go_wp2_with fail
              go_meet
              case rel => exact ⟨by rw [HZ.out], rfl⟩
            · have e3 : (mm == 3) = true := by rw [hm3]; rfl
              have HE : Hid (((8 + 4 * tn + ln : Nat) : Int) = (qq : Int)) := by show _ = _; rw [HQE.out, if_pos hm3]
              obtain ⟨z1, hz1⟩ : ∃ z1 : Int, z1 = ((4 * tn : Nat) : Int) := ⟨_, rfl⟩
              obtain ⟨z2, hz2⟩ : ∃ z2 : Int, z2 = ((8 + 4 * tn : Nat) : Int) := ⟨_, rfl⟩
              obtain ⟨z3, hz3⟩ : ∃ z3 : Int, z3 = ((8 + 4 * tn + ln : Nat) : Int) := ⟨_, rfl⟩
              have m1 : wrap64 (4 * (tn : Int)) = z1 := by rw [hz1]; exact w4_c HT.out.2
              have m2 : IntKind.i64.wrap (4 * (tn : Int)) = z1 := by rw [hz1]; exact w4_d HT.out.2
              have m3 : wrap64 (8 + z1) = z2 := by rw [hz1, hz2]; exact w4_e HT.out.2
              have m4 : IntKind.i64.wrap (8 + z1) = z2 := by rw [hz1, hz2]; exact w4_f HT.out.2
              have m5 : wrap64 (z2 + (ln : Int)) = z3 := by rw [hz2, hz3]; exact w4_g HT.out.2 HLN.out.2
              have m6 : IntKind.i64.wrap (z2 + (ln : Int)) = z3 := by rw [hz2, hz3]; exact w4_h HT.out.2 HLN.out.2
              have HZ : Hid (z3 = (qq : Int)) := by show _ = _; rw [hz3]; exact HE.out
              clear hm3 hz1 hz2 hz3
              go_wp2_with fail
              go_meet
              case rel => exact ⟨by rw [HZ.out], rfl⟩
          case rest =>
          obtain ⟨rfl, hwc⟩ := hcut
          subst wc
          clear q1 q2 HZ0
          rcases Decidable.em (s.k = 2) with hk2 | hk2
          · have f2 : (s.k == 2) = true := by rw [hk2]; rfl
            have f6 : (s.k == 6) = false := by rw [hk2]; rfl
            have C9 := C8.out.put qq (.int .i64 ((cntQ V qq : Nat) + 1))
            have O9 : OffV A w8 _ := (OffV.refl A w8).set qq (.int .i64 ((cntQ V qq : Nat) + 1))
            rw [arrF_set _ HQQ.out.2, arr_up HCP.out HQQ.out.1 hk2] at C9
            have S9 := HS8.out.off O9 C8.out (by decide) (by decide) (by decide) (by have := HNA.out; omega)
            have hne : ¬ w7.heap.size = A := HNE.out
            have HC9 : Hid (Tb _ A (arrF (fun q => (cntQ V' q : Nat))).toArray 55) := C9
            have HS9 : Hid (VmSt x LL N P0 P1 P2 _ V') := S9
            clear C9 S9 O9 hk2 HCP HLE HS8 C8
            go_wp2_with fail
            clear s1 s2 s3 sl t1 t2 l1 l2 x1 xf xl y1 y2 y4 f2 f6 hne
            clear a1 a2 a3 a4
            go_loopg [16] 20 (fun gg s16 wq => ∃ kk : Nat, 4 ≤ kk ∧ kk ≤ 24 ∧ gg = 24 - kk ∧ s16 = .int .i64 kk ∧ Hid (VmSt x LL N P0 P1 P2 wq V') ∧ Hid (Tb wq A (arrF (fun q => (cntQ V' q : Nat))).toArray 55))
            case atStart => exact ⟨4, by decide, by decide, rfl, rfl, HS9, HC9⟩
            case round =>
              clear HS9 HC9
              obtain ⟨kk, hk4, hk24, hgk, rfl, HS10, HC10⟩ := hrel
              rcases Nat.lt_or_ge kk 24 with hlk | hgek
              · obtain ⟨wi, hwi⟩ : ∃ wi, wi = wr := ⟨_, rfl⟩
                rw [← hwi] at HS10 HC10
                have cE := fun W (k : On wi W) => vs_en FX.out (HS10.out.go k)
                have hh : hasI (enN LL V' 24) (kk : Int) = decide ((0 : Int) < ((cntQ V' kk : Nat) : Int)) := by
                  rw [has_bit, Int.toNat_natCast, en_bit LL V' kk 24 (by decide), decide_eq_true (show 0 ≤ (kk : Int) ∧ (kk : Int) < 64 by omega), decide_eq_true hlk, may_cnt LL V' (by rw [HVP.out]; exact HM2.out) hk4 hlk]
                  simp
                have cH := fun W => has_is (enN LL V' 24) (kk : Int) (en_lt LL V' 24) W
                rw [hh] at cH
                have e1 : decide ((kk : Int) < 24) = true := decide_eq_true (by omega)
                have z1 : (kk : Int) < 24 := by omega
                have z2 : decide ((kk : Int) < 0) = false := decide_eq_false (by omega)
                have z4 : (0 : Int) ≤ (kk : Int) := by omega
                have hov := up_one hlk (by decide)
                have hov2 := up_two hlk (by decide)
                unfold ptV at cE
                generalize enN LL V' 24 = EN at *
                clear hh
                go_upto_region 25 with fail
                rw [← hwi]
                clear hwi
                have SA : On wi wi.drew := (On.refl wi).drew
                refine region_fz (fun W => On wi W) [] 9 (by kernel_rfl) rfl ?_
                refine fz_take 0 (v := ?_) rfl (by kernel_rfl) (by kernel_rfl) (by kernel_rfl) (by kernel_rfl) (fun _ _ _ h => h) rfl ?_ SA ?_
                rotate_left
                · intro W hW
                  go_simp
                  (try with_reducible rfl)
                simp only [Act.put, List.setIfInBounds_toArray, List.set_cons_zero, List.set_cons_succ]
                refine fz_take 2 (v := ?_) rfl (by kernel_rfl) (by kernel_rfl) (by kernel_rfl) (by kernel_rfl) (fun _ _ _ h => h) rfl ?_ SA ?_
                rotate_left
                · intro W hW
                  go_simp
                  (try with_reducible rfl)
                simp only [Act.put, List.setIfInBounds_toArray, List.set_cons_zero, List.set_cons_succ]
                refine fz_take 4 (v := ?_) rfl (by kernel_rfl) (by kernel_rfl) (by kernel_rfl) (by kernel_rfl) (fun _ _ _ h => h) rfl ?_ SA ?_
                rotate_left
                · intro W hW
                  go_simp
                  (try with_reducible rfl)
                simp only [Act.put, List.setIfInBounds_toArray, List.set_cons_zero, List.set_cons_succ]
                refine fz_take 5 (v := ?_) rfl (by kernel_rfl) (by kernel_rfl) (by kernel_rfl) (by kernel_rfl) (fun _ _ _ h => h) rfl ?_ SA ?_
                rotate_left
                · intro W hW
                  go_simp
                  (try with_reducible rfl)
                simp only [Act.put, List.setIfInBounds_toArray, List.set_cons_zero, List.set_cons_succ]
                refine fz_take 6 (v := ?_) rfl (by kernel_rfl) (by kernel_rfl) (by kernel_rfl) (by kernel_rfl) (fun _ _ _ h => h) rfl ?_ SA ?_
                rotate_left
                · intro W hW
                  have x1 := (HC10.out.on hW).at (arrF_at (fun q => (cntQ V' q : Nat)) hlk)
                  have xl := (HC10.out.on hW).lt
                  go_simp
                  (try with_reducible rfl)
                simp only [Act.put, List.setIfInBounds_toArray, List.set_cons_zero, List.set_cons_succ]
                refine fz_take 7 (v := ?_) rfl (by kernel_rfl) (by kernel_rfl) (by kernel_rfl) (by kernel_rfl) (fun _ _ _ h => h) rfl ?_ SA ?_
                rotate_left
                · intro W hW
                  go_simp
                  (try with_reducible rfl)
                simp only [Act.put, List.setIfInBounds_toArray, List.set_cons_zero, List.set_cons_succ]
                refine fz_one 1 rfl rfl (by kernel_rfl) (fun K hK => ?_)
                go_simp
                refine (cE _ SA).mono ?_
                rintro _ wc ⟨rfl, kc⟩
                have SC : On wi wc := SA.trans kc
                refine hK.out _ _ (fun _ => SC) ?_
                clear hK
                refine fz_one 3 rfl rfl (by kernel_rfl) (fun K hK => ?_)
                go_simp
                refine (cH _).mono ?_
                rintro _ wd ⟨rfl, hwd⟩
                subst wd
                refine hK.out _ _ (fun _ => SC) ?_
                clear hK
                refine fz_take 8 (v := ?_) rfl (by kernel_rfl) (by kernel_rfl) (by kernel_rfl) (by kernel_rfl) (fun _ _ _ h => h) rfl ?_ SC ?_
                rotate_left
                · intro W hW
                  go_simp
                  (try with_reducible rfl)
                simp only [Act.put, List.setIfInBounds_toArray, List.set_cons_zero, List.set_cons_succ]
                refine fz_done (by kernel_rfl) (NoPanic.normal ?_)
                have HS11 : Hid (VmSt x LL N P0 P1 P2 _ V') := HS10.out.go SC
                have HC11 := HC10.out.on SC
                clear SA SC cE cH kc z1 z2 z4
                have HC12 : Hid (Tb wc A (arrF (fun q => (cntQ V' q : Nat))).toArray 55) := HC11
                clear HC11
                go_wp2
                go_roundg (24 - (kk + 1))
                case measure => clear hov hov2; omega
                case rel => exact ⟨kk + 1, Nat.le_succ_of_le hk4, hlk, rfl, rfl, HS11, HC12⟩
              · obtain rfl : kk = 24 := by omega
                have hov := up_one hlt4 (by decide)
                have hov2 := up_two hlt4 (by decide)
                clear hk4 hk24 hgek
                go_wp2
                go_roundg (40 - (n + 1))
                case measure => clear hov hov2; omega
                case rel => exact ⟨n + 1, V', hlt4, hlt, rfl, rfl, HS10, HVP, HC10⟩
          · rcases Decidable.em (s.k = 6) with hk6 | hk6
            · have f2 : (s.k == 2) = false := by rw [hk6]; rfl
              have f6 : (s.k == 6) = true := by rw [hk6]; rfl
              replace hk2 := hk6
              clear hk6
              have C9 := C8.out.put qq (.int .i64 ((cntQ V qq : Nat) - 1))
              have O9 : OffV A w8 _ := (OffV.refl A w8).set qq (.int .i64 ((cntQ V qq : Nat) - 1))
              rw [arrF_set _ HQQ.out.2, arr_down HCP.out HQQ.out.1 hk2] at C9
              have S9 := HS8.out.off O9 C8.out (by decide) (by decide) (by decide) (by have := HNA.out; omega)
              have hne : ¬ w7.heap.size = A := HNE.out
              have HC9 : Hid (Tb _ A (arrF (fun q => (cntQ V' q : Nat))).toArray 55) := C9
              have HS9 : Hid (VmSt x LL N P0 P1 P2 _ V') := S9
              clear C9 S9 O9 hk2 HCP HLE HS8 C8
              go_wp2_with fail
              clear s1 s2 s3 sl t1 t2 l1 l2 x1 xf xl y1 y2 y4 f2 f6 hne
              clear a1 a2 a3 a4
              go_loopg [16] 20 (fun gg s16 wq => ∃ kk : Nat, 4 ≤ kk ∧ kk ≤ 24 ∧ gg = 24 - kk ∧ s16 = .int .i64 kk ∧ Hid (VmSt x LL N P0 P1 P2 wq V') ∧ Hid (Tb wq A (arrF (fun q => (cntQ V' q : Nat))).toArray 55))
              case atStart => exact ⟨4, by decide, by decide, rfl, rfl, HS9, HC9⟩
              case round =>
                clear HS9 HC9
                obtain ⟨kk, hk4, hk24, hgk, rfl, HS10, HC10⟩ := hrel
                rcases Nat.lt_or_ge kk 24 with hlk | hgek
                · obtain ⟨wi, hwi⟩ : ∃ wi, wi = wr := ⟨_, rfl⟩
                  rw [← hwi] at HS10 HC10
                  have cE := fun W (k : On wi W) => vs_en FX.out (HS10.out.go k)
                  have hh : hasI (enN LL V' 24) (kk : Int) = decide ((0 : Int) < ((cntQ V' kk : Nat) : Int)) := by
                    rw [has_bit, Int.toNat_natCast, en_bit LL V' kk 24 (by decide), decide_eq_true (show 0 ≤ (kk : Int) ∧ (kk : Int) < 64 by omega), decide_eq_true hlk, may_cnt LL V' (by rw [HVP.out]; exact HM2.out) hk4 hlk]
                    simp
                  have cH := fun W => has_is (enN LL V' 24) (kk : Int) (en_lt LL V' 24) W
                  rw [hh] at cH
                  have e1 : decide ((kk : Int) < 24) = true := decide_eq_true (by omega)
                  have z1 : (kk : Int) < 24 := by omega
                  have z2 : decide ((kk : Int) < 0) = false := decide_eq_false (by omega)
                  have z4 : (0 : Int) ≤ (kk : Int) := by omega
                  have hov := up_one hlk (by decide)
                  have hov2 := up_two hlk (by decide)
                  unfold ptV at cE
                  generalize enN LL V' 24 = EN at *
                  clear hh
                  go_upto_region 25 with fail
                  rw [← hwi]
                  clear hwi
                  have SA : On wi wi.drew := (On.refl wi).drew
                  refine region_fz (fun W => On wi W) [] 9 (by kernel_rfl) rfl ?_
                  refine fz_take 0 (v := ?_) rfl (by kernel_rfl) (by kernel_rfl) (by kernel_rfl) (by kernel_rfl) (fun _ _ _ h => h) rfl ?_ SA ?_
                  rotate_left
                  · intro W hW
                    go_simp
                    (try with_reducible rfl)
                  simp only [Act.put, List.setIfInBounds_toArray, List.set_cons_zero, List.set_cons_succ]
                  refine fz_take 2 (v := ?_) rfl (by kernel_rfl) (by kernel_rfl) (by kernel_rfl) (by kernel_rfl) (fun _ _ _ h => h) rfl ?_ SA ?_
                  rotate_left
                  · intro W hW
                    go_simp
                    (try with_reducible rfl)
                  simp only [Act.put, List.setIfInBounds_toArray, List.set_cons_zero, List.set_cons_succ]
                  refine fz_take 4 (v := ?_) rfl (by kernel_rfl) (by kernel_rfl) (by kernel_rfl) (by kernel_rfl) (fun _ _ _ h => h) rfl ?_ SA ?_
                  rotate_left
                  · intro W hW
                    go_simp
                    (try with_reducible rfl)
                  simp only [Act.put, List.setIfInBounds_toArray, List.set_cons_zero, List.set_cons_succ]
                  refine fz_take 5 (v := ?_) rfl (by kernel_rfl) (by kernel_rfl) (by kernel_rfl) (by kernel_rfl) (fun _ _ _ h => h) rfl ?_ SA ?_
                  rotate_left
                  · intro W hW
                    go_simp
                    (try with_reducible rfl)
                  simp only [Act.put, List.setIfInBounds_toArray, List.set_cons_zero, List.set_cons_succ]
                  refine fz_take 6 (v := ?_) rfl (by kernel_rfl) (by kernel_rfl) (by kernel_rfl) (by kernel_rfl) (fun _ _ _ h => h) rfl ?_ SA ?_
                  rotate_left
                  · intro W hW
                    have x1 := (HC10.out.on hW).at (arrF_at (fun q => (cntQ V' q : Nat)) hlk)
                    have xl := (HC10.out.on hW).lt
                    go_simp
                    (try with_reducible rfl)
                  simp only [Act.put, List.setIfInBounds_toArray, List.set_cons_zero, List.set_cons_succ]
                  refine fz_take 7 (v := ?_) rfl (by kernel_rfl) (by kernel_rfl) (by kernel_rfl) (by kernel_rfl) (fun _ _ _ h => h) rfl ?_ SA ?_
                  rotate_left
                  · intro W hW
                    go_simp
                    (try with_reducible rfl)
                  simp only [Act.put, List.setIfInBounds_toArray, List.set_cons_zero, List.set_cons_succ]
                  refine fz_one 1 rfl rfl (by kernel_rfl) (fun K hK => ?_)
                  go_simp
                  refine (cE _ SA).mono ?_
                  rintro _ wc ⟨rfl, kc⟩
                  have SC : On wi wc := SA.trans kc
                  refine hK.out _ _ (fun _ => SC) ?_
                  clear hK
                  refine fz_one 3 rfl rfl (by kernel_rfl) (fun K hK => ?_)
                  go_simp
                  refine (cH _).mono ?_
                  rintro _ wd ⟨rfl, hwd⟩
                  subst wd
                  refine hK.out _ _ (fun _ => SC) ?_
                  clear hK
                  refine fz_take 8 (v := ?_) rfl (by kernel_rfl) (by kernel_rfl) (by kernel_rfl) (by kernel_rfl) (fun _ _ _ h => h) rfl ?_ SC ?_
                  rotate_left
                  · intro W hW
                    go_simp
                    (try with_reducible rfl)
                  simp only [Act.put, List.setIfInBounds_toArray, List.set_cons_zero, List.set_cons_succ]
                  refine fz_done (by kernel_rfl) (NoPanic.normal ?_)
                  have HS11 : Hid (VmSt x LL N P0 P1 P2 _ V') := HS10.out.go SC
                  have HC11 := HC10.out.on SC
                  clear SA SC cE cH kc z1 z2 z4
                  have HC12 : Hid (Tb wc A (arrF (fun q => (cntQ V' q : Nat))).toArray 55) := HC11
                  clear HC11
                  go_wp2
                  go_roundg (24 - (kk + 1))
                  case measure => clear hov hov2; omega
                  case rel => exact ⟨kk + 1, Nat.le_succ_of_le hk4, hlk, rfl, rfl, HS11, HC12⟩
                · obtain rfl : kk = 24 := by omega
                  have hov := up_one hlt4 (by decide)
                  have hov2 := up_two hlt4 (by decide)
                  clear hk4 hk24 hgek
                  go_wp2
                  go_roundg (40 - (n + 1))
                  case measure => clear hov hov2; omega
                  case rel => exact ⟨n + 1, V', hlt4, hlt, rfl, rfl, HS10, HVP, HC10⟩
            · have f2 : (s.k == 2) = false := by rw [beq_eq_false_iff_ne]; exact hk2
              have f6 : (s.k == 6) = false := by rw [beq_eq_false_iff_ne]; exact hk6
              have C9 := C8.out
              rw [arr_same HCP.out hk2 hk6] at C9
              have HC9 : Hid (Tb w8 A (arrF (fun q => (cntQ V' q : Nat))).toArray 55) := C9
              have HS9 := HS8
              clear C9 hk2 hk6 HCP HLE HS8 C8
              go_wp2_with fail
              clear s1 s2 s3 sl t1 t2 l1 l2 x1 xf xl y1 y2 y4 f2 f6
              clear a1 a2 a3 a4
              go_loopg [16] 20 (fun gg s16 wq => ∃ kk : Nat, 4 ≤ kk ∧ kk ≤ 24 ∧ gg = 24 - kk ∧ s16 = .int .i64 kk ∧ Hid (VmSt x LL N P0 P1 P2 wq V') ∧ Hid (Tb wq A (arrF (fun q => (cntQ V' q : Nat))).toArray 55))
              case atStart => exact ⟨4, by decide, by decide, rfl, rfl, HS9, HC9⟩
              case round =>
                clear HS9 HC9
                obtain ⟨kk, hk4, hk24, hgk, rfl, HS10, HC10⟩ := hrel
                rcases Nat.lt_or_ge kk 24 with hlk | hgek
                · obtain ⟨wi, hwi⟩ : ∃ wi, wi = wr := ⟨_, rfl⟩
                  rw [← hwi] at HS10 HC10
                  have cE := fun W (k : On wi W) => vs_en FX.out (HS10.out.go k)
                  have hh : hasI (enN LL V' 24) (kk : Int) = decide ((0 : Int) < ((cntQ V' kk : Nat) : Int)) := by
                    rw [has_bit, Int.toNat_natCast, en_bit LL V' kk 24 (by decide), decide_eq_true (show 0 ≤ (kk : Int) ∧ (kk : Int) < 64 by omega), decide_eq_true hlk, may_cnt LL V' (by rw [HVP.out]; exact HM2.out) hk4 hlk]
                    simp
                  have cH := fun W => has_is (enN LL V' 24) (kk : Int) (en_lt LL V' 24) W
                  rw [hh] at cH
                  have e1 : decide ((kk : Int) < 24) = true := decide_eq_true (by omega)
                  have z1 : (kk : Int) < 24 := by omega
                  have z2 : decide ((kk : Int) < 0) = false := decide_eq_false (by omega)
                  have z4 : (0 : Int) ≤ (kk : Int) := by omega
                  have hov := up_one hlk (by decide)
                  have hov2 := up_two hlk (by decide)
                  unfold ptV at cE
                  generalize enN LL V' 24 = EN at *
                  clear hh
                  go_upto_region 25 with fail
                  rw [← hwi]
                  clear hwi
                  have SA : On wi wi.drew := (On.refl wi).drew
                  refine region_fz (fun W => On wi W) [] 9 (by kernel_rfl) rfl ?_
                  refine fz_take 0 (v := ?_) rfl (by kernel_rfl) (by kernel_rfl) (by kernel_rfl) (by kernel_rfl) (fun _ _ _ h => h) rfl ?_ SA ?_
                  rotate_left
                  · intro W hW
                    go_simp
                    (try with_reducible rfl)
                  simp only [Act.put, List.setIfInBounds_toArray, List.set_cons_zero, List.set_cons_succ]
                  refine fz_take 2 (v := ?_) rfl (by kernel_rfl) (by kernel_rfl) (by kernel_rfl) (by kernel_rfl) (fun _ _ _ h => h) rfl ?_ SA ?_
                  rotate_left
                  · intro W hW
                    go_simp
                    (try with_reducible rfl)
                  simp only [Act.put, List.setIfInBounds_toArray, List.set_cons_zero, List.set_cons_succ]
                  refine fz_take 4 (v := ?_) rfl (by kernel_rfl) (by kernel_rfl) (by kernel_rfl) (by kernel_rfl) (fun _ _ _ h => h) rfl ?_ SA ?_
                  rotate_left
                  · intro W hW
                    go_simp
                    (try with_reducible rfl)
                  simp only [Act.put, List.setIfInBounds_toArray, List.set_cons_zero, List.set_cons_succ]
                  refine fz_take 5 (v := ?_) rfl (by kernel_rfl) (by kernel_rfl) (by kernel_rfl) (by kernel_rfl) (fun _ _ _ h => h) rfl ?_ SA ?_
                  rotate_left
                  · intro W hW
                    go_simp
                    (try with_reducible rfl)
                  simp only [Act.put, List.setIfInBounds_toArray, List.set_cons_zero, List.set_cons_succ]
                  refine fz_take 6 (v := ?_) rfl (by kernel_rfl) (by kernel_rfl) (by kernel_rfl) (by kernel_rfl) (fun _ _ _ h => h) rfl ?_ SA ?_
                  rotate_left
                  · intro W hW
                    have x1 := (HC10.out.on hW).at (arrF_at (fun q => (cntQ V' q : Nat)) hlk)
                    have xl := (HC10.out.on hW).lt
                    go_simp
                    (try with_reducible rfl)
                  simp only [Act.put, List.setIfInBounds_toArray, List.set_cons_zero, List.set_cons_succ]
                  refine fz_take 7 (v := ?_) rfl (by kernel_rfl) (by kernel_rfl) (by kernel_rfl) (by kernel_rfl) (fun _ _ _ h => h) rfl ?_ SA ?_
                  rotate_left
                  · intro W hW
                    go_simp
                    (try with_reducible rfl)
                  simp only [Act.put, List.setIfInBounds_toArray, List.set_cons_zero, List.set_cons_succ]
                  refine fz_one 1 rfl rfl (by kernel_rfl) (fun K hK => ?_)
                  go_simp
                  refine (cE _ SA).mono ?_
                  rintro _ wc ⟨rfl, kc⟩
                  have SC : On wi wc := SA.trans kc
                  refine hK.out _ _ (fun _ => SC) ?_
                  clear hK
                  refine fz_one 3 rfl rfl (by kernel_rfl) (fun K hK => ?_)
                  go_simp
                  refine (cH _).mono ?_
                  rintro _ wd ⟨rfl, hwd⟩
                  subst wd
                  refine hK.out _ _ (fun _ => SC) ?_
                  clear hK
                  refine fz_take 8 (v := ?_) rfl (by kernel_rfl) (by kernel_rfl) (by kernel_rfl) (by kernel_rfl) (fun _ _ _ h => h) rfl ?_ SC ?_
                  rotate_left
                  · intro W hW
                    go_simp
                    (try with_reducible rfl)
                  simp only [Act.put, List.setIfInBounds_toArray, List.set_cons_zero, List.set_cons_succ]
                  refine fz_done (by kernel_rfl) (NoPanic.normal ?_)
                  have HS11 : Hid (VmSt x LL N P0 P1 P2 _ V') := HS10.out.go SC
                  have HC11 := HC10.out.on SC
                  clear SA SC cE cH kc z1 z2 z4
                  have HC12 : Hid (Tb wc A (arrF (fun q => (cntQ V' q : Nat))).toArray 55) := HC11
                  clear HC11
                  go_wp2
                  go_roundg (24 - (kk + 1))
                  case measure => clear hov hov2; omega
                  case rel => exact ⟨kk + 1, Nat.le_succ_of_le hk4, hlk, rfl, rfl, HS11, HC12⟩
                · obtain rfl : kk = 24 := by omega
                  have hov := up_one hlt4 (by decide)
                  have hov2 := up_two hlt4 (by decide)
                  clear hk4 hk24 hgek
                  go_wp2
                  go_roundg (40 - (n + 1))
                  case measure => clear hov hov2; omega
                  case rel => exact ⟨n + 1, V', hlt4, hlt, rfl, rfl, HS10, HVP, HC10⟩
      · have d1 : decide ((n : Int) < vs.length) = true := decide_eq_true (by omega)
        have d2 : decide ((n : Int) < 40) = false := decide_eq_false (by omega)
        have K7 : Hid (On w wr) := HX.out.trans HS.out.on
        go_wp2_with fail
        refine (HA.out _ K7.out).mono ?_
        rintro _ w7 ⟨rfl, k7⟩
        go_wp2
        go_ret
        exact ⟨rfl, K7.out.trans k7⟩
    · have d1 : decide ((n : Int) < vs.length) = false := decide_eq_false (by omega)
      have K7 : Hid (On w wr) := HX.out.trans HS.out.on
      go_wp2_with fail
      refine (HA.out _ K7.out).mono ?_
      rintro _ w7 ⟨rfl, k7⟩
      go_wp2
      go_ret
      exact ⟨rfl, K7.out.trans k7⟩
end Go.Proofs.YtplihlmejnohnaaGreatDoor
