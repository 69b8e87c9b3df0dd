/- The law VmWaits, walked. -/
import Derived.Test.YtplihlmejnohnaaGreatDoorJ51VmL
import Derived.Test.YtplihlmejnohnaaGreatDoorJ36AgS
import Derived.Test.YtplihlmejnohnaaGreatDoorJ35VmB
import Derived.Test.YtplihlmejnohnaaGreatDoorJ16StepF
import Derived.BigQuiet
namespace Go.Proofs.YtplihlmejnohnaaGreatDoor
open Go.RowKit

theorem and_one (z : Int) : ∃ n : Nat, n < 2 ∧ bits .and .i64 z 1 = (n : Int) := by
  obtain ⟨k, h, e, g⟩ := i64_low z 1 1 (by decide) (by decide)
  exact ⟨k, by simpa using h, e⟩
theorem and_low (z : Int) : ∃ n : Nat, bits .and .i64 z 65535 = (n : Int) := ⟨_, low16 z⟩
def arrF (f : Nat → Int) : List Value := (List.range 24).map (fun q => .int .i64 (f q))
theorem arrF_len (f : Nat → Int) : (arrF f).length = 24 := by unfold arrF; simp
theorem arrF_at (f : Nat → Int) {q : Nat} (h : q < 24) : (arrF f).toArray[q]? = some (.int .i64 (f q)) := by
  unfold arrF
  rw [List.getElem?_toArray, List.getElem?_map, List.getElem?_range h]
  rfl
theorem arrF_set (f : Nat → Int) {q : Nat} (h : q < 24) (v : Int) : (arrF f).set q (.int .i64 v) = arrF (upf f q v) := by
  apply List.ext_getElem?
  intro i
  rw [List.getElem?_set]
  unfold arrF
  rw [List.length_map, List.length_range, List.getElem?_map, List.getElem?_map]
  by_cases hi : i < 24
  · rw [List.getElem?_range hi]
    unfold upf
    by_cases hq : q = i
    · subst hq
      rw [if_pos rfl, if_pos h]
      show _ = some (Value.int .i64 (if q = q then v else f q))
      rw [if_pos rfl]
    · rw [if_neg hq]
      show some _ = some (Value.int .i64 (if i = q then v else f i))
      rw [if_neg (fun e => hq e.symm)]
  · rw [List.getElem?_eq_none (by simpa using hi)]
    by_cases hq : q = i
    · omega
    · rw [if_neg hq]
      rfl
theorem arrF_eq {f g : Nat → Int} (h : ∀ q, q < 24 → f q = g q) : arrF f = arrF g := by
  unfold arrF
  apply List.map_congr_left
  intro q hq
  rw [h q (List.mem_range.1 hq)]
theorem arr24_info : (Tryz.prog.info? 55).map (fun i => (i.zero, i.size)) = some (some (.agg (arrF (fun _ => 0)).toArray), 24) := by kernel_rfl
theorem arr24_zero : ∀ w, (zeroValue 55).run Tryz.prog w = .ok (.agg (arrF (fun _ => 0)).toArray) w := (zero_of_info arr24_info).1
theorem cnt_zero (LL : List (List InsT)) (IN : List Int) (m : Int) (q : Nat) : cntQ (startV LL IN m) q = 0 := by
  unfold cntQ
  show (if m = 3 then (if _ then (filtW 3 [] _).length else 0) else if _ then ([] : List EnT).length else 0) = 0
  split <;> split <;> rfl
theorem cntQ_le {LL : List (List InsT)} {V : VmT} (hL : LOk LL) (k : VOk LL V) (q : Nat) : cntQ V q ≤ 10 := by
  have h : ∀ t, (V.b t).length ≤ 10 := fun t => by
    have h1 := k.few t
    have h2 := k.pc1 t
    have h3 := thr_any (LL := LL) (Q := fun L => L.length ≤ 10) (Nat.zero_le _) hL.ten t
    omega
  unfold cntQ filtW
  split <;> split
  · exact Nat.le_trans (List.length_filter_le _ _) (h _)
  · omega
  · exact h _
  · omega
theorem wrapQ {n : Nat} (h : n ≤ 10) : IntKind.i64.wrap ((n : Int) - 1) = (n : Int) - 1 := by
  rcases Nat.eq_zero_or_pos n with rfl | hp
  · rfl
  · exact wrapT (by omega) (by omega)
theorem arr_up {V V' : VmT} {mm : Int} {s : StT} {qq : Nat} (H : ∀ q : Nat, (cntQ V' q : Int) = cntQ V q + (if s.k = 2 ∧ (q : Int) = qqS mm s then 1 else 0) - (if s.k = 6 ∧ (q : Int) = qqS mm s then 1 else 0)) (hq : (qq : Int) = qqS mm s) (hk : s.k = 2) :
    arrF (upf (fun q => (cntQ V q : Nat)) qq ((cntQ V qq : Nat) + 1)) = arrF (fun q => (cntQ V' q : Nat)) := arrF_eq (fun q _ => by
  show upf (fun q => ((cntQ V q : Nat) : Int)) qq ((cntQ V qq : Nat) + 1) q = (cntQ V' q : Int)
  have := H q
  rw [if_neg (show ¬ (s.k = 6 ∧ (q : Int) = qqS mm s) from fun h => by rw [hk] at h; cases h.1)] at this
  unfold upf
  by_cases h : q = qq
  · subst h
    rw [if_pos ⟨hk, hq⟩] at this
    rw [if_pos rfl]
    omega
  · rw [if_neg (show ¬ (s.k = 2 ∧ (q : Int) = qqS mm s) from fun g => h (by have := g.2; omega))] at this
    rw [if_neg h]
    show ((cntQ V q : Nat) : Int) = (cntQ V' q : Int)
    omega)
theorem arr_down {V V' : VmT} {mm : Int} {s : StT} {qq : Nat} (H : ∀ q : Nat, (cntQ V' q : Int) = cntQ V q + (if s.k = 2 ∧ (q : Int) = qqS mm s then 1 else 0) - (if s.k = 6 ∧ (q : Int) = qqS mm s then 1 else 0)) (hq : (qq : Int) = qqS mm s) (hk : s.k = 6) :
    arrF (upf (fun q => (cntQ V q : Nat)) qq ((cntQ V qq : Nat) - 1)) = arrF (fun q => (cntQ V' q : Nat)) := arrF_eq (fun q _ => by
  show upf (fun q => ((cntQ V q : Nat) : Int)) qq ((cntQ V qq : Nat) - 1) q = (cntQ V' q : Int)
  have := H q
  rw [if_neg (show ¬ (s.k = 2 ∧ (q : Int) = qqS mm s) from fun h => by rw [hk] at h; cases h.1)] at this
  unfold upf
  by_cases h : q = qq
  · subst h
    rw [if_pos ⟨hk, hq⟩] at this
    rw [if_pos rfl]
    omega
  · rw [if_neg (show ¬ (s.k = 6 ∧ (q : Int) = qqS mm s) from fun g => h (by have := g.2; omega))] at this
    rw [if_neg h]
    show ((cntQ V q : Nat) : Int) = (cntQ V' q : Int)
    omega)
theorem arr_same {V V' : VmT} {mm : Int} {s : StT} (H : ∀ q : Nat, (cntQ V' q : Int) = cntQ V q + (if s.k = 2 ∧ (q : Int) = qqS mm s then 1 else 0) - (if s.k = 6 ∧ (q : Int) = qqS mm s then 1 else 0)) (hk : ¬ s.k = 2) (hk' : ¬ s.k = 6) :
    arrF (fun q => (cntQ V q : Nat)) = arrF (fun q => (cntQ V' q : Nat)) := arrF_eq (fun q _ => by
  have := H q
  rw [if_neg (fun h => hk h.1), if_neg (fun h => hk' h.1)] at this
  show (cntQ V q : Int) = (cntQ V' q : Int)
  omega)
theorem w4_a {t : Nat} (h : t < 4) : wrap64 (4 + (t : Int)) = ((4 + t : Nat) : Int) := by rw [wrapS (by omega) (by omega)]; omega
theorem w4_b {t : Nat} (h : t < 4) : IntKind.i64.wrap (4 + (t : Int)) = ((4 + t : Nat) : Int) := by rw [wrapT (by omega) (by omega)]; omega
theorem w4_c {t : Nat} (h : t < 4) : wrap64 (4 * (t : Int)) = ((4 * t : Nat) : Int) := by rw [wrapS (by omega) (by omega)]; omega
theorem w4_d {t : Nat} (h : t < 4) : IntKind.i64.wrap (4 * (t : Int)) = ((4 * t : Nat) : Int) := by rw [wrapT (by omega) (by omega)]; omega
theorem w4_e {t : Nat} (h : t < 4) : wrap64 (8 + ((4 * t : Nat) : Int)) = ((8 + 4 * t : Nat) : Int) := by rw [wrapS (by omega) (by omega)]; omega
theorem w4_f {t : Nat} (h : t < 4) : IntKind.i64.wrap (8 + ((4 * t : Nat) : Int)) = ((8 + 4 * t : Nat) : Int) := by rw [wrapT (by omega) (by omega)]; omega
theorem w4_g {t l : Nat} (h : t < 4) (h' : l < 4) : wrap64 (((8 + 4 * t : Nat) : Int) + (l : Int)) = ((8 + 4 * t + l : Nat) : Int) := by rw [wrapS (by omega) (by omega)]; omega
theorem w4_h {t l : Nat} (h : t < 4) (h' : l < 4) : IntKind.i64.wrap (((8 + 4 * t : Nat) : Int) + (l : Int)) = ((8 + 4 * t + l : Nat) : Int) := by rw [wrapT (by omega) (by omega)]; omega
theorem c10_a {n : Nat} (h : n ≤ 10) : wrap64 ((n : Int) + 1) = (n : Int) + 1 := wrapS (by omega) (by omega)
theorem c10_b {n : Nat} (h : n ≤ 10) : IntKind.i64.wrap ((n : Int) + 1) = (n : Int) + 1 := wrapT (by omega) (by omega)
theorem c10_c {n : Nat} (h : n ≤ 10) : wrap64 ((n : Int) - 1) = (n : Int) - 1 := wrapS (by omega) (by omega)
theorem upw_one {n m : Nat} (h : n < m) (hm : m ≤ 1000) : IntKind.i64.wrap ((n : Int) + 1) = ((n + 1 : Nat) : Int) := wrapT (k := (n : Int) + 1) (by omega) (by omega)
set_option maxHeartbeats 16000000 in
set_option maxRecDepth 8000 in
theorem vmWaits_walk (ao : Option Addr) (zs : List Int) (cap : Nat) (m0 : Int) (bo : Option Addr) (vs : List Int) (capb : Nat) (w : World) (hz : zs.length ≤ 9223372036854775807) (hr : Rd intC 1 w (.slice ao zs.length cap) zs) (hzb : vs.length ≤ 9223372036854775807) (hrb : Rd intC 1 w (.slice bo vs.length capb) vs) (hW : W16 w) :
    Calls Tryz.prog 7 #[.slice ao zs.length cap, .int .i64 m0, .slice bo vs.length capb] w fun e w' => e = .returned (.bool true) ∧ On w w' := by
  have HB : Hid (Rd intC 1 w (.slice bo vs.length capb) vs) := hrb
  have HZB : Hid (vs.length ≤ 9223372036854775807) := hzb
  clear hrb hzb
  obtain ⟨mb, hmb2, hmb⟩ := and_one m0
  obtain ⟨mm, hmm⟩ : ∃ mm : Int, mm = (mb : Int) + 2 := ⟨_, rfl⟩
  have hov0 : IntKind.i64.wrap ((mb : Int) + 2) = mm := by rw [wrapT (by omega) (by omega)]; exact hmm.symm
  have hov1 : wrap64 ((mb : Int) + 2) = mm := by rw [wrapS (by omega) (by omega)]; exact hmm.symm
  have HM : Hid (1 ≤ mm ∧ mm ≤ 3) := by show _ ∧ _; omega
  have HM2 : Hid (mm = 2 ∨ mm = 3) := by show _ ∨ _; omega
  clear hmm hmb2
  have HW : Hid (W16 w) := hW
  have HA : Hid (∀ W, On w W → Calls Tryz.prog 18 #[] W fun e w' => e = .returned (.bool true) ∧ On W w') := fun W h => awake16_is W (hW.on h).lw (hW.on h).db (hW.on h).pw
  have hO := of_is zs ao cap 12 w hz hr
  obtain ⟨LL, hLL⟩ : ∃ LL, LL = ofT zs 12 := ⟨_, rfl⟩
  have HAG : Hid (AgOk (ltO zs 12) (inO zs 12) LL) := by rw [hLL]; exact ag_made zs 12
  have HLK : Hid (LOk LL) := by rw [hLL]; exact lok_made zs 12
  have HIN : Hid (∀ v ∈ inO zs 12, B64 v) := in_made zs 12
  have hO' : Calls Tryz.prog 9 #[.slice ao zs.length cap, .int .i64 12] w fun e w' => ∃ pv, e = .returned pv ∧ ProgFl w' pv (ltO zs 12) (inO zs 12) LL ∧ On w w' := by rw [hLL]; exact hO
  generalize ltO zs 12 = LT at *
  generalize inO zs 12 = IN at *
  clear hO hLL hr hz hW
  go_enter Tryz.func7, Tryz.ntmps7
  go_wp2_with fail
  refine hO'.mono ?_
  rintro _ w1 ⟨pv, rfl, hpv, k1⟩
  obtain ⟨b1, d1, b2, d2, b3, d3, rfl, _, _, _⟩ := hpv.ex
  obtain ⟨i1, hi1⟩ : ∃ i1, i1 = LT.length := ⟨_, rfl⟩
  obtain ⟨i2, hi2⟩ : ∃ i2, i2 = IN.length := ⟨_, rfl⟩
  obtain ⟨i3, hi3⟩ : ∃ i3, i3 = LL.length := ⟨_, rfl⟩
  rw [← hi1, ← hi2, ← hi3] at hpv ⊢
  have HPV : Hid (ProgFl w1 (.agg #[.slice b1 i1 d1, .slice b2 i2 d2, .slice b3 i3 d3]) LT IN LL) := hpv
  have K1 : Hid (On w w1) := k1
  clear hO' hpv k1 hi1 hi2 hi3
  go_wp2_with (refine wpList_al rfl rfl prog_zeroV ?_)
  intro wa ka ba
  go_wp2_with (refine wpList_sto (cs := #[.slice b1 i1 d1, .slice b2 i2 d2, .slice b3 i3 d3]) rfl rfl rfl rfl ba prog_sz rfl (prog_one _ _ _ _ _ _ _ _ _) ?_)
  intro w2 PB oj
  have K2 : Hid (On w1 w2) := oj.on ka (Nat.le_refl _)
  have p0 := PB.at (i := 0) (v := .slice b1 i1 d1) rfl
  have p1 := PB.at (i := 1) (v := .slice b2 i2 d2) rfl
  have p2 := PB.at (i := 2) (v := .slice b3 i3 d3) rfl
  have pl := PB.lt
  have hN := new_vm LT IN LL _ mm w2 (HW.out.on (K1.out.trans K2.out)).lw (HW.out.on (K1.out.trans K2.out)).db (HPV.out.on K2.out) HAG.out HM.out.1 HM.out.2
  clear ka ba oj
  go_wp2_with fail
  refine hN.mono ?_
  rintro _ w3 ⟨N, P0, P1, P2, x, rfl, hV, hPO, kx, hxN, kx3⟩
  have HPO : Hid (ProgOw w2.heap.size x (.agg #[P0, P1, P2]) LT IN LL) := hPO
  have FX : Hid (VmFx x LL N P0 P1 P2) := ⟨HLK.out, hxN, fun W k => (HPO.out.on k).fl.rd⟩
  have S0 : Hid (VmSt x LL N P0 P1 P2 w3 (startV LL IN mm)) := ⟨hV, VOk.new HLK.out HIN.out HM.out.1 HM.out.2, kx3⟩
  have HX : Hid (On w x) := (K1.out.trans K2.out).trans kx
  have PX : Hid (Tb x w1.heap.size #[.slice b1 i1 d1, .slice b2 i2 d2, .slice b3 i3 d3] 27) := PB.on kx
  clear hN hV hPO kx hxN kx3 p0 p1 p2 pl PB
  unfold ptV
  clear hov0 hov1 hmb
  go_wp2_with (refine wpList_al rfl rfl arr24_zero ?_)
  intro w4 k4 b4
  have S1 : Hid (VmSt x LL N P0 P1 P2 w4 (startV LL IN mm)) := S0.out.go k4
  obtain ⟨A, hA⟩ : ∃ A, A = w3.heap.size := ⟨_, rfl⟩
  have HNA : Hid (x.heap.size ≤ N ∧ N < A) := ⟨FX.out.top, by rw [hA]; exact S0.out.vm.lt⟩
  rw [← hA] at b4
  have HC : Hid (Tb w4 A (arrF (fun q => (cntQ (startV LL IN mm) q : Nat))).toArray 55) := by
    show Tb _ _ _ _
    rw [arrF_eq (g := fun _ => 0) (fun q _ => by rw [cnt_zero]; rfl)]
    exact b4
  clear S0 k4 b4
  go_wp2_with fail
  rw [← hA]
  clear hA
  go_loopg [11] 40 (fun gg s11 wq => ∃ (n : Nat) (V : VmT), n ≤ 40 ∧ n ≤ vs.length ∧ gg = 40 - n ∧ s11 = .int .i64 n ∧ Hid (VmSt x LL N P0 P1 P2 wq V) ∧ Hid (V.m = mm) ∧ Hid (Tb wq A (arrF (fun q => (cntQ V q : Nat))).toArray 55))
  case atStart => exact ⟨0, _, by decide, Nat.zero_le _, rfl, rfl, S1, rfl, HC⟩
  case round =>
    clear S1 HC
    obtain ⟨n, V, hn, hnv, hg, rfl, HS, HVM, HC⟩ := hrel
    rcases Nat.lt_or_ge n vs.length with hlt | hge
    · rcases Nat.lt_or_ge n 40 with hlt4 | hge4
      · have d1 : decide ((n : Int) < vs.length) = true := decide_eq_true (by omega)
        have d2 : decide ((n : Int) < 40) = true := decide_eq_true (by omega)
        have cE := fun W (k : On wr W) => vs_en FX.out (HS.out.go k)
        have cL := fun W (k : On wr W) => vs_list LL V W (HW.out.on ((HX.out.trans HS.out.on).trans k)).dt
        unfold ptV at cE
        go_wp2_with fail
        refine (cE _ (On.refl wr)).mono ?_
        rintro _ w5 ⟨rfl, k5⟩
        go_wp2_with fail
        refine (cL _ k5).mono ?_
        rintro _ w6 ⟨xa, xc, rfl, hRL, k6⟩
        have K6 : Hid (On wr w6) := k5.trans k6
        have HRL : Hid (Rd natC 1 w6 (.slice xa (mayL LL V 24).length xc) (mayL LL V 24)) := hRL
        have HML : Hid (∀ p ∈ mayL LL V 24, p < 24 ∧ mayN LL V p = true) := fun p hp => may_mem hp
        clear cE cL k5 k6 hRL
        generalize mayL LL V 24 = ML at *
        by_cases h0 : ML.length = 0
        · have e0 : ((ML.length : Int) == 0) = true := by rw [h0]; rfl
          have K7 : Hid (On w w6) := (HX.out.trans HS.out.on).trans K6.out
          clear h0
          go_wp2_with fail
          refine (HA.out _ K7.out).mono ?_
          rintro _ w7 ⟨rfl, k7⟩
          go_wp2
          go_ret
          exact ⟨rfl, K7.out.trans k7⟩
        · have e0 : ((ML.length : Int) == 0) = false := by rw [beq_eq_false_iff_ne]; omega
          obtain ⟨z, hz⟩ : ∃ z, vs[n]? = some z := ⟨_, List.getElem?_eq_getElem hlt⟩
          obtain ⟨j, hj⟩ := and_low z
          obtain ⟨r, hr, _, hrem⟩ := rem_nat j ML.length (by omega)
          obtain ⟨p, hp⟩ : ∃ p, ML[r]? = some p := ⟨_, List.getElem?_eq_getElem hr⟩
          obtain ⟨hp24, hpm⟩ := HML.out p (List.mem_of_getElem? hp)
          obtain ⟨g1, o1, eb, v1⟩ := rd_cell (HB.out.on ((HX.out.trans HS.out.on).trans K6.out)) hz
          obtain ⟨g2, o2, ex, v2⟩ := rd_celln HRL.out hp
          subst eb ex
          have b1 : (n : Int) < (vs.length : Int) := by omega
          have b2 : decide ((n : Int) < 0) = false := decide_eq_false (by omega)
          have b4 : (0 : Int) ≤ (n : Int) := by omega
          have r1 : (r : Int) < (ML.length : Int) := by omega
          have r2 : decide ((r : Int) < 0) = false := decide_eq_false (by omega)
          have r4 : (0 : Int) ≤ (r : Int) := by omega
          have cP := vs_pickN FX.out (HS.out.go K6.out) p hp24 hpm
          have HSO : Hid (SOk V (stepOf LL V p)) := step_ok FX.out.lok HS.out.ok hp24 hpm
          have HCP : Hid (∀ q : Nat, (cntQ (pickV LL V p) q : Int) = cntQ V q + (if (stepOf LL V p).k = 2 ∧ (q : Int) = qqS mm (stepOf LL V p) then 1 else 0) - (if (stepOf LL V p).k = 6 ∧ (q : Int) = qqS mm (stepOf LL V p) then 1 else 0)) := fun q => by
            have := cnt_pick LL FX.out.lok HS.out.ok (by rw [HVM.out]; exact HM2.out) hp24 hpm (q := q)
            rw [HVM.out] at this
            exact this
          have HVP : Hid ((pickV LL V p).m = mm) := HVM.out
          have HLE : Hid (∀ q, cntQ V q ≤ 10) := fun q => cntQ_le FX.out.lok HS.out.ok q
          generalize stepOf LL V p = s at *
          generalize pickV LL V p = V' at *
          have C6 : Hid (Tb w6 A (arrF (fun q => (cntQ V q : Nat))).toArray 55) := HC.out.on K6.out
          have HN6 : Hid (N < w6.heap.size) := (HS.out.go K6.out).vm.lt
          unfold ptV at cP
          clear h0 hz hr hp hp24 hpm HRL HML HS HC HVM K6
          go_wp2_with fail
          refine cP.mono ?_
          rintro _ w7 ⟨rfl, S7, O7⟩
          have HS7 : Hid (VmSt x LL N P0 P1 P2 w7 V') := S7
          have C7 : Hid (Tb w7 A (arrF (fun q => (cntQ V q : Nat))).toArray 55) := O7.tk C6.out (by have := HNA.out; omega)
          clear cP S7 O7 C6 v1 v2 hj hrem b1 b2 b4 r1 r2 r4
          go_wp2_with (refine wpList_al rfl rfl step_zero ?_)
          intro wa ka ba
          go_wp2_with (refine wpList_sto (cs := (stC s).toArray) rfl rfl rfl rfl ba step_sz rfl (stC_one _) ?_)
          intro w8 b8 o8
          have K8 : Hid (On w7 w8) := o8.on ka (Nat.le_refl _)
          have HS8 : Hid (VmSt x LL N P0 P1 P2 w8 V') := HS7.out.go K8.out
          have HNE : Hid (w7.heap.size ≠ A) := by have := C7.out.lt; show _ ≠ _; omega
          have C8 : Hid (Tb w8 A (arrF (fun q => (cntQ V q : Nat))).toArray 55) := C7.out.on K8.out
          obtain ⟨tn, htn⟩ : ∃ tn : Nat, s.t = (tn : Int) := ⟨s.t.toNat, by have := HSO.out.t0; omega⟩
          obtain ⟨ln, hln⟩ : ∃ ln : Nat, s.l = (ln : Int) := ⟨s.l.toNat, by have := HSO.out.l0; omega⟩
          have ht4 : tn < 4 := by have := HSO.out.t1; omega
          have hl4 : ln < 4 := by have := HSO.out.l1; omega
          have s1 := b8.at (i := 1) (v := .int .i64 tn) (by show some (Value.int .i64 s.t) = _; rw [htn])
          have s2 := b8.at (i := 2) (v := .int .i64 s.k) rfl
          have s3 := b8.at (i := 3) (v := .int .i64 ln) (by show some (Value.int .i64 s.l) = _; rw [hln])
          have sl := b8.lt
          have t1 : decide ((tn : Int) < 0) = false := decide_eq_false (by omega)
          have t2 : decide ((3 : Int) < (tn : Int)) = false := decide_eq_false (by omega)
          have l1 : decide ((ln : Int) < 0) = false := decide_eq_false (by omega)
          have l2 : decide ((3 : Int) < (ln : Int)) = false := decide_eq_false (by omega)
          have HT : Hid (s.t = (tn : Int) ∧ tn < 4) := ⟨htn, ht4⟩
          have HLN : Hid (s.l = (ln : Int) ∧ ln < 4) := ⟨hln, hl4⟩
          obtain ⟨z0, hz0⟩ : ∃ z0 : Int, z0 = ((4 + tn : Nat) : Int) := ⟨_, rfl⟩
          have q1 : wrap64 (4 + (tn : Int)) = z0 := by rw [hz0]; exact w4_a ht4
          have q2 : IntKind.i64.wrap (4 + (tn : Int)) = z0 := by rw [hz0]; exact w4_b ht4
          have HZ0 : Hid (z0 = ((4 + tn : Nat) : Int)) := hz0
          clear hz0
          clear ka ba o8 HS7 C7 htn hln ht4 hl4
          obtain ⟨qq, hqq⟩ : ∃ qq : Nat, qq = if mm = 3 then 8 + 4 * tn + ln else 4 + tn := ⟨_, rfl⟩
          have HQQ : Hid ((qq : Int) = qqS mm s ∧ qq < 24) := by
            show _ ∧ _
            unfold qqS
            rw [hqq, HT.out.1, HLN.out.1]
            have := HT.out.2
            have := HLN.out.2
            split
            · exact ⟨by omega, by omega⟩
            · exact ⟨by omega, by omega⟩
          have x1 := C8.out.at (arrF_at (fun q => (cntQ V q : Nat)) HQQ.out.2)
          have xf := C8.out.bk.fr qq
          have xl := C8.out.lt
          have y1 : (qq : Int) < 24 := by have := HQQ.out.2; omega
          have y2 : decide ((qq : Int) < 0) = false := decide_eq_false (by omega)
          have y4 : (0 : Int) ≤ (qq : Int) := by omega
          have a1 : wrap64 ((cntQ V qq : Nat) + 1 : Int) = (cntQ V qq : Nat) + 1 := c10_a (HLE.out qq)
          have a2 : IntKind.i64.wrap ((cntQ V qq : Nat) + 1 : Int) = (cntQ V qq : Nat) + 1 := c10_b (HLE.out qq)
          have a3 : wrap64 ((cntQ V qq : Nat) - 1 : Int) = (cntQ V qq : Nat) - 1 := c10_c (HLE.out qq)
          have a4 : IntKind.i64.wrap ((cntQ V qq : Nat) - 1 : Int) = (cntQ V qq : Nat) - 1 := wrapQ (HLE.out qq)
          have HQE : Hid (qq = if mm = 3 then 8 + 4 * tn + ln else 4 + tn) := hqq
          clear hqq
          go_upto_if 92 with fail
          go_cut [15] (fun u15 wc => u15 = .int .i64 qq ∧ wc = w8)
          case first =>
            clear x1 xf xl y1 y2 y4 a1 a2 a3 a4 q1 q2
            rcases HM2.out with hm2 | hm3
            · have e3 : (mm == 3) = false := by rw [hm2]; rfl
              have HZ : Hid (z0 = (qq : Int)) := by show _ = _; rw [HZ0.out, HQE.out, if_neg (by omega)]
              clear hm2
              go_wp2_with fail
              go_meet
              case rel => exact ⟨by rw [HZ.out], rfl⟩
            · have e3 : (mm == 3) = true := by rw [hm3]; rfl
              have HE : Hid (((8 + 4 * tn + ln : Nat) : Int) = (qq : Int)) := by show _ = _; rw [HQE.out, if_pos hm3]
              obtain ⟨z1, hz1⟩ : ∃ z1 : Int, z1 = ((4 * tn : Nat) : Int) := ⟨_, rfl⟩
              obtain ⟨z2, hz2⟩ : ∃ z2 : Int, z2 = ((8 + 4 * tn : Nat) : Int) := ⟨_, rfl⟩
              obtain ⟨z3, hz3⟩ : ∃ z3 : Int, z3 = ((8 + 4 * tn + ln : Nat) : Int) := ⟨_, rfl⟩
              have m1 : wrap64 (4 * (tn : Int)) = z1 := by rw [hz1]; exact w4_c HT.out.2
              have m2 : IntKind.i64.wrap (4 * (tn : Int)) = z1 := by rw [hz1]; exact w4_d HT.out.2
              have m3 : wrap64 (8 + z1) = z2 := by rw [hz1, hz2]; exact w4_e HT.out.2
              have m4 : IntKind.i64.wrap (8 + z1) = z2 := by rw [hz1, hz2]; exact w4_f HT.out.2
              have m5 : wrap64 (z2 + (ln : Int)) = z3 := by rw [hz2, hz3]; exact w4_g HT.out.2 HLN.out.2
              have m6 : IntKind.i64.wrap (z2 + (ln : Int)) = z3 := by rw [hz2, hz3]; exact w4_h HT.out.2 HLN.out.2
              have HZ : Hid (z3 = (qq : Int)) := by show _ = _; rw [hz3]; exact HE.out
              clear hm3 hz1 hz2 hz3
              go_wp2_with fail
              go_meet
              case rel => exact ⟨by rw [HZ.out], rfl⟩
          case rest =>
          obtain ⟨rfl, hwc⟩ := hcut
          subst wc
          clear q1 q2 HZ0
          rcases Decidable.em (s.k = 2) with hk2 | hk2
          · have f2 : (s.k == 2) = true := by rw [hk2]; rfl
            have f6 : (s.k == 6) = false := by rw [hk2]; rfl
            have C9 := C8.out.put qq (.int .i64 ((cntQ V qq : Nat) + 1))
            have O9 : OffV A w8 _ := (OffV.refl A w8).set qq (.int .i64 ((cntQ V qq : Nat) + 1))
            rw [arrF_set _ HQQ.out.2, arr_up HCP.out HQQ.out.1 hk2] at C9
            have S9 := HS8.out.off O9 C8.out (by decide) (by decide) (by decide) (by have := HNA.out; omega)
            have hne : ¬ w7.heap.size = A := HNE.out
            have HC9 : Hid (Tb _ A (arrF (fun q => (cntQ V' q : Nat))).toArray 55) := C9
            have HS9 : Hid (VmSt x LL N P0 P1 P2 _ V') := S9
            clear C9 S9 O9 hk2 HCP HLE HS8 C8
            go_wp2_with fail
            clear s1 s2 s3 sl t1 t2 l1 l2 x1 xf xl y1 y2 y4 f2 f6 hne
            clear a1 a2 a3 a4
            go_loopg [16] 20 (fun gg s16 wq => ∃ kk : Nat, 4 ≤ kk ∧ kk ≤ 24 ∧ gg = 24 - kk ∧ s16 = .int .i64 kk ∧ Hid (VmSt x LL N P0 P1 P2 wq V') ∧ Hid (Tb wq A (arrF (fun q => (cntQ V' q : Nat))).toArray 55))
            case atStart => exact ⟨4, by decide, by decide, rfl, rfl, HS9, HC9⟩
            case round =>
              clear HS9 HC9
              obtain ⟨kk, hk4, hk24, hgk, rfl, HS10, HC10⟩ := hrel
              rcases Nat.lt_or_ge kk 24 with hlk | hgek
              · obtain ⟨wi, hwi⟩ : ∃ wi, wi = wr := ⟨_, rfl⟩
                rw [← hwi] at HS10 HC10
                have cE := fun W (k : On wi W) => vs_en FX.out (HS10.out.go k)
                have hh : hasI (enN LL V' 24) (kk : Int) = decide ((0 : Int) < ((cntQ V' kk : Nat) : Int)) := by
                  rw [has_bit, Int.toNat_natCast, en_bit LL V' kk 24 (by decide), decide_eq_true (show 0 ≤ (kk : Int) ∧ (kk : Int) < 64 by omega), decide_eq_true hlk, may_cnt LL V' (by rw [HVP.out]; exact HM2.out) hk4 hlk]
                  simp
                have cH := fun W => has_is (enN LL V' 24) (kk : Int) (en_lt LL V' 24) W
                rw [hh] at cH
                have e1 : decide ((kk : Int) < 24) = true := decide_eq_true (by omega)
                have z1 : (kk : Int) < 24 := by omega
                have z2 : decide ((kk : Int) < 0) = false := decide_eq_false (by omega)
                have z4 : (0 : Int) ≤ (kk : Int) := by omega
                have hov := up_one hlk (by decide)
                have hov2 := up_two hlk (by decide)
                unfold ptV at cE
                generalize enN LL V' 24 = EN at *
                clear hh
                go_upto_region 25 with fail
                rw [← hwi]
                clear hwi
                have SA : On wi wi.drew := (On.refl wi).drew
                refine region_fz (fun W => On wi W) [] 9 (by kernel_rfl) rfl ?_
                refine fz_take 0 (v := ?_) rfl (by kernel_rfl) (by kernel_rfl) (by kernel_rfl) (by kernel_rfl) (fun _ _ _ h => h) rfl ?_ SA ?_
                rotate_left
                · intro W hW
                  go_simp
                  (try with_reducible rfl)
                simp only [Act.put, List.setIfInBounds_toArray, List.set_cons_zero, List.set_cons_succ]
                refine fz_take 2 (v := ?_) rfl (by kernel_rfl) (by kernel_rfl) (by kernel_rfl) (by kernel_rfl) (fun _ _ _ h => h) rfl ?_ SA ?_
                rotate_left
                · intro W hW
                  go_simp
                  (try with_reducible rfl)
                simp only [Act.put, List.setIfInBounds_toArray, List.set_cons_zero, List.set_cons_succ]
                refine fz_take 4 (v := ?_) rfl (by kernel_rfl) (by kernel_rfl) (by kernel_rfl) (by kernel_rfl) (fun _ _ _ h => h) rfl ?_ SA ?_
                rotate_left
                · intro W hW
                  go_simp
                  (try with_reducible rfl)
                simp only [Act.put, List.setIfInBounds_toArray, List.set_cons_zero, List.set_cons_succ]
                refine fz_take 5 (v := ?_) rfl (by kernel_rfl) (by kernel_rfl) (by kernel_rfl) (by kernel_rfl) (fun _ _ _ h => h) rfl ?_ SA ?_
                rotate_left
                · intro W hW
                  go_simp
                  (try with_reducible rfl)
                simp only [Act.put, List.setIfInBounds_toArray, List.set_cons_zero, List.set_cons_succ]
                refine fz_take 6 (v := ?_) rfl (by kernel_rfl) (by kernel_rfl) (by kernel_rfl) (by kernel_rfl) (fun _ _ _ h => h) rfl ?_ SA ?_
                rotate_left
                · intro W hW
                  have x1 := (HC10.out.on hW).at (arrF_at (fun q => (cntQ V' q : Nat)) hlk)
                  have xl := (HC10.out.on hW).lt
                  go_simp
                  (try with_reducible rfl)
                simp only [Act.put, List.setIfInBounds_toArray, List.set_cons_zero, List.set_cons_succ]
                refine fz_take 7 (v := ?_) rfl (by kernel_rfl) (by kernel_rfl) (by kernel_rfl) (by kernel_rfl) (fun _ _ _ h => h) rfl ?_ SA ?_
                rotate_left
                · intro W hW
                  go_simp
                  (try with_reducible rfl)
                simp only [Act.put, List.setIfInBounds_toArray, List.set_cons_zero, List.set_cons_succ]
                refine fz_one 1 rfl rfl (by kernel_rfl) (fun K hK => ?_)
                go_simp
                refine (cE _ SA).mono ?_
                rintro _ wc ⟨rfl, kc⟩
                have SC : On wi wc := SA.trans kc
                refine hK.out _ _ (fun _ => SC) ?_
                clear hK
                refine fz_one 3 rfl rfl (by kernel_rfl) (fun K hK => ?_)
                go_simp
                refine (cH _).mono ?_
                rintro _ wd ⟨rfl, hwd⟩
                subst wd
                refine hK.out _ _ (fun _ => SC) ?_
                clear hK
                refine fz_take 8 (v := ?_) rfl (by kernel_rfl) (by kernel_rfl) (by kernel_rfl) (by kernel_rfl) (fun _ _ _ h => h) rfl ?_ SC ?_
                rotate_left
                · intro W hW
                  go_simp
                  (try with_reducible rfl)
                simp only [Act.put, List.setIfInBounds_toArray, List.set_cons_zero, List.set_cons_succ]
                refine fz_done (by kernel_rfl) (NoPanic.normal ?_)
                have HS11 : Hid (VmSt x LL N P0 P1 P2 _ V') := HS10.out.go SC
                have HC11 := HC10.out.on SC
                clear SA SC cE cH kc z1 z2 z4
                have HC12 : Hid (Tb wc A (arrF (fun q => (cntQ V' q : Nat))).toArray 55) := HC11
                clear HC11
                go_wp2
                go_roundg (24 - (kk + 1))
                case measure => clear hov hov2; omega
                case rel => exact ⟨kk + 1, Nat.le_succ_of_le hk4, hlk, rfl, rfl, HS11, HC12⟩
              · obtain rfl : kk = 24 := by omega
                have hov := up_one hlt4 (by decide)
                have hov2 := up_two hlt4 (by decide)
                clear hk4 hk24 hgek
                go_wp2
                go_roundg (40 - (n + 1))
                case measure => clear hov hov2; omega
                case rel => exact ⟨n + 1, V', hlt4, hlt, rfl, rfl, HS10, HVP, HC10⟩
          · rcases Decidable.em (s.k = 6) with hk6 | hk6
            · have f2 : (s.k == 2) = false := by rw [hk6]; rfl
              have f6 : (s.k == 6) = true := by rw [hk6]; rfl
              replace hk2 := hk6
              clear hk6
              have C9 := C8.out.put qq (.int .i64 ((cntQ V qq : Nat) - 1))
              have O9 : OffV A w8 _ := (OffV.refl A w8).set qq (.int .i64 ((cntQ V qq : Nat) - 1))
              rw [arrF_set _ HQQ.out.2, arr_down HCP.out HQQ.out.1 hk2] at C9
              have S9 := HS8.out.off O9 C8.out (by decide) (by decide) (by decide) (by have := HNA.out; omega)
              have hne : ¬ w7.heap.size = A := HNE.out
              have HC9 : Hid (Tb _ A (arrF (fun q => (cntQ V' q : Nat))).toArray 55) := C9
              have HS9 : Hid (VmSt x LL N P0 P1 P2 _ V') := S9
              clear C9 S9 O9 hk2 HCP HLE HS8 C8
              go_wp2_with fail
              clear s1 s2 s3 sl t1 t2 l1 l2 x1 xf xl y1 y2 y4 f2 f6 hne
              clear a1 a2 a3 a4
              go_loopg [16] 20 (fun gg s16 wq => ∃ kk : Nat, 4 ≤ kk ∧ kk ≤ 24 ∧ gg = 24 - kk ∧ s16 = .int .i64 kk ∧ Hid (VmSt x LL N P0 P1 P2 wq V') ∧ Hid (Tb wq A (arrF (fun q => (cntQ V' q : Nat))).toArray 55))
              case atStart => exact ⟨4, by decide, by decide, rfl, rfl, HS9, HC9⟩
              case round =>
                clear HS9 HC9
                obtain ⟨kk, hk4, hk24, hgk, rfl, HS10, HC10⟩ := hrel
                rcases Nat.lt_or_ge kk 24 with hlk | hgek
                · obtain ⟨wi, hwi⟩ : ∃ wi, wi = wr := ⟨_, rfl⟩
                  rw [← hwi] at HS10 HC10
                  have cE := fun W (k : On wi W) => vs_en FX.out (HS10.out.go k)
                  have hh : hasI (enN LL V' 24) (kk : Int) = decide ((0 : Int) < ((cntQ V' kk : Nat) : Int)) := by
                    rw [has_bit, Int.toNat_natCast, en_bit LL V' kk 24 (by decide), decide_eq_true (show 0 ≤ (kk : Int) ∧ (kk : Int) < 64 by omega), decide_eq_true hlk, may_cnt LL V' (by rw [HVP.out]; exact HM2.out) hk4 hlk]
                    simp
                  have cH := fun W => has_is (enN LL V' 24) (kk : Int) (en_lt LL V' 24) W
                  rw [hh] at cH
                  have e1 : decide ((kk : Int) < 24) = true := decide_eq_true (by omega)
                  have z1 : (kk : Int) < 24 := by omega
                  have z2 : decide ((kk : Int) < 0) = false := decide_eq_false (by omega)
                  have z4 : (0 : Int) ≤ (kk : Int) := by omega
                  have hov := up_one hlk (by decide)
                  have hov2 := up_two hlk (by decide)
                  unfold ptV at cE
                  generalize enN LL V' 24 = EN at *
                  clear hh
                  go_upto_region 25 with fail
                  rw [← hwi]
                  clear hwi
                  have SA : On wi wi.drew := (On.refl wi).drew
                  refine region_fz (fun W => On wi W) [] 9 (by kernel_rfl) rfl ?_
                  refine fz_take 0 (v := ?_) rfl (by kernel_rfl) (by kernel_rfl) (by kernel_rfl) (by kernel_rfl) (fun _ _ _ h => h) rfl ?_ SA ?_
                  rotate_left
                  · intro W hW
                    go_simp
                    (try with_reducible rfl)
                  simp only [Act.put, List.setIfInBounds_toArray, List.set_cons_zero, List.set_cons_succ]
                  refine fz_take 2 (v := ?_) rfl (by kernel_rfl) (by kernel_rfl) (by kernel_rfl) (by kernel_rfl) (fun _ _ _ h => h) rfl ?_ SA ?_
                  rotate_left
                  · intro W hW
                    go_simp
                    (try with_reducible rfl)
                  simp only [Act.put, List.setIfInBounds_toArray, List.set_cons_zero, List.set_cons_succ]
                  refine fz_take 4 (v := ?_) rfl (by kernel_rfl) (by kernel_rfl) (by kernel_rfl) (by kernel_rfl) (fun _ _ _ h => h) rfl ?_ SA ?_
                  rotate_left
                  · intro W hW
                    go_simp
                    (try with_reducible rfl)
                  simp only [Act.put, List.setIfInBounds_toArray, List.set_cons_zero, List.set_cons_succ]
                  refine fz_take 5 (v := ?_) rfl (by kernel_rfl) (by kernel_rfl) (by kernel_rfl) (by kernel_rfl) (fun _ _ _ h => h) rfl ?_ SA ?_
                  rotate_left
                  · intro W hW
                    go_simp
                    (try with_reducible rfl)
                  simp only [Act.put, List.setIfInBounds_toArray, List.set_cons_zero, List.set_cons_succ]
                  refine fz_take 6 (v := ?_) rfl (by kernel_rfl) (by kernel_rfl) (by kernel_rfl) (by kernel_rfl) (fun _ _ _ h => h) rfl ?_ SA ?_
                  rotate_left
                  · intro W hW
                    have x1 := (HC10.out.on hW).at (arrF_at (fun q => (cntQ V' q : Nat)) hlk)
                    have xl := (HC10.out.on hW).lt
                    go_simp
                    (try with_reducible rfl)
                  simp only [Act.put, List.setIfInBounds_toArray, List.set_cons_zero, List.set_cons_succ]
                  refine fz_take 7 (v := ?_) rfl (by kernel_rfl) (by kernel_rfl) (by kernel_rfl) (by kernel_rfl) (fun _ _ _ h => h) rfl ?_ SA ?_
                  rotate_left
                  · intro W hW
                    go_simp
                    (try with_reducible rfl)
                  simp only [Act.put, List.setIfInBounds_toArray, List.set_cons_zero, List.set_cons_succ]
                  refine fz_one 1 rfl rfl (by kernel_rfl) (fun K hK => ?_)
                  go_simp
                  refine (cE _ SA).mono ?_
                  rintro _ wc ⟨rfl, kc⟩
                  have SC : On wi wc := SA.trans kc
                  refine hK.out _ _ (fun _ => SC) ?_
                  clear hK
                  refine fz_one 3 rfl rfl (by kernel_rfl) (fun K hK => ?_)
                  go_simp
                  refine (cH _).mono ?_
                  rintro _ wd ⟨rfl, hwd⟩
                  subst wd
                  refine hK.out _ _ (fun _ => SC) ?_
                  clear hK
                  refine fz_take 8 (v := ?_) rfl (by kernel_rfl) (by kernel_rfl) (by kernel_rfl) (by kernel_rfl) (fun _ _ _ h => h) rfl ?_ SC ?_
                  rotate_left
                  · intro W hW
                    go_simp
                    (try with_reducible rfl)
                  simp only [Act.put, List.setIfInBounds_toArray, List.set_cons_zero, List.set_cons_succ]
                  refine fz_done (by kernel_rfl) (NoPanic.normal ?_)
                  have HS11 : Hid (VmSt x LL N P0 P1 P2 _ V') := HS10.out.go SC
                  have HC11 := HC10.out.on SC
                  clear SA SC cE cH kc z1 z2 z4
                  have HC12 : Hid (Tb wc A (arrF (fun q => (cntQ V' q : Nat))).toArray 55) := HC11
                  clear HC11
                  go_wp2
                  go_roundg (24 - (kk + 1))
                  case measure => clear hov hov2; omega
                  case rel => exact ⟨kk + 1, Nat.le_succ_of_le hk4, hlk, rfl, rfl, HS11, HC12⟩
                · obtain rfl : kk = 24 := by omega
                  have hov := up_one hlt4 (by decide)
                  have hov2 := up_two hlt4 (by decide)
                  clear hk4 hk24 hgek
                  go_wp2
                  go_roundg (40 - (n + 1))
                  case measure => clear hov hov2; omega
                  case rel => exact ⟨n + 1, V', hlt4, hlt, rfl, rfl, HS10, HVP, HC10⟩
            · have f2 : (s.k == 2) = false := by rw [beq_eq_false_iff_ne]; exact hk2
              have f6 : (s.k == 6) = false := by rw [beq_eq_false_iff_ne]; exact hk6
              have C9 := C8.out
              rw [arr_same HCP.out hk2 hk6] at C9
              have HC9 : Hid (Tb w8 A (arrF (fun q => (cntQ V' q : Nat))).toArray 55) := C9
              have HS9 := HS8
              clear C9 hk2 hk6 HCP HLE HS8 C8
              go_wp2_with fail
              clear s1 s2 s3 sl t1 t2 l1 l2 x1 xf xl y1 y2 y4 f2 f6
              clear a1 a2 a3 a4
              go_loopg [16] 20 (fun gg s16 wq => ∃ kk : Nat, 4 ≤ kk ∧ kk ≤ 24 ∧ gg = 24 - kk ∧ s16 = .int .i64 kk ∧ Hid (VmSt x LL N P0 P1 P2 wq V') ∧ Hid (Tb wq A (arrF (fun q => (cntQ V' q : Nat))).toArray 55))
              case atStart => exact ⟨4, by decide, by decide, rfl, rfl, HS9, HC9⟩
              case round =>
                clear HS9 HC9
                obtain ⟨kk, hk4, hk24, hgk, rfl, HS10, HC10⟩ := hrel
                rcases Nat.lt_or_ge kk 24 with hlk | hgek
                · obtain ⟨wi, hwi⟩ : ∃ wi, wi = wr := ⟨_, rfl⟩
                  rw [← hwi] at HS10 HC10
                  have cE := fun W (k : On wi W) => vs_en FX.out (HS10.out.go k)
                  have hh : hasI (enN LL V' 24) (kk : Int) = decide ((0 : Int) < ((cntQ V' kk : Nat) : Int)) := by
                    rw [has_bit, Int.toNat_natCast, en_bit LL V' kk 24 (by decide), decide_eq_true (show 0 ≤ (kk : Int) ∧ (kk : Int) < 64 by omega), decide_eq_true hlk, may_cnt LL V' (by rw [HVP.out]; exact HM2.out) hk4 hlk]
                    simp
                  have cH := fun W => has_is (enN LL V' 24) (kk : Int) (en_lt LL V' 24) W
                  rw [hh] at cH
                  have e1 : decide ((kk : Int) < 24) = true := decide_eq_true (by omega)
                  have z1 : (kk : Int) < 24 := by omega
                  have z2 : decide ((kk : Int) < 0) = false := decide_eq_false (by omega)
                  have z4 : (0 : Int) ≤ (kk : Int) := by omega
                  have hov := up_one hlk (by decide)
                  have hov2 := up_two hlk (by decide)
                  unfold ptV at cE
                  generalize enN LL V' 24 = EN at *
                  clear hh
                  go_upto_region 25 with fail
                  rw [← hwi]
                  clear hwi
                  have SA : On wi wi.drew := (On.refl wi).drew
                  refine region_fz (fun W => On wi W) [] 9 (by kernel_rfl) rfl ?_
                  refine fz_take 0 (v := ?_) rfl (by kernel_rfl) (by kernel_rfl) (by kernel_rfl) (by kernel_rfl) (fun _ _ _ h => h) rfl ?_ SA ?_
                  rotate_left
                  · intro W hW
                    go_simp
                    (try with_reducible rfl)
                  simp only [Act.put, List.setIfInBounds_toArray, List.set_cons_zero, List.set_cons_succ]
                  refine fz_take 2 (v := ?_) rfl (by kernel_rfl) (by kernel_rfl) (by kernel_rfl) (by kernel_rfl) (fun _ _ _ h => h) rfl ?_ SA ?_
                  rotate_left
                  · intro W hW
                    go_simp
                    (try with_reducible rfl)
                  simp only [Act.put, List.setIfInBounds_toArray, List.set_cons_zero, List.set_cons_succ]
                  refine fz_take 4 (v := ?_) rfl (by kernel_rfl) (by kernel_rfl) (by kernel_rfl) (by kernel_rfl) (fun _ _ _ h => h) rfl ?_ SA ?_
                  rotate_left
                  · intro W hW
                    go_simp
                    (try with_reducible rfl)
                  simp only [Act.put, List.setIfInBounds_toArray, List.set_cons_zero, List.set_cons_succ]
                  refine fz_take 5 (v := ?_) rfl (by kernel_rfl) (by kernel_rfl) (by kernel_rfl) (by kernel_rfl) (fun _ _ _ h => h) rfl ?_ SA ?_
                  rotate_left
                  · intro W hW
                    go_simp
                    (try with_reducible rfl)
                  simp only [Act.put, List.setIfInBounds_toArray, List.set_cons_zero, List.set_cons_succ]
                  refine fz_take 6 (v := ?_) rfl (by kernel_rfl) (by kernel_rfl) (by kernel_rfl) (by kernel_rfl) (fun _ _ _ h => h) rfl ?_ SA ?_
                  rotate_left
                  · intro W hW
                    have x1 := (HC10.out.on hW).at (arrF_at (fun q => (cntQ V' q : Nat)) hlk)
                    have xl := (HC10.out.on hW).lt
                    go_simp
                    (try with_reducible rfl)
                  simp only [Act.put, List.setIfInBounds_toArray, List.set_cons_zero, List.set_cons_succ]
                  refine fz_take 7 (v := ?_) rfl (by kernel_rfl) (by kernel_rfl) (by kernel_rfl) (by kernel_rfl) (fun _ _ _ h => h) rfl ?_ SA ?_
                  rotate_left
                  · intro W hW
                    go_simp
                    (try with_reducible rfl)
                  simp only [Act.put, List.setIfInBounds_toArray, List.set_cons_zero, List.set_cons_succ]
                  refine fz_one 1 rfl rfl (by kernel_rfl) (fun K hK => ?_)
                  go_simp
                  refine (cE _ SA).mono ?_
                  rintro _ wc ⟨rfl, kc⟩
                  have SC : On wi wc := SA.trans kc
                  refine hK.out _ _ (fun _ => SC) ?_
                  clear hK
                  refine fz_one 3 rfl rfl (by kernel_rfl) (fun K hK => ?_)
                  go_simp
                  refine (cH _).mono ?_
                  rintro _ wd ⟨rfl, hwd⟩
                  subst wd
                  refine hK.out _ _ (fun _ => SC) ?_
                  clear hK
                  refine fz_take 8 (v := ?_) rfl (by kernel_rfl) (by kernel_rfl) (by kernel_rfl) (by kernel_rfl) (fun _ _ _ h => h) rfl ?_ SC ?_
                  rotate_left
                  · intro W hW
                    go_simp
                    (try with_reducible rfl)
                  simp only [Act.put, List.setIfInBounds_toArray, List.set_cons_zero, List.set_cons_succ]
                  refine fz_done (by kernel_rfl) (NoPanic.normal ?_)
                  have HS11 : Hid (VmSt x LL N P0 P1 P2 _ V') := HS10.out.go SC
                  have HC11 := HC10.out.on SC
                  clear SA SC cE cH kc z1 z2 z4
                  have HC12 : Hid (Tb wc A (arrF (fun q => (cntQ V' q : Nat))).toArray 55) := HC11
                  clear HC11
                  go_wp2
                  go_roundg (24 - (kk + 1))
                  case measure => clear hov hov2; omega
                  case rel => exact ⟨kk + 1, Nat.le_succ_of_le hk4, hlk, rfl, rfl, HS11, HC12⟩
                · obtain rfl : kk = 24 := by omega
                  have hov := up_one hlt4 (by decide)
                  have hov2 := up_two hlt4 (by decide)
                  clear hk4 hk24 hgek
                  go_wp2
                  go_roundg (40 - (n + 1))
                  case measure => clear hov hov2; omega
                  case rel => exact ⟨n + 1, V', hlt4, hlt, rfl, rfl, HS10, HVP, HC10⟩
      · have d1 : decide ((n : Int) < vs.length) = true := decide_eq_true (by omega)
        have d2 : decide ((n : Int) < 40) = false := decide_eq_false (by omega)
        have K7 : Hid (On w wr) := HX.out.trans HS.out.on
        go_wp2_with fail
        refine (HA.out _ K7.out).mono ?_
        rintro _ w7 ⟨rfl, k7⟩
        go_wp2
        go_ret
        exact ⟨rfl, K7.out.trans k7⟩
    · have d1 : decide ((n : Int) < vs.length) = false := decide_eq_false (by omega)
      have K7 : Hid (On w wr) := HX.out.trans HS.out.on
      go_wp2_with fail
      refine (HA.out _ K7.out).mono ?_
      rintro _ w7 ⟨rfl, k7⟩
      go_wp2
      go_ret
      exact ⟨rfl, K7.out.trans k7⟩
end Go.Proofs.YtplihlmejnohnaaGreatDoor

namespace Go.Proofs.YtplihlmejnohnaaGreatDoor
open Go.RowKit

theorem infoStE : (Tryz.prog.info? 39).map (fun i => (i.zero, i.size, i.bytes)) = some (some (stV stZ), 7, 56) := by kernel_rfl
theorem made_step (n : Nat) : (madeCells (stV stZ).cells (n * 7)).toList = (List.replicate n stZ).flatMap stC := by
  apply List.ext_getElem?
  intro j
  have hl : ((List.replicate n stZ).flatMap stC).length = n * 7 := by simp [List.length_flatMap, stC, stL]
  by_cases hj : j < n * 7
  · have h1 : (List.replicate n stZ)[j / 7]? = some stZ := by rw [List.getElem?_replicate]; simp; omega
    have h2 := flat_at stC 7 (fun _ => rfl) (List.replicate n stZ) (j / 7) (j % 7) stZ h1 (Nat.mod_lt _ (by decide))
    rw [show j / 7 * 7 + j % 7 = j by omega] at h2
    rw [h2]
    have h3 : (madeCells (stV stZ).cells (n * 7)).toList[j]? = some ((stV stZ).cells[j % (stV stZ).cells.size]!) := by simp [madeCells, hj]
    rw [h3]
    have h4 : ∀ k, k < 7 → some ((stV stZ).cells[k]!) = (stC stZ)[k]? := fun k hk => by
      match k, hk with
      | 0, _ => rfl
      | 1, _ => rfl
      | 2, _ => rfl
      | 3, _ => rfl
      | 4, _ => rfl
      | 5, _ => rfl
      | 6, _ => rfl
    exact h4 (j % 7) (Nat.mod_lt _ (by decide))
  · have h5 : (madeCells (stV stZ).cells (n * 7)).toList[j]? = none := List.getElem?_eq_none (by simp [madeCells]; omega)
    rw [h5, List.getElem?_eq_none (by rw [hl]; omega)]
theorem stp_len : ∀ R : List StT, (R.flatMap stC).length = R.length * 7
  | [] => rfl
  | s :: R => by
    rw [List.flatMap_cons, List.length_append, stp_len R, List.length_cons]
    show 7 + _ = _
    omega
section
variable {w : World} {g k : Nat} {R : List StT}
theorem Tb.stp (h : Tb w g (R.flatMap stC).toArray 39) (hk : k < R.length) (s : StT) : Tb (w.setCells g (k * 7) (stC s)) g ((R.set k s).flatMap stC).toArray 39 := by
  have hp := heap_puts (stC s) w _ (k * 7) h
  rw [putAt_flat stC 7 (fun _ => rfl) R k s hk] at hp
  exact hp
theorem OffV.stp (w : World) (g o : Nat) (s : StT) : OffV g w (w.setCells g o (stC s)) := (((((((OffV.refl g w).set _ _).set _ _).set _ _).set _ _).set _ _).set _ _).set _ _
theorem stp_next (k : Nat) (D : List StT) (s : StT) : ((List.replicate (k + 1) stZ ++ D.reverse).set k s) = List.replicate k stZ ++ (D ++ [s]).reverse := by
  rw [List.replicate_succ', List.append_assoc, List.set_append_right _ _ (by simp)]
  simp
theorem full_cells {base n : Nat} {e : TypeId} {xs : List Value} (h : w.ownsRow base e 7 (.slice (some ⟨g, 0, none⟩) n n) n xs) (hn : 0 < n) : Tb w g xs.toArray e := by
  rcases h.2 with ⟨_, h0⟩ | ⟨g', cap, cur, hv, hb, hh, hc, hm, hs, ht⟩
  · omega
  · simp only [Value.slice.injEq, Option.some.injEq, Addr.mk.injEq] at hv
    obtain ⟨⟨rfl, _, _⟩, _, rfl⟩ := hv
    have e1 : cur.toList = xs := by
      rw [← ht, List.take_of_length_le (by simp only [Array.length_toList]; omega)]
    show w.heap[g]? = _
    rw [hh, ← e1]
end
section
variable {o : Oper} {a : Act} {w : World} {Q : Exit → Act → World → Prop} {ops : Array Oper} {rest : List Oper} {x y : Operand} {d g k : Nat} {s : StT} {q : Value}
/-- A step read whole out of what hangs together. -/
theorem wpList_sdl (hgd : o.guard = none) (ho : o.op = .load 39 x) (hx : a.eval x = .pointer (some ⟨d, 0, none⟩)) (h : Tb w d (doneA s q) 95)
    (K : wpList Tryz.prog ops Q rest (a.put o.dst (stV s)) w) : wpList Tryz.prog ops Q (o :: rest) a w :=
  wpList_load_mid hgd 39 x ho d 0 hx (stC s) _ (h.range (fun j v hv => by
    rw [Nat.zero_add, List.getElem?_append_left (List.getElem?_eq_some_iff.1 hv).1]
    exact hv)) fields_step rfl (by exact step_sz) K
/-- A step put whole into its place in a row. -/
theorem wpList_sds (hgd : o.guard = none) (ho : o.op = .store 39 x y) {R : List StT} (hx : a.eval x = .pointer (some ⟨g, k * 7, none⟩)) (hy : a.eval y = stV s) (h : Tb w g (R.flatMap stC).toArray 39) (hk : k < R.length)
    (K : ∀ W, Tb W g ((R.set k s).flatMap stC).toArray 39 → OffV g w W → wpList Tryz.prog ops Q rest (a.put o.dst undef) W) : wpList Tryz.prog ops Q (o :: rest) a w :=
  wpList_store_mid hgd 39 x y ho g (k * 7) (stC s).toArray hx hy (h.there (by
    show k * 7 + 7 ≤ (R.flatMap stC).length
    rw [stp_len]
    omega)) (by exact step_sz) (by rw [Array.all_eq_true_iff_forall_mem]; exact stC_one s) (K _ (h.stp hk s) (OffV.stp w g (k * 7) s))
end
set_option maxHeartbeats 4000000 in
set_option maxRecDepth 8000 in
theorem steps_is (N : Nat) (P0 P1 P2 : Value) (V : VmT) (w : World) (h : VmIn w N P0 P1 P2 V) (h80 : V.st.length ≤ 80) :
    Calls Tryz.prog 15 #[ptV N] w fun e w' => ∃ g c, e = .returned (.slice (some ⟨g, 0, none⟩) V.st.length c) ∧ Rd stC 7 w' (.slice (some ⟨g, 0, none⟩) V.st.length c) V.st.reverse ∧ On w w' := by
  obtain ⟨B, q, hN, hR⟩ := h
  obtain ⟨i0, hi, hz0, hz1, hz2⟩ := info_parts infoStE
  obtain ⟨n, hn⟩ : ∃ n, n = V.st.length := ⟨_, rfl⟩
  have hl0 : Hid (Lst w q V.st) := hR.lst
  have c36 : w.cell? ⟨N, 36, none⟩ = some (.int .i64 n) := hN.at (by rw [hn]; rfl)
  have c37 : w.cell? ⟨N, 37, none⟩ = some q := hN.at rfl
  have lt := hN.lt
  rw [← hn] at h80 ⊢
  generalize V.st = S at *
  have HN : Hid (n = S.length) := hn
  have HB2 : Hid (i0.bytes * n ≤ 281474976710656) := by show _ ≤ _; rw [hz2]; omega
  have HB3 : Hid (n ≤ maxLen) := by show _ ≤ _; unfold maxLen; omega
  have H80 : Hid (n ≤ 80) := h80
  have HI : Hid (Tryz.prog.info? 39 = some i0) := hi
  have HZ0 : Hid (i0.zero = some (stV stZ)) := hz0
  have HZ1 : Hid (i0.size = 7) := hz1
  clear hN hR hn hi hz0 hz1 hz2 h80
  unfold ptV
  go_enter Tryz.func15, Tryz.ntmps15
  go_wp2_with (refine wpList_make_full _ rfl _ _ 42 rfl w.heap.size 39 i0 _ 7 Tryz.underlying42 HI.out HZ0.out HZ1.out .i64 .i64 _ _ n rfl rfl rfl rfl HB2.out HB3.out (Nat.le_refl _) fun w1 ho hg => ?_
               have k1 : On w w1 := (On.refl w).grownNone hg
               have d36 : w1.cell? ⟨N, 36, none⟩ = some (.int .i64 n) := (k1.cell (p := ⟨N, 36, none⟩) lt).trans c36
               have d37 : w1.cell? ⟨N, 37, none⟩ = some q := (k1.cell (p := ⟨N, 37, none⟩) lt).trans c37
               have K1 : Hid (On w w1) := k1
               have HL1 : Hid (Lst w1 q S) := Lst.on k1 hl0.out
               have HT1 : Hid (0 < n → Tb w1 w.heap.size ((List.replicate S.length stZ ++ ([] : List StT).reverse).flatMap stC).toArray 39) := fun hp => by
                 have := full_cells ho hp
                 rw [made_step, HN.out] at this
                 rw [List.reverse_nil, List.append_nil]
                 exact this
               clear ho hg k1)
  clear d36 d37 HB2 HB3 HI HZ0 HZ1 c36 c37 hl0
  have HG : Hid (w.heap.size ≤ w.heap.size) := Nat.le_refl _
  obtain ⟨g, hgg⟩ : ∃ g, g = w.heap.size := ⟨_, rfl⟩
  have HG : Hid (w.heap.size ≤ g) := by show _ ≤ _; omega
  rw [← hgg] at HT1 ⊢
  clear hgg
  go_loopg [4, 5] n (fun gg s4 s5 wq => ∃ (D L : List StT), gg = L.length ∧ s4 = .int .i64 (L.length : Nat) ∧ Hid (S = D ++ L) ∧ Hid (Lst wq s5 L) ∧ Hid (0 < n → Tb wq g ((List.replicate L.length stZ ++ D.reverse).flatMap stC).toArray 39) ∧ Hid (On w wq))
  case atStart => exact ⟨[], S, HN.out, by rw [HN.out], rfl, HL1, HT1, K1⟩
  case round =>
    clear HL1 HT1 K1
    obtain ⟨D, L, hg, rfl, HS, HL, HT, HO⟩ := hrel
    cases L with
    | nil =>
      obtain rfl := HL.out
      clear HL
      go_wp2
      go_ret
      refine ⟨_, n, rfl, ?_, HO.out⟩
      have e1 : D = S := by rw [HS.out, List.append_nil]
      rcases Nat.eq_zero_or_pos n with h0 | hp
      · have e2 : S = [] := List.length_eq_zero_iff.1 (by rw [← HN.out, h0])
        rw [h0, e2]
        exact ⟨_, _, rfl, Nat.zero_le _, by simp, fun h => absurd h (Nat.lt_irrefl 0)⟩
      · have h1 := HT.out hp
        rw [e1] at h1
        have h2 := Rd.bk (C := stC) (k := 7) (fun _ => rfl) (L := S.reverse) h1.bk n (by rw [List.length_reverse, ← HN.out]; exact Nat.le_refl _) (by rw [List.length_reverse, ← HN.out]; have := H80.out; omega)
        rw [List.length_reverse, ← HN.out] at h2
        exact h2
    | cons s L =>
      obtain ⟨d, q', rfl, hb, hl⟩ := HL.out
      have hlen : D.length + (L.length + 1) = n := by rw [HN.out, HS.out]; simp
      have ht := HT.out (by omega)
      have HLL : Hid (Lst wr q' L) := hl
      have HBD : Hid (Tb wr d (doneA s q') 95) := hb
      have HTT : Hid (Tb wr g ((List.replicate (L.length + 1) stZ ++ D.reverse).flatMap stC).toArray 39) := ht
      obtain ⟨k, hk⟩ : ∃ k, k = L.length := ⟨_, rfl⟩
      rw [List.length_cons, ← hk] at hg ⊢
      rw [← hk] at HTT hlen
      have HK : Hid (k = L.length) := hk
      have HSZ : Hid (k < (List.replicate (k + 1) stZ ++ D.reverse).length) := by show _ < _; simp; omega
      have hne : ¬ d = g := hb.ne ht (by decide)
      have sub1 : IntKind.i64.wrap (k : Int) = (k : Int) := by have := H80.out; exact wrapT (by omega) (by omega)
      have sub2 : wrap64 (k : Int) = (k : Int) := by have := H80.out; exact wrapS (by omega) (by omega)
      have b1 : (k : Int) < (n : Int) := by omega
      have b2 : decide ((k : Int) < 0) = false := decide_eq_false (by omega)
      have b4 : (0 : Int) ≤ (k : Int) := by omega
      have q1 := hb.at (i := 7) (v := q') rfl
      have ql := hb.lt
      clear HL HT hb hl ht hk hlen
      unfold ptV
      go_wp2_with (first
        | (refine wpList_sdl (s := s) (d := d) rfl rfl rfl HBD.out ?_)
        | (refine wpList_sds (s := s) (g := g) (k := k) rfl rfl (by simp [Act.eval]) (by simp [Act.eval]) HTT.out HSZ.out ?_
           intro w2 ht2 o2
           rw [stp_next] at ht2
           have q2 := (o2.tk HBD.out hne).at (i := 7) (v := q') rfl
           have HT2 : Hid (Tb w2 g ((List.replicate k stZ ++ (D ++ [s]).reverse).flatMap stC).toArray 39) := ht2
           have HL2 : Hid (Lst w2 q' L) := Lst.off o2 (by decide) HTT.out HLL.out
           have HO2 : Hid (On w w2) := o2.on HO.out HG.out
           clear ht2 o2))
      go_roundg k
      case measure => omega
      case rel => exact ⟨D ++ [s], L, HK.out, by rw [HK.out], by show _ = _; rw [HS.out]; simp, HL2, fun _ => by rw [← HK.out]; exact HT2.out, HO2⟩
end Go.Proofs.YtplihlmejnohnaaGreatDoor

namespace Go.Proofs.YtplihlmejnohnaaGreatDoor
open Go.RowKit

theorem at_snoc {α : Type} {S : List α} {s x : α} {i : Nat} (h : (S ++ [s])[i]? = some x) : (i < S.length ∧ S[i]? = some x) ∨ (i = S.length ∧ x = s) := by
  rw [List.getElem?_append] at h
  split at h
  · rename_i hl
    exact Or.inl ⟨hl, h⟩
  · rename_i hl
    have hi := (List.getElem?_eq_some_iff.1 h).1
    rw [List.length_singleton] at hi
    have e : i - S.length = 0 := by omega
    rw [e] at h
    cases h
    exact Or.inr ⟨by omega, rfl⟩
theorem at_left {α : Type} {S : List α} {s x : α} {i : Nat} (h : S[i]? = some x) : (S ++ [s])[i]? = some x := by
  rw [List.getElem?_append_left (List.getElem?_eq_some_iff.1 h).1]
  exact h
theorem at_last {α : Type} (S : List α) (s : α) : (S ++ [s])[S.length]? = some s := by
  rw [List.getElem?_append_right (Nat.le_refl _), Nat.sub_self]
  rfl
theorem wcut_sub (m : Int) (w : List EnT) (c : Int) : (wcut m w c).Sublist w := by
  unfold wcut
  split
  · unfold cutL
    have := (List.Sublist.refl (w.take (fstN m w c))).append (List.drop_sublist_drop_left w (Nat.le_succ (fstN m w c)))
    rw [List.take_append_drop] at this
    exact this
  · exact List.Sublist.refl _
theorem wcut_or {m : Int} {w : List EnT} {c : Int} {e x : EnT} (h : w[fstN m w c]? = some e) (hx : x ∈ w) : x ∈ wcut m w c ∨ x = e := by
  have hl := (List.getElem?_eq_some_iff.1 h).1
  unfold wcut
  rw [if_pos hl]
  unfold cutL
  generalize fstN m w c = k at *
  rw [← List.take_append_drop k w] at hx
  rcases List.mem_append.1 hx with hx | hx
  · exact Or.inl (List.mem_append_left _ hx)
  · rw [List.drop_eq_getElem_cons hl] at hx
    rcases List.mem_cons.1 hx with hx | hx
    · rw [List.getElem?_eq_getElem hl] at h
      cases h
      exact Or.inr hx
    · exact Or.inl (List.mem_append_right _ hx)
theorem cut_after {m : Int} {w : List EnT} {c : Int} {e x : EnT} (hp : w.Pairwise (fun a b => a.2.2 < b.2.2)) (h : w[fstN m w c]? = some e) (hx : x ∈ wcut m w c) (hs : seesW m c x = true) : e.2.2 < x.2.2 := by
  have hl := (List.getElem?_eq_some_iff.1 h).1
  have hf : (filtW m w c).head? = some e := by
    unfold filtW
    unfold fstN at h
    rw [← filt_head] at h
    rw [List.head?_eq_getElem?]
    exact h
  have hm : x ∈ filtW m (wcut m w c) c := List.mem_filter.2 ⟨hx, hs⟩
  have hc : filtW m (wcut m w c) c = (filtW m w c).tail := by
    unfold wcut
    rw [if_pos hl]
    unfold filtW fstN at *
    rw [filt_cut]
  rw [hc] at hm
  have hq : (filtW m w c).Pairwise (fun a b => a.2.2 < b.2.2) := hp.filter _
  cases hF : filtW m w c with
  | nil => rw [hF] at hf; cases hf
  | cons y L =>
    rw [hF] at hf hm hq
    cases hf
    exact (List.pairwise_cons.1 hq).1 x hm
/-- What is known of a machine's steps (the first one first) and of what waits, in the weak models. -/
structure FirI (m : Int) (S : List StT) (b : Nat → List EnT) : Prop where
  inc : ∀ t, (b t).Pairwise (fun x y => x.2.2 < y.2.2)
  aft : ∀ (i : Nat) (s : StT), S[i]? = some s → s.k = 6 → ∀ t : Nat, s.t = (t : Int) → ∀ e ∈ b t, (m = 3 → s.l = e.1) → s.f < e.2.2
  bd : ∀ (i : Nat) (s : StT), S[i]? = some s → s.k = 6 → s.f < (i : Int)
  kept : ∀ (i : Nat) (s : StT), S[i]? = some s → s.k = 2 → ∀ t : Nat, s.t = (t : Int) → (∃ e ∈ b t, e.2.2 = (i : Int)) ∨ ∃ (j : Nat) (s' : StT), i < j ∧ S[j]? = some s' ∧ s'.k = 6 ∧ s'.f = (i : Int)
  ord : ∀ (i k : Nat) (s s' : StT), i < k → S[i]? = some s → S[k]? = some s' → s.k = 6 → s'.k = 6 → s.t = s'.t → (m = 3 → s.l = s'.l) → s.f < s'.f
  dra : ∀ (i : Nat) (s : StT), S[i]? = some s → (s.k = 3 ∨ s.k = 4 ∨ s.k = 5) → ∀ (k : Nat) (s' : StT), k < i → S[k]? = some s' → s'.t = s.t → s'.k = 2 → ∃ (j : Nat) (x : StT), k < j ∧ j < i ∧ S[j]? = some x ∧ x.k = 6 ∧ x.f = (k : Int)
theorem FirI.new (m : Int) : FirI m [] (fun _ => []) :=
  { inc := fun _ => List.Pairwise.nil
    aft := fun _ _ h => by cases h
    bd := fun _ _ h => by cases h
    kept := fun _ _ h => by cases h
    ord := fun _ _ _ _ _ h => by cases h
    dra := fun _ _ h => by cases h }
theorem done_t (V : VmT) (p : Nat) (x : InsT) : (doneS V p x).t = (p : Int) := by
  unfold doneS
  repeat' split
  all_goals rfl
theorem done_k6 (V : VmT) (p : Nat) (x : InsT) : (doneS V p x).k ≠ 6 := by
  unfold doneS
  repeat' split
  all_goals exact fun h => by cases h
/-- A fence and a swap are there only where nothing of their thread waits. -/
theorem done_hard {LL : List (List InsT)} {V : VmT} {p : Nat} {x : InsT} (hx : nxt LL V p = some x) (hr : readyB LL V p = true) (hk : (doneS V p x).k = 3 ∨ (doneS V p x).k = 4 ∨ (doneS V p x).k = 5) : V.b p = [] := by
  have h34 : x.k = 3 ∨ x.k = 4 := by
    rcases nxt_kind hx with h | h | h | h
    · unfold doneS at hk
      rw [h] at hk
      have : (2 : Int) = 3 ∨ (2 : Int) = 4 ∨ (2 : Int) = 5 := hk
      omega
    · unfold doneS at hk
      rw [h] at hk
      have : (1 : Int) = 3 ∨ (1 : Int) = 4 ∨ (1 : Int) = 5 := hk
      omega
    · exact Or.inl h
    · exact Or.inr h
  unfold readyB at hr
  rw [hx] at hr
  have : hardB ((some x).getD insZ).k = true := by
    show (x.k == 3 || x.k == 4) = true
    rcases h34 with h | h <;> rw [h] <;> rfl
  rw [if_pos this] at hr
  exact List.length_eq_zero_iff.1 (by simpa using hr)
section
variable {LL : List (List InsT)} {V : VmT} {p : Nat}
theorem FirI.pick (hL : LOk LL) (k : VOk LL V) (hm : V.m = 2 ∨ V.m = 3) (hp : p < 24) (hmay : mayN LL V p = true) (h : FirI V.m V.st.reverse V.b) : FirI V.m (pickV LL V p).st.reverse (pickV LL V p).b := by
  have so := step_ok hL k hp hmay
  have hne1 : V.m ≠ 1 := by omega
  have hst : (pickV LL V p).st.reverse = V.st.reverse ++ [stepOf LL V p] := by
    show (_ :: _).reverse = _
    rw [List.reverse_cons]
  have hn : V.st.reverse.length = V.st.length := List.length_reverse
  rw [hst]
  by_cases h4 : p < 4
  · have hmay' := hmay
    unfold mayN at hmay'
    rw [if_pos h4] at hmay'
    obtain ⟨x, hx⟩ := ready_some hmay'
    have hs : stepOf LL V p = doneS V p x := by unfold stepOf; rw [if_pos h4, hx]; rfl
    have hk6 : (stepOf LL V p).k ≠ 6 := by rw [hs]; exact done_k6 V p x
    have htt : (stepOf LL V p).t = (p : Int) := by rw [hs]; exact done_t V p x
    have hhard : (stepOf LL V p).k = 3 ∨ (stepOf LL V p).k = 4 ∨ (stepOf LL V p).k = 5 → V.b p = [] := by rw [hs]; exact done_hard hx hmay'
    have hb : (pickV LL V p).b = if (stepOf LL V p).k == 2 && V.m != 1 then upf V.b p (V.b p ++ [((stepOf LL V p).l, (stepOf LL V p).w, (V.st.length : Int))]) else V.b := by
      show bA V p (stepOf LL V p) = _
      unfold bA
      rw [if_pos h4]
    have e1 : (V.m != 1) = true := by rw [bne_iff_ne]; exact hne1
    generalize stepOf LL V p = s at *
    have hent := k.ent
    generalize (pickV LL V p).b = b' at *
    rw [← hn] at hb hent
    generalize V.st.reverse = S at *
    by_cases hk2 : s.k = 2
    · have e2 : (s.k == 2) = true := by rw [hk2]; rfl
      rw [e2, e1, if_pos (show (true && true) = true from rfl)] at hb
      have hbp : b' p = V.b p ++ [(s.l, s.w, (S.length : Int))] := by rw [hb, upf_same]
      have hbo : ∀ t, t ≠ p → b' t = V.b t := fun t ht => by rw [hb, upf_other _ _ ht]
      refine ⟨fun t => ?_, fun i s' hi h6 t ht e he hl => ?_, fun i s' hi h6 => ?_, fun i s' hi h2 t ht => ?_, fun i j s' s'' hij hi hj h6 h6' ht hl => ?_, fun i s' hi hk j s'' hji hj ht h2 => ?_⟩
      · by_cases htp : t = p
        · subst htp
          rw [hbp, List.pairwise_append]
          refine ⟨h.inc t, List.pairwise_singleton _ _, fun a ha c hc => ?_⟩
          rw [List.mem_singleton.1 hc]
          exact (hent t a ha).2.2.2.2
        · rw [hbo t htp]
          exact h.inc t
      · rcases at_snoc hi with ⟨hlt, hi⟩ | ⟨_, rfl⟩
        · by_cases htp : t = p
          · subst htp
            rw [hbp] at he
            rcases List.mem_append.1 he with he | he
            · exact h.aft i s' hi h6 t ht e he hl
            · rw [List.mem_singleton.1 he]
              have := h.bd i s' hi h6
              show s'.f < (S.length : Int)
              omega
          · rw [hbo t htp] at he
            exact h.aft i s' hi h6 t ht e he hl
        · exact absurd h6 hk6
      · rcases at_snoc hi with ⟨hlt, hi⟩ | ⟨_, rfl⟩
        · exact h.bd i s' hi h6
        · exact absurd h6 hk6
      · rcases at_snoc hi with ⟨hlt, hi⟩ | ⟨rfl, rfl⟩
        · rcases h.kept i s' hi h2 t ht with ⟨e, he, hei⟩ | ⟨j, x', hij, hj, hx6, hxf⟩
          · refine Or.inl ⟨e, ?_, hei⟩
            by_cases htp : t = p
            · subst htp
              rw [hbp]
              exact List.mem_append_left _ he
            · rw [hbo t htp]
              exact he
          · exact Or.inr ⟨j, x', hij, at_left hj, hx6, hxf⟩
        · have htp : t = p := by omega
          subst htp
          exact Or.inl ⟨_, by rw [hbp]; exact List.mem_append_right _ (List.mem_singleton.2 rfl), rfl⟩
      · rcases at_snoc hj with ⟨hlt, hj⟩ | ⟨_, rfl⟩
        · rcases at_snoc hi with ⟨_, hi⟩ | ⟨hi, _⟩
          · exact h.ord i j s' s'' hij hi hj h6 h6' ht hl
          · omega
        · exact absurd h6' hk6
      · rcases at_snoc hi with ⟨hlt, hi⟩ | ⟨_, rfl⟩
        · rcases at_snoc hj with ⟨_, hj⟩ | ⟨hj, _⟩
          · obtain ⟨q, y, h1, h2', h3, h5⟩ := h.dra i s' hi hk j s'' hji hj ht h2
            exact ⟨q, y, h1, h2', at_left h3, h5⟩
          · omega
        · omega
    · have e2 : (s.k == 2) = false := by rw [beq_eq_false_iff_ne]; exact hk2
      rw [e2, Bool.false_and, if_neg (by decide)] at hb
      rw [hb]
      refine ⟨h.inc, fun i s' hi h6 t ht e he hl => ?_, fun i s' hi h6 => ?_, fun i s' hi h2 t ht => ?_, fun i j s' s'' hij hi hj h6 h6' ht hl => ?_, fun i s' hi hk j s'' hji hj ht h2 => ?_⟩
      · rcases at_snoc hi with ⟨hlt, hi⟩ | ⟨_, rfl⟩
        · exact h.aft i s' hi h6 t ht e he hl
        · exact absurd h6 hk6
      · rcases at_snoc hi with ⟨hlt, hi⟩ | ⟨_, rfl⟩
        · exact h.bd i s' hi h6
        · exact absurd h6 hk6
      · rcases at_snoc hi with ⟨hlt, hi⟩ | ⟨_, rfl⟩
        · rcases h.kept i s' hi h2 t ht with he | ⟨j, x', hij, hj, hx6, hxf⟩
          · exact Or.inl he
          · exact Or.inr ⟨j, x', hij, at_left hj, hx6, hxf⟩
        · exact absurd h2 hk2
      · rcases at_snoc hj with ⟨hlt, hj⟩ | ⟨_, rfl⟩
        · rcases at_snoc hi with ⟨_, hi⟩ | ⟨hi, _⟩
          · exact h.ord i j s' s'' hij hi hj h6 h6' ht hl
          · omega
        · exact absurd h6' hk6
      · rcases at_snoc hi with ⟨hlt, hi⟩ | ⟨hiS, rfl⟩
        · rcases at_snoc hj with ⟨_, hj⟩ | ⟨hj, _⟩
          · obtain ⟨q, y, h1, h2', h3, h5⟩ := h.dra i s' hi hk j s'' hji hj ht h2
            exact ⟨q, y, h1, h2', at_left h3, h5⟩
          · omega
        · rcases at_snoc hj with ⟨_, hj⟩ | ⟨hj, _⟩
          · rcases h.kept j s'' hj h2 p (by rw [ht, htt]) with ⟨e, he, _⟩ | ⟨q, y, h1, h3, h5, h6⟩
            · rw [hhard hk] at he
              cases he
            · exact ⟨q, y, h1, by have := (List.getElem?_eq_some_iff.1 h3).1; omega, at_left h3, h5, h6⟩
          · omega
  · obtain ⟨e, he⟩ := old_some h4 hmay
    have hs : stepOf LL V p = flushS p (cT p) e := by unfold stepOf; rw [if_neg h4, he]; rfl
    have hb : (pickV LL V p).b = upf V.b (cT p) (wcut V.m (V.b (cT p)) (cC p)) := by
      show bA V p (stepOf LL V p) = _
      unfold bA
      rw [if_neg h4]
    have hent := k.ent
    rw [← hn] at hent
    generalize (pickV LL V p).b = b' at *
    generalize V.st.reverse = S at *
    generalize hQ : cT p = Q at *
    have he' : (V.b Q)[fstN V.m (V.b Q) (cC p)]? = some e := he
    have hmem := List.mem_of_getElem? he'
    have hsee := fst_sees he'
    rw [hs]
    have hbq : b' Q = wcut V.m (V.b Q) (cC p) := by rw [hb, upf_same]
    have hbo : ∀ t, t ≠ Q → b' t = V.b t := fun t ht => by rw [hb, upf_other _ _ ht]
    have hsub : ∀ t, ∀ y ∈ b' t, y ∈ V.b t := fun t y hy => by
      by_cases htq : t = Q
      · subst htq
        rw [hbq] at hy
        exact wcut_mem hy
      · rw [hbo t htq] at hy
        exact hy
    refine ⟨fun t => ?_, fun i s' hi h6 t ht y hy hl => ?_, fun i s' hi h6 => ?_, fun i s' hi h2 t ht => ?_, fun i j s' s'' hij hi hj h6 h6' ht hl => ?_, fun i s' hi hk j s'' hji hj ht h2 => ?_⟩
    · by_cases htq : t = Q
      · subst htq
        rw [hbq]
        exact (h.inc t).sublist (wcut_sub _ _ _)
      · rw [hbo t htq]
        exact h.inc t
    · rcases at_snoc hi with ⟨hlt, hi⟩ | ⟨_, rfl⟩
      · exact h.aft i s' hi h6 t ht y (hsub t y hy) hl
      · have htq : t = Q := by
          have : (Q : Int) = (t : Int) := ht
          omega
        subst htq
        rw [hbq] at hy
        refine cut_after (h.inc t) he' hy ?_
        rcases hm with hm | hm
        · rw [hm, seesW_two]
        · have hl' : e.1 = y.1 := hl hm
          rw [hm, seesW_not (by decide)] at hsee ⊢
          unfold atC at hsee ⊢
          rw [beq_iff_eq] at hsee ⊢
          omega
    · rcases at_snoc hi with ⟨hlt, hi⟩ | ⟨rfl, rfl⟩
      · exact h.bd i s' hi h6
      · exact (hent Q e hmem).2.2.2.2
    · rcases at_snoc hi with ⟨hlt, hi⟩ | ⟨_, rfl⟩
      · rcases h.kept i s' hi h2 t ht with ⟨y, hy, hyi⟩ | ⟨j, x', hij, hj, hx6, hxf⟩
        · by_cases htq : t = Q
          · subst htq
            rcases wcut_or he' hy with hy' | rfl
            · exact Or.inl ⟨y, by rw [hbq]; exact hy', hyi⟩
            · exact Or.inr ⟨S.length, _, hlt, at_last S _, rfl, hyi⟩
          · exact Or.inl ⟨y, by rw [hbo t htq]; exact hy, hyi⟩
        · exact Or.inr ⟨j, x', hij, at_left hj, hx6, hxf⟩
      · exact absurd h2 (by show ¬ (6 : Int) = 2; decide)
    · rcases at_snoc hj with ⟨hlt, hj⟩ | ⟨_, rfl⟩
      · rcases at_snoc hi with ⟨_, hi⟩ | ⟨hi, _⟩
        · exact h.ord i j s' s'' hij hi hj h6 h6' ht hl
        · omega
      · rcases at_snoc hi with ⟨_, hi⟩ | ⟨hi, _⟩
        · exact h.aft i s' hi h6 Q ht e hmem hl
        · omega
    · rcases at_snoc hi with ⟨hlt, hi⟩ | ⟨_, rfl⟩
      · rcases at_snoc hj with ⟨_, hj⟩ | ⟨hj, _⟩
        · obtain ⟨q, y, h1, h2', h3, h5⟩ := h.dra i s' hi hk j s'' hji hj ht h2
          exact ⟨q, y, h1, h2', at_left h3, h5⟩
        · omega
      · have : (6 : Int) = 3 ∨ (6 : Int) = 4 ∨ (6 : Int) = 5 := hk
        omega
end
end Go.Proofs.YtplihlmejnohnaaGreatDoor

namespace Go.Proofs.YtplihlmejnohnaaGreatDoor
open Go.RowKit

theorem rd_stp {w : World} {g off c i : Nat} {S : List StT} {y : StT} (h : Rd stC 7 w (.slice (some ⟨g, off, none⟩) S.length c) S) (hy : S[i]? = some y) :
    ∀ (j : Nat) (u : Value), (stC y)[j]? = some u → w.cell? ⟨g, off + i * 7 + j, none⟩ = some u := by
  obtain ⟨g', off', ha, _, hc⟩ := h.at hy
  cases ha
  exact hc
set_option maxHeartbeats 4000000 in
set_option maxRecDepth 8000 in
theorem wts_no {S : List StT} {g off c : Nat} {w : World} (hR : Rd stC 7 w (.slice (some ⟨g, off, none⟩) S.length c) S) (hS : S.length ≤ 80) {k j p : Nat} (hkj : k < j) (hjp : j < p) (hp : p ≤ S.length) {x : StT} (hx : S[j]? = some x) (h6 : x.k = 6) (hf : x.f = (k : Int)) :
    Calls Tryz.prog 17 #[.slice (some ⟨g, off, none⟩) S.length c, .int .i64 k, .int .i64 p, .int .i64 2] w fun e w' => e = .returned (.bool false) ∧ w' = w := by
  have HR : Hid (Rd stC 7 w (.slice (some ⟨g, off, none⟩) S.length c) S) := hR
  have HX : Hid (S[j]? = some x ∧ x.k = 6 ∧ x.f = (k : Int)) := ⟨hx, h6, hf⟩
  have HS : Hid (S.length ≤ 80) := hS
  have HP : Hid (p ≤ S.length ∧ j < p ∧ k < j) := ⟨hp, hjp, hkj⟩
  have hov0 := up_one (show k < p by omega) (by omega)
  have hov20 := up_two (show k < p by omega) (by omega)
  clear hR hx h6 hf hkj hjp hp
  go_enter Tryz.func17, Tryz.ntmps17
  go_wp2_with fail
  clear hov0 hov20
  go_loopg [9] (j - (k + 1)) (fun gg s9 wq => ∃ i : Nat, Hid (k < i ∧ i ≤ j) ∧ Hid (gg = j - i) ∧ s9 = .int .i64 (i : Nat) ∧ wq = w)
  case atStart => exact ⟨k + 1, ⟨Nat.lt_succ_self _, HP.out.2.2⟩, rfl, rfl, rfl⟩
  case round =>
    obtain ⟨i, HI, HG, rfl, rfl⟩ := hrel
    have hip : i < p := by have := HI.out; have := HP.out; omega
    have hiS : i < S.length := by have := HP.out; omega
    obtain ⟨y, hy⟩ : ∃ y, S[i]? = some y := ⟨_, List.getElem?_eq_getElem hiS⟩
    have hc := rd_stp HR.out hy
    have y2 := hc 2 (.int .i64 y.k) rfl
    have y6 := hc 6 (.int .i64 y.f) rfl
    have d1 : decide ((i : Int) < (p : Int)) = true := decide_eq_true (by omega)
    have b1 : (i : Int) < (S.length : Int) := by omega
    have b2 : decide ((i : Int) < 0) = false := decide_eq_false (by omega)
    have b4 : (0 : Int) ≤ (i : Int) := by omega
    have HY : Hid (S[i]? = some y) := hy
    have HIP : Hid (i < p) := hip
    have hov := up_one hip (by have := HP.out; omega)
    have hov2 := up_two hip (by have := HP.out; omega)
    clear hc hy hiS hip
    rcases Decidable.em (y.k = 6) with hk | hk
    · have e1 : (y.k == 6) = true := by rw [hk]; rfl
      rcases Decidable.em (y.f = (k : Int)) with hf | hf
      · have e2 : (y.f == (k : Int)) = true := by rw [hf]; exact beq_self_eq_true _
        clear hk hf hov hov2
        go_wp2
        go_ret
        exact ⟨rfl, rfl⟩
      · have e2 : (y.f == (k : Int)) = false := by rw [beq_eq_false_iff_ne]; exact hf
        have HLT : Hid (i < j) := by
          rcases Nat.lt_or_ge i j with h | h
          · exact h
          · have e : i = j := Nat.le_antisymm HI.out.2 h
            have h1 := HY.out
            rw [e, HX.out.1] at h1
            cases h1
            exact absurd HX.out.2.2 hf
        clear hk hf
        go_wp2
        go_roundg (j - (i + 1))
        case measure => clear hov hov2 b1 b2 b4 d1; have := HG.out; have := HLT.out; omega
        case rel => exact ⟨i + 1, ⟨Nat.lt_succ_of_lt HI.out.1, HLT.out⟩, rfl, rfl, rfl⟩
    · have e1 : (y.k == 6) = false := by rw [beq_eq_false_iff_ne]; exact hk
      have HLT : Hid (i < j) := by
        rcases Nat.lt_or_ge i j with h | h
        · exact h
        · have e : i = j := Nat.le_antisymm HI.out.2 h
          have h1 := HY.out
          rw [e, HX.out.1] at h1
          cases h1
          exact absurd HX.out.2.1 hk
      clear hk
      go_wp2
      go_roundg (j - (i + 1))
      case measure => clear hov hov2 b1 b2 b4 d1; have := HG.out; have := HLT.out; omega
      case rel => exact ⟨i + 1, ⟨Nat.lt_succ_of_lt HI.out.1, HLT.out⟩, rfl, rfl, rfl⟩
set_option maxHeartbeats 4000000 in
set_option maxRecDepth 8000 in
theorem drn_yes {S : List StT} {g off c : Nat} {w : World} (hR : Rd stC 7 w (.slice (some ⟨g, off, none⟩) S.length c) S) (hS : S.length ≤ 80) {p : Nat} {z : StT} (hz : S[p]? = some z)
    (H : ∀ (k : Nat) (s' : StT), k < p → S[k]? = some s' → s'.t = z.t → s'.k = 2 → ∃ (j : Nat) (x : StT), k < j ∧ j < p ∧ S[j]? = some x ∧ x.k = 6 ∧ x.f = (k : Int)) :
    Calls Tryz.prog 19 #[.slice (some ⟨g, off, none⟩) S.length c, .int .i64 p] w fun e w' => e = .returned (.bool true) ∧ On w w' := by
  have HR : Hid (Rd stC 7 w (.slice (some ⟨g, off, none⟩) S.length c) S) := hR
  have HZ : Hid (S[p]? = some z) := hz
  have HS : Hid (S.length ≤ 80) := hS
  have HH : Hid (∀ (k : Nat) (s' : StT), k < p → S[k]? = some s' → s'.t = z.t → s'.k = 2 → ∃ (j : Nat) (x : StT), k < j ∧ j < p ∧ S[j]? = some x ∧ x.k = 6 ∧ x.f = (k : Int)) := H
  have HP : Hid (p < S.length) := (List.getElem?_eq_some_iff.1 hz).1
  clear hR hz H
  go_enter Tryz.func19, Tryz.ntmps19
  go_wp2_with fail
  go_loopg [5] p (fun gg s5 wq => ∃ i : Nat, Hid (i ≤ p) ∧ Hid (gg = p - i) ∧ s5 = .int .i64 (i : Nat) ∧ Hid (On w wq))
  case atStart => exact ⟨0, Nat.zero_le _, rfl, rfl, On.refl w⟩
  case round =>
    obtain ⟨i, HI, HG, rfl, HO⟩ := hrel
    rcases Nat.lt_or_ge i p with hip | hip
    · have hiS : i < S.length := by have := HP.out; omega
      obtain ⟨y, hy⟩ : ∃ y, S[i]? = some y := ⟨_, List.getElem?_eq_getElem hiS⟩
      have HRr := HR.out.on HO.out
      have hc := rd_stp HRr hy
      have hd := rd_stp HRr HZ.out
      have y1 := hc 1 (.int .i64 y.t) rfl
      have y2 := hc 2 (.int .i64 y.k) rfl
      have z1 := hd 1 (.int .i64 z.t) rfl
      have d1 : decide ((i : Int) < (p : Int)) = true := decide_eq_true (by omega)
      have b1 : (i : Int) < (S.length : Int) := by omega
      have b2 : decide ((i : Int) < 0) = false := decide_eq_false (by omega)
      have b4 : (0 : Int) ≤ (i : Int) := by omega
      have c1 : (p : Int) < (S.length : Int) := by have := HP.out; omega
      have c2 : decide ((p : Int) < 0) = false := decide_eq_false (by omega)
      have c4 : (0 : Int) ≤ (p : Int) := by omega
      have HY : Hid (S[i]? = some y) := hy
      have HIP : Hid (i < p) := hip
      have HRR : Hid (Rd stC 7 wr (.slice (some ⟨g, off, none⟩) S.length c) S) := HRr
      have hov := up_one hip (by have := HP.out; omega)
      have hov2 := up_two hip (by have := HP.out; omega)
      clear hc hd hy hiS hip HRr
      rcases Decidable.em (y.t = z.t) with ht | ht
      · have e1 : (y.t == z.t) = true := by rw [ht]; exact beq_self_eq_true _
        rcases Decidable.em (y.k = 2) with hk | hk
        · have e2 : (y.k == 2) = true := by rw [hk]; rfl
          have hW : ∀ n, Calls Tryz.prog 17 #[.slice (some ⟨g, off, none⟩) S.length c, .int .i64 i, .int .i64 p, .int .i64 2] (wr.drewN n) fun e w' => e = .returned (.bool false) ∧ w' = wr.drewN n := fun n => by
            obtain ⟨j, x, h1, h2, h3, h4, h5⟩ := HH.out i y HIP.out HY.out ht hk
            exact wts_no (HRR.out.on (.drewN (On.refl wr) n)) HS.out h1 h2 (Nat.le_of_lt HP.out) h3 h4 h5
          have HO2 : ∀ n, On w (wr.drewN n) := fun n => HO.out.drewN n
          clear hk ht
          go_upto_region 4 with fail
          go_quiet (exact Calls.quiet_of_same (hW _))
          go_wp2
          go_roundg (p - (i + 1))
          case measure => clear hov hov2 b1 b2 b4 c1 c2 c4 d1; have := HG.out; have := HIP.out; omega
          case rel => exact ⟨i + 1, HIP.out, rfl, rfl, HO2 _⟩
        · have e2 : (y.k == 2) = false := by rw [beq_eq_false_iff_ne]; exact hk
          have HO2 : ∀ n, On w (wr.drewN n) := fun n => HO.out.drewN n
          clear hk ht
          go_upto_region 4 with fail
          go_quiet (fail)
          go_wp2
          go_roundg (p - (i + 1))
          case measure => clear hov hov2 b1 b2 b4 c1 c2 c4 d1; have := HG.out; have := HIP.out; omega
          case rel => exact ⟨i + 1, HIP.out, rfl, rfl, HO2 _⟩
      · have e1 : (y.t == z.t) = false := by rw [beq_eq_false_iff_ne]; exact ht
        have HO2 : ∀ n, On w (wr.drewN n) := fun n => HO.out.drewN n
        clear ht
        go_upto_region 4 with fail
        go_quiet (fail)
        go_wp2
        go_roundg (p - (i + 1))
        case measure => clear hov hov2 b1 b2 b4 c1 c2 c4 d1; have := HG.out; have := HIP.out; omega
        case rel => exact ⟨i + 1, HIP.out, rfl, rfl, HO2 _⟩
    · have d1 : decide ((i : Int) < (p : Int)) = false := decide_eq_false (by omega)
      go_wp2
      go_ret
      exact ⟨rfl, HO.out⟩
end Go.Proofs.YtplihlmejnohnaaGreatDoor

namespace Go.Proofs.YtplihlmejnohnaaGreatDoor
open Go.RowKit

theorem rd_stp0 {w : World} {g c i : Nat} {S : List StT} {y : StT} (h : Rd stC 7 w (.slice (some ⟨g, 0, none⟩) S.length c) S) (hy : S[i]? = some y) (j : Nat) (u : Value) (hu : (stC y)[j]? = some u) : w.cell? ⟨g, i * 7 + j, none⟩ = some u := by
  have := rd_stp h hy j u hu
  rw [Nat.zero_add] at this
  exact this
set_option maxHeartbeats 16000000 in
set_option maxRecDepth 8000 in
theorem vmFirst_walk (ao : Option Addr) (zs : List Int) (cap : Nat) (m0 : Int) (bo : Option Addr) (vs : List Int) (capb : Nat) (w : World) (hz : zs.length ≤ 9223372036854775807) (hr : Rd intC 1 w (.slice ao zs.length cap) zs) (hzb : vs.length ≤ 9223372036854775807) (hrb : Rd intC 1 w (.slice bo vs.length capb) vs) (hW : W16 w) :
    Calls Tryz.prog 4 #[.slice ao zs.length cap, .int .i64 m0, .slice bo vs.length capb] w fun e w' => e = .returned (.bool true) ∧ On w w' := by
  have HB : Hid (Rd intC 1 w (.slice bo vs.length capb) vs) := hrb
  have HZB : Hid (vs.length ≤ 9223372036854775807) := hzb
  clear hrb hzb
  obtain ⟨mb, hmb2, hmb⟩ := and_one m0
  obtain ⟨mm, hmm⟩ : ∃ mm : Int, mm = (mb : Int) + 2 := ⟨_, rfl⟩
  have hov0 : IntKind.i64.wrap ((mb : Int) + 2) = mm := by rw [wrapT (by omega) (by omega)]; exact hmm.symm
  have hov1 : wrap64 ((mb : Int) + 2) = mm := by rw [wrapS (by omega) (by omega)]; exact hmm.symm
  have HM : Hid (1 ≤ mm ∧ mm ≤ 3) := by show _ ∧ _; omega
  have HM2 : Hid (mm = 2 ∨ mm = 3) := by show _ ∨ _; omega
  clear hmm hmb2
  have HW : Hid (W16 w) := hW
  have HA : Hid (∀ W, On w W → Calls Tryz.prog 18 #[] W fun e w' => e = .returned (.bool true) ∧ On W w') := fun W h => awake16_is W (hW.on h).lw (hW.on h).db (hW.on h).pw
  have hO := of_is zs ao cap 12 w hz hr
  obtain ⟨LL, hLL⟩ : ∃ LL, LL = ofT zs 12 := ⟨_, rfl⟩
  have HAG : Hid (AgOk (ltO zs 12) (inO zs 12) LL) := by rw [hLL]; exact ag_made zs 12
  have HLK : Hid (LOk LL) := by rw [hLL]; exact lok_made zs 12
  have HIN : Hid (∀ v ∈ inO zs 12, B64 v) := in_made zs 12
  have hO' : Calls Tryz.prog 9 #[.slice ao zs.length cap, .int .i64 12] w fun e w' => ∃ pv, e = .returned pv ∧ ProgFl w' pv (ltO zs 12) (inO zs 12) LL ∧ On w w' := by rw [hLL]; exact hO
  generalize ltO zs 12 = LT at *
  generalize inO zs 12 = IN at *
  clear hO hLL hr hz hW
  go_enter Tryz.func4, Tryz.ntmps4
  go_wp2_with fail
  refine hO'.mono ?_
  rintro _ w1 ⟨pv, rfl, hpv, k1⟩
  obtain ⟨b1, d1, b2, d2, b3, d3, rfl, _, _, _⟩ := hpv.ex
  obtain ⟨i1, hi1⟩ : ∃ i1, i1 = LT.length := ⟨_, rfl⟩
  obtain ⟨i2, hi2⟩ : ∃ i2, i2 = IN.length := ⟨_, rfl⟩
  obtain ⟨i3, hi3⟩ : ∃ i3, i3 = LL.length := ⟨_, rfl⟩
  rw [← hi1, ← hi2, ← hi3] at hpv ⊢
  have HPV : Hid (ProgFl w1 (.agg #[.slice b1 i1 d1, .slice b2 i2 d2, .slice b3 i3 d3]) LT IN LL) := hpv
  have K1 : Hid (On w w1) := k1
  clear hO' hpv k1 hi1 hi2 hi3
  go_wp2_with (refine wpList_al rfl rfl prog_zeroV ?_)
  intro wa ka ba
  go_wp2_with (refine wpList_sto (cs := #[.slice b1 i1 d1, .slice b2 i2 d2, .slice b3 i3 d3]) rfl rfl rfl rfl ba prog_sz rfl (prog_one _ _ _ _ _ _ _ _ _) ?_)
  intro w2 PB oj
  have K2 : Hid (On w1 w2) := oj.on ka (Nat.le_refl _)
  have p0 := PB.at (i := 0) (v := .slice b1 i1 d1) rfl
  have p1 := PB.at (i := 1) (v := .slice b2 i2 d2) rfl
  have p2 := PB.at (i := 2) (v := .slice b3 i3 d3) rfl
  have pl := PB.lt
  have hN := new_vm LT IN LL _ mm w2 (HW.out.on (K1.out.trans K2.out)).lw (HW.out.on (K1.out.trans K2.out)).db (HPV.out.on K2.out) HAG.out HM.out.1 HM.out.2
  clear ka ba oj
  go_wp2_with fail
  refine hN.mono ?_
  rintro _ w3 ⟨N, P0, P1, P2, x, rfl, hV, hPO, kx, hxN, kx3⟩
  have HPO : Hid (ProgOw w2.heap.size x (.agg #[P0, P1, P2]) LT IN LL) := hPO
  have FX : Hid (VmFx x LL N P0 P1 P2) := ⟨HLK.out, hxN, fun W k => (HPO.out.on k).fl.rd⟩
  have S0 : Hid (VmSt x LL N P0 P1 P2 w3 (startV LL IN mm)) := ⟨hV, VOk.new HLK.out HIN.out HM.out.1 HM.out.2, kx3⟩
  have HX : Hid (On w x) := (K1.out.trans K2.out).trans kx
  have PX : Hid (Tb x w1.heap.size #[.slice b1 i1 d1, .slice b2 i2 d2, .slice b3 i3 d3] 27) := PB.on kx
  clear hN hV hPO kx hxN kx3 p0 p1 p2 pl PB
  unfold ptV
  clear hov0 hov1 hmb
  have HF0 : Hid (FirI (startV LL IN mm).m (startV LL IN mm).st.reverse (startV LL IN mm).b) := FirI.new mm
  have HV0 : Hid ((startV LL IN mm).m = mm) := rfl
  generalize startV LL IN mm = VS at *
  go_wp2_with fail
  go_loopg [10] 60 (fun gg s10 wq => ∃ (n : Nat) (V : VmT), n ≤ 60 ∧ gg = 60 - n ∧ s10 = .int .i64 n ∧ Hid (VmSt x LL N P0 P1 P2 wq V) ∧ Hid (V.m = mm) ∧ Hid (FirI V.m V.st.reverse V.b))
  case atStart => exact ⟨0, VS, by decide, rfl, rfl, S0, HV0, HF0⟩
  case round =>
    clear S0 HV0 HF0
    obtain ⟨n, V, hn, hg, rfl, HS, HVM, HF⟩ := hrel
    rcases Nat.lt_or_ge n 60 with hlt6 | hge
    · have d1 : decide ((n : Int) < 60) = true := decide_eq_true (by omega)
      have cD := fun W (k : On wr W) => vs_done FX.out (HS.out.go k)
      unfold ptV at cD
      by_cases hdn : doneB LL V = true
      · rw [hdn] at cD
        clear hdn
        go_wp2_with fail
        refine (cD _ (On.refl wr)).mono ?_
        rintro _ wd ⟨rfl, kd⟩
        have KD : Hid (On wr wd) := kd
        clear cD kd hn hg hlt6
        have cS := fun W (k : On wr W) => steps_is N P0 P1 P2 V W (HS.out.go k).vm (HS.out.ok.n FX.out.lok)
        have HON : Hid (On w wr) := HX.out.trans HS.out.on
        have HFI : Hid (FirI V.m V.st.reverse V.b) := HF
        have HN80 : Hid (V.st.length ≤ 80) := HS.out.ok.n FX.out.lok
        unfold ptV at cS
        go_wp2_with fail
        refine (cS _ KD.out).mono ?_
        rintro _ w8 ⟨g, c, rfl, hRS, k8'⟩
        have k8 : On wr w8 := KD.out.trans k8'
        clear k8'
        obtain ⟨S, hSr⟩ : ∃ S, S = V.st.reverse := ⟨_, rfl⟩
        have hln : V.st.length = S.length := by rw [hSr, List.length_reverse]
        rw [hln] at hRS HN80 ⊢
        rw [← hSr] at hRS HFI
        have HRS : Hid (Rd stC 7 w8 (.slice (some ⟨g, 0, none⟩) S.length c) S) := hRS
        have HO8 : Hid (On w w8) := HON.out.trans k8
        clear hSr hln hRS k8 HS HF cS HON
        go_wp2_with fail
        go_loopg [14] S.length (fun gg s14 wq => ∃ i : Nat, Hid (i ≤ S.length) ∧ Hid (gg = S.length - i) ∧ s14 = .int .i64 (i : Nat) ∧ Hid (On w8 wq))
        case atStart => exact ⟨0, Nat.zero_le _, rfl, rfl, On.refl w8⟩
        case round =>
          obtain ⟨i, HI, HIG, rfl, HO9⟩ := hrel
          rcases Nat.lt_or_ge i S.length with hin | hin
          · obtain ⟨y, hy⟩ : ∃ y, S[i]? = some y := ⟨_, List.getElem?_eq_getElem hin⟩
            have HY : Hid (S[i]? = some y) := hy
            have HIN : Hid (i < S.length) := hin
            have di : decide ((i : Int) < (S.length : Int)) = true := decide_eq_true (by omega)
            have b1 : (i : Int) < (S.length : Int) := by omega
            have b2 : decide ((i : Int) < 0) = false := decide_eq_false (by omega)
            have b4 : (0 : Int) ≤ (i : Int) := by omega
            have hovi := up_one hin (by have := HN80.out; omega)
            have hovi2 := up_two hin (by have := HN80.out; omega)
            clear hy hin
            go_wp2_with fail
            go_loopg [15] (S.length - (i + 1)) (fun gg s15 wq => ∃ k : Nat, Hid (i < k ∧ k ≤ S.length) ∧ Hid (gg = S.length - k) ∧ s15 = .int .i64 (k : Nat) ∧ Hid (On w8 wq))
            case atStart => exact ⟨i + 1, ⟨Nat.lt_succ_self _, HIN.out⟩, rfl, rfl, HO9⟩
            case round =>
              clear HO9
              obtain ⟨k, HKI, HKG, rfl, HOK⟩ := hrel
              have hcy := rd_stp0 (HRS.out.on HOK.out) HY.out
              have y1 := hcy 1 (.int .i64 y.t) rfl
              have y2 := hcy 2 (.int .i64 y.k) rfl
              have y3 := hcy 3 (.int .i64 y.l) rfl
              have y6 := hcy 6 (.int .i64 y.f) rfl
              clear hcy
              rcases Nat.lt_or_ge k S.length with hkn | hkn
              · obtain ⟨z, hz⟩ : ∃ z, S[k]? = some z := ⟨_, List.getElem?_eq_getElem hkn⟩
                have hcz := rd_stp0 (HRS.out.on HOK.out) hz
                have z1 := hcz 1 (.int .i64 z.t) rfl
                have z2 := hcz 2 (.int .i64 z.k) rfl
                have z3 := hcz 3 (.int .i64 z.l) rfl
                have z6 := hcz 6 (.int .i64 z.f) rfl
                have HZ : Hid (S[k]? = some z) := hz
                have HKN : Hid (k < S.length) := hkn
                have dk : decide ((k : Int) < (S.length : Int)) = true := decide_eq_true (by omega)
                have e1 : (k : Int) < (S.length : Int) := by omega
                have e2 : decide ((k : Int) < 0) = false := decide_eq_false (by omega)
                have e4 : (0 : Int) ≤ (k : Int) := by omega
                have hovk := up_one hkn (by have := HN80.out; omega)
                have hovk2 := up_two hkn (by have := HN80.out; omega)
                clear hz hcz hkn
                rcases Decidable.em (y.k = 6) with hk | hk
                · have f1 : (y.k != 6) = false := by rw [hk]; rfl
                  rcases Decidable.em (z.k = 6) with hz | hz
                  · have f2 : (z.k != 6) = false := by rw [hz]; rfl
                    rcases Decidable.em (y.t = z.t) with ht | ht
                    · have f3 : (y.t != z.t) = false := by rw [ht]; exact bne_self_eq_false _
                      rcases HM2.out with hm2 | hm3
                      · have f4 : (mm == 3) = false := by rw [hm2]; rfl
                        have hord : y.f < z.f := HFI.out.ord i k y z HKI.out.1 HY.out HZ.out hk hz ht (fun h => by rw [HVM.out] at h; omega)
                        have f5 : decide (z.f ≤ y.f) = false := decide_eq_false (by omega)
                        clear hk hz ht hm2 hord
                        go_upto_region 23 with fail
                        go_quiet (fail)
                        go_wp2
                        go_quiet (fail)
                        go_wp2
                        go_roundg (S.length - (k + 1))
                        case measure => clear hovk hovk2 b1 b2 b4 e1 e2 e4 dk; have := HKG.out; have := HKN.out; omega
                        case rel => exact ⟨k + 1, ⟨Nat.lt_succ_of_lt HKI.out.1, HKN.out⟩, rfl, rfl, HOK.out.drewN _⟩
                      · have f4 : (mm == 3) = true := by rw [hm3]; rfl
                        rcases Decidable.em (y.l = z.l) with hl | hl
                        · have f6 : (y.l != z.l) = false := by rw [hl]; exact bne_self_eq_false _
                          have hord : y.f < z.f := HFI.out.ord i k y z HKI.out.1 HY.out HZ.out hk hz ht (fun _ => hl)
                          have f5 : decide (z.f ≤ y.f) = false := decide_eq_false (by omega)
                          clear hk hz ht hm3 hord hl
                          go_upto_region 23 with fail
                          go_quiet (fail)
                          go_wp2
                          go_quiet (fail)
                          go_wp2
                          go_roundg (S.length - (k + 1))
                          case measure => clear hovk hovk2 b1 b2 b4 e1 e2 e4 dk; have := HKG.out; have := HKN.out; omega
                          case rel => exact ⟨k + 1, ⟨Nat.lt_succ_of_lt HKI.out.1, HKN.out⟩, rfl, rfl, HOK.out.drewN _⟩
                        · have f6 : (y.l != z.l) = true := by rw [bne_iff_ne]; exact hl
                          clear hk hz ht hm3 hl
                          go_upto_region 23 with fail
                          go_quiet (fail)
                          go_wp2
                          go_roundg (S.length - (k + 1))
                          case measure => clear hovk hovk2 b1 b2 b4 e1 e2 e4 dk; have := HKG.out; have := HKN.out; omega
                          case rel => exact ⟨k + 1, ⟨Nat.lt_succ_of_lt HKI.out.1, HKN.out⟩, rfl, rfl, HOK.out.drewN _⟩
                    · have f3 : (y.t != z.t) = true := by rw [bne_iff_ne]; exact ht
                      clear hk hz ht
                      go_upto_region 23 with fail
                      go_quiet (fail)
                      go_wp2
                      go_roundg (S.length - (k + 1))
                      case measure => clear hovk hovk2 b1 b2 b4 e1 e2 e4 dk; have := HKG.out; have := HKN.out; omega
                      case rel => exact ⟨k + 1, ⟨Nat.lt_succ_of_lt HKI.out.1, HKN.out⟩, rfl, rfl, HOK.out.drewN _⟩
                  · have f2 : (z.k != 6) = true := by rw [bne_iff_ne]; exact hz
                    clear hk hz
                    go_upto_region 23 with fail
                    go_quiet (fail)
                    go_wp2
                    go_roundg (S.length - (k + 1))
                    case measure => clear hovk hovk2 b1 b2 b4 e1 e2 e4 dk; have := HKG.out; have := HKN.out; omega
                    case rel => exact ⟨k + 1, ⟨Nat.lt_succ_of_lt HKI.out.1, HKN.out⟩, rfl, rfl, HOK.out.drewN _⟩
                · have f1 : (y.k != 6) = true := by rw [bne_iff_ne]; exact hk
                  clear hk
                  go_upto_region 23 with fail
                  go_quiet (fail)
                  go_wp2
                  go_roundg (S.length - (k + 1))
                  case measure => clear hovk hovk2 b1 b2 b4 e1 e2 e4 dk; have := HKG.out; have := HKN.out; omega
                  case rel => exact ⟨k + 1, ⟨Nat.lt_succ_of_lt HKI.out.1, HKN.out⟩, rfl, rfl, HOK.out.drewN _⟩
              · have dk : decide ((k : Int) < (S.length : Int)) = false := decide_eq_false (by omega)
                have hD : y.k = 3 ∨ y.k = 4 ∨ y.k = 5 → ∀ W, On w8 W → Calls Tryz.prog 19 #[.slice (some ⟨g, 0, none⟩) S.length c, .int .i64 i] W fun e w' => e = .returned (.bool true) ∧ On W w' := fun hk W kW => drn_yes (HRS.out.on kW) HN80.out HY.out (fun k' s' hk' hs' ht' h2 => HFI.out.dra i y HY.out hk k' s' hk' hs' ht' h2)
                rcases Decidable.em (y.k = 3) with h3 | h3
                · replace hD := hD (Or.inl h3)
                  have f1 : (y.k == 3) = true := by rw [h3]; rfl
                  clear h3
                  go_wp2_with fail
                  refine (hD _ HOK.out).mono ?_
                  rintro _ wd ⟨rfl, kd⟩
                  have HOD : Hid (On w8 wd) := HOK.out.trans kd
                  clear kd
                  go_wp2
                  go_roundg (S.length - (i + 1))
                  case measure => clear hovi hovi2 b1 b2 b4 di; have := HIG.out; have := HIN.out; omega
                  case rel => exact ⟨i + 1, HIN.out, rfl, rfl, HOD⟩
                · have f1 : (y.k == 3) = false := by rw [beq_eq_false_iff_ne]; exact h3
                  rcases Decidable.em (y.k = 4) with h4 | h4
                  · replace hD := hD (Or.inr (Or.inl h4))
                    have f2 : (y.k == 4) = true := by rw [h4]; rfl
                    clear h3 h4
                    go_wp2_with fail
                    refine (hD _ HOK.out).mono ?_
                    rintro _ wd ⟨rfl, kd⟩
                    have HOD : Hid (On w8 wd) := HOK.out.trans kd
                    clear kd
                    go_wp2
                    go_roundg (S.length - (i + 1))
                    case measure => clear hovi hovi2 b1 b2 b4 di; have := HIG.out; have := HIN.out; omega
                    case rel => exact ⟨i + 1, HIN.out, rfl, rfl, HOD⟩
                  · have f2 : (y.k == 4) = false := by rw [beq_eq_false_iff_ne]; exact h4
                    rcases Decidable.em (y.k = 5) with h5 | h5
                    · replace hD := hD (Or.inr (Or.inr h5))
                      have f3 : (y.k == 5) = true := by rw [h5]; rfl
                      clear h3 h4 h5
                      go_wp2_with fail
                      refine (hD _ HOK.out).mono ?_
                      rintro _ wd ⟨rfl, kd⟩
                      have HOD : Hid (On w8 wd) := HOK.out.trans kd
                      clear kd
                      go_wp2
                      go_roundg (S.length - (i + 1))
                      case measure => clear hovi hovi2 b1 b2 b4 di; have := HIG.out; have := HIN.out; omega
                      case rel => exact ⟨i + 1, HIN.out, rfl, rfl, HOD⟩
                    · have f3 : (y.k == 5) = false := by rw [beq_eq_false_iff_ne]; exact h5
                      clear h3 h4 h5 hD
                      go_wp2_with fail
                      go_roundg (S.length - (i + 1))
                      case measure => clear hovi hovi2 b1 b2 b4 di; have := HIG.out; have := HIN.out; omega
                      case rel => exact ⟨i + 1, HIN.out, rfl, rfl, HOK⟩
          · have di : decide ((i : Int) < (S.length : Int)) = false := decide_eq_false (by omega)
            have K9 : Hid (On w wr) := HO8.out.trans HO9.out
            go_wp2_with fail
            refine (HA.out _ K9.out).mono ?_
            rintro _ wz ⟨rfl, kz⟩
            go_wp2
            go_ret
            exact ⟨rfl, K9.out.trans kz⟩
      · have hdf : doneB LL V = false := by simpa using hdn
        rw [hdf] at cD
        have cE := fun W (k : On wr W) => vs_en FX.out (HS.out.go k)
        have cL := fun W (k : On wr W) => vs_list LL V W (HW.out.on ((HX.out.trans HS.out.on).trans k)).dt
        unfold ptV at cE
        have HPOS : Hid (0 < (mayL LL V 24).length) := by
          show 0 < _
          unfold doneB at hdf
          rcases Nat.eq_zero_or_pos (mayL LL V 24).length with h | h
          · rw [List.length_eq_zero_iff.1 h] at hdf
            cases hdf
          · exact h
        clear hdn hdf
        go_wp2_with fail
        refine (cD _ (On.refl wr)).mono ?_
        rintro _ wd ⟨rfl, kd⟩
        go_wp2_with fail
        refine (cE _ kd).mono ?_
        rintro _ w5 ⟨rfl, k5⟩
        go_wp2_with fail
        refine (cL _ (kd.trans k5)).mono ?_
        rintro _ w6 ⟨xa, xc, rfl, hRL, k6⟩
        have K6 : Hid (On wr w6) := (kd.trans k5).trans k6
        have HRL : Hid (Rd natC 1 w6 (.slice xa (mayL LL V 24).length xc) (mayL LL V 24)) := hRL
        have HML : Hid (∀ p ∈ mayL LL V 24, p < 24 ∧ mayN LL V p = true) := fun p hp => may_mem hp
        clear cD cE cL kd k5 k6 hRL
        generalize mayL LL V 24 = ML at *
        have e0 : ((ML.length : Int) == 0) = false := by rw [beq_eq_false_iff_ne]; have := HPOS.out; omega
        rcases Nat.lt_or_ge n vs.length with hlt | hgv
        · have d2 : decide ((n : Int) < vs.length) = true := decide_eq_true (by omega)
          obtain ⟨z, hz⟩ : ∃ z, vs[n]? = some z := ⟨_, List.getElem?_eq_getElem hlt⟩
          obtain ⟨j, hj⟩ := and_low z
          obtain ⟨g1, o1, eb, v1⟩ := rd_cell (HB.out.on ((HX.out.trans HS.out.on).trans K6.out)) hz
          subst eb
          have b1 : (n : Int) < (vs.length : Int) := by omega
          have b2 : decide ((n : Int) < 0) = false := decide_eq_false (by omega)
          have b4 : (0 : Int) ≤ (n : Int) := by omega
          clear hz hlt
          obtain ⟨r, hr, _, hrem⟩ := rem_nat j ML.length (by have := HPOS.out; omega)
          obtain ⟨p, hp⟩ : ∃ p, ML[r]? = some p := ⟨_, List.getElem?_eq_getElem hr⟩
          obtain ⟨hp24, hpm⟩ := HML.out p (List.mem_of_getElem? hp)
          obtain ⟨g2, o2, ex, v2⟩ := rd_celln HRL.out hp
          subst ex
          have r1 : (r : Int) < (ML.length : Int) := by omega
          have r2 : decide ((r : Int) < 0) = false := decide_eq_false (by omega)
          have r4 : (0 : Int) ≤ (r : Int) := by omega
          have cP := vs_pickN FX.out (HS.out.go K6.out) p hp24 hpm
          have HF2 : Hid (FirI (pickV LL V p).m (pickV LL V p).st.reverse (pickV LL V p).b) := HF.out.pick FX.out.lok HS.out.ok (by rw [HVM.out]; exact HM2.out) hp24 hpm
          have HVP : Hid ((pickV LL V p).m = mm) := HVM.out
          generalize stepOf LL V p = s at *
          generalize pickV LL V p = V' at *
          unfold ptV at cP
          have hov := up_one hlt6 (by decide)
          have hov2 := up_two hlt6 (by decide)
          clear hr hp hp24 hpm HRL HML HS HF HVM
          go_wp2_with fail
          refine cP.mono ?_
          rintro _ w7 ⟨rfl, S7, _⟩
          have HS7 : Hid (VmSt x LL N P0 P1 P2 w7 V') := S7
          clear cP S7
          go_wp2
          go_roundg (60 - (n + 1))
          case measure => clear hov hov2 b1 b2 b4 d2 r1 r2 r4 hrem d1; omega
          case rel => exact ⟨n + 1, V', hlt6, rfl, rfl, HS7, HVP, HF2⟩
        · have d2 : decide ((n : Int) < vs.length) = false := decide_eq_false (by omega)
          obtain ⟨r, hr, _, hrem⟩ := rem_nat n ML.length (by have := HPOS.out; omega)
          obtain ⟨p, hp⟩ : ∃ p, ML[r]? = some p := ⟨_, List.getElem?_eq_getElem hr⟩
          obtain ⟨hp24, hpm⟩ := HML.out p (List.mem_of_getElem? hp)
          obtain ⟨g2, o2, ex, v2⟩ := rd_celln HRL.out hp
          subst ex
          have r1 : (r : Int) < (ML.length : Int) := by omega
          have r2 : decide ((r : Int) < 0) = false := decide_eq_false (by omega)
          have r4 : (0 : Int) ≤ (r : Int) := by omega
          have cP := vs_pickN FX.out (HS.out.go K6.out) p hp24 hpm
          have HF2 : Hid (FirI (pickV LL V p).m (pickV LL V p).st.reverse (pickV LL V p).b) := HF.out.pick FX.out.lok HS.out.ok (by rw [HVM.out]; exact HM2.out) hp24 hpm
          have HVP : Hid ((pickV LL V p).m = mm) := HVM.out
          generalize stepOf LL V p = s at *
          generalize pickV LL V p = V' at *
          unfold ptV at cP
          have hov := up_one hlt6 (by decide)
          have hov2 := up_two hlt6 (by decide)
          clear hr hp hp24 hpm HRL HML HS HF HVM
          go_wp2_with fail
          refine cP.mono ?_
          rintro _ w7 ⟨rfl, S7, _⟩
          have HS7 : Hid (VmSt x LL N P0 P1 P2 w7 V') := S7
          clear cP S7
          go_wp2
          go_roundg (60 - (n + 1))
          case measure => clear hov hov2 d2 r1 r2 r4 hrem d1; omega
          case rel => exact ⟨n + 1, V', hlt6, rfl, rfl, HS7, HVP, HF2⟩
    · have d1 : decide ((n : Int) < 60) = false := decide_eq_false (by omega)
      clear hn hg
      have cS := fun W (k : On wr W) => steps_is N P0 P1 P2 V W (HS.out.go k).vm (HS.out.ok.n FX.out.lok)
      have HON : Hid (On w wr) := HX.out.trans HS.out.on
      have HFI : Hid (FirI V.m V.st.reverse V.b) := HF
      have HN80 : Hid (V.st.length ≤ 80) := HS.out.ok.n FX.out.lok
      unfold ptV at cS
      go_wp2_with fail
      refine (cS _ (On.refl wr)).mono ?_
      rintro _ w8 ⟨g, c, rfl, hRS, k8⟩
      obtain ⟨S, hSr⟩ : ∃ S, S = V.st.reverse := ⟨_, rfl⟩
      have hln : V.st.length = S.length := by rw [hSr, List.length_reverse]
      rw [hln] at hRS HN80 ⊢
      rw [← hSr] at hRS HFI
      have HRS : Hid (Rd stC 7 w8 (.slice (some ⟨g, 0, none⟩) S.length c) S) := hRS
      have HO8 : Hid (On w w8) := HON.out.trans k8
      clear hSr hln hRS k8 HS HF cS HON
      go_wp2_with fail
      go_loopg [14] S.length (fun gg s14 wq => ∃ i : Nat, Hid (i ≤ S.length) ∧ Hid (gg = S.length - i) ∧ s14 = .int .i64 (i : Nat) ∧ Hid (On w8 wq))
      case atStart => exact ⟨0, Nat.zero_le _, rfl, rfl, On.refl w8⟩
      case round =>
        obtain ⟨i, HI, HIG, rfl, HO9⟩ := hrel
        rcases Nat.lt_or_ge i S.length with hin | hin
        · obtain ⟨y, hy⟩ : ∃ y, S[i]? = some y := ⟨_, List.getElem?_eq_getElem hin⟩
          have HY : Hid (S[i]? = some y) := hy
          have HIN : Hid (i < S.length) := hin
          have di : decide ((i : Int) < (S.length : Int)) = true := decide_eq_true (by omega)
          have b1 : (i : Int) < (S.length : Int) := by omega
          have b2 : decide ((i : Int) < 0) = false := decide_eq_false (by omega)
          have b4 : (0 : Int) ≤ (i : Int) := by omega
          have hovi := up_one hin (by have := HN80.out; omega)
          have hovi2 := up_two hin (by have := HN80.out; omega)
          clear hy hin
          go_wp2_with fail
          go_loopg [15] (S.length - (i + 1)) (fun gg s15 wq => ∃ k : Nat, Hid (i < k ∧ k ≤ S.length) ∧ Hid (gg = S.length - k) ∧ s15 = .int .i64 (k : Nat) ∧ Hid (On w8 wq))
          case atStart => exact ⟨i + 1, ⟨Nat.lt_succ_self _, HIN.out⟩, rfl, rfl, HO9⟩
          case round =>
            clear HO9
            obtain ⟨k, HKI, HKG, rfl, HOK⟩ := hrel
            have hcy := rd_stp0 (HRS.out.on HOK.out) HY.out
            have y1 := hcy 1 (.int .i64 y.t) rfl
            have y2 := hcy 2 (.int .i64 y.k) rfl
            have y3 := hcy 3 (.int .i64 y.l) rfl
            have y6 := hcy 6 (.int .i64 y.f) rfl
            clear hcy
            rcases Nat.lt_or_ge k S.length with hkn | hkn
            · obtain ⟨z, hz⟩ : ∃ z, S[k]? = some z := ⟨_, List.getElem?_eq_getElem hkn⟩
              have hcz := rd_stp0 (HRS.out.on HOK.out) hz
              have z1 := hcz 1 (.int .i64 z.t) rfl
              have z2 := hcz 2 (.int .i64 z.k) rfl
              have z3 := hcz 3 (.int .i64 z.l) rfl
              have z6 := hcz 6 (.int .i64 z.f) rfl
              have HZ : Hid (S[k]? = some z) := hz
              have HKN : Hid (k < S.length) := hkn
              have dk : decide ((k : Int) < (S.length : Int)) = true := decide_eq_true (by omega)
              have e1 : (k : Int) < (S.length : Int) := by omega
              have e2 : decide ((k : Int) < 0) = false := decide_eq_false (by omega)
              have e4 : (0 : Int) ≤ (k : Int) := by omega
              have hovk := up_one hkn (by have := HN80.out; omega)
              have hovk2 := up_two hkn (by have := HN80.out; omega)
              clear hz hcz hkn
              rcases Decidable.em (y.k = 6) with hk | hk
              · have f1 : (y.k != 6) = false := by rw [hk]; rfl
                rcases Decidable.em (z.k = 6) with hz | hz
                · have f2 : (z.k != 6) = false := by rw [hz]; rfl
                  rcases Decidable.em (y.t = z.t) with ht | ht
                  · have f3 : (y.t != z.t) = false := by rw [ht]; exact bne_self_eq_false _
                    rcases HM2.out with hm2 | hm3
                    · have f4 : (mm == 3) = false := by rw [hm2]; rfl
                      have hord : y.f < z.f := HFI.out.ord i k y z HKI.out.1 HY.out HZ.out hk hz ht (fun h => by rw [HVM.out] at h; omega)
                      have f5 : decide (z.f ≤ y.f) = false := decide_eq_false (by omega)
                      clear hk hz ht hm2 hord
                      go_upto_region 23 with fail
                      go_quiet (fail)
                      go_wp2
                      go_quiet (fail)
                      go_wp2
                      go_roundg (S.length - (k + 1))
                      case measure => clear hovk hovk2 b1 b2 b4 e1 e2 e4 dk; have := HKG.out; have := HKN.out; omega
                      case rel => exact ⟨k + 1, ⟨Nat.lt_succ_of_lt HKI.out.1, HKN.out⟩, rfl, rfl, HOK.out.drewN _⟩
                    · have f4 : (mm == 3) = true := by rw [hm3]; rfl
                      rcases Decidable.em (y.l = z.l) with hl | hl
                      · have f6 : (y.l != z.l) = false := by rw [hl]; exact bne_self_eq_false _
                        have hord : y.f < z.f := HFI.out.ord i k y z HKI.out.1 HY.out HZ.out hk hz ht (fun _ => hl)
                        have f5 : decide (z.f ≤ y.f) = false := decide_eq_false (by omega)
                        clear hk hz ht hm3 hord hl
                        go_upto_region 23 with fail
                        go_quiet (fail)
                        go_wp2
                        go_quiet (fail)
                        go_wp2
                        go_roundg (S.length - (k + 1))
                        case measure => clear hovk hovk2 b1 b2 b4 e1 e2 e4 dk; have := HKG.out; have := HKN.out; omega
                        case rel => exact ⟨k + 1, ⟨Nat.lt_succ_of_lt HKI.out.1, HKN.out⟩, rfl, rfl, HOK.out.drewN _⟩
                      · have f6 : (y.l != z.l) = true := by rw [bne_iff_ne]; exact hl
                        clear hk hz ht hm3 hl
                        go_upto_region 23 with fail
                        go_quiet (fail)
                        go_wp2
                        go_roundg (S.length - (k + 1))
                        case measure => clear hovk hovk2 b1 b2 b4 e1 e2 e4 dk; have := HKG.out; have := HKN.out; omega
                        case rel => exact ⟨k + 1, ⟨Nat.lt_succ_of_lt HKI.out.1, HKN.out⟩, rfl, rfl, HOK.out.drewN _⟩
                  · have f3 : (y.t != z.t) = true := by rw [bne_iff_ne]; exact ht
                    clear hk hz ht
                    go_upto_region 23 with fail
                    go_quiet (fail)
                    go_wp2
                    go_roundg (S.length - (k + 1))
                    case measure => clear hovk hovk2 b1 b2 b4 e1 e2 e4 dk; have := HKG.out; have := HKN.out; omega
                    case rel => exact ⟨k + 1, ⟨Nat.lt_succ_of_lt HKI.out.1, HKN.out⟩, rfl, rfl, HOK.out.drewN _⟩
                · have f2 : (z.k != 6) = true := by rw [bne_iff_ne]; exact hz
                  clear hk hz
                  go_upto_region 23 with fail
                  go_quiet (fail)
                  go_wp2
                  go_roundg (S.length - (k + 1))
                  case measure => clear hovk hovk2 b1 b2 b4 e1 e2 e4 dk; have := HKG.out; have := HKN.out; omega
                  case rel => exact ⟨k + 1, ⟨Nat.lt_succ_of_lt HKI.out.1, HKN.out⟩, rfl, rfl, HOK.out.drewN _⟩
              · have f1 : (y.k != 6) = true := by rw [bne_iff_ne]; exact hk
                clear hk
                go_upto_region 23 with fail
                go_quiet (fail)
                go_wp2
                go_roundg (S.length - (k + 1))
                case measure => clear hovk hovk2 b1 b2 b4 e1 e2 e4 dk; have := HKG.out; have := HKN.out; omega
                case rel => exact ⟨k + 1, ⟨Nat.lt_succ_of_lt HKI.out.1, HKN.out⟩, rfl, rfl, HOK.out.drewN _⟩
            · have dk : decide ((k : Int) < (S.length : Int)) = false := decide_eq_false (by omega)
              have hD : y.k = 3 ∨ y.k = 4 ∨ y.k = 5 → ∀ W, On w8 W → Calls Tryz.prog 19 #[.slice (some ⟨g, 0, none⟩) S.length c, .int .i64 i] W fun e w' => e = .returned (.bool true) ∧ On W w' := fun hk W kW => drn_yes (HRS.out.on kW) HN80.out HY.out (fun k' s' hk' hs' ht' h2 => HFI.out.dra i y HY.out hk k' s' hk' hs' ht' h2)
              rcases Decidable.em (y.k = 3) with h3 | h3
              · replace hD := hD (Or.inl h3)
                have f1 : (y.k == 3) = true := by rw [h3]; rfl
                clear h3
                go_wp2_with fail
                refine (hD _ HOK.out).mono ?_
                rintro _ wd ⟨rfl, kd⟩
                have HOD : Hid (On w8 wd) := HOK.out.trans kd
                clear kd
                go_wp2
                go_roundg (S.length - (i + 1))
                case measure => clear hovi hovi2 b1 b2 b4 di; have := HIG.out; have := HIN.out; omega
                case rel => exact ⟨i + 1, HIN.out, rfl, rfl, HOD⟩
              · have f1 : (y.k == 3) = false := by rw [beq_eq_false_iff_ne]; exact h3
                rcases Decidable.em (y.k = 4) with h4 | h4
                · replace hD := hD (Or.inr (Or.inl h4))
                  have f2 : (y.k == 4) = true := by rw [h4]; rfl
                  clear h3 h4
                  go_wp2_with fail
                  refine (hD _ HOK.out).mono ?_
                  rintro _ wd ⟨rfl, kd⟩
                  have HOD : Hid (On w8 wd) := HOK.out.trans kd
                  clear kd
                  go_wp2
                  go_roundg (S.length - (i + 1))
                  case measure => clear hovi hovi2 b1 b2 b4 di; have := HIG.out; have := HIN.out; omega
                  case rel => exact ⟨i + 1, HIN.out, rfl, rfl, HOD⟩
                · have f2 : (y.k == 4) = false := by rw [beq_eq_false_iff_ne]; exact h4
                  rcases Decidable.em (y.k = 5) with h5 | h5
                  · replace hD := hD (Or.inr (Or.inr h5))
                    have f3 : (y.k == 5) = true := by rw [h5]; rfl
                    clear h3 h4 h5
                    go_wp2_with fail
                    refine (hD _ HOK.out).mono ?_
                    rintro _ wd ⟨rfl, kd⟩
                    have HOD : Hid (On w8 wd) := HOK.out.trans kd
                    clear kd
                    go_wp2
                    go_roundg (S.length - (i + 1))
                    case measure => clear hovi hovi2 b1 b2 b4 di; have := HIG.out; have := HIN.out; omega
                    case rel => exact ⟨i + 1, HIN.out, rfl, rfl, HOD⟩
                  · have f3 : (y.k == 5) = false := by rw [beq_eq_false_iff_ne]; exact h5
                    clear h3 h4 h5 hD
                    go_wp2_with fail
                    go_roundg (S.length - (i + 1))
                    case measure => clear hovi hovi2 b1 b2 b4 di; have := HIG.out; have := HIN.out; omega
                    case rel => exact ⟨i + 1, HIN.out, rfl, rfl, HOK⟩
        · have di : decide ((i : Int) < (S.length : Int)) = false := decide_eq_false (by omega)
          have K9 : Hid (On w wr) := HO8.out.trans HO9.out
          go_wp2_with fail
          refine (HA.out _ K9.out).mono ?_
          rintro _ wz ⟨rfl, kz⟩
          go_wp2
          go_ret
          exact ⟨rfl, K9.out.trans kz⟩
end Go.Proofs.YtplihlmejnohnaaGreatDoor
