/- OrderEach, walked. -/
import Derived.Test.YtohngifmbnlmmaaDoorOrderFewer
namespace Go.Proofs.YtohngifmbnlmmaaDoor
open Go.RowKit

theorem acyc_ords {r : RelT} (hr : Wf r) : decide (0 < (ordsR r).length) = acycR r := by
  cases hG : grdR r [] with
  | none =>
    obtain ⟨h1, h2⟩ := grd_none hr [] hG
    rw [h1, h2]
    rfl
  | some l =>
    obtain ⟨ls, hls⟩ := grd_first hr hG
    rw [(grd_some hr [] hG).2, hls]
    simp
theorem lex_at {X : List (List Nat)} (h : X.Pairwise lexN) {p i : Nat} (hp : p < i) {l m : List Nat} (hl : X[p]? = some l) (hm : X[i]? = some m) : lexN l m := by
  obtain ⟨h1, h2⟩ := List.getElem?_eq_some_iff.1 hl
  obtain ⟨h3, h4⟩ := List.getElem?_eq_some_iff.1 hm
  have := List.pairwise_iff_getElem.1 h p i h1 h3 hp
  rwa [h2, h4] at this
set_option maxHeartbeats 2000000 in
set_option maxRecDepth 8000 in
theorem orderEach_walk (n : Int) (a1 : Option Addr) (L1 : List (Int × Int)) (c1 : Nat) (w : World)
    (h1 : Rd pairC 2 w (.slice a1 L1.length c1) L1) (hd : Dt w) :
    Calls Tryd.prog 3 #[.int .i64 n, .slice a1 L1.length c1] w fun e w' => e = .returned (.bool true) ∧ On w w' := by
  obtain ⟨hz, _⟩ := zero_of_info rel_info
  obtain ⟨hzw, _⟩ := zero_of_info rel_infow
  obtain ⟨q8, hq8, eq8⟩ := low8 n
  obtain ⟨m, em⟩ : ∃ m : Nat, (q8 : Int) % 7 = (m : Int) := ⟨q8 % 7, by omega⟩
  have hm2 : m ≤ 6 := by omega
  have hO1 := fun W (k : On w W) => pairs_is m L1 _ W (h1.on k)
  have hr := of_wf m L1
  have hrn : (ofR m L1).n = m := by rw [of_n]; omega
  clear h1
  generalize ofR m L1 = r at *
  have y1 := fun W (k : On w W) => alls_few hr (by omega) W (hd.on k)
  have HK : Hid (∀ l ∈ ordsR r, ∀ v W, Rd intC 1 W v (ints l) → Calls Tryd.prog 11 #[.agg (relA r), v] W fun e w' => e = .returned (.bool true) ∧ On W w') := fun l hl v W hv => by
    have h := jkeeps_is r hr (ints l) v W hv
    rwa [keepD_of hr hl] at h
  have HLN : Hid (∀ l ∈ ordsR r, l.length = m) := fun l hl => ((mem_ords hr l).1 hl).len.trans hrn
  have HS : Hid ((ordsR r).Pairwise lexN) := ords_sorted r
  have y2 := fun W => acyc_is r hr.wr W
  have hB := acyc_ords hr
  have y3 := fun W (k : On w W) => count_few hr (by omega) 100000 (by decide) W (hd.on k)
  have xA := fun W (k : On w W) => awake9_is W (hd.on k)
  have h7 := ords_720 hr (by omega)
  clear hr hd hrn
  generalize ordsR r = X at *
  generalize acycR r = B at *
  have hX9 : X.length ≤ 9223372036854775807 := by omega
  go_enter Tryd.func3, Tryd.ntmps3
  go_wp2_with (fail)
  refine (hO1 _ (On.refl _)).mono ?_
  rintro _ w1 ⟨rfl, k1⟩
  have K1 := (On.refl w).trans k1
  have B1a := (Bk.new w1 (relA zeroR) 27).alloc (.cells (relA zeroR) 30)
  have B1b : Bk ((w1.alloc (.cells (relA zeroR) 27)).alloc (.cells (relA zeroR) 30)) (w1.heap.size + 1) (relA zeroR) := by
    have := Bk.new (w1.alloc (.cells (relA zeroR) 27)) (relA zeroR) 30
    rwa [World.size_alloc] at this
  have B1c := B1b.rowFar (N := w1.heap.size) (by omega) (relA r)
  obtain ⟨W1, hW1⟩ : ∃ W1, W1 = (((w1.alloc (.cells (relA zeroR) 27)).alloc (.cells (relA zeroR) 30)).setRow w1.heap.size (relA r)).setRow (w1.heap.size + 1) (relA r) := ⟨_, rfl⟩
  have HW1 : Hid (W1 = (((w1.alloc (.cells (relA zeroR) 27)).alloc (.cells (relA zeroR) 30)).setRow w1.heap.size (relA r)).setRow (w1.heap.size + 1) (relA r)) := hW1
  have B1r : Bk W1 w1.heap.size (relA r) := by rw [hW1]; exact (B1a.row _).rowFar (by omega) _
  have B1w : Bk W1 (w1.heap.size + 1) (relA r) := by rw [hW1]; exact B1c.row _
  have KK1 : On w W1 := by rw [hW1]; exact (((K1.alloc _).alloc _).row K1.size _).row (by have := K1.size; omega) _
  clear hW1
  go_wp2_with (first | (refine wpList_st rfl rfl rfl rfl B1a ?_) | (refine wpList_stw rfl rfl rfl rfl B1c ?_; rw [← HW1.out]; clear HW1 B1a B1b B1c) | refine wpList_ld rfl rfl rfl B1r ?_)
  refine (y1 _ KK1).mono ?_
  rintro _ w4 ⟨la, lc, rfl, hrr, k4⟩
  have K4 := KK1.trans k4
  have HRR : Hid (Rd2 intC 1 w4 (.slice la (X.map ints).length lc) (X.map ints)) := hrr
  have S4 : Bk w4 w1.heap.size (relA r) := B1r.on k4
  clear hrr y1 B1r B1w KK1 k4 hO1
  go_wp2
  go_loopg [8] X.length (fun gg s8 wr => ∃ i : Nat, i ≤ X.length ∧ gg = X.length - i ∧ s8 = .int .i64 i ∧ Hid (On w4 wr) ∧ Bk wr w1.heap.size (relA r))
  case atStart => exact ⟨0, Nat.zero_le _, rfl, rfl, On.refl _, S4⟩
  case round =>
    clear S4
    obtain ⟨i, hi, hk, rfl, HO, SI⟩ := hrel
    rcases Nat.lt_or_ge i X.length with hlt | hge
    · obtain ⟨l, hl⟩ : ∃ l, X[i]? = some l := ⟨_, List.getElem?_eq_getElem hlt⟩
      have hlm := List.mem_of_getElem? hl
      obtain ⟨g, off, hla, hg, ax, cx, hcx, _, hrx⟩ := (HRR.out.on HO.out).row (i := i) (L := ints l) (by rw [List.getElem?_map, hl]; rfl)
      subst hla
      have hln : (ints l).length = m := by rw [ints_len]; exact HLN.out l hlm
      rw [hln] at hcx hrx
      have hkp := fun W (k : On wr W) => HK.out l hlm _ W (hrx.on k)
      have HRX : Hid (Rd intC 1 wr (.slice ax m cx) (ints l)) := hrx
      have HL : Hid (X[i]? = some l) := hl
      have HLL : Hid ((ints l).length = m) := hln
      have T0 : Bk wr.drew w1.heap.size (relA r) ∧ wr.drew.cell? ⟨g, off + i, none⟩ = some (.slice ax m cx) ∧ g < wr.drew.heap.size := ⟨SI, hcx, hg⟩
      have hon : ∀ W W', Bk W w1.heap.size (relA r) ∧ W.cell? ⟨g, off + i, none⟩ = some (.slice ax m cx) ∧ g < W.heap.size → On W W' → Bk W' w1.heap.size (relA r) ∧ W'.cell? ⟨g, off + i, none⟩ = some (.slice ax m cx) ∧ g < W'.heap.size := fun W W' h k => ⟨h.1.on k, (k.cell (p := ⟨g, off + i, none⟩) h.2.2).trans h.2.1, Nat.lt_of_lt_of_le h.2.2 k.size⟩
      have K0 := (On.refl wr).drew
      clear hcx hl hlm hln hrx y2 y3 xA SI hg
      go_wp2
      refine region_fin (fun W => Bk W w1.heap.size (relA r) ∧ W.cell? ⟨g, off + i, none⟩ = some (.slice ax m cx) ∧ g < W.heap.size) 99 7 (by kernel_rfl) rfl ?_
      refine fin_take 0 (v := .agg (relA r)) rfl (by kernel_rfl) (by kernel_rfl) (by kernel_rfl) (by kernel_rfl) (fun _ _ _ h => h) rfl (fun W hW => exec_ld rfl rfl (hW.1)) T0 ?_
      simp only [Act.put, List.setIfInBounds_toArray, List.set_cons_zero, List.set_cons_succ]
      refine fin_take 1 (v := ?_) rfl (by kernel_rfl) (by kernel_rfl) (by kernel_rfl) (by kernel_rfl) (fun _ _ _ h => h) rfl ?_ T0 ?_
      rotate_left
      · intro W hW
        go_simp
        (try with_reducible rfl)
      simp only [Act.put, List.setIfInBounds_toArray, List.set_cons_zero, List.set_cons_succ]
      refine fin_take 2 (v := ?_) rfl (by kernel_rfl) (by kernel_rfl) (by kernel_rfl) (by kernel_rfl) (fun _ _ _ h => h) rfl ?_ T0 ?_
      rotate_left
      · intro W hW
        go_simp
        (try with_reducible rfl)
      simp only [Act.put, List.setIfInBounds_toArray, List.set_cons_zero, List.set_cons_succ]
      refine fin_take 3 (v := ?_) rfl (by kernel_rfl) (by kernel_rfl) (by kernel_rfl) (by kernel_rfl) (fun _ _ _ h => h) rfl ?_ T0 ?_
      rotate_left
      · intro W hW
        go_simp
        (try with_reducible rfl)
      simp only [Act.put, List.setIfInBounds_toArray, List.set_cons_zero, List.set_cons_succ]
      refine fin_take 4 (v := ?_) rfl (by kernel_rfl) (by kernel_rfl) (by kernel_rfl) (by kernel_rfl) (fun _ _ _ h => h) rfl ?_ T0 ?_
      rotate_left
      · intro W hW
        have hcl := hW.2.1
        have hll := hW.2.2
        go_simp
        (try with_reducible rfl)
      simp only [Act.put, List.setIfInBounds_toArray, List.set_cons_zero, List.set_cons_succ]
      refine fin_one 5 rfl rfl (by kernel_rfl) (fun K hK => ?_)
      go_simp
      refine (hkp _ K0).mono ?_
      rintro _ v1 ⟨rfl, kv1⟩
      have Sv1 := hon _ _ T0 kv1
      have Kv1 := K0.trans kv1
      refine hK.out _ _ (fun _ => Sv1) ?_
      clear hK
      refine fin_take 6 (v := ?_) rfl (by kernel_rfl) (by kernel_rfl) (by kernel_rfl) (by kernel_rfl) (fun _ _ _ h => h) rfl ?_ Sv1 ?_
      rotate_left
      · intro W hW
        go_simp
        (try with_reducible rfl)
      simp only [Act.put, List.setIfInBounds_toArray, List.set_cons_zero, List.set_cons_succ]
      refine fin_done (by kernel_rfl) (NoPanic.normal ?_)
      have HOV : Hid (On wr _) := Kv1
      have HO2 : Hid (On w4 _) := HO.out.trans Kv1
      obtain ⟨SI, hcx, hg⟩ := Sv1
      clear hon T0 K0 Kv1 kv1 hkp
      rcases Nat.eq_zero_or_pos i with h0 | h0
      · subst h0
        clear hcx
        go_wp2
        go_roundg (X.length - (0 + 1))
        case measure => omega
        case rel => exact ⟨0 + 1, hlt, rfl, by congr 1, HO2, SI⟩
      · obtain ⟨p, hp⟩ : ∃ p, i = p + 1 := ⟨i - 1, by omega⟩
        have HP : Hid (i = p + 1) := hp
        have hpi : p < i := by omega
        have hpX : p < X.length := by omega
        have hpw : IntKind.i64.wrap ((i : Int) - 1) = (p : Int) := by rw [IntKind.wrap_i64]; omega
        have hi0 : ((i : Int) == 0) = false := by simpa using (by omega : ¬ (i : Int) = 0)
        clear hp
        obtain ⟨l', hl'⟩ : ∃ l', X[p]? = some l' := ⟨_, List.getElem?_eq_getElem hpX⟩
        have hlex := lex_at HS.out hpi hl' HL.out
        obtain ⟨k0, va, vb, q1, q2, q3, q4⟩ := lex_first l' l hlex
        obtain ⟨g2, off2, hla2, hg2, ay, cy, hcy, _, hry⟩ := (HRR.out.on HO2.out).row (i := p) (L := ints l') (by rw [List.getElem?_map, hl']; rfl)
        simp only [Option.some.injEq, Addr.mk.injEq, and_true] at hla2
        obtain ⟨rfl, rfl⟩ := hla2
        have hln' : (ints l').length = m := by rw [ints_len]; exact HLN.out l' (List.mem_of_getElem? hl')
        rw [hln'] at hcy hry
        have HRX2 := HRX.out.on HOV.out
        have HXV : Hid (Rd intC 1 v1 (.slice ax m cx) (ints l)) := HRX2
        have HYV : Hid (Rd intC 1 v1 (.slice ay m cy) (ints l')) := hry
        have HLL' : Hid ((ints l').length = m) := hln'
        have hk0 : k0 < m := by have := (List.getElem?_eq_some_iff.1 q1).1; have := HLN.out l' (List.mem_of_getElem? hl'); omega
        have hCX : Hid (v1.cell? ⟨g, off + i, none⟩ = some (.slice ax m cx)) := hcx
        have hCY : Hid (v1.cell? ⟨g, off + p, none⟩ = some (.slice ay m cy)) := hcy
        have Q1 : Hid (l'[k0]? = some va) := q1
        have Q2 : Hid (l[k0]? = some vb) := q2
        have Q4 : Hid (∀ j, j < k0 → l'[j]? = l[j]?) := q4
        clear hl' hlex q1 q2 q4 hcx hcy hry hln' HRX2
        go_wp2
        go_loopg [9] k0 (fun gi s9 wi => ∃ j : Nat, j ≤ k0 ∧ gi = k0 - j ∧ s9 = .int .i64 j ∧ Hid (On v1 wi))
        case atStart => exact ⟨0, Nat.zero_le _, rfl, rfl, On.refl _⟩
        case round =>
          obtain ⟨j, hj, hkj, rfl, HOJ⟩ := hrel
          have hc1 := (HOJ.out.cell (p := ⟨g, off + i, none⟩) hg).trans hCX.out
          have hc2 := (HOJ.out.cell (p := ⟨g, off + p, none⟩) hg).trans hCY.out
          have hgj : g < wr.heap.size := Nat.lt_of_lt_of_le hg HOJ.out.size
          have hjm : j < m := by omega
          have hdj : decide (j < m) = true := decide_eq_true hjm
          rcases Nat.lt_or_ge j k0 with hjl | hjg
          · obtain ⟨z, hz1⟩ : ∃ z, l'[j]? = some z := ⟨_, List.getElem?_eq_getElem (by have := (List.getElem?_eq_some_iff.1 Q1.out).1; omega)⟩
            have hz2 : l[j]? = some z := by rw [← Q4.out j hjl]; exact hz1
            obtain ⟨gx, ox, hax, hgx, ux⟩ := (HXV.out.on HOJ.out).at' HLL.out (i := j) (x := (z : Int)) (by rw [List.getElem?_map, hz2]; rfl)
            obtain ⟨gy, oy, hay, hgy, uy⟩ := (HYV.out.on HOJ.out).at' HLL'.out (i := j) (x := (z : Int)) (by rw [List.getElem?_map, hz1]; rfl)
            have hxc := ux 0 _ rfl
            have hyc := uy 0 _ rfl
            subst hax
            subst hay
            simp only [Nat.mul_one, Nat.add_zero] at hxc hyc
            clear ux uy hz1 hz2
            go_wp2
            go_quiet (fail)
            have HO5 : Hid (On v1 (wr.drewN nq)) := HOJ.out.drewN nq
            clear hxc hyc hc1 hc2 HOJ
            go_wp2
            go_roundg (k0 - (j + 1))
            case measure => omega
            case rel => exact ⟨j + 1, hjl, rfl, by congr 1, HO5⟩
          · obtain rfl : k0 = j := by omega
            obtain ⟨gx, ox, hax, hgx, ux⟩ := (HXV.out.on HOJ.out).at' HLL.out (i := k0) (x := (vb : Int)) (by rw [List.getElem?_map, Q2.out]; rfl)
            obtain ⟨gy, oy, hay, hgy, uy⟩ := (HYV.out.on HOJ.out).at' HLL'.out (i := k0) (x := (va : Int)) (by rw [List.getElem?_map, Q1.out]; rfl)
            have hxc := ux 0 _ rfl
            have hyc := uy 0 _ rfl
            subst hax
            subst hay
            simp only [Nat.mul_one, Nat.add_zero] at hxc hyc
            have hne : ((vb : Int) == (va : Int)) = false := by simpa using (by omega : ¬ (vb : Int) = va)
            have hkm : ((k0 : Int) == (m : Int)) = false := by simpa using (by omega : ¬ (k0 : Int) = m)
            have hdl : decide (vb < va) = false := decide_eq_false (by omega)
            clear ux uy
            go_wp2
            go_quiet (fail)
            obtain ⟨wq, hwq⟩ : ∃ wq, wq = wr.drewN nq := ⟨_, rfl⟩
            have kq : On wr wq := by rw [hwq]; exact (On.refl wr).drewN nq
            rw [← hwq]
            have hc1' := (kq.cell (p := ⟨g, off + i, none⟩) hgj).trans hc1
            have hc2' := (kq.cell (p := ⟨g, off + p, none⟩) hgj).trans hc2
            have hgj' : g < wq.heap.size := Nat.lt_of_lt_of_le hgj kq.size
            have hxc' := (kq.cell (p := ⟨gx, ox + k0, none⟩) hgx).trans hxc
            have hyc' := (kq.cell (p := ⟨gy, oy + k0, none⟩) hgy).trans hyc
            have hgx' : gx < wq.heap.size := Nat.lt_of_lt_of_le hgx kq.size
            have hgy' : gy < wq.heap.size := Nat.lt_of_lt_of_le hgy kq.size
            have KQ : Hid (On v1 wq) := HOJ.out.trans kq
            clear hwq hc1 hc2 hxc hyc kq HOJ hgj hgx hgy
            go_wp2
            go_quiet (fail)
            have HO6 : Hid (On w4 (wq.drewN nq)) := HO2.out.trans (KQ.out.drewN nq)
            have SI6 := SI.on (KQ.out.drewN nq)
            clear hc1' hc2' hxc' hyc' KQ
            go_wp2
            go_roundg (X.length - (i + 1))
            case measure => omega
            case rel => exact ⟨i + 1, hlt, rfl, by congr 1, HO6, SI6⟩
    · obtain rfl : X.length = i := by omega
      have K5 := K4.trans HO.out
      clear HK HLN HRR HS
      go_wp2_with (refine wpList_ld rfl rfl rfl SI ?_)
      refine (y2 _).mono ?_
      rintro _ w5 ⟨rfl, k5⟩
      have K6 := K5.trans k5
      have S6 := SI.on k5
      go_wp2_with (refine wpList_ldG (by rfl) rfl rfl S6 ?_)
      refine (y3 _ K6).mono ?_
      rintro _ w6 ⟨rfl, k6⟩
      have K7 := K6.trans k6
      go_wp2_with fail
      refine (xA _ K7).mono ?_
      rintro _ w7 ⟨rfl, k7⟩
      go_wp2
      go_ret
      exact ⟨rfl, K7.trans k7⟩
end Go.Proofs.YtohngifmbnlmmaaDoor
