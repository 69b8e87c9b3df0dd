/- OrderAll, walked. -/
import Derived.Test.YtohngifmbnlmmaaDoorJAll
import Derived.Test.YtohngifmbnlmmaaDoorOrderEach
namespace Go.Proofs.YtohngifmbnlmmaaDoor
open Go.RowKit

theorem jall_top {r : RelT} (hr : Wf r) (M : Nat) (hM : M ≤ 2000) (w : World) : Calls Tryd.prog 18 #[.agg (relA r), .slice none 0 0, .slice none 0 0, .int .i64 M] w fun e w' => ∃ a c, e = .returned (.slice a ((ordsR r).take M).length c) ∧ Rd2 intC 1 w' (.slice a (((ordsR r).take M).map ints).length c) (((ordsR r).take M).map ints) ∧ On w w' := by
  have h := jall_is r hr w.heap.size M hM r.n [] [] (.slice none 0 0) (.slice none 0 0) w (by simp) rfl (World.ownsRow_nil _ _ _ _) (Own2.nil _ _ _ _ _ _) (by simp) (Nat.le_refl _)
  have e : ([] : List (List Nat)) ++ ((exts r.n (DL2D (needL r)) r.n (mskN 0 [])).map (([] : List Nat) ++ ·)).take (M - ([] : List (List Nat)).length) = (ordsR r).take M := by
    unfold ordsR
    rw [need_len]
    simp [mskN, ofI, ints]
  rw [e] at h
  refine h.mono ?_
  rintro _ w' ⟨v', rfl, h1, h2⟩
  obtain ⟨a, c, rfl⟩ := h1.slice
  rw [List.length_map] at h1 ⊢
  exact ⟨a, c, rfl, h1.rd (fun _ => rfl), h2.toOn⟩
set_option maxHeartbeats 2000000 in
set_option maxRecDepth 8000 in
theorem orderAll_walk (n : Int) (a1 : Option Addr) (L1 : List (Int × Int)) (c1 : Nat) (most : Int) (w : World)
    (h1 : Rd pairC 2 w (.slice a1 L1.length c1) L1) (hd : Dt w) :
    Calls Tryd.prog 6 #[.int .i64 n, .slice a1 L1.length c1, .int .i64 most] w fun e w' => e = .returned (.bool true) ∧ On w w' := by
  obtain ⟨hz, _⟩ := zero_of_info rel_info
  obtain ⟨hzw, _⟩ := zero_of_info rel_infow
  obtain ⟨q8, hq8, eq8⟩ := low8 n
  obtain ⟨v10, hv10, ev10, hvx⟩ := i64_low most 10 1023 (by decide) (by decide)
  clear hvx
  obtain ⟨m, em⟩ : ∃ m : Nat, (q8 : Int) % 7 = (m : Int) := ⟨q8 % 7, by omega⟩
  have hm2 : m ≤ 6 := by omega
  obtain ⟨mo, hmo⟩ : ∃ mo : Int, (v10 : Int) - 5 = mo := ⟨_, rfl⟩
  have hmw : IntKind.i64.wrap ((v10 : Int) - 5) = mo := by rw [IntKind.wrap_i64]; omega
  obtain ⟨M, hMM⟩ : ∃ M : Nat, (if mo < 0 then (0 : Int) else mo) = (M : Int) := ⟨mo.toNat, by split <;> omega⟩
  have hM2 : M ≤ 2000 := by
    have hv : v10 < 1024 := hv10
    split at hMM <;> omega
  have hbM : boundI mo = M := by
    have hv : v10 < 1024 := hv10
    unfold boundI
    split at hMM <;> omega
  have hO1 := fun W (k : On w W) => pairs_is m L1 _ W (h1.on k)
  have hr := of_wf m L1
  have hrn : (ofR m L1).n = m := by rw [of_n]; omega
  clear h1
  generalize ofR m L1 = r at *
  have y1 : ∀ W, On w W → Calls Tryd.prog 10 #[.agg (relA r), .int .i64 mo] W fun e w' => ∃ a c, e = .returned (.slice a ((ordsR r).take M).length c) ∧ Rd2 intC 1 w' (.slice a (((ordsR r).take M).map ints).length c) (((ordsR r).take M).map ints) ∧ On W w' := fun W k => by
    have h := alls_is r hr mo W (hd.on k)
    rw [hbM] at h
    refine h.mono ?_
    rintro e w' ⟨a, c, h1, h2, h3⟩
    refine ⟨a, c, h1, ?_, h3⟩
    rw [List.length_map]
    exact h2.rd (fun _ => rfl)
  have y2 := fun W => jall_top hr M hM2 W
  have y3 : ∀ W, On w W → Calls Tryd.prog 13 #[.agg (relA r), .int .i64 mo] W fun e w' => e = .returned (.int .i64 (((ordsR r).take M).length : Nat)) ∧ On W w' := fun W k => by
    have h := count_is r hr mo W (hd.on k)
    rw [hbM] at h
    rwa [List.length_take]
  have y4 : ∀ W, On w W → Calls Tryd.prog 19 #[.agg (relA r)] W (GrPost (grdR r []) W) := fun W k => frst_is r hr W (hd.on k)
  have y5 := fun W => jall_top hr 1 (by decide) W
  have y6 := fun W => acyc_is r hr.wr W
  have HJK : Hid (∀ l, Stands r l → ∀ v W, Rd intC 1 W v (ints l) → Calls Tryd.prog 11 #[.agg (relA r), v] W fun e w' => e = .returned (.bool true) ∧ On W w') := fun l hl v W hv => by
    have h := jkeeps_is r hr (ints l) v W hv
    rwa [(keepD_iff hr _).2 ⟨l, rfl, hl⟩] at h
  have HOK : Hid (∀ l, Stands r l → ∀ v W, On w W → Rd intC 1 W v (ints l) → Calls Tryd.prog 16 #[.agg (relA r), v] W fun e w' => e = .returned (.bool true) ∧ On W w') := fun l hl v W k hv => keeps_few hr hl v W hv (hd.on k)
  have xA := fun W (k : On w W) => awake9_is W (hd.on k)
  have HLN : Hid (∀ l ∈ (ordsR r).take M, l.length = m) := fun l hl => ((mem_ords hr l).1 (List.mem_of_mem_take hl)).len.trans hrn
  have h7 := ords_720 hr (by omega)
  have hX9 : ((ordsR r).take M).length ≤ 9223372036854775807 := by rw [List.length_take]; omega
  have HGN : Hid (grdR r [] = none → acycR r = false ∧ ((ordsR r).take 1).length = 0) := fun h => ⟨(grd_none hr [] h).1, by rw [(grd_none hr [] h).2]; rfl⟩
  have HGS : Hid (∀ l, grdR r [] = some l → Stands r l ∧ l.length = m ∧ acycR r = true ∧ ((ordsR r).take 1).length = 1) := fun l h => by
    obtain ⟨ls, hls⟩ := grd_first hr h
    obtain ⟨h1, h2⟩ := grd_some hr [] h
    exact ⟨h1, h1.len.trans hrn, h2, by rw [hls]; rfl⟩
  clear hr hd hrn hbM h7 hmo
  generalize (ordsR r).take M = X at *
  generalize (ordsR r).take 1 = Y at *
  generalize grdR r [] = G at *
  generalize acycR r = AC at *
  go_enter Tryd.func6, Tryd.ntmps6
  go_wp2_with (fail)
  refine (hO1 _ (On.refl _)).mono ?_
  rintro _ w1 ⟨rfl, k1⟩
  have K1 := (On.refl w).trans k1
  have B1a := (Bk.new w1 (relA zeroR) 27).alloc (.cells (relA zeroR) 30)
  have B1b : Bk ((w1.alloc (.cells (relA zeroR) 27)).alloc (.cells (relA zeroR) 30)) (w1.heap.size + 1) (relA zeroR) := by
    have := Bk.new (w1.alloc (.cells (relA zeroR) 27)) (relA zeroR) 30
    rwa [World.size_alloc] at this
  have B1c := B1b.rowFar (N := w1.heap.size) (by omega) (relA r)
  obtain ⟨W1, hW1⟩ : ∃ W1, W1 = (((w1.alloc (.cells (relA zeroR) 27)).alloc (.cells (relA zeroR) 30)).setRow w1.heap.size (relA r)).setRow (w1.heap.size + 1) (relA r) := ⟨_, rfl⟩
  have HW1 : Hid (W1 = (((w1.alloc (.cells (relA zeroR) 27)).alloc (.cells (relA zeroR) 30)).setRow w1.heap.size (relA r)).setRow (w1.heap.size + 1) (relA r)) := hW1
  have B1r : Bk W1 w1.heap.size (relA r) := by rw [hW1]; exact (B1a.row _).rowFar (by omega) _
  have B1w : Bk W1 (w1.heap.size + 1) (relA r) := by rw [hW1]; exact B1c.row _
  have KK1 : On w W1 := by rw [hW1]; exact (((K1.alloc _).alloc _).row K1.size _).row (by have := K1.size; omega) _
  clear hW1
  go_wp2_with (first | (refine wpList_st rfl rfl rfl rfl B1a ?_) | (refine wpList_stw rfl rfl rfl rfl B1c ?_; rw [← HW1.out]; clear HW1 B1a B1b B1c) | refine wpList_ld rfl rfl rfl B1r ?_)
  refine (y1 _ KK1).mono ?_
  rintro _ w3 ⟨la, lc, rfl, hra, k3⟩
  have K3 := KK1.trans k3
  have R3 := B1r.on k3
  clear B1r B1w KK1 hO1
  go_wp2_with (refine wpList_ld rfl rfl rfl R3 ?_)
  refine (y2 _).mono ?_
  rintro _ w4 ⟨lb, lcb, rfl, hrb, k4⟩
  have K4 := K3.trans k4
  have R4 := R3.on k4
  have HRA : Hid (Rd2 intC 1 w4 (.slice la (X.map ints).length lc) (X.map ints)) := hra.on k4
  have HRB : Hid (Rd2 intC 1 w4 (.slice lb (X.map ints).length lcb) (X.map ints)) := hrb
  clear hra hrb R3 K3 k3 k4
  go_wp2_with (refine wpList_ldG (by rfl) rfl rfl R4 ?_)
  refine (y3 _ K4).mono ?_
  rintro _ w5 ⟨rfl, k5⟩
  have HO5 : Hid (On w4 w5) := k5
  have R5 := R4.on k5
  clear R4 k5 y1 y2 y3
  go_wp2
  go_loopg [11] X.length (fun gg s11 wr => ∃ i : Nat, i ≤ X.length ∧ gg = X.length - i ∧ s11 = .int .i64 i ∧ Hid (On w4 wr) ∧ Bk wr w1.heap.size (relA r))
  case atStart => exact ⟨0, Nat.zero_le _, rfl, rfl, HO5, R5⟩
  case round =>
    clear HO5 R5
    obtain ⟨i, hi, hk, rfl, HO, SI⟩ := hrel
    rcases Nat.lt_or_ge i X.length with hlt | hge
    · obtain ⟨l, hl⟩ : ∃ l, X[i]? = some l := ⟨_, List.getElem?_eq_getElem hlt⟩
      have hlm := List.mem_of_getElem? hl
      have hln : (ints l).length = m := by rw [ints_len]; exact HLN.out l hlm
      obtain ⟨g, off, hla, hg, ax, cx, hcx, _, hrx⟩ := HRA.out.row (i := i) (L := ints l) (by rw [List.getElem?_map, hl]; rfl)
      obtain ⟨g2, off2, hlb, hg2, ay, cy, hcy, _, hry⟩ := HRB.out.row (i := i) (L := ints l) (by rw [List.getElem?_map, hl]; rfl)
      subst hla
      subst hlb
      rw [hln] at hcx hrx hcy hry
      have HRX : Hid (Rd intC 1 w4 (.slice ax m cx) (ints l)) := hrx
      have HRY : Hid (Rd intC 1 w4 (.slice ay m cy) (ints l)) := hry
      have HCX : Hid (w4.cell? ⟨g, off + i, none⟩ = some (.slice ax m cx)) := hcx
      have HCY : Hid (w4.cell? ⟨g2, off2 + i, none⟩ = some (.slice ay m cy)) := hcy
      have HLL : Hid ((ints l).length = m) := hln
      clear hl hlm hln hrx hry hcx hcy
      go_wp2
      go_loopg [12] m (fun gi s12 wi => ∃ j : Nat, j ≤ m ∧ gi = m - j ∧ s12 = .int .i64 j ∧ Hid (On w4 wi) ∧ Bk wi w1.heap.size (relA r))
      case atStart => exact ⟨0, Nat.zero_le _, rfl, rfl, HO, SI⟩
      case round =>
        clear HO SI
        obtain ⟨j, hj, hkj, rfl, HO, SI⟩ := hrel
        rcases Nat.lt_or_ge j m with hjl | hjg
        · obtain ⟨z, hz1⟩ : ∃ z, l[j]? = some z := ⟨_, List.getElem?_eq_getElem (by have := HLL.out; rw [ints_len] at this; omega)⟩
          obtain ⟨gx, ox, hax, hgx, ux⟩ := (HRX.out.on HO.out).at' HLL.out (i := j) (x := (z : Int)) (by rw [List.getElem?_map, hz1]; rfl)
          obtain ⟨gy, oy, hay, hgy, uy⟩ := (HRY.out.on HO.out).at' HLL.out (i := j) (x := (z : Int)) (by rw [List.getElem?_map, hz1]; rfl)
          have hxc := ux 0 _ rfl
          have hyc := uy 0 _ rfl
          subst hax
          subst hay
          simp only [Nat.mul_one, Nat.add_zero] at hxc hyc
          have hc1 := (HO.out.cell (p := ⟨g, off + i, none⟩) hg).trans HCX.out
          have hc2 := (HO.out.cell (p := ⟨g2, off2 + i, none⟩) hg2).trans HCY.out
          have hg1' : g < wr.heap.size := Nat.lt_of_lt_of_le hg HO.out.size
          have hg2' : g2 < wr.heap.size := Nat.lt_of_lt_of_le hg2 HO.out.size
          clear ux uy hz1
          go_wp2
          go_quiet (fail)
          have HO5 : Hid (On w4 (wr.drewN nq)) := HO.out.drewN nq
          have S5 := SI.on ((On.refl wr).drewN nq)
          clear hxc hyc hc1 hc2 HO SI
          go_wp2
          go_roundg (m - (j + 1))
          case measure => omega
          case rel => exact ⟨j + 1, hjl, rfl, by congr 1, HO5, S5⟩
        · obtain rfl : m = j := by omega
          go_wp2
          go_roundg (X.length - (i + 1))
          case measure => omega
          case rel => exact ⟨i + 1, hlt, rfl, by congr 1, HO, SI⟩
    · obtain rfl : X.length = i := by omega
      have K5 := K4.trans HO.out
      clear HRA HRB HLN
      go_wp2_with (refine wpList_ld rfl rfl rfl SI ?_)
      refine (y4 _ K5).mono ?_
      cases G with
      | none =>
        obtain ⟨hac, hYl⟩ := HGN.out rfl
        rw [hac] at y6
        rintro _ w6 ⟨rfl, k6⟩
        have K6 := K5.trans k6
        have S6 := SI.on k6
        go_wp2_with (refine wpList_ld rfl rfl rfl S6 ?_)
        refine (y5 _).mono ?_
        rintro _ w7 ⟨lY, lcY, rfl, _, k7⟩
        have K7 := K6.trans k7
        have S7 := S6.on k7
        rw [hYl]
        clear hYl hac HGN HGS
        go_wp2_with (refine wpList_ldG (by rfl) rfl rfl S7 ?_)
        refine (y6 _).mono ?_
        rintro _ w8 ⟨rfl, k8⟩
        have K8 := K7.trans k8
        go_wp2_with fail
        refine (xA _ K8).mono ?_
        rintro _ w9 ⟨rfl, k9⟩
        go_wp2
        go_ret
        exact ⟨rfl, K8.trans k9⟩
      | some l =>
        obtain ⟨hst, hll, hac, hYl⟩ := HGS.out l rfl
        rw [hac] at y6
        have hjk := HJK.out l hst
        have hok := HOK.out l hst
        rintro _ w6 ⟨gf, cf, rfl, _, hcf, hrw, k6⟩
        have K6 := K5.trans k6
        have S6 := SI.on k6
        rw [hll] at hcf ⊢
        have HIL : Hid ((ints l).length = m) := by show _ = _; rw [ints_len]; exact hll
        have HRW : Hid (Rw w6 gf (ints l)) := hrw
        clear hrw hst
        go_wp2_with (refine wpList_ld rfl rfl rfl S6 ?_)
        refine (y5 _).mono ?_
        rintro _ w7 ⟨lY, lcY, rfl, _, k7⟩
        have K7 := K6.trans k7
        have S7 := S6.on k7
        rw [hYl]
        clear hYl hac HGN HGS hll
        go_wp2_with (refine wpList_ldG (by rfl) rfl rfl S7 ?_)
        refine (y6 _).mono ?_
        rintro _ w8 ⟨rfl, k8⟩
        have K8 := K7.trans k8
        have S8 := S7.on k8
        have hrd : ∀ W, On w8 W → Rd intC 1 W (.slice (some ⟨gf, 0, none⟩) m cf) (ints l) := fun W k => by
          have h := ((HRW.out.on (k7.trans k8)).on k).rd (c := cf) (k := m) (by rw [HIL.out]; exact Nat.le_refl _) hcf (by omega)
          rwa [List.take_of_length_le (by rw [HIL.out]; exact Nat.le_refl _), HIL.out] at h
        have hj8 := hjk _ w8 (hrd w8 (On.refl _))
        have ho8 := fun W k => hok _ W (K8.trans k) (hrd W k)
        clear hrd hjk hok
        go_wp2_with (refine wpList_ldG (by rfl) rfl rfl S8 ?_)
        refine hj8.mono ?_
        rintro _ w9 ⟨rfl, k9⟩
        have K9 := K8.trans k9
        have S9 := S8.on k9
        go_wp2_with (refine wpList_ldG (by rfl) rfl rfl S9 ?_)
        refine (ho8 _ k9).mono ?_
        rintro _ wA ⟨rfl, kA⟩
        have KA := K9.trans kA
        go_wp2_with fail
        refine (xA _ KA).mono ?_
        rintro _ wB ⟨rfl, kB⟩
        go_wp2
        go_ret
        exact ⟨rfl, KA.trans kB⟩
end Go.Proofs.YtohngifmbnlmmaaDoor
