/- OrderRanks, walked. -/
import Derived.Test.YtohngifmbnlmmaaDoorOrderFewer
namespace Go.Proofs.YtohngifmbnlmmaaDoor
open Go.RowKit

/-- The ranks that a row gives, so many of them written. -/
def rkL (x : List Nat) (m i : Nat) : List Int := (List.range m).map (fun a => if x.idxOf a < i then (x.idxOf a : Int) else 0)
theorem rk_len (x : List Nat) (m i : Nat) : (rkL x m i).length = m := by simp [rkL]
theorem rk_at (x : List Nat) (m i a : Nat) (h : a < m) : (rkL x m i)[a]? = some (if x.idxOf a < i then (x.idxOf a : Int) else 0) := by
  unfold rkL
  rw [List.getElem?_map, List.getElem?_range h]
  rfl
theorem rk_zero (x : List Nat) (m : Nat) : (rkL x m 0).map (Value.int .i64) = List.replicate m (.int .i64 0) := by
  apply List.ext_getElem?
  intro j
  unfold rkL
  rw [List.getElem?_map, List.getElem?_map, List.getElem?_replicate]
  by_cases h : j < m
  · rw [List.getElem?_range h, if_pos h]; rfl
  · rw [if_neg h, List.getElem?_eq_none (by simpa using h)]; rfl
theorem rk_step {x : List Nat} {m i a : Nat} (hn : x.Nodup) (hm : a < m) (ha : x[i]? = some a) (hall : ∀ b, b < m → b ∈ x) : (rkL x m i).set a (i : Int) = rkL x m (i + 1) := by
  have hi := (List.getElem?_eq_some_iff.1 ha).1
  have hia : x.idxOf a = i := by
    have := List.Nodup.idxOf_getElem hn i hi
    rwa [(List.getElem?_eq_some_iff.1 ha).2] at this
  apply List.ext_getElem?
  intro j
  rw [List.getElem?_set]
  by_cases hj : j < m
  · by_cases haj : a = j
    · subst haj
      rw [if_pos rfl, if_pos (by rw [rk_len]; exact hj), rk_at x m (i + 1) a hj, hia, if_pos (by omega)]
    · rw [if_neg haj, rk_at x m i j hj, rk_at x m (i + 1) j hj]
      have hne : x.idxOf j ≠ i := fun e => by
        have h3 := List.getElem_idxOf (List.idxOf_lt_length_of_mem (hall j hj))
        apply haj
        have h4 := (List.getElem?_eq_some_iff.1 ha).2
        rw [← h3, ← h4]
        congr 1
        exact e.symm
      by_cases h : x.idxOf j < i
      · have h2 : x.idxOf j < i + 1 := by omega
        rw [if_pos h, if_pos h2]
      · have h2 : ¬ x.idxOf j < i + 1 := by omega
        rw [if_neg h, if_neg h2]
  · have l1 := rk_len x m i
    have l2 := rk_len x m (i + 1)
    by_cases haj : a = j
    · omega
    · rw [if_neg haj, List.getElem?_eq_none (by omega), List.getElem?_eq_none (by omega)]
theorem grd_rk {r : RelT} (hr : Wf r) {x : List Nat} (hx : Stands r x) : grdR r (rkL x r.n r.n) = some x := by
  refine grd_rank hr hx _ (rk_len _ _ _) fun a ha => ?_
  have han := hx.lt a ha
  have hlt := List.idxOf_lt_length_of_mem ha
  rw [hx.len] at hlt
  rw [List.getD_eq_getElem?_getD, rk_at x r.n r.n a han, if_pos hlt]
  rfl
set_option maxHeartbeats 2000000 in
set_option maxRecDepth 8000 in
theorem orderRanks_walk (n : Int) (a1 : Option Addr) (L1 : List (Int × Int)) (c1 : Nat) (which : Int) (w : World)
    (h1 : Rd pairC 2 w (.slice a1 L1.length c1) L1) (hd : Dt w) :
    Calls Tryd.prog 5 #[.int .i64 n, .slice a1 L1.length c1, .int .i64 which] w fun e w' => e = .returned (.bool true) ∧ On w w' := by
  obtain ⟨i0, hi0, hz0, hz1, hz2⟩ := info_parts infoInt
  obtain ⟨hz, _⟩ := zero_of_info rel_info
  obtain ⟨hzw, _⟩ := zero_of_info rel_infow
  obtain ⟨q8, hq8, eq8⟩ := low8 n
  obtain ⟨v16, ev16⟩ : ∃ v16 : Nat, bits .and .i64 which 65535 = (v16 : Int) := ⟨_, low16 which⟩
  obtain ⟨m, em⟩ : ∃ m : Nat, (q8 : Int) % 7 = (m : Int) := ⟨q8 % 7, by omega⟩
  have hm2 : m ≤ 6 := by omega
  have hO1 := fun W (k : On w W) => pairs_is m L1 _ W (h1.on k)
  have hr := of_wf m L1
  have hrn : (ofR m L1).n = m := by rw [of_n]; omega
  clear h1
  generalize ofR m L1 = r at *
  have y1 := fun W (k : On w W) => alls_few hr (by omega) W (hd.on k)
  have y2 : ∀ W, On w W → Calls Tryd.prog 17 #[.agg (relA r), .slice none 0 0] W (GrPost (grdR r []) W) := fun W k => greedy_is r hr [] (.slice none 0 0) W (Rd.nil _ _ _) (hd.on k)
  have xA := fun W (k : On w W) => awake9_is W (hd.on k)
  have HX : Hid (∀ l ∈ ordsR r, Stands r l) := fun l hl => (mem_ords hr l).1 hl
  have HY : Hid (∀ x, Stands r x → ∀ v W, On w W → Rd intC 1 W v (rkL x m m) → Calls Tryd.prog 17 #[.agg (relA r), v] W (GrPost (some x) W)) := fun x hx v W k hv => by
    have h := greedy_is r hr (rkL x m m) v W hv (hd.on k)
    have e := grd_rk hr hx
    rw [hrn] at e
    unfold grdR at e
    rwa [e] at h
  have HM : Hid (∀ x, Stands r x → ∀ a, a < m → a ∈ x) := fun x hx a ha => stands_mem hr hx a (by omega)
  have h7 := ords_720 hr (by omega)
  have hgn := fun h => (grd_none hr [] h).2
  have hgs := fun l h => grd_first hr (l := l) h
  have HRN : Hid (r.n = m) := hrn
  clear hr hd hrn
  generalize ordsR r = X at *
  cases hG : grdR r [] with
  | none =>
    obtain rfl := hgn hG
    rw [hG] at y2
    clear hG hgn hgs HX HY HM
    go_enter Tryd.func5, Tryd.ntmps5
    go_wp2_with (fail)
    refine (hO1 _ (On.refl _)).mono ?_
    rintro _ w1 ⟨rfl, k1⟩
    have K1 := (On.refl w).trans k1
    have B1a := (Bk.new w1 (relA zeroR) 27).alloc (.cells (relA zeroR) 30)
    have B1b : Bk ((w1.alloc (.cells (relA zeroR) 27)).alloc (.cells (relA zeroR) 30)) (w1.heap.size + 1) (relA zeroR) := by
      have := Bk.new (w1.alloc (.cells (relA zeroR) 27)) (relA zeroR) 30
      rwa [World.size_alloc] at this
    have B1c := B1b.rowFar (N := w1.heap.size) (by omega) (relA r)
    obtain ⟨W1, hW1⟩ : ∃ W1, W1 = (((w1.alloc (.cells (relA zeroR) 27)).alloc (.cells (relA zeroR) 30)).setRow w1.heap.size (relA r)).setRow (w1.heap.size + 1) (relA r) := ⟨_, rfl⟩
    have HW1 : Hid (W1 = (((w1.alloc (.cells (relA zeroR) 27)).alloc (.cells (relA zeroR) 30)).setRow w1.heap.size (relA r)).setRow (w1.heap.size + 1) (relA r)) := hW1
    have B1r : Bk W1 w1.heap.size (relA r) := by rw [hW1]; exact (B1a.row _).rowFar (by omega) _
    have B1w : Bk W1 (w1.heap.size + 1) (relA r) := by rw [hW1]; exact B1c.row _
    have KK1 : On w W1 := by rw [hW1]; exact (((K1.alloc _).alloc _).row K1.size _).row (by have := K1.size; omega) _
    clear hW1
    go_wp2_with (first | (refine wpList_st rfl rfl rfl rfl B1a ?_) | (refine wpList_stw rfl rfl rfl rfl B1c ?_; rw [← HW1.out]; clear HW1 B1a B1b B1c) | refine wpList_ld rfl rfl rfl B1r ?_)
    refine (y1 _ KK1).mono ?_
    rintro _ w3 ⟨la, lc, rfl, _, k3⟩
    have K3 := KK1.trans k3
    have R3 := B1r.on k3
    go_wp2_with (refine wpList_ld rfl rfl rfl R3 ?_)
    refine (y2 _ K3).mono ?_
    rintro _ w4 ⟨rfl, k4⟩
    have K4 := K3.trans k4
    go_wp2_with fail
    refine (xA _ K4).mono ?_
    rintro _ w5 ⟨rfl, k5⟩
    go_wp2
    go_ret
    exact ⟨rfl, K4.trans k5⟩
  | some l0 =>
    obtain ⟨ls, hls⟩ := hgs l0 hG
    rw [hG] at y2
    have hX0 : X[0]? = some l0 := by rw [hls]; rfl
    have hXp : 0 < X.length := by rw [hls]; simp
    have hXd : decide (0 < X.length) = true := decide_eq_true hXp
    have hXz : ¬ X.length = 0 := by omega
    obtain ⟨j, hj, ej, _⟩ := mod_nat v16 X.length hXp
    obtain ⟨x, hx⟩ : ∃ x, X[j]? = some x := ⟨_, List.getElem?_eq_getElem hj⟩
    have hxs := HX.out x (List.mem_of_getElem? hx)
    have hl0s := HX.out l0 (List.mem_of_getElem? hX0)
    have hxl : x.length = m := hxs.len.trans HRN.out
    have hl0l : l0.length = m := hl0s.len.trans HRN.out
    have y3 := HY.out x hxs
    have HMX := HM.out x hxs
    have HND : Hid x.Nodup := hxs.nd
    have HLT : Hid (∀ a ∈ x, a < m) := fun a ha => by have := hxs.lt a ha; have := HRN.out; omega
    have HX0 : Hid (X[0]? = some l0) := hX0
    have HXJ : Hid (X[j]? = some x) := hx
    have HXL : Hid (x.length = m) := hxl
    have HL0 : Hid (l0.length = m) := hl0l
    have HMX2 : Hid (∀ a, a < m → a ∈ x) := HMX
    have hX9 : X.length ≤ 9223372036854775807 := by omega
    rw [show (GrPost (some x)) = (fun w e w' => ∃ g c, e = .returned (.tuple #[.slice (some ⟨g, 0, none⟩) m c, .bool true]) ∧ w.heap.size ≤ g ∧ m ≤ c ∧ Rw w' g (ints x) ∧ On w w') by rw [← hxl]; rfl] at y3
    rw [show (GrPost (some l0)) = (fun w e w' => ∃ g c, e = .returned (.tuple #[.slice (some ⟨g, 0, none⟩) m c, .bool true]) ∧ w.heap.size ≤ g ∧ m ≤ c ∧ Rw w' g (ints l0) ∧ On w w') by rw [← hl0l]; rfl] at y2
    have HY3 : Hid (∀ v W, On w W → Rd intC 1 W v (rkL x m m) → Calls Tryd.prog 17 #[.agg (relA r), v] W fun e w' => ∃ g c, e = .returned (.tuple #[.slice (some ⟨g, 0, none⟩) m c, .bool true]) ∧ W.heap.size ≤ g ∧ m ≤ c ∧ Rw w' g (ints x) ∧ On W w') := y3
    clear hG hgn hgs HX HY HM hls hX0 hx hxs hl0s hxl hl0l y3 HMX HRN
    go_enter Tryd.func5, Tryd.ntmps5
    go_wp2_with (fail)
    refine (hO1 _ (On.refl _)).mono ?_
    rintro _ w1 ⟨rfl, k1⟩
    have K1 := (On.refl w).trans k1
    have B1a := (Bk.new w1 (relA zeroR) 27).alloc (.cells (relA zeroR) 30)
    have B1b : Bk ((w1.alloc (.cells (relA zeroR) 27)).alloc (.cells (relA zeroR) 30)) (w1.heap.size + 1) (relA zeroR) := by
      have := Bk.new (w1.alloc (.cells (relA zeroR) 27)) (relA zeroR) 30
      rwa [World.size_alloc] at this
    have B1c := B1b.rowFar (N := w1.heap.size) (by omega) (relA r)
    obtain ⟨W1, hW1⟩ : ∃ W1, W1 = (((w1.alloc (.cells (relA zeroR) 27)).alloc (.cells (relA zeroR) 30)).setRow w1.heap.size (relA r)).setRow (w1.heap.size + 1) (relA r) := ⟨_, rfl⟩
    have HW1 : Hid (W1 = (((w1.alloc (.cells (relA zeroR) 27)).alloc (.cells (relA zeroR) 30)).setRow w1.heap.size (relA r)).setRow (w1.heap.size + 1) (relA r)) := hW1
    have B1r : Bk W1 w1.heap.size (relA r) := by rw [hW1]; exact (B1a.row _).rowFar (by omega) _
    have B1w : Bk W1 (w1.heap.size + 1) (relA r) := by rw [hW1]; exact B1c.row _
    have KK1 : On w W1 := by rw [hW1]; exact (((K1.alloc _).alloc _).row K1.size _).row (by have := K1.size; omega) _
    clear hW1
    go_wp2_with (first | (refine wpList_st rfl rfl rfl rfl B1a ?_) | (refine wpList_stw rfl rfl rfl rfl B1c ?_; rw [← HW1.out]; clear HW1 B1a B1b B1c) | refine wpList_ld rfl rfl rfl B1r ?_)
    refine (y1 _ KK1).mono ?_
    rintro _ w3 ⟨la, lc, rfl, hrr, k3⟩
    have K3 := KK1.trans k3
    have R3 := B1r.on k3
    go_wp2_with (refine wpList_ld rfl rfl rfl R3 ?_)
    refine (y2 _ K3).mono ?_
    rintro _ w4 ⟨gf, cf, rfl, _, hcf, hf, k4⟩
    have K4 := K3.trans k4
    have R4 := R3.on k4
    have HRR : Hid (Rd2 intC 1 w4 (.slice la (X.map ints).length lc) (X.map ints)) := hrr.on k4
    have HF : Hid (Rw w4 gf (ints l0)) := hf
    obtain ⟨g, off, hla, hg, ax, cx, hcx, _, hrx⟩ := HRR.out.row (i := j) (L := ints x) (by rw [List.getElem?_map, HXJ.out]; rfl)
    obtain ⟨g2, off2, hla2, hg2, ay, cy, hcy, _, hry⟩ := HRR.out.row (i := 0) (L := ints l0) (by rw [List.getElem?_map, HX0.out]; rfl)
    subst hla
    simp only [Option.some.injEq, Addr.mk.injEq, and_true] at hla2
    obtain ⟨rfl, rfl⟩ := hla2
    have hxm : (ints x).length = m := by rw [ints_len]; exact HXL.out
    have hym : (ints l0).length = m := by rw [ints_len]; exact HL0.out
    rw [hxm] at hcx hrx
    rw [hym] at hcy hry
    have HRX : Hid (Rd intC 1 w4 (.slice ax m cx) (ints x)) := hrx
    have HRY : Hid (Rd intC 1 w4 (.slice ay m cy) (ints l0)) := hry
    have HCY : Hid (w4.cell? ⟨g, off + 0, none⟩ = some (.slice ay m cy) ∧ g < w4.heap.size) := ⟨hcy, hg⟩
    have HXM : Hid ((ints x).length = m) := hxm
    have HYM : Hid ((ints l0).length = m) := hym
    have hmk := run_make (P := Tryd.prog) w4 36 3 i0 (.int .i64 0) Tryd.underlying36 hi0 hz0 .i64 .i64 m m (by omega) (by omega) (by rw [hz2]; omega) (by omega)
    simp only [Int.toNat_natCast] at hmk
    obtain ⟨W6, hW6⟩ : ∃ W6, W6 = w4.alloc (.cells (madeCells (Value.int .i64 0).cells (m * i0.size)) 3) := ⟨_, rfl⟩
    have hR6 : Rw W6 w4.heap.size (rkL x m 0) := by
      refine ⟨[], ?_⟩
      rw [hW6, List.append_nil, rk_zero]
      have e : madeCells (Value.int .i64 0).cells (m * i0.size) = (List.replicate m (Value.int .i64 0)).toArray := by
        apply Array.ext'
        rw [hz1, Nat.mul_one, show (Value.int .i64 0).cells = #[Value.int .i64 0] from rfl, toList_madeCells_one]
      rw [e]
      exact Bk.new w4 _ _
    have k6 : On w4 W6 := by rw [hW6]; exact (On.refl w4).alloc _
    rw [← hW6] at hmk
    clear hW6 hrr hf k4 hxm hym hrx hry hcy y1 y2 R3 K3 hO1
    have hcx2 := hcx
    go_wp2
    clear hmk hcx hcx2
    go_loopg [14] m (fun gg s14 wr => ∃ i : Nat, i ≤ m ∧ gg = m - i ∧ s14 = .int .i64 i ∧ Hid (On w4 wr) ∧ Hid (Rw wr w4.heap.size (rkL x m i)))
    case atStart => exact ⟨0, Nat.zero_le _, rfl, rfl, k6, hR6⟩
    case round =>
      clear k6 hR6
      obtain ⟨i, hi, hk, rfl, HO, HRK⟩ := hrel
      rcases Nat.lt_or_ge i m with hlt | hge
      · obtain ⟨xi, hxi⟩ : ∃ xi, x[i]? = some xi := ⟨_, List.getElem?_eq_getElem (by rw [HXL.out]; exact hlt)⟩
        obtain ⟨fi, hfi⟩ : ∃ fi, l0[i]? = some fi := ⟨_, List.getElem?_eq_getElem (by rw [HL0.out]; exact hlt)⟩
        have hxm := HLT.out xi (List.mem_of_getElem? hxi)
        obtain ⟨gx, ox, hax, hgx, ux⟩ := (HRX.out.on HO.out).at' HXM.out (i := i) (x := (xi : Int)) (by rw [List.getElem?_map, hxi]; rfl)
        obtain ⟨gy, oy, hay, hgy, uy⟩ := (HRY.out.on HO.out).at' HYM.out (i := i) (x := (fi : Int)) (by rw [List.getElem?_map, hfi]; rfl)
        have hcf := (HF.out.on HO.out).at (i := i) (x := (fi : Int)) (by rw [List.getElem?_map, hfi]; rfl)
        have hgf := (HF.out.on HO.out).lt
        have hxc := ux 0 _ rfl
        have hyc := uy 0 _ rfl
        subst hax
        subst hay
        simp only [Nat.mul_one, Nat.add_zero] at hxc hyc
        have hc0 := (HO.out.cell (p := ⟨g, off + 0, none⟩) HCY.out.2).trans HCY.out.1
        simp only [Nat.add_zero] at hc0
        have hg0 : g < wr.heap.size := Nat.lt_of_lt_of_le HCY.out.2 HO.out.size
        have hdm : decide (m ≤ xi) = false := decide_eq_false (by omega)
        have hrl : (rkL x m i).length = m := rk_len x m i
        have HP : Hid (∀ W, Rw W w4.heap.size (rkL x m i) → Rw (W.setCell ⟨w4.heap.size, xi, none⟩ (.int .i64 i)) w4.heap.size (rkL x m (i + 1))) := fun W h => by
          have := h.put (i := xi) (by rw [hrl]; exact hxm) (i : Int)
          rwa [rk_step HND.out hxm hxi HMX2.out] at this
        have HYY : Hid (∃ z, (rkL x m i)[xi]? = some z) := ⟨_, List.getElem?_eq_getElem (by rw [hrl]; exact hxm)⟩
        clear ux uy hrl hxi hfi
        go_wp2
        go_quiet (fail)
        obtain ⟨wq, hwq⟩ : ∃ wq, wq = wr.drewN nq := ⟨_, rfl⟩
        have kq : On wr wq := by rw [hwq]; exact (On.refl wr).drewN nq
        rw [← hwq]
        have hxc2 := (kq.cell (p := ⟨gx, ox + i, none⟩) hgx).trans hxc
        have hgx2 : gx < wq.heap.size := Nat.lt_of_lt_of_le hgx kq.size
        have hRq := HRK.out.on kq
        obtain ⟨z, hzz⟩ := HYY.out
        have hcz := hRq.at hzz
        have hfz := hRq.fr xi
        have hlz := hRq.lt
        have HR2 : Hid (Rw _ w4.heap.size (rkL x m (i + 1))) := HP.out wq hRq
        have HO2 : Hid (On w4 (wq.setCell ⟨w4.heap.size, xi, none⟩ (.int .i64 i))) := (HO.out.trans kq).setNew (Nat.le_refl _) _
        clear hwq hxc hyc hcf hc0 hgx hgy hgf hg0 HRK HO kq hRq hzz HP HYY
        go_wp2
        go_roundg (m - (i + 1))
        case measure => omega
        case rel => exact ⟨i + 1, hlt, rfl, by congr 1, HO2, HR2⟩
      · obtain rfl : m = i := by omega
        have hrv := HRK.out.rd (c := m) (k := m) (by rw [rk_len]; exact Nat.le_refl _) (Nat.le_refl _) (by omega)
        have hrl : (rkL x m m).length = m := rk_len x m m
        rw [List.take_of_length_le (by omega)] at hrv
        rw [hrl] at hrv
        have KW := K4.trans HO.out
        have hgr := HY3.out _ wr KW hrv
        have RW := R4.on HO.out
        clear HRK hrv hrl HY3
        go_wp2_with (refine wpList_ld rfl rfl rfl RW ?_)
        refine hgr.mono ?_
        rintro _ w7 ⟨gg, cg, rfl, _, hcg, hgrw, k7⟩
        have K7 := KW.trans k7
        have HG7 : Hid (Rw w7 gg (ints x)) := hgrw
        have HRX7 : Hid (Rd intC 1 w7 (.slice ax m cx) (ints x)) := (HRX.out.on HO.out).on k7
        clear hgr hgrw HF HRY HCY HRX HO RW KW R4 HRR
        go_wp2
        go_loopg [17] m (fun gi s17 wi => ∃ i : Nat, i ≤ m ∧ gi = m - i ∧ s17 = .int .i64 i ∧ Hid (On w7 wi))
        case atStart => exact ⟨0, Nat.zero_le _, rfl, rfl, On.refl _⟩
        case round =>
          obtain ⟨i, hi, hk, rfl, HO⟩ := hrel
          rcases Nat.lt_or_ge i m with hlt | hge
          · obtain ⟨xi, hxi⟩ : ∃ xi, x[i]? = some xi := ⟨_, List.getElem?_eq_getElem (by rw [HXL.out]; exact hlt)⟩
            obtain ⟨gx, ox, hax, hgx, ux⟩ := (HRX7.out.on HO.out).at' HXM.out (i := i) (x := (xi : Int)) (by rw [List.getElem?_map, hxi]; rfl)
            have hcf := (HG7.out.on HO.out).at (i := i) (x := (xi : Int)) (by rw [List.getElem?_map, hxi]; rfl)
            have hgf := (HG7.out.on HO.out).lt
            have hxc := ux 0 _ rfl
            subst hax
            simp only [Nat.mul_one, Nat.add_zero] at hxc
            clear ux hxi
            go_wp2
            go_quiet (fail)
            have HO2 : Hid (On w7 (wr.drewN nq)) := HO.out.drewN nq
            clear hxc hcf HO
            go_wp2
            go_roundg (m - (i + 1))
            case measure => omega
            case rel => exact ⟨i + 1, hlt, rfl, by congr 1, HO2⟩
          · obtain rfl : m = i := by omega
            have K8 := K7.trans HO.out
            go_wp2_with fail
            refine (xA _ K8).mono ?_
            rintro _ w9 ⟨rfl, k9⟩
            go_wp2
            go_ret
            exact ⟨rfl, K8.trans k9⟩
end Go.Proofs.YtohngifmbnlmmaaDoor
