/- The program's package order: Count, All, Keeps. -/
import Derived.Test.YtohngifmbnlmmaaDoorOrdD
namespace Go.Proofs.YtohngifmbnlmmaaDoor
open Go.RowKit

/-- All orders of a relation, as rows stand. -/
def ordsR (r : RelT) : List (List Nat) := exts (needL r).length (DL2D (needL r)) (needL r).length 0
theorem D_lt {DL : List Nat} (h : ∀ x ∈ DL, x < 18446744073709551616) (a : Nat) : DL2D DL a < 18446744073709551616 := by
  unfold DL2D
  rw [List.getD_eq_getElem?_getD]
  cases hb : DL[a]? with
  | none => decide
  | some x => exact h x (List.mem_of_getElem? hb)
theorem ints_bd {n : Nat} {D : Nat → Nat} (hn : n ≤ 64) {l : List Nat} (h : okS n D 0 l = true) : ∀ x ∈ ints l, -1 ≤ x ∧ x < 64 := fun x hx => by
  obtain ⟨a, ha, rfl⟩ := List.mem_map.1 hx
  have := okS_lt l 0 h a ha
  omega
theorem ints_len (l : List Nat) : (ints l).length = l.length := by simp
/-- One step, from a row to the next. -/
theorem step_row {DL : List Nat} (hF : Full DL.length (DL2D DL)) {v : Value} {w0 : World} (hN : Nd w0 v DL) {l : List Nat} {g c : Nat} {w : World} (k0 : On w0 w) (hg : w0.heap.size ≤ g) (hR : Rw w g (ints l)) (hc : l.length ≤ c) (hl : l.length = DL.length) (ho : okS DL.length (DL2D DL) 0 l = true) :
    Calls Tryd.prog 26 #[v, .slice (some ⟨g, 0, none⟩) DL.length c] w fun e w' => ∃ rem, e = .returned (.bool (!rem.isEmpty)) ∧ afterS DL.length (DL2D DL) 0 l = rem ∧ (∀ l' ls, rem = l' :: ls → Rw w' g (ints l') ∧ okS DL.length (DL2D DL) 0 l' = true ∧ l'.length = DL.length ∧ ls = afterS DL.length (DL2D DL) 0 l') ∧ Wa g w w' := by
  have hs := step_is DL v w0 hN (ints l) g c w k0 hg hR (by rw [ints_len]; exact hc) (by rw [ints_len, hl]; exact hN.l) (ints_bd hN.l ho)
  rw [step_next hN.l hF hl ho, ints_len, hl] at hs
  obtain ⟨h1, h2⟩ := after_next hN.l hF l 0 (by decide) (by rw [outs_zero, hl]) ho
  refine hs.mono ?_
  rintro e w' ⟨rfl, hr, hw⟩
  cases hx : nextS DL.length (DL2D DL) 0 l with
  | none =>
    refine ⟨[], rfl, h1 hx, fun l' ls h => (by cases h), hw⟩
  | some l1 =>
    obtain ⟨j1, j2, j3⟩ := h2 l1 hx
    rw [hx] at hr
    refine ⟨l1 :: afterS DL.length (DL2D DL) 0 l1, rfl, j1, fun l' ls h => ?_, hw⟩
    simp only [List.cons.injEq] at h
    obtain ⟨rfl, rfl⟩ := h
    exact ⟨hr, j2, by omega, rfl⟩
set_option maxHeartbeats 4000000 in
set_option maxRecDepth 8000 in
theorem count_is (r : RelT) (hr : Wf r) (m : Int) (w : World) (hd : Dt w) :
    Calls Tryd.prog 13 #[.agg (relA r), .int .i64 m] w fun e w' => e = .returned (.int .i64 ((min (boundI m) (ordsR r).length : Nat) : Int)) ∧ On w w' := by
  have h1 := Bk.new w (relA r) 27
  have k0 := (On.refl w).alloc (.cells (relA r) 27)
  have hn : (needL r).length ≤ 64 := by rw [need_len]; exact hr.n
  have hx := need_x hr
  have hbo := fun W => bound_is m W
  have hnd := fun W => needs_is r hr W
  have hfs := fun W (k : On w W) => frst_is r hr W (hd.on k)
  have hB : boundI m ≤ 100000 := Nat.min_le_right _ _
  unfold ordsR
  generalize needL r = DL at *
  generalize boundI m = B at *
  have HD : Hid (Dt w) := hd
  have HX : Hid (∀ x ∈ DL, x < 18446744073709551616) := hx
  have HF := fun l => exts_first (l := l) hn (D_lt hx)
  have HE := exts_none hn (D_lt hx)
  obtain ⟨O, hO⟩ : ∃ O, O = exts DL.length (DL2D DL) DL.length 0 := ⟨_, rfl⟩
  obtain ⟨RES, hRES⟩ : ∃ RES, RES = min B O.length := ⟨_, rfl⟩
  rw [← hO] at HF HE ⊢
  rw [← hRES]
  have HRES : Hid (RES = min B O.length) := hRES
  clear hO hx hd hr hRES
  obtain ⟨n, hnn⟩ : ∃ n, n = DL.length := ⟨_, rfl⟩
  have HNN : Hid (n = DL.length) := hnn
  rw [← hnn] at hn hnd
  obtain ⟨G, hG⟩ : ∃ G, G = greedyP DL.length (DL2D DL) (bestN []) DL.length 0 := ⟨_, rfl⟩
  rw [← hG] at HF HE hfs
  clear hG hnn
  cases G with
  | none =>
    have e : RES = 0 := by rw [HRES.out, HE rfl]; simp
    subst e
    clear HE HF HRES
    go_enter Tryd.func13, Tryd.ntmps13
    go_wp2_with fail
    refine (hbo _).mono ?_
    rintro _ w1 ⟨rfl, hw1⟩
    subst w1
    go_wp2_with (refine wpList_ld rfl rfl rfl h1 ?_)
    refine (hnd _).mono ?_
    rintro _ w1 ⟨an, cn, rfl, hrd, k1⟩
    have K1 := k0.trans k1
    have B1 := h1.on k1
    go_wp2_with (refine wpList_ld rfl rfl rfl B1 ?_)
    refine (hfs _ K1).mono ?_
    rintro _ w2 ⟨rfl, k2⟩
    have K2 : Hid (On w w2) := K1.trans k2
    clear hrd
    go_wp2
    go_loopg [6, 8] 0 (fun gg s6 s8 wr => gg = 0 ∧ s6 = .int .i64 0 ∧ s8 = .bool false ∧ wr = w2)
    case atStart => exact ⟨rfl, rfl, rfl, rfl⟩
    case round =>
      obtain ⟨hg, rfl, rfl, hwr⟩ := hrel
      subst hwr
      go_wp2
      go_ret
      exact ⟨rfl, K2.out⟩
  | some l0 =>
    obtain ⟨hFull, hO, hok0, hl0⟩ := HF _ rfl
    have HFU : Hid (Full DL.length (DL2D DL)) := hFull
    have HO : Hid (O = l0 :: afterS DL.length (DL2D DL) 0 l0) := hO
    have HOK0 : Hid (okS DL.length (DL2D DL) 0 l0 = true) := hok0
    have HL0 : Hid (l0.length = n) := hl0.trans HNN.out.symm
    have hl0n : l0.length = n := HL0.out
    rw [show (GrPost (some l0)) = (fun w e w' => ∃ g c, e = .returned (.tuple #[.slice (some ⟨g, 0, none⟩) n c, .bool true]) ∧ w.heap.size ≤ g ∧ n ≤ c ∧ Rw w' g (ints l0) ∧ On w w') by rw [← hl0n]; rfl] at hfs
    clear HE HF hFull hO hok0 hl0 hl0n
    go_enter Tryd.func13, Tryd.ntmps13
    go_wp2_with fail
    refine (hbo _).mono ?_
    rintro _ w1 ⟨rfl, hw1⟩
    subst w1
    go_wp2_with (refine wpList_ld rfl rfl rfl h1 ?_)
    refine (hnd _).mono ?_
    rintro _ w1 ⟨an, cn, rfl, hrd, k1⟩
    have K1 := k0.trans k1
    have B1 := h1.on k1
    have ND : Hid (Nd w1 (.slice an n cn) DL) := ⟨hrd, by rw [← HNN.out]; exact hn, HX.out, HD.out.on K1⟩
    go_wp2_with (refine wpList_ld rfl rfl rfl B1 ?_)
    refine (hfs _ K1).mono ?_
    rintro _ w2 ⟨g, c, rfl, hg, hc, hrw, k2⟩
    have K2 : Hid (On w w2) := K1.trans k2
    have hsz := K1.size
    clear hrd h1 k0 B1 hbo hnd hfs
    go_wp2
    go_loopg [6, 8] O.length (fun gg s6 s8 wr => ∃ (d : Nat) (rem : List (List Nat)) (ok : Bool), gg = rem.length ∧ s6 = .int .i64 d ∧ s8 = .bool ok ∧ Hid (ok = !rem.isEmpty) ∧ Hid (O.length = d + rem.length) ∧ d ≤ B ∧ Hid (On w wr) ∧ Hid (On w1 wr) ∧ Hid (∀ l ls, rem = l :: ls → Rw wr g (ints l) ∧ okS DL.length (DL2D DL) 0 l = true ∧ l.length = DL.length ∧ ls = afterS DL.length (DL2D DL) 0 l))
    case atStart => exact ⟨0, O, true, rfl, rfl, rfl, (by show true = _; rw [HO.out]; rfl), (by show _ = _; omega), Nat.zero_le _, K2, k2, fun l ls h => by
      rw [HO.out] at h
      simp only [List.cons.injEq] at h
      obtain ⟨rfl, rfl⟩ := h
      exact ⟨hrw, HOK0.out, HL0.out.trans HNN.out, rfl⟩⟩
    case round =>
      clear HO HOK0 HL0 K2 k2 hrw
      obtain ⟨d, rem, ok, hgk, rfl, rfl, HOK, HLEN, hdB, HO, HO1, HS⟩ := hrel
      cases rem with
      | nil =>
        obtain rfl : ok = false := HOK.out
        have e : RES = d := by
          have h2 := HLEN.out
          simp only [List.length_nil, Nat.add_zero] at h2
          rw [HRES.out, h2]
          omega
        subst e
        go_wp2
        go_ret
        exact ⟨rfl, HO.out⟩
      | cons l ls =>
        obtain rfl : ok = true := HOK.out
        by_cases hdl : d < B
        · obtain ⟨s1, s2, s3, s4⟩ := HS.out l ls rfl
          have hst := step_row HFU.out ND.out HO1.out hg s1 (by rw [s3, ← HNN.out]; exact hc) s3 s2
          rw [← HNN.out] at hst
          have HLS : Hid (ls = afterS n (DL2D DL) 0 l) := by show ls = _; rw [HNN.out]; exact s4
          have HLN : Hid (O.length = (d + 1) + ls.length) := by
            have h2 := HLEN.out
            simp only [List.length_cons] at h2
            show O.length = _
            omega
          have hgk2 : gk = ls.length + 1 := hgk
          clear HS s1 s2 s3 s4 HOK HLEN hgk
          go_wp2_with fail
          refine hst.mono ?_
          rintro _ w3 ⟨rem, rfl, hrem, hnx, hwa⟩
          have HR2 : Hid (ls = rem) := HLS.out.trans hrem
          have HO2 : Hid (On w w3) := HO.out.wa hwa (by omega)
          have HO3 : Hid (On w1 w3) := HO1.out.wa hwa hg
          obtain ⟨ok, hok⟩ : ∃ ok, ok = !rem.isEmpty := ⟨_, rfl⟩
          rw [← hok]
          have HOK : Hid (ok = !rem.isEmpty) := hok
          have HNX : Hid (∀ l' ls, rem = l' :: ls → Rw w3 g (ints l') ∧ okS n (DL2D DL) 0 l' = true ∧ l'.length = n ∧ ls = afterS n (DL2D DL) 0 l') := hnx
          clear hok hrem hwa hnx
          go_wp2
          go_roundg ls.length
          case measure => omega
          case rel => exact ⟨d + 1, rem, ok, by rw [HR2.out], by congr 1, rfl, HOK, by show _ = _; rw [HLN.out, HR2.out], hdl, HO2, HO3, by rw [← HNN.out]; exact HNX⟩
        · have e : RES = d := by
            have h2 := HLEN.out
            simp only [List.length_cons] at h2
            rw [HRES.out, h2]
            omega
          subst e
          go_wp2
          go_ret
          exact ⟨rfl, HO.out⟩
end Go.Proofs.YtohngifmbnlmmaaDoor
