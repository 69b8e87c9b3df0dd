/- PrintParts, walked. -/
import Derived.Test.YtoolingijocpcaaDoorPartW
import Derived.Test.YtoolingijocpcaaDoorRTxt
import Derived.Test.YtoolingijocpcaaDoorSmallC
namespace Go.Proofs.YtoolingijocpcaaDoor
open Go.RowKit

theorem TOwn.rdS {w : World} {base : Nat} {v : Value} {t : TestT} (h : TOwn w base v t) (hn : t.name.size ≤ 9223372036854775807) : TestRd w v t := by
  obtain ⟨a1, c1, a2, c2, a3, c3, e, h1, h2, h3⟩ := h.rd4
  exact ⟨a1, c1, a2, c2, a3, c3, e, hn, h1, h2, h3⟩
theorem drop_next {α β : Type} {L : List α} {n : Nat} {x : α} (f : α → List β) (h : L[n]? = some x) : (L.drop n).flatMap f = f x ++ (L.drop (n + 1)).flatMap f := by
  obtain ⟨h1, h2⟩ := List.getElem?_eq_some_iff.1 h
  rw [List.drop_eq_getElem_cons h1, List.flatMap_cons, h2]
theorem str_len {S : ByteArray} {R T : List UInt8} {n : Nat} (h : S.data.toList ++ R = T) (hn : T.length ≤ n) : S.size ≤ n := by
  have := congrArg List.length h
  rw [List.length_append, ← size_list] at this
  omega
theorem size_mk (l : List UInt8) : (⟨l.toArray⟩ : ByteArray).size = l.length := by show l.toArray.size = _; simp
theorem list_mk (l : List UInt8) : (⟨l.toArray⟩ : ByteArray).data.toList = l := by simp
set_option maxHeartbeats 4000000 in
set_option maxRecDepth 8000 in
theorem printParts_no (a : Option Addr) (zs : List Int) (cap : Nat) (w : World) (hz : zs.length ≤ 9223372036854775807) (hr : Rd intC 1 w (.slice a zs.length cap) zs) (lw : Lw w) (h4 : ¬ nxtV zs 2 % 4 = 0) :
    Calls Tryd.prog 6 #[.slice a zs.length cap] w fun e w' => e = .returned (.bool true) ∧ On w w' := by
  have hS := small_is zs a cap 12 w hz hr
  have hok := small_ok zs 12
  have hB := small_B zs 12
  have hTx := fun v W (k : On w W) h => ptest_is (smallP zs 12) v W (lw.on k) h hok hB (small_text zs 12)
  have hA2 := fun W (k : On w W) => awake4_is W (lw.on k)
  have hTl := small_text zs 12
  have hPt := small_parts zs 12
  have hnm : (smallP zs 12).name.size ≤ 9223372036854775807 := by show 1 ≤ _; decide
  have hCo : condOk (smallP zs 12).cond = true := (condOf_ok _).1
  have hTo : ∀ L ∈ (smallP zs 12).thr, ∀ x ∈ L, insOk x = true := fun L hL x hx => List.all_eq_true.1 ((thrOf_ok zs 12).2 L hL).1.1 x hx
  have HI : Hid (∀ L ∈ (smallP zs 12).thr, ∀ x ∈ L, ∀ W, On w W → Calls Tryd.prog 15 #[.agg #[.int .i64 x.k, .int .i64 x.r, .int .i64 x.l, .int .i64 x.a.r, .int .i64 x.a.v, .int .i64 x.o, .int .i64 x.b.r, .int .i64 x.b.v, .int .i64 x.n]] W fun e w' => e = .returned (.string ⟨(jn (insTk x)).toArray⟩) ∧ On W w') := fun L hL x hx W k => pins_is x (hTo L hL x hx) (hB.thr L hL x hx).1 (hB.thr L hL x hx).2.1 (hB.thr L hL x hx).2.2 W (lw.on k)
  have HCo : Hid (¬ (smallP zs 12).cond.k = 0 → ∀ a c W, Rd2 atomC 4 W (.slice a (smallP zs 12).cond.any.length c) (smallP zs 12).cond.any → Calls Tryd.prog 17 #[.agg #[.int .i64 (smallP zs 12).cond.k, .slice a (smallP zs 12).cond.any.length c]] W fun e w' => e = .returned (.string ⟨(jn (condTk (smallP zs 12).cond)).toArray⟩) ∧ On W w') := fun h0 a c W hR => pcond_is _ a c W hR hCo h0 (cond_atoms hok hB) hB.l4 hB.l5
  have HL3 : Hid (∀ L ∈ (smallP zs 12).thr, L.length ≤ 1000) := hB.l3
  have hl2 := hB.l2
  clear hB hTo hCo
  have hini : (smallP zs 12).ini = [] := by show iniOf zs = []; unfold iniOf; rw [if_neg h4]
  have hix : iniX zs = [] := by unfold iniX; rw [if_neg h4]
  rw [hix] at hPt
  clear hix
  clear hok lw h4
  generalize smallP zs 12 = t at *
  obtain ⟨TXT, hTXT⟩ : ∃ TXT, TXT = textL t := ⟨_, rfl⟩
  rw [← hTXT] at hTx hTl hPt
  clear hTXT hr
  obtain ⟨T, hT⟩ : ∃ T : ByteArray, T = ⟨TXT.toArray⟩ := ⟨_, rfl⟩
  rw [← hT] at hTx
  have HT : Hid (TXT = T.data.toList) := by show _ = _; rw [hT]
  clear hT
  go_enter Tryd.func6, Tryd.ntmps6
  go_wp2_with fail
  refine hS.mono ?_
  rintro _ w1 ⟨v, rfl, hown, k1⟩
  have hrd := hown.rdS hnm
  obtain ⟨a1, c1, a2, c2, a3, c3, rfl, _, r1, r2, r3⟩ := hrd.ex
  have hTx2 := fun W (k : On w1 W) => hTx _ W (k1.trans k) (hrd.on k)
  clear hTx hown hrd hnm
  obtain ⟨E, hE⟩ : ∃ E, E = condX t.cond ++ [125, 10] := ⟨_, rfl⟩
  rw [← hE] at hPt
  have HE : Hid (E = condX t.cond ++ [125, 10]) := hE
  have HPT : Hid (TXT = _) := hPt
  clear hE hPt
  have HCX : Hid (condX t.cond = if t.cond.k = 0 then [] else jn (condTk t.cond) ++ [10]) := rfl
  have HR2 : Hid (Rd2 insC 9 w1 (.slice a2 t.thr.length c2) t.thr) := r2
  have HR3 : Hid (Rd2 atomC 4 w1 (.slice a3 t.cond.any.length c3) t.cond.any) := r3
  clear r2 r3
  generalize condX t.cond = CX at *
  generalize condTk t.cond = CT at *
  generalize t.cond.any = AN at *
  generalize t.cond.k = kk at *
  generalize t.thr = TH at *
  rw [hini] at r1 hTx2 ⊢
  clear r1 hini
  simp only [List.length_nil] at hTx2 ⊢
  generalize t.name = nm at *
  obtain ⟨W3, hW3⟩ : ∃ W3, W3 = w1.alloc (.cells #[.string nm, .slice a1 0 c1, .slice a2 TH.length c2, .int .i64 kk, .slice a3 AN.length c3] 29) := ⟨_, rfl⟩
  have HK3 : Hid (On w1 W3) := by show On _ _; rw [hW3]; exact (On.refl w1).alloc _
  have HB3 : Hid (Bk W3 w1.heap.size #[.string nm, .slice a1 0 c1, .slice a2 TH.length c2, .int .i64 kk, .slice a3 AN.length c3]) := by show Bk _ _ _; rw [hW3]; exact Bk.new w1 _ _
  have HW3 : Hid (W3 = _) := hW3
  have HK1 : Hid (On w w1) := k1
  clear hW3 k1
  have HS0 : Hid ((⟨#[116, 101, 115, 116, 32, 116, 32, 123, 10]⟩ : ByteArray).data.toList ++ ((TH.drop 0).flatMap thrX ++ E) = TXT) := by
    show _ = _
    rw [HPT.out]
    rfl
  have HOS : Hid (On W3 W3) := On.refl W3
  have q1 := HB3.out.at (i := 1) rfl
  have ql := HB3.out.lt
  clear HPT
  go_wp2_with (rw [← HW3.out])
  go_loopg [4, 5] TH.length (fun gg s4 s5 wr => ∃ (i : Nat) (S : ByteArray), i ≤ TH.length ∧ gg = TH.length - i ∧ s5 = .int .i64 i ∧ s4 = .string S ∧ Hid (S.data.toList ++ ((TH.drop i).flatMap thrX ++ E) = TXT) ∧ Hid (On W3 wr))
  case atStart => exact ⟨0, _, Nat.zero_le _, rfl, rfl, rfl, HS0, HOS⟩
  case round =>
    clear HS0 HOS
    obtain ⟨i, S, hi, hk, rfl, rfl, HQ, HO⟩ := hrel
    have hSs := str_len HQ.out hTl
    have BR := HB3.out.on HO.out
    have x2 := BR.at (i := 2) rfl
    have x3 := BR.at (i := 3) rfl
    have xl := BR.lt
    rcases Nat.lt_or_ge i TH.length with hlt | hge
    · obtain ⟨L, hL⟩ : ∃ L, TH[i]? = some L := ⟨_, List.getElem?_eq_getElem hlt⟩
      have HLm : Hid (L ∈ TH) := List.mem_of_getElem? hL
      obtain ⟨g2, off2, rfl, hg2, ax, cx, hcl, hLl, hLr⟩ := HR2.out.row hL
      have HLr : Hid (Rd insC 9 w1 (.slice ax L.length cx) L) := hLr
      have HG2 : Hid (g2 < w1.heap.size) := hg2
      have HCL : Hid (w1.cell? ⟨g2, off2 + i, none⟩ = some (.slice ax L.length cx)) := hcl
      obtain ⟨X, hX⟩ : ∃ X, X = [125, 10] ++ ((TH.drop (i + 1)).flatMap thrX ++ E) := ⟨_, rfl⟩
      have HX : Hid (X = [125, 10] ++ ((TH.drop (i + 1)).flatMap thrX ++ E)) := hX
      have HS1 : Hid ((S ++ ⟨#[116, 104, 114, 101, 97, 100, 32, 123, 10]⟩ : ByteArray).data.toList ++ ((L.drop 0).flatMap insX ++ X) = TXT) := by
        show _ = _
        rw [← HQ.out, drop_next thrX hL, list_append, hX]
        unfold thrX
        simp
      clear hX hL hLr hcl hg2 HQ
      go_wp2
      go_loopg [4, 6] L.length (fun gg s4 s6 wr => ∃ (k : Nat) (S : ByteArray), k ≤ L.length ∧ gg = L.length - k ∧ s6 = .int .i64 k ∧ s4 = .string S ∧ Hid (S.data.toList ++ ((L.drop k).flatMap insX ++ X) = TXT) ∧ Hid (On W3 wr))
      case atStart => exact ⟨0, _, Nat.zero_le _, rfl, rfl, rfl, HS1, HO⟩
      case round =>
        clear HS1 HO x2 x3 xl BR hSs
        obtain ⟨k, S2, hk1, hk2, rfl, rfl, HQ2, HO2⟩ := hrel
        have hSs := str_len HQ2.out hTl
        have BR := HB3.out.on HO2.out
        have x2 := BR.at (i := 2) rfl
        have xl := BR.lt
        have KO : On w1 wr := HK3.out.trans HO2.out
        have hg2 : g2 < wr.heap.size := Nat.lt_of_lt_of_le HG2.out KO.size
        have hcl : wr.cell? ⟨g2, off2 + i, none⟩ = some (.slice ax L.length cx) := (KO.cell (p := ⟨g2, off2 + i, none⟩) HG2.out).trans HCL.out
        rcases Nat.lt_or_ge k L.length with hlt2 | hge2
        · obtain ⟨x, hx⟩ : ∃ x, L[k]? = some x := ⟨_, List.getElem?_eq_getElem hlt2⟩
          obtain ⟨ax', cx', hv, _, _, hrr⟩ := HLr.out
          simp only [Value.slice.injEq] at hv
          obtain ⟨rfl, _, rfl⟩ := hv
          obtain ⟨g, off, rfl, hg, hcell⟩ := hrr (by omega)
          have y0 : wr.cell? ⟨g, off + k * 9, none⟩ = _ := (KO.cell (p := ⟨g, off + k * 9, none⟩) hg).trans (hcell k x 0 _ hx rfl)
          have y1 : wr.cell? ⟨g, off + k * 9 + 1, none⟩ = _ := (KO.cell (p := ⟨g, off + k * 9 + 1, none⟩) hg).trans (hcell k x 1 _ hx rfl)
          have y2 : wr.cell? ⟨g, off + k * 9 + 2, none⟩ = _ := (KO.cell (p := ⟨g, off + k * 9 + 2, none⟩) hg).trans (hcell k x 2 _ hx rfl)
          have y3 : wr.cell? ⟨g, off + k * 9 + 3, none⟩ = _ := (KO.cell (p := ⟨g, off + k * 9 + 3, none⟩) hg).trans (hcell k x 3 _ hx rfl)
          have y4 : wr.cell? ⟨g, off + k * 9 + 4, none⟩ = _ := (KO.cell (p := ⟨g, off + k * 9 + 4, none⟩) hg).trans (hcell k x 4 _ hx rfl)
          have y5 : wr.cell? ⟨g, off + k * 9 + 5, none⟩ = _ := (KO.cell (p := ⟨g, off + k * 9 + 5, none⟩) hg).trans (hcell k x 5 _ hx rfl)
          have y6 : wr.cell? ⟨g, off + k * 9 + 6, none⟩ = _ := (KO.cell (p := ⟨g, off + k * 9 + 6, none⟩) hg).trans (hcell k x 6 _ hx rfl)
          have y7 : wr.cell? ⟨g, off + k * 9 + 7, none⟩ = _ := (KO.cell (p := ⟨g, off + k * 9 + 7, none⟩) hg).trans (hcell k x 7 _ hx rfl)
          have y8 : wr.cell? ⟨g, off + k * 9 + 8, none⟩ = _ := (KO.cell (p := ⟨g, off + k * 9 + 8, none⟩) hg).trans (hcell k x 8 _ hx rfl)
          have hg' := Nat.lt_of_lt_of_le hg KO.size
          have hIx := HI.out L HLm.out x (List.mem_of_getElem? hx)
          obtain ⟨J, hJ⟩ : ∃ J : ByteArray, J = ⟨(jn (insTk x)).toArray⟩ := ⟨_, rfl⟩
          rw [← hJ] at hIx
          have HS3 : Hid ((S2 ++ J ++ ⟨#[10]⟩ : ByteArray).data.toList ++ ((L.drop (k + 1)).flatMap insX ++ X) = TXT) := by
            show _ = _
            rw [← HQ2.out, drop_next insX hx, list_append, list_append, hJ]
            unfold insX
            simp
          have hS3 := str_len HS3.out hTl
          rw [ByteArray.size_append, ByteArray.size_append] at hS3
          have KW : Hid (On w wr) := HK1.out.trans KO
          obtain ⟨xk, xr, xq, ⟨xar, xav⟩, xo, ⟨xbr, xbv⟩, xn⟩ := x
          simp only at y0 y1 y2 y3 y4 y5 y6 y7 y8 hIx
          clear hcell hrr hx hJ HQ2 KO BR
          go_wp2_with fail
          refine (hIx _ KW.out).mono ?_
          rintro _ w4 ⟨rfl, k4⟩
          have HO4 : Hid (On W3 w4) := HO2.out.trans k4
          clear hIx KW k4 y0 y1 y2 y3 y4 y5 y6 y7 y8 HO2 hg hg'
          go_wp2
          go_roundg (L.length - (k + 1))
          case measure => omega
          case rel => exact ⟨k + 1, _, hlt2, rfl, by congr 1, rfl, HS3, HO4⟩
        · obtain rfl : k = L.length := by omega
          have HS4 : Hid ((S2 ++ ⟨#[125, 10]⟩ : ByteArray).data.toList ++ ((TH.drop (i + 1)).flatMap thrX ++ E) = TXT) := by
            show _ = _
            rw [← HQ2.out, HX.out, list_append, List.drop_length]
            simp
          clear HQ2 KO BR
          go_wp2
          go_roundg (TH.length - (i + 1))
          case measure => omega
          case rel => exact ⟨i + 1, _, hlt, rfl, by congr 1, rfl, HS4, HO2⟩
    · obtain rfl : i = TH.length := by omega
      have HF : Hid (S.data.toList ++ E = TXT) := by
        show _ = _
        rw [← HQ.out, List.drop_length]
        rfl
      clear HQ
      by_cases hk0 : kk = 0
      · subst hk0
        have hfin : T = S ++ ⟨#[125, 10]⟩ := by
          refine bytes_ext ?_
          rw [← HT.out, ← HF.out, HE.out, HCX.out, list_append]
          rfl
        rw [hfin] at hTx2
        clear hfin HF HT
        clear x2 x3 xl BR
        have B5 := HB3.out.on HO.out
        have z0 := B5.at (i := 0) rfl
        have z1 := B5.at (i := 1) rfl
        have z2 := B5.at (i := 2) rfl
        have z3 := B5.at (i := 3) rfl
        have z4 := B5.at (i := 4) rfl
        have zl := B5.lt
        go_wp2_with fail
        refine (hTx2 _ (HK3.out.trans HO.out)).mono ?_
        rintro _ w5 ⟨rfl, k5⟩
        have HO5 : Hid (On w w5) := (HK1.out.trans (HK3.out.trans HO.out)).trans k5
        clear hTx2 k5 z0 z1 z2 z3 z4 zl B5 HO
        go_wp2_with fail
        refine (hA2 _ HO5.out).mono ?_
        rintro _ w6 ⟨rfl, k6⟩
        go_wp2
        go_ret
        exact ⟨rfl, HO5.out.trans k6⟩
      · obtain ⟨J, hJ⟩ : ∃ J : ByteArray, J = ⟨(jn CT).toArray⟩ := ⟨_, rfl⟩
        have hC2 := HCo.out hk0 a3 c3 wr (HR3.out.on (HK3.out.trans HO.out))
        rw [← hJ] at hC2
        have hkb : (kk == 0) = false := by rw [beq_eq_false_iff_ne]; exact hk0
        have x4 := BR.at (i := 4) rfl
        have hfin : T = S ++ J ++ ⟨#[10]⟩ ++ ⟨#[125, 10]⟩ := by
          refine bytes_ext ?_
          rw [← HT.out, ← HF.out, HE.out, HCX.out, if_neg hk0, list_append, list_append, list_append, hJ]
          simp
        have hTs : T.size ≤ 140737488355328 := by rw [size_list, ← HT.out]; exact hTl
        rw [hfin, ByteArray.size_append, ByteArray.size_append, ByteArray.size_append] at hTs
        rw [hfin] at hTx2
        clear hfin HF HT hJ
        go_wp2_with fail
        refine hC2.mono ?_
        rintro _ w4 ⟨rfl, k4⟩
        have HO4 : Hid (On W3 w4) := HO.out.trans k4
        clear hC2 k4 x2 x3 x4 xl BR HO
        have B5 := HB3.out.on HO4.out
        have z0 := B5.at (i := 0) rfl
        have z1 := B5.at (i := 1) rfl
        have z2 := B5.at (i := 2) rfl
        have z3 := B5.at (i := 3) rfl
        have z4 := B5.at (i := 4) rfl
        have zl := B5.lt
        go_wp2_with fail
        refine (hTx2 _ (HK3.out.trans HO4.out)).mono ?_
        rintro _ w5 ⟨rfl, k5⟩
        have HO5 : Hid (On w w5) := (HK1.out.trans (HK3.out.trans HO4.out)).trans k5
        clear hTx2 k5 z0 z1 z2 z3 z4 zl B5 HO4
        go_wp2_with fail
        refine (hA2 _ HO5.out).mono ?_
        rintro _ w6 ⟨rfl, k6⟩
        go_wp2
        go_ret
        exact ⟨rfl, HO5.out.trans k6⟩
set_option maxHeartbeats 4000000 in
set_option maxRecDepth 8000 in
theorem printParts_yes (a : Option Addr) (zs : List Int) (cap : Nat) (w : World) (hz : zs.length ≤ 9223372036854775807) (hr : Rd intC 1 w (.slice a zs.length cap) zs) (lw : Lw w) (h4 : nxtV zs 2 % 4 = 0) :
    Calls Tryd.prog 6 #[.slice a zs.length cap] w fun e w' => e = .returned (.bool true) ∧ On w w' := by
  have hS := small_is zs a cap 12 w hz hr
  have hok := small_ok zs 12
  have hB := small_B zs 12
  have hTx := fun v W (k : On w W) h => ptest_is (smallP zs 12) v W (lw.on k) h hok hB (small_text zs 12)
  have hA2 := fun W (k : On w W) => awake4_is W (lw.on k)
  have hTl := small_text zs 12
  have hPt := small_parts zs 12
  have hnm : (smallP zs 12).name.size ≤ 9223372036854775807 := by show 1 ≤ _; decide
  have hCo : condOk (smallP zs 12).cond = true := (condOf_ok _).1
  have hTo : ∀ L ∈ (smallP zs 12).thr, ∀ x ∈ L, insOk x = true := fun L hL x hx => List.all_eq_true.1 ((thrOf_ok zs 12).2 L hL).1.1 x hx
  have HI : Hid (∀ L ∈ (smallP zs 12).thr, ∀ x ∈ L, ∀ W, On w W → Calls Tryd.prog 15 #[.agg #[.int .i64 x.k, .int .i64 x.r, .int .i64 x.l, .int .i64 x.a.r, .int .i64 x.a.v, .int .i64 x.o, .int .i64 x.b.r, .int .i64 x.b.v, .int .i64 x.n]] W fun e w' => e = .returned (.string ⟨(jn (insTk x)).toArray⟩) ∧ On W w') := fun L hL x hx W k => pins_is x (hTo L hL x hx) (hB.thr L hL x hx).1 (hB.thr L hL x hx).2.1 (hB.thr L hL x hx).2.2 W (lw.on k)
  have HCo : Hid (¬ (smallP zs 12).cond.k = 0 → ∀ a c W, Rd2 atomC 4 W (.slice a (smallP zs 12).cond.any.length c) (smallP zs 12).cond.any → Calls Tryd.prog 17 #[.agg #[.int .i64 (smallP zs 12).cond.k, .slice a (smallP zs 12).cond.any.length c]] W fun e w' => e = .returned (.string ⟨(jn (condTk (smallP zs 12).cond)).toArray⟩) ∧ On W w') := fun h0 a c W hR => pcond_is _ a c W hR hCo h0 (cond_atoms hok hB) hB.l4 hB.l5
  have HL3 : Hid (∀ L ∈ (smallP zs 12).thr, L.length ≤ 1000) := hB.l3
  have hl2 := hB.l2
  clear hB hTo hCo
  obtain ⟨v3, hv3⟩ : ∃ v3 : Nat, v3 = nxtV zs 3 % 3 := ⟨_, rfl⟩
  have hv33 : v3 < 3 := by omega
  have hini : (smallP zs 12).ini = [⟨120, (v3 : Int)⟩] := by show iniOf zs = _; unfold iniOf; rw [if_pos h4, hv3]
  have hix : iniX zs = [105, 110, 105, 116, 32, 123, 10, 120, 32, 61, 32] ++ Lib.itoa (v3 : Int) ++ [32, 59, 10, 125, 10] := by unfold iniX; rw [if_pos h4, hv3]
  have hRT := fun W => rtext_is (v3 : Int) (by omega) (by omega) W
  rw [hix] at hPt
  clear hix hv3
  clear hok lw h4
  generalize smallP zs 12 = t at *
  obtain ⟨TXT, hTXT⟩ : ∃ TXT, TXT = textL t := ⟨_, rfl⟩
  rw [← hTXT] at hTx hTl hPt
  clear hTXT hr
  obtain ⟨T, hT⟩ : ∃ T : ByteArray, T = ⟨TXT.toArray⟩ := ⟨_, rfl⟩
  rw [← hT] at hTx
  have HT : Hid (TXT = T.data.toList) := by show _ = _; rw [hT]
  clear hT
  go_enter Tryd.func6, Tryd.ntmps6
  go_wp2_with fail
  refine hS.mono ?_
  rintro _ w1 ⟨v, rfl, hown, k1⟩
  have hrd := hown.rdS hnm
  obtain ⟨a1, c1, a2, c2, a3, c3, rfl, _, r1, r2, r3⟩ := hrd.ex
  have hTx2 := fun W (k : On w1 W) => hTx _ W (k1.trans k) (hrd.on k)
  clear hTx hown hrd hnm
  obtain ⟨E, hE⟩ : ∃ E, E = condX t.cond ++ [125, 10] := ⟨_, rfl⟩
  rw [← hE] at hPt
  have HE : Hid (E = condX t.cond ++ [125, 10]) := hE
  have HPT : Hid (TXT = _) := hPt
  clear hE hPt
  have HCX : Hid (condX t.cond = if t.cond.k = 0 then [] else jn (condTk t.cond) ++ [10]) := rfl
  have HR2 : Hid (Rd2 insC 9 w1 (.slice a2 t.thr.length c2) t.thr) := r2
  have HR3 : Hid (Rd2 atomC 4 w1 (.slice a3 t.cond.any.length c3) t.cond.any) := r3
  clear r2 r3
  generalize condX t.cond = CX at *
  generalize condTk t.cond = CT at *
  generalize t.cond.any = AN at *
  generalize t.cond.k = kk at *
  generalize t.thr = TH at *
  rw [hini] at r1 hTx2 ⊢
  clear hini
  simp only [List.length_singleton] at hTx2 ⊢
  generalize t.name = nm at *
  obtain ⟨W3, hW3⟩ : ∃ W3, W3 = w1.alloc (.cells #[.string nm, .slice a1 1 c1, .slice a2 TH.length c2, .int .i64 kk, .slice a3 AN.length c3] 29) := ⟨_, rfl⟩
  have HK3 : Hid (On w1 W3) := by show On _ _; rw [hW3]; exact (On.refl w1).alloc _
  have HB3 : Hid (Bk W3 w1.heap.size #[.string nm, .slice a1 1 c1, .slice a2 TH.length c2, .int .i64 kk, .slice a3 AN.length c3]) := by show Bk _ _ _; rw [hW3]; exact Bk.new w1 _ _
  have HW3 : Hid (W3 = _) := hW3
  have HK1 : Hid (On w w1) := k1
  clear hW3 k1
  obtain ⟨g1, off1, rfl, hg1, hc1⟩ := r1.at (i := 0) (x := ⟨120, (v3 : Int)⟩) rfl
  have y1 : W3.cell? ⟨g1, off1 + 1, none⟩ = some (.int .i64 v3) := (HK3.out.cell (p := ⟨g1, off1 + 1, none⟩) hg1).trans (by have := hc1 1 _ rfl; simpa using this)
  have hg1' := Nat.lt_of_lt_of_le hg1 HK3.out.size
  obtain ⟨J, hJ⟩ : ∃ J : ByteArray, J = ⟨(Lib.itoa (v3 : Int)).toArray⟩ := ⟨_, rfl⟩
  rw [← hJ] at hRT
  have HS0 : Hid (((⟨#[116, 101, 115, 116, 32, 116, 32, 123, 10]⟩ : ByteArray) ++ ⟨#[105, 110, 105, 116, 32, 123, 10, 120, 32, 61, 32]⟩ ++ J ++ ⟨#[32, 59, 10, 125, 10]⟩ : ByteArray).data.toList ++ ((TH.drop 0).flatMap thrX ++ E) = TXT) := by
    show _ = _
    rw [HPT.out, list_append, list_append, list_append, hJ]
    simp
  have hS0 := str_len HS0.out hTl
  rw [ByteArray.size_append, ByteArray.size_append, ByteArray.size_append] at hS0
  have HOS : Hid (On W3 W3) := On.refl W3
  have q1 := HB3.out.at (i := 1) rfl
  have ql := HB3.out.lt
  clear HPT hc1 hg1 r1 hJ
  go_wp2_with (rw [← HW3.out])
  refine (hRT _).mono ?_
  rintro _ w4 ⟨rfl, hw4⟩
  subst w4
  go_wp2
  go_loopg [4, 5] TH.length (fun gg s4 s5 wr => ∃ (i : Nat) (S : ByteArray), i ≤ TH.length ∧ gg = TH.length - i ∧ s5 = .int .i64 i ∧ s4 = .string S ∧ Hid (S.data.toList ++ ((TH.drop i).flatMap thrX ++ E) = TXT) ∧ Hid (On W3 wr))
  case atStart => exact ⟨0, _, Nat.zero_le _, rfl, rfl, rfl, HS0, HOS⟩
  case round =>
    clear HS0 HOS
    obtain ⟨i, S, hi, hk, rfl, rfl, HQ, HO⟩ := hrel
    have hSs := str_len HQ.out hTl
    have BR := HB3.out.on HO.out
    have x2 := BR.at (i := 2) rfl
    have x3 := BR.at (i := 3) rfl
    have xl := BR.lt
    rcases Nat.lt_or_ge i TH.length with hlt | hge
    · obtain ⟨L, hL⟩ : ∃ L, TH[i]? = some L := ⟨_, List.getElem?_eq_getElem hlt⟩
      have HLm : Hid (L ∈ TH) := List.mem_of_getElem? hL
      obtain ⟨g2, off2, rfl, hg2, ax, cx, hcl, hLl, hLr⟩ := HR2.out.row hL
      have HLr : Hid (Rd insC 9 w1 (.slice ax L.length cx) L) := hLr
      have HG2 : Hid (g2 < w1.heap.size) := hg2
      have HCL : Hid (w1.cell? ⟨g2, off2 + i, none⟩ = some (.slice ax L.length cx)) := hcl
      obtain ⟨X, hX⟩ : ∃ X, X = [125, 10] ++ ((TH.drop (i + 1)).flatMap thrX ++ E) := ⟨_, rfl⟩
      have HX : Hid (X = [125, 10] ++ ((TH.drop (i + 1)).flatMap thrX ++ E)) := hX
      have HS1 : Hid ((S ++ ⟨#[116, 104, 114, 101, 97, 100, 32, 123, 10]⟩ : ByteArray).data.toList ++ ((L.drop 0).flatMap insX ++ X) = TXT) := by
        show _ = _
        rw [← HQ.out, drop_next thrX hL, list_append, hX]
        unfold thrX
        simp
      clear hX hL hLr hcl hg2 HQ
      go_wp2
      go_loopg [4, 6] L.length (fun gg s4 s6 wr => ∃ (k : Nat) (S : ByteArray), k ≤ L.length ∧ gg = L.length - k ∧ s6 = .int .i64 k ∧ s4 = .string S ∧ Hid (S.data.toList ++ ((L.drop k).flatMap insX ++ X) = TXT) ∧ Hid (On W3 wr))
      case atStart => exact ⟨0, _, Nat.zero_le _, rfl, rfl, rfl, HS1, HO⟩
      case round =>
        clear HS1 HO x2 x3 xl BR hSs
        obtain ⟨k, S2, hk1, hk2, rfl, rfl, HQ2, HO2⟩ := hrel
        have hSs := str_len HQ2.out hTl
        have BR := HB3.out.on HO2.out
        have x2 := BR.at (i := 2) rfl
        have xl := BR.lt
        have KO : On w1 wr := HK3.out.trans HO2.out
        have hg2 : g2 < wr.heap.size := Nat.lt_of_lt_of_le HG2.out KO.size
        have hcl : wr.cell? ⟨g2, off2 + i, none⟩ = some (.slice ax L.length cx) := (KO.cell (p := ⟨g2, off2 + i, none⟩) HG2.out).trans HCL.out
        rcases Nat.lt_or_ge k L.length with hlt2 | hge2
        · obtain ⟨x, hx⟩ : ∃ x, L[k]? = some x := ⟨_, List.getElem?_eq_getElem hlt2⟩
          obtain ⟨ax', cx', hv, _, _, hrr⟩ := HLr.out
          simp only [Value.slice.injEq] at hv
          obtain ⟨rfl, _, rfl⟩ := hv
          obtain ⟨g, off, rfl, hg, hcell⟩ := hrr (by omega)
          have y0 : wr.cell? ⟨g, off + k * 9, none⟩ = _ := (KO.cell (p := ⟨g, off + k * 9, none⟩) hg).trans (hcell k x 0 _ hx rfl)
          have y1 : wr.cell? ⟨g, off + k * 9 + 1, none⟩ = _ := (KO.cell (p := ⟨g, off + k * 9 + 1, none⟩) hg).trans (hcell k x 1 _ hx rfl)
          have y2 : wr.cell? ⟨g, off + k * 9 + 2, none⟩ = _ := (KO.cell (p := ⟨g, off + k * 9 + 2, none⟩) hg).trans (hcell k x 2 _ hx rfl)
          have y3 : wr.cell? ⟨g, off + k * 9 + 3, none⟩ = _ := (KO.cell (p := ⟨g, off + k * 9 + 3, none⟩) hg).trans (hcell k x 3 _ hx rfl)
          have y4 : wr.cell? ⟨g, off + k * 9 + 4, none⟩ = _ := (KO.cell (p := ⟨g, off + k * 9 + 4, none⟩) hg).trans (hcell k x 4 _ hx rfl)
          have y5 : wr.cell? ⟨g, off + k * 9 + 5, none⟩ = _ := (KO.cell (p := ⟨g, off + k * 9 + 5, none⟩) hg).trans (hcell k x 5 _ hx rfl)
          have y6 : wr.cell? ⟨g, off + k * 9 + 6, none⟩ = _ := (KO.cell (p := ⟨g, off + k * 9 + 6, none⟩) hg).trans (hcell k x 6 _ hx rfl)
          have y7 : wr.cell? ⟨g, off + k * 9 + 7, none⟩ = _ := (KO.cell (p := ⟨g, off + k * 9 + 7, none⟩) hg).trans (hcell k x 7 _ hx rfl)
          have y8 : wr.cell? ⟨g, off + k * 9 + 8, none⟩ = _ := (KO.cell (p := ⟨g, off + k * 9 + 8, none⟩) hg).trans (hcell k x 8 _ hx rfl)
          have hg' := Nat.lt_of_lt_of_le hg KO.size
          have hIx := HI.out L HLm.out x (List.mem_of_getElem? hx)
          obtain ⟨J, hJ⟩ : ∃ J : ByteArray, J = ⟨(jn (insTk x)).toArray⟩ := ⟨_, rfl⟩
          rw [← hJ] at hIx
          have HS3 : Hid ((S2 ++ J ++ ⟨#[10]⟩ : ByteArray).data.toList ++ ((L.drop (k + 1)).flatMap insX ++ X) = TXT) := by
            show _ = _
            rw [← HQ2.out, drop_next insX hx, list_append, list_append, hJ]
            unfold insX
            simp
          have hS3 := str_len HS3.out hTl
          rw [ByteArray.size_append, ByteArray.size_append] at hS3
          have KW : Hid (On w wr) := HK1.out.trans KO
          obtain ⟨xk, xr, xq, ⟨xar, xav⟩, xo, ⟨xbr, xbv⟩, xn⟩ := x
          simp only at y0 y1 y2 y3 y4 y5 y6 y7 y8 hIx
          clear hcell hrr hx hJ HQ2 KO BR
          go_wp2_with fail
          refine (hIx _ KW.out).mono ?_
          rintro _ w4 ⟨rfl, k4⟩
          have HO4 : Hid (On W3 w4) := HO2.out.trans k4
          clear hIx KW k4 y0 y1 y2 y3 y4 y5 y6 y7 y8 HO2 hg hg'
          go_wp2
          go_roundg (L.length - (k + 1))
          case measure => omega
          case rel => exact ⟨k + 1, _, hlt2, rfl, by congr 1, rfl, HS3, HO4⟩
        · obtain rfl : k = L.length := by omega
          have HS4 : Hid ((S2 ++ ⟨#[125, 10]⟩ : ByteArray).data.toList ++ ((TH.drop (i + 1)).flatMap thrX ++ E) = TXT) := by
            show _ = _
            rw [← HQ2.out, HX.out, list_append, List.drop_length]
            simp
          clear HQ2 KO BR
          go_wp2
          go_roundg (TH.length - (i + 1))
          case measure => omega
          case rel => exact ⟨i + 1, _, hlt, rfl, by congr 1, rfl, HS4, HO2⟩
    · obtain rfl : i = TH.length := by omega
      have HF : Hid (S.data.toList ++ E = TXT) := by
        show _ = _
        rw [← HQ.out, List.drop_length]
        rfl
      clear HQ
      by_cases hk0 : kk = 0
      · subst hk0
        have hfin : T = S ++ ⟨#[125, 10]⟩ := by
          refine bytes_ext ?_
          rw [← HT.out, ← HF.out, HE.out, HCX.out, list_append]
          rfl
        rw [hfin] at hTx2
        clear hfin HF HT
        clear x2 x3 xl BR
        have B5 := HB3.out.on HO.out
        have z0 := B5.at (i := 0) rfl
        have z1 := B5.at (i := 1) rfl
        have z2 := B5.at (i := 2) rfl
        have z3 := B5.at (i := 3) rfl
        have z4 := B5.at (i := 4) rfl
        have zl := B5.lt
        go_wp2_with fail
        refine (hTx2 _ (HK3.out.trans HO.out)).mono ?_
        rintro _ w5 ⟨rfl, k5⟩
        have HO5 : Hid (On w w5) := (HK1.out.trans (HK3.out.trans HO.out)).trans k5
        clear hTx2 k5 z0 z1 z2 z3 z4 zl B5 HO
        go_wp2_with fail
        refine (hA2 _ HO5.out).mono ?_
        rintro _ w6 ⟨rfl, k6⟩
        go_wp2
        go_ret
        exact ⟨rfl, HO5.out.trans k6⟩
      · obtain ⟨J, hJ⟩ : ∃ J : ByteArray, J = ⟨(jn CT).toArray⟩ := ⟨_, rfl⟩
        have hC2 := HCo.out hk0 a3 c3 wr (HR3.out.on (HK3.out.trans HO.out))
        rw [← hJ] at hC2
        have hkb : (kk == 0) = false := by rw [beq_eq_false_iff_ne]; exact hk0
        have x4 := BR.at (i := 4) rfl
        have hfin : T = S ++ J ++ ⟨#[10]⟩ ++ ⟨#[125, 10]⟩ := by
          refine bytes_ext ?_
          rw [← HT.out, ← HF.out, HE.out, HCX.out, if_neg hk0, list_append, list_append, list_append, hJ]
          simp
        have hTs : T.size ≤ 140737488355328 := by rw [size_list, ← HT.out]; exact hTl
        rw [hfin, ByteArray.size_append, ByteArray.size_append, ByteArray.size_append] at hTs
        rw [hfin] at hTx2
        clear hfin HF HT hJ
        go_wp2_with fail
        refine hC2.mono ?_
        rintro _ w4 ⟨rfl, k4⟩
        have HO4 : Hid (On W3 w4) := HO.out.trans k4
        clear hC2 k4 x2 x3 x4 xl BR HO
        have B5 := HB3.out.on HO4.out
        have z0 := B5.at (i := 0) rfl
        have z1 := B5.at (i := 1) rfl
        have z2 := B5.at (i := 2) rfl
        have z3 := B5.at (i := 3) rfl
        have z4 := B5.at (i := 4) rfl
        have zl := B5.lt
        go_wp2_with fail
        refine (hTx2 _ (HK3.out.trans HO4.out)).mono ?_
        rintro _ w5 ⟨rfl, k5⟩
        have HO5 : Hid (On w w5) := (HK1.out.trans (HK3.out.trans HO4.out)).trans k5
        clear hTx2 k5 z0 z1 z2 z3 z4 zl B5 HO4
        go_wp2_with fail
        refine (hA2 _ HO5.out).mono ?_
        rintro _ w6 ⟨rfl, k6⟩
        go_wp2
        go_ret
        exact ⟨rfl, HO5.out.trans k6⟩
theorem printParts_walk (a : Option Addr) (zs : List Int) (cap : Nat) (w : World) (hz : zs.length ≤ 9223372036854775807) (hr : Rd intC 1 w (.slice a zs.length cap) zs) (lw : Lw w) :
    Calls Tryd.prog 6 #[.slice a zs.length cap] w fun e w' => e = .returned (.bool true) ∧ On w w' := by
  by_cases h4 : nxtV zs 2 % 4 = 0
  · exact printParts_yes a zs cap w hz hr lw h4
  · exact printParts_no a zs cap w hz hr lw h4
end Go.Proofs.YtoolingijocpcaaDoor
