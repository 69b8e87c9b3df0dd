/- The document's Print: a test's text. -/
import Derived.Test.YtacflahkofmcpaaGreatDoorWlRPrE
import Derived.Test.YtacflahkofmcpaaGreatDoorWlRPrF
import Derived.Test.YtacflahkofmcpaaGreatDoorWlROkE
import Derived.Test.YtacflahkofmcpaaGreatDoorJ16RefLoc
namespace Go.Proofs.YtacflahkofmcpaaGreatDoor.Wl
open Go.RowKit

theorem drop_nx {α β : Type} {L : List α} {n : Nat} {x : α} (f : α → List β) (h : L[n]? = some x) : (L.drop n).flatMap f = f x ++ (L.drop (n + 1)).flatMap f := by
  obtain ⟨h1, h2⟩ := List.getElem?_eq_some_iff.1 h
  rw [List.drop_eq_getElem_cons h1, List.flatMap_cons, h2]
theorem cond_atomsL {t : TestT} (h : testOk t = true) (hB : TestL t) : ∀ r ∈ t.cond.any, ∀ x ∈ r, atomOk x = true ∧ B64 x.t ∧ B64 x.v := by
  intro r hr x hx
  refine ⟨?_, hB.any r hr x hx⟩
  unfold testOk at h
  rw [Bool.and_eq_true] at h
  have h4 := h.2
  unfold condOk at h4
  split at h4
  · have : t.cond.any = [] := List.eq_nil_of_length_eq_zero (by simpa using h4)
    rw [this] at hr
    cases hr
  · split at h4
    · rw [Bool.and_eq_true, List.all_eq_true] at h4
      have := h4.2 r hr
      unfold rowOk at this
      rw [Bool.and_eq_true, List.all_eq_true] at this
      exact this.2 x hx
    · cases h4
theorem rcond_big (c : CondT) (a : Option Addr) (cap : Nat) (w : World) (h : Rd2 atomC 4 w (.slice a c.any.length cap) c.any) (hc : condOk c = true) (h0 : ¬ c.k = 0) (hok : ∀ r ∈ c.any, ∀ x ∈ r, atomOk x = true ∧ B64 x.t ∧ B64 x.v) (hlen : (jn (condTk c)).length ≤ 2305843009213693952) :
    Calls Tryz.prog 27 #[.agg #[.int .i64 c.k, .slice a c.any.length cap]] w fun e w' => e = .returned (.string ⟨(jn (condTk c)).toArray⟩) ∧ On w w' := by
  have hT := cond_text hc h0
  have hO := fun W (k : On w W) => rcondOk_is c a cap W (h.on k)
  rw [hc] at hO
  have hk : c.k = 1 ∨ c.k = 2 := by
    unfold condOk at hc
    have e0 : (c.k == 0) = false := by rw [beq_eq_false_iff_ne]; exact h0
    rw [e0] at hc
    simp only [Bool.false_eq_true, if_false] at hc
    split at hc
    · rename_i e
      rw [Bool.or_eq_true, beq_iff_eq, beq_iff_eq] at e
      exact e
    · cases hc
  rcases hk with e | e
  · rw [e] at hO hT ⊢
    exact rcond_1 c.any a cap w h hO hok _ hlen hT.symm
  · rw [e] at hO hT ⊢
    exact rcond_2 c.any a cap w h hO hok _ hlen hT.symm
theorem rprint_no (t : TestT) (v : Value) (w : World) (h : TestRd w v t) (hx : testOk t = false) :
    Calls Tryz.prog 10 #[v] w fun e w' => e = .returned (.string ⟨#[]⟩) ∧ On w w' := by
  have hO := fun W (k : On w W) => rtestOk_is t v W (h.on k)
  rw [hx] at hO
  obtain ⟨a1, c1, a2, c2, a3, c3, rfl, _, _, _, _⟩ := h.ex
  generalize t.cond.any.length = m3 at *
  generalize t.cond.k = kk at *
  generalize t.thr.length = m2 at *
  generalize t.ini.length = m1 at *
  generalize t.name = nm at *
  clear h hx
  go_enter Tryz.func10, Tryz.ntmps10
  go_wp2_with fail
  refine (hO _ ((On.refl w).alloc _)).mono ?_
  rintro _ w1 ⟨rfl, k1⟩
  go_wp2
  go_ret
  exact ⟨rfl, ((On.refl w).alloc _).trans k1⟩
set_option maxHeartbeats 2500000 in
set_option maxRecDepth 8000 in
theorem rprint_nil (t : TestT) (v : Value) (w : World) (h : TestRd w v t) (hx : testOk t = true) (hB : TestL t) (hTl : (textL t).length ≤ 2305843009213693952) (hm : t.ini.length < 1) :
    Calls Tryz.prog 10 #[v] w fun e w' => e = .returned (.string ⟨(textL t).toArray⟩) ∧ On w w' := by
  have hO := fun W (k : On w W) => rtestOk_is t v W (h.on k)
  rw [hx] at hO
  have hPt := test_parts hx
  have hok := hx
  unfold testOk at hok
  simp only [Bool.and_eq_true, List.all_eq_true] at hok
  obtain ⟨⟨⟨_, o2⟩, o3⟩, hCo⟩ := hok
  have hTo : ∀ L ∈ t.thr, ∀ x ∈ L, insOk x = true := fun L hL x hx => by
    have := o3 L hL
    unfold threadOk at this
    rw [List.all_eq_true] at this
    exact this x hx
  have HI : Hid (∀ L ∈ t.thr, ∀ x ∈ L, ∀ W, Calls Tryz.prog 26 #[.agg #[.int .i64 x.k, .int .i64 x.r, .int .i64 x.l, .int .i64 x.a.r, .int .i64 x.a.v, .int .i64 x.o, .int .i64 x.b.r, .int .i64 x.b.v, .int .i64 x.n]] W fun e w' => e = .returned (.string ⟨(jn (insTk x)).toArray⟩) ∧ On W w') := fun L hL x hx W => rins_yes x (hTo L hL x hx) (hB.thr L hL x hx).1 (hB.thr L hL x hx).2.1 (hB.thr L hL x hx).2.2 W
  have HCo : Hid (¬ t.cond.k = 0 → (jn (condTk t.cond)).length ≤ 2305843009213693952 → ∀ a c W, Rd2 atomC 4 W (.slice a t.cond.any.length c) t.cond.any → Calls Tryz.prog 27 #[.agg #[.int .i64 t.cond.k, .slice a t.cond.any.length c]] W fun e w' => e = .returned (.string ⟨(jn (condTk t.cond)).toArray⟩) ∧ On W w') := fun h0 hl a c W hR => rcond_big _ a c W hR hCo h0 (cond_atomsL hx hB) hl
  have HN : Hid (∀ x ∈ t.ini, initOk x = true ∧ B64 x.v) := fun x hx => ⟨o2 x hx, hB.ini x hx⟩
  have hl1 := hB.l1
  have hl2 := hB.l2
  have HL3 : Hid (∀ L ∈ t.thr, L.length ≤ 9223372036854775807) := hB.l3
  clear hB hTo hCo o2 o3 hx
  obtain ⟨a1, c1, a2, c2, a3, c3, rfl, hnm, r1, r2, r3⟩ := h.ex
  clear h
  obtain ⟨TXT, hTXT⟩ : ∃ TXT, TXT = textL t := ⟨_, rfl⟩
  rw [← hTXT] at hTl hPt ⊢
  clear hTXT
  obtain ⟨E, hE⟩ : ∃ E, E = condX t.cond ++ [125, 10] := ⟨_, rfl⟩
  rw [← hE] at hPt
  have HE : Hid (E = condX t.cond ++ [125, 10]) := hE
  have HCX : Hid (condX t.cond = if t.cond.k = 0 then [] else jn (condTk t.cond) ++ [10]) := rfl
  have HR1 : Hid (Rd iniC 2 w (.slice a1 t.ini.length c1) t.ini) := r1
  have HR2 : Hid (Rd2 insC 9 w (.slice a2 t.thr.length c2) t.thr) := r2
  have HR3 : Hid (Rd2 atomC 4 w (.slice a3 t.cond.any.length c3) t.cond.any) := r3
  clear r1 r2 r3 hE
  generalize condX t.cond = CX at *
  generalize condTk t.cond = CT at *
  generalize t.cond.any = AN at *
  generalize t.cond.k = kk at *
  generalize t.thr = TH at *
  generalize t.ini = IN at *
  generalize t.name = nm at *
  have k0 : ∀ T, On w (w.alloc T) := fun T => (On.refl w).alloc T
  have bk : ∀ cs T, Bk (w.alloc (.cells cs T)) w.heap.size cs := fun cs T => Bk.new w cs T
  obtain ⟨q1, hq1, hz1⟩ : ∃ q : ByteArray, Hid (q = (⟨#[116, 101, 115, 116, 32]⟩ : ByteArray) ++ nm ++ (⟨#[32, 123, 10]⟩ : ByteArray)) ∧ nm.size + 8 ≤ q.size := ⟨_, rfl, by rw [ByteArray.size_append, ByteArray.size_append]; show _ ≤ 5 + nm.size + 3; omega⟩
  have HS0 : Hid (q1.data.toList ++ (iniB IN ++ (TH.flatMap thrX ++ E)) = TXT) := by
    show _ = _
    rw [hPt, hq1.out, list_append, list_append]
  have hzq := str_len HS0.out hTl
  clear hPt
  go_enter Tryz.func10, Tryz.ntmps10
  go_wp2_with fail
  refine (hO _ (k0 _)).mono ?_
  rintro _ w0 ⟨rfl, k1⟩
  have B0 := (bk _ _).on k1
  have HB0 : Hid (Bk w0 w.heap.size #[.string nm, .slice a1 IN.length c1, .slice a2 TH.length c2, .int .i64 kk, .slice a3 AN.length c3]) := B0
  have HK0 : Hid (On w w0) := (k0 _).trans k1
  have x0 := B0.at (i := 0) rfl
  have x1 := B0.at (i := 1) rfl
  have xl := B0.lt
  clear k1 bk k0 hO B0
  have HS1 : Hid (q1.data.toList ++ ((TH.drop 0).flatMap thrX ++ E) = TXT) := by
    show _ = _
    rw [← HS0.out]
    unfold iniB
    rw [if_neg (by omega)]
    rfl
  have hmb : decide (0 < IN.length) = false := decide_eq_false (by omega)
  clear HS0 hm
  go_wp2
  rw [← hq1.out]
  clear x0 x1 xl
  go_loopg [3, 5] TH.length (fun gg s3 s5 wr => ∃ (i : Nat) (S : ByteArray), i ≤ TH.length ∧ gg = TH.length - i ∧ s5 = .int .i64 i ∧ s3 = .string S ∧ Hid (S.data.toList ++ ((TH.drop i).flatMap thrX ++ E) = TXT) ∧ Hid (On w0 wr))
  case atStart => exact ⟨0, _, Nat.zero_le _, rfl, rfl, rfl, HS1, On.refl w0⟩
  case round =>
    obtain ⟨i, S, hi, hk, rfl, rfl, HQ, HO⟩ := hrel
    have hSs := str_len HQ.out hTl
    have BR := HB0.out.on HO.out
    have x2 := BR.at (i := 2) rfl
    have x3 := BR.at (i := 3) rfl
    have xl := BR.lt
    rcases Nat.lt_or_ge i TH.length with hlt | hge
    · obtain ⟨L, hL⟩ : ∃ L, TH[i]? = some L := ⟨_, List.getElem?_eq_getElem hlt⟩
      have HLm : Hid (L ∈ TH) := List.mem_of_getElem? hL
      obtain ⟨g2, off2, rfl, hg2, ax, cx, hcl, hLl, hLr⟩ := HR2.out.row hL
      have HLr : Hid (Rd insC 9 w (.slice ax L.length cx) L) := hLr
      have HG2 : Hid (g2 < w.heap.size) := hg2
      have HCL : Hid (w.cell? ⟨g2, off2 + i, none⟩ = some (.slice ax L.length cx)) := hcl
      obtain ⟨X, hX⟩ : ∃ X, X = [125, 10] ++ ((TH.drop (i + 1)).flatMap thrX ++ E) := ⟨_, rfl⟩
      have HX : Hid (X = [125, 10] ++ ((TH.drop (i + 1)).flatMap thrX ++ E)) := hX
      have HS1 : Hid ((S ++ ⟨#[116, 104, 114, 101, 97, 100, 32, 123, 10]⟩ : ByteArray).data.toList ++ ((L.drop 0).flatMap insX ++ X) = TXT) := by
        show _ = _
        rw [← HQ.out, drop_nx thrX hL, list_append, hX]
        unfold thrX
        simp
      clear hX hL hLr hcl hg2 HQ
      go_wp2
      go_loopg [3, 6] L.length (fun gg s3 s6 wr => ∃ (k : Nat) (S : ByteArray), k ≤ L.length ∧ gg = L.length - k ∧ s6 = .int .i64 k ∧ s3 = .string S ∧ Hid (S.data.toList ++ ((L.drop k).flatMap insX ++ X) = TXT) ∧ Hid (On w0 wr))
      case atStart => exact ⟨0, _, Nat.zero_le _, rfl, rfl, rfl, HS1, HO⟩
      case round =>
        clear HS1 HO x2 x3 xl BR hSs
        obtain ⟨k, S2, hk1, hk2, rfl, rfl, HQ2, HO2⟩ := hrel
        have hSs := str_len HQ2.out hTl
        have BR := HB0.out.on HO2.out
        have x2 := BR.at (i := 2) rfl
        have xl := BR.lt
        have KO : On w wr := HK0.out.trans HO2.out
        have hg2 : g2 < wr.heap.size := Nat.lt_of_lt_of_le HG2.out KO.size
        have hcl : wr.cell? ⟨g2, off2 + i, none⟩ = some (.slice ax L.length cx) := (KO.cell (p := ⟨g2, off2 + i, none⟩) HG2.out).trans HCL.out
        rcases Nat.lt_or_ge k L.length with hlt2 | hge2
        · obtain ⟨x, hx⟩ : ∃ x, L[k]? = some x := ⟨_, List.getElem?_eq_getElem hlt2⟩
          obtain ⟨ax', cx', hv, _, _, hrr⟩ := HLr.out
          simp only [Value.slice.injEq] at hv
          obtain ⟨rfl, _, rfl⟩ := hv
          obtain ⟨g, off, rfl, hg, hcell⟩ := hrr (by omega)
          have y0 : wr.cell? ⟨g, off + k * 9, none⟩ = _ := (KO.cell (p := ⟨g, off + k * 9, none⟩) hg).trans (hcell k x 0 _ hx rfl)
          have y1 : wr.cell? ⟨g, off + k * 9 + 1, none⟩ = _ := (KO.cell (p := ⟨g, off + k * 9 + 1, none⟩) hg).trans (hcell k x 1 _ hx rfl)
          have y2 : wr.cell? ⟨g, off + k * 9 + 2, none⟩ = _ := (KO.cell (p := ⟨g, off + k * 9 + 2, none⟩) hg).trans (hcell k x 2 _ hx rfl)
          have y3 : wr.cell? ⟨g, off + k * 9 + 3, none⟩ = _ := (KO.cell (p := ⟨g, off + k * 9 + 3, none⟩) hg).trans (hcell k x 3 _ hx rfl)
          have y4 : wr.cell? ⟨g, off + k * 9 + 4, none⟩ = _ := (KO.cell (p := ⟨g, off + k * 9 + 4, none⟩) hg).trans (hcell k x 4 _ hx rfl)
          have y5 : wr.cell? ⟨g, off + k * 9 + 5, none⟩ = _ := (KO.cell (p := ⟨g, off + k * 9 + 5, none⟩) hg).trans (hcell k x 5 _ hx rfl)
          have y6 : wr.cell? ⟨g, off + k * 9 + 6, none⟩ = _ := (KO.cell (p := ⟨g, off + k * 9 + 6, none⟩) hg).trans (hcell k x 6 _ hx rfl)
          have y7 : wr.cell? ⟨g, off + k * 9 + 7, none⟩ = _ := (KO.cell (p := ⟨g, off + k * 9 + 7, none⟩) hg).trans (hcell k x 7 _ hx rfl)
          have y8 : wr.cell? ⟨g, off + k * 9 + 8, none⟩ = _ := (KO.cell (p := ⟨g, off + k * 9 + 8, none⟩) hg).trans (hcell k x 8 _ hx rfl)
          have hg' := Nat.lt_of_lt_of_le hg KO.size
          have hIx := HI.out L HLm.out x (List.mem_of_getElem? hx)
          obtain ⟨J, hJ⟩ : ∃ J : ByteArray, J = ⟨(jn (insTk x)).toArray⟩ := ⟨_, rfl⟩
          rw [← hJ] at hIx
          have HS3 : Hid ((S2 ++ J ++ ⟨#[10]⟩ : ByteArray).data.toList ++ ((L.drop (k + 1)).flatMap insX ++ X) = TXT) := by
            show _ = _
            rw [← HQ2.out, drop_nx insX hx, list_append, list_append, hJ]
            unfold insX
            simp
          have hS3 := str_len HS3.out hTl
          rw [ByteArray.size_append, ByteArray.size_append] at hS3
          obtain ⟨xk, xr, xq, ⟨xar, xav⟩, xo, ⟨xbr, xbv⟩, xn⟩ := x
          simp only at y0 y1 y2 y3 y4 y5 y6 y7 y8 hIx
          clear hcell hrr hx hJ HQ2 KO BR
          go_wp2_with fail
          refine (hIx _).mono ?_
          rintro _ w4 ⟨rfl, k4⟩
          have HO4 : Hid (On w0 w4) := HO2.out.trans k4
          clear hIx k4 y0 y1 y2 y3 y4 y5 y6 y7 y8 HO2 hg hg'
          go_wp2
          go_roundg (L.length - (k + 1))
          case measure => omega
          case rel => exact ⟨k + 1, _, hlt2, rfl, by congr 1, rfl, HS3, HO4⟩
        · obtain rfl : k = L.length := by omega
          have HS4 : Hid ((S2 ++ ⟨#[125, 10]⟩ : ByteArray).data.toList ++ ((TH.drop (i + 1)).flatMap thrX ++ E) = TXT) := by
            show _ = _
            rw [← HQ2.out, HX.out, list_append, List.drop_length]
            simp
          clear HQ2 KO BR
          go_wp2
          go_roundg (TH.length - (i + 1))
          case measure => omega
          case rel => exact ⟨i + 1, _, hlt, rfl, by congr 1, rfl, HS4, HO2⟩
    · obtain rfl : i = TH.length := by omega
      have HF : Hid (S.data.toList ++ E = TXT) := by
        show _ = _
        rw [← HQ.out, List.drop_length]
        rfl
      clear HQ
      by_cases hk0 : kk = 0
      · subst hk0
        have HFIN : Hid ((⟨TXT.toArray⟩ : ByteArray) = S ++ ⟨#[125, 10]⟩) := by
          show _ = _
          refine bytes_ext ?_
          rw [← HF.out, HE.out, HCX.out, list_append]
          simp
        clear HF
        go_wp2
        go_ret
        exact ⟨by rw [HFIN.out]; rfl, HK0.out.trans HO.out⟩
      · obtain ⟨J, hJ⟩ : ∃ J : ByteArray, J = ⟨(jn CT).toArray⟩ := ⟨_, rfl⟩
        have HFIN : Hid ((⟨TXT.toArray⟩ : ByteArray) = S ++ J ++ ⟨#[10]⟩ ++ ⟨#[125, 10]⟩) := by
          show _ = _
          refine bytes_ext ?_
          rw [← HF.out, HE.out, HCX.out, if_neg hk0, list_append, list_append, list_append, hJ]
          simp
        have hTs : (⟨TXT.toArray⟩ : ByteArray).size ≤ 2305843009213693952 := by show TXT.toArray.size ≤ _; simpa using hTl
        rw [HFIN.out, ByteArray.size_append, ByteArray.size_append, ByteArray.size_append] at hTs
        have hJl : (jn CT).length ≤ 2305843009213693952 := by
          have : J.size = (jn CT).length := by rw [hJ]; show (jn CT).toArray.size = _; simp
          omega
        have hC2 := HCo.out hk0 hJl a3 c3 wr (HR3.out.on (HK0.out.trans HO.out))
        rw [← hJ] at hC2
        have hkb : (kk == 0) = false := by rw [beq_eq_false_iff_ne]; exact hk0
        have x4 := BR.at (i := 4) rfl
        clear HF hJ hJl
        go_wp2_with fail
        refine hC2.mono ?_
        rintro _ w4 ⟨rfl, k4⟩
        have HO4 : Hid (On w0 w4) := HO.out.trans k4
        clear hC2 k4 x2 x3 x4 xl BR HO
        go_wp2
        go_ret
        exact ⟨by rw [HFIN.out]; rfl, HK0.out.trans HO4.out⟩
set_option maxHeartbeats 2500000 in
set_option maxRecDepth 8000 in
theorem rprint_ini (t : TestT) (v : Value) (w : World) (h : TestRd w v t) (hx : testOk t = true) (hB : TestL t) (hTl : (textL t).length ≤ 2305843009213693952) (hm : 0 < t.ini.length) :
    Calls Tryz.prog 10 #[v] w fun e w' => e = .returned (.string ⟨(textL t).toArray⟩) ∧ On w w' := by
  have hO := fun W (k : On w W) => rtestOk_is t v W (h.on k)
  rw [hx] at hO
  have hPt := test_parts hx
  have hok := hx
  unfold testOk at hok
  simp only [Bool.and_eq_true, List.all_eq_true] at hok
  obtain ⟨⟨⟨_, o2⟩, o3⟩, hCo⟩ := hok
  have hTo : ∀ L ∈ t.thr, ∀ x ∈ L, insOk x = true := fun L hL x hx => by
    have := o3 L hL
    unfold threadOk at this
    rw [List.all_eq_true] at this
    exact this x hx
  have HI : Hid (∀ L ∈ t.thr, ∀ x ∈ L, ∀ W, Calls Tryz.prog 26 #[.agg #[.int .i64 x.k, .int .i64 x.r, .int .i64 x.l, .int .i64 x.a.r, .int .i64 x.a.v, .int .i64 x.o, .int .i64 x.b.r, .int .i64 x.b.v, .int .i64 x.n]] W fun e w' => e = .returned (.string ⟨(jn (insTk x)).toArray⟩) ∧ On W w') := fun L hL x hx W => rins_yes x (hTo L hL x hx) (hB.thr L hL x hx).1 (hB.thr L hL x hx).2.1 (hB.thr L hL x hx).2.2 W
  have HCo : Hid (¬ t.cond.k = 0 → (jn (condTk t.cond)).length ≤ 2305843009213693952 → ∀ a c W, Rd2 atomC 4 W (.slice a t.cond.any.length c) t.cond.any → Calls Tryz.prog 27 #[.agg #[.int .i64 t.cond.k, .slice a t.cond.any.length c]] W fun e w' => e = .returned (.string ⟨(jn (condTk t.cond)).toArray⟩) ∧ On W w') := fun h0 hl a c W hR => rcond_big _ a c W hR hCo h0 (cond_atomsL hx hB) hl
  have HN : Hid (∀ x ∈ t.ini, initOk x = true ∧ B64 x.v) := fun x hx => ⟨o2 x hx, hB.ini x hx⟩
  have hl1 := hB.l1
  have hl2 := hB.l2
  have HL3 : Hid (∀ L ∈ t.thr, L.length ≤ 9223372036854775807) := hB.l3
  clear hB hTo hCo o2 o3 hx
  obtain ⟨a1, c1, a2, c2, a3, c3, rfl, hnm, r1, r2, r3⟩ := h.ex
  clear h
  obtain ⟨TXT, hTXT⟩ : ∃ TXT, TXT = textL t := ⟨_, rfl⟩
  rw [← hTXT] at hTl hPt ⊢
  clear hTXT
  obtain ⟨E, hE⟩ : ∃ E, E = condX t.cond ++ [125, 10] := ⟨_, rfl⟩
  rw [← hE] at hPt
  have HE : Hid (E = condX t.cond ++ [125, 10]) := hE
  have HCX : Hid (condX t.cond = if t.cond.k = 0 then [] else jn (condTk t.cond) ++ [10]) := rfl
  have HR1 : Hid (Rd iniC 2 w (.slice a1 t.ini.length c1) t.ini) := r1
  have HR2 : Hid (Rd2 insC 9 w (.slice a2 t.thr.length c2) t.thr) := r2
  have HR3 : Hid (Rd2 atomC 4 w (.slice a3 t.cond.any.length c3) t.cond.any) := r3
  clear r1 r2 r3 hE
  generalize condX t.cond = CX at *
  generalize condTk t.cond = CT at *
  generalize t.cond.any = AN at *
  generalize t.cond.k = kk at *
  generalize t.thr = TH at *
  generalize t.ini = IN at *
  generalize t.name = nm at *
  have k0 : ∀ T, On w (w.alloc T) := fun T => (On.refl w).alloc T
  have bk : ∀ cs T, Bk (w.alloc (.cells cs T)) w.heap.size cs := fun cs T => Bk.new w cs T
  obtain ⟨q1, hq1, hz1⟩ : ∃ q : ByteArray, Hid (q = (⟨#[116, 101, 115, 116, 32]⟩ : ByteArray) ++ nm ++ (⟨#[32, 123, 10]⟩ : ByteArray)) ∧ nm.size + 8 ≤ q.size := ⟨_, rfl, by rw [ByteArray.size_append, ByteArray.size_append]; show _ ≤ 5 + nm.size + 3; omega⟩
  have HS0 : Hid (q1.data.toList ++ (iniB IN ++ (TH.flatMap thrX ++ E)) = TXT) := by
    show _ = _
    rw [hPt, hq1.out, list_append, list_append]
  have hzq := str_len HS0.out hTl
  clear hPt
  go_enter Tryz.func10, Tryz.ntmps10
  go_wp2_with fail
  refine (hO _ (k0 _)).mono ?_
  rintro _ w0 ⟨rfl, k1⟩
  have B0 := (bk _ _).on k1
  have HB0 : Hid (Bk w0 w.heap.size #[.string nm, .slice a1 IN.length c1, .slice a2 TH.length c2, .int .i64 kk, .slice a3 AN.length c3]) := B0
  have HK0 : Hid (On w w0) := (k0 _).trans k1
  have x0 := B0.at (i := 0) rfl
  have x1 := B0.at (i := 1) rfl
  have xl := B0.lt
  clear k1 bk k0 hO B0
  obtain ⟨X, hX⟩ : ∃ X, X = [125, 10] ++ ((TH.drop 0).flatMap thrX ++ E) := ⟨_, rfl⟩
  have HX : Hid (X = [125, 10] ++ ((TH.drop 0).flatMap thrX ++ E)) := hX
  have HS1 : Hid ((q1 ++ ⟨#[105, 110, 105, 116, 32, 123, 10]⟩ : ByteArray).data.toList ++ ((IN.drop 0).flatMap iniL ++ X) = TXT) := by
    show _ = _
    rw [← HS0.out, hX, list_append]
    unfold iniB
    rw [if_pos hm]
    simp
  have hmb : decide (0 < IN.length) = true := decide_eq_true (by omega)
  clear HS0 hX hm
  go_wp2
  rw [← hq1.out]
  clear x0 x1 xl
  go_loopg [3, 4] IN.length (fun gg s3 s4 wr => ∃ (k : Nat) (S : ByteArray), k ≤ IN.length ∧ gg = IN.length - k ∧ s4 = .int .i64 k ∧ s3 = .string S ∧ Hid (S.data.toList ++ ((IN.drop k).flatMap iniL ++ X) = TXT) ∧ Hid (On w0 wr))
  case atStart => exact ⟨0, _, Nat.zero_le _, rfl, rfl, rfl, HS1, On.refl w0⟩
  case round =>
    clear HS1
    obtain ⟨k, S2, hk1, hk2, rfl, rfl, HQ2, HO2⟩ := hrel
    have hSs := str_len HQ2.out hTl
    have BR := HB0.out.on HO2.out
    have x1 := BR.at (i := 1) rfl
    have xl := BR.lt
    rcases Nat.lt_or_ge k IN.length with hlt2 | hge2
    · obtain ⟨x, hx⟩ : ∃ x, IN[k]? = some x := ⟨_, List.getElem?_eq_getElem hlt2⟩
      obtain ⟨g, off, rfl, hg, hcell⟩ := HR1.out.at hx
      have HG : Hid (g < w.heap.size) := hg
      have HY0 : Hid (w.cell? ⟨g, off + k * 2, none⟩ = some (.int .i64 x.l)) := hcell 0 _ rfl
      have HY1 : Hid (w.cell? ⟨g, off + k * 2 + 1, none⟩ = some (.int .i64 x.v)) := hcell 1 _ rfl
      obtain ⟨o1, o2⟩ := HN.out x (List.mem_of_getElem? hx)
      have hL := fun W => rloc_is o1 W
      have hV := fun W => rnum_is o2 W
      obtain ⟨tL, htL⟩ : ∃ t : ByteArray, t = locT x.l := ⟨_, rfl⟩
      obtain ⟨tV, htV⟩ : ∃ t : ByteArray, t = numT x.v := ⟨_, rfl⟩
      have sL : tL.size ≤ 1000 := by rw [htL]; exact sz_le (sz_loc _)
      have sV : tV.size ≤ 1000 := by rw [htV]; exact sz_le (sz_num o2)
      rw [← htL] at hL
      rw [← htV] at hV
      clear hcell hg o1 o2
      obtain ⟨q2, hq2, zq2⟩ : ∃ q : ByteArray, Hid (q = S2 ++ tL) ∧ q.size ≤ 2305843009213694952 := ⟨_, rfl, by rw [ByteArray.size_append]; show S2.size + tL.size ≤ 2305843009213694952; omega⟩
      obtain ⟨q3, hq3, zq3⟩ : ∃ q : ByteArray, Hid (q = q2 ++ (⟨#[32, 61, 32]⟩ : ByteArray)) ∧ q.size ≤ 2305843009213694955 := ⟨_, rfl, by rw [ByteArray.size_append]; show q2.size + 3 ≤ 2305843009213694955; omega⟩
      obtain ⟨q4, hq4, zq4⟩ : ∃ q : ByteArray, Hid (q = q3 ++ tV) ∧ q.size ≤ 2305843009213695955 := ⟨_, rfl, by rw [ByteArray.size_append]; show q3.size + tV.size ≤ 2305843009213695955; omega⟩
      obtain ⟨q5, hq5, zq5⟩ : ∃ q : ByteArray, Hid (q = q4 ++ (⟨#[32, 59, 10]⟩ : ByteArray)) ∧ q.size ≤ 2305843009213695958 := ⟨_, rfl, by rw [ByteArray.size_append]; show q4.size + 3 ≤ 2305843009213695958; omega⟩
      have HS3 : Hid (q5.data.toList ++ ((IN.drop (k + 1)).flatMap iniL ++ X) = TXT) := by
        show _ = _
        rw [← HQ2.out, drop_nx iniL hx, hq5.out, hq4.out, hq3.out, hq2.out, htL, htV]
        simp only [list_append]
        unfold iniL
        simp
      clear HQ2 htL htV hx
      go_wp2
      have S100 : Bk wr.drew w.heap.size #[.string nm, .slice (some ⟨g, off, none⟩) IN.length c1, .slice a2 TH.length c2, .int .i64 kk, .slice a3 AN.length c3] ∧ On w0 wr.drew := ⟨BR, HO2.out.drew⟩
      clear x1 xl BR
      refine region_fz (fun W => Bk W w.heap.size #[.string nm, .slice (some ⟨g, off, none⟩) IN.length c1, .slice a2 TH.length c2, .int .i64 kk, .slice a3 AN.length c3] ∧ On w0 W) [] 20 (by kernel_rfl) rfl ?_
      refine fz_take 0 (v := ?_) rfl (by kernel_rfl) (by kernel_rfl) (by kernel_rfl) (by kernel_rfl) (fun _ _ _ h => h) rfl ?_ S100 ?_
      rotate_left
      · intro W hW
        go_simp
        (try with_reducible rfl)
      simp only [Act.put, List.setIfInBounds_toArray, List.set_cons_zero, List.set_cons_succ]
      refine fz_take 1 (v := ?_) rfl (by kernel_rfl) (by kernel_rfl) (by kernel_rfl) (by kernel_rfl) (fun _ _ _ h => h) rfl ?_ S100 ?_
      rotate_left
      · intro W hW
        go_simp
        (try with_reducible rfl)
      simp only [Act.put, List.setIfInBounds_toArray, List.set_cons_zero, List.set_cons_succ]
      refine fz_take 2 (v := ?_) rfl (by kernel_rfl) (by kernel_rfl) (by kernel_rfl) (by kernel_rfl) (fun _ _ _ h => h) rfl ?_ S100 ?_
      rotate_left
      · intro W hW
        have c0 := hW.1.at (i := 1) rfl
        have ll := hW.1.lt
        go_simp
        (try with_reducible rfl)
      simp only [Act.put, List.setIfInBounds_toArray, List.set_cons_zero, List.set_cons_succ]
      refine fz_take 3 (v := ?_) rfl (by kernel_rfl) (by kernel_rfl) (by kernel_rfl) (by kernel_rfl) (fun _ _ _ h => h) rfl ?_ S100 ?_
      rotate_left
      · intro W hW
        go_simp
        (try with_reducible rfl)
      simp only [Act.put, List.setIfInBounds_toArray, List.set_cons_zero, List.set_cons_succ]
      refine fz_take 4 (v := ?_) rfl (by kernel_rfl) (by kernel_rfl) (by kernel_rfl) (by kernel_rfl) (fun _ _ _ h => h) rfl ?_ S100 ?_
      rotate_left
      · intro W hW
        go_simp
        (try with_reducible rfl)
      simp only [Act.put, List.setIfInBounds_toArray, List.set_cons_zero, List.set_cons_succ]
      refine fz_take 5 (v := ?_) rfl (by kernel_rfl) (by kernel_rfl) (by kernel_rfl) (by kernel_rfl) (fun _ _ _ h => h) rfl ?_ S100 ?_
      rotate_left
      · intro W hW
        go_simp
        (try with_reducible rfl)
      simp only [Act.put, List.setIfInBounds_toArray, List.set_cons_zero, List.set_cons_succ]
      refine fz_take 6 (v := ?_) rfl (by kernel_rfl) (by kernel_rfl) (by kernel_rfl) (by kernel_rfl) (fun _ _ _ h => h) rfl ?_ S100 ?_
      rotate_left
      · intro W hW
        have c0 : W.cell? ⟨g, off + k * 2, none⟩ = _ := ((HK0.out.trans hW.2).cell (p := ⟨g, off + k * 2, none⟩) HG.out).trans HY0.out
        have ll := Nat.lt_of_lt_of_le HG.out (HK0.out.trans hW.2).size
        go_simp
        (try with_reducible rfl)
      simp only [Act.put, List.setIfInBounds_toArray, List.set_cons_zero, List.set_cons_succ]
      refine fz_take 10 (v := ?_) rfl (by kernel_rfl) (by kernel_rfl) (by kernel_rfl) (by kernel_rfl) (fun _ _ _ h => h) rfl ?_ S100 ?_
      rotate_left
      · intro W hW
        go_simp
        (try with_reducible rfl)
      simp only [Act.put, List.setIfInBounds_toArray, List.set_cons_zero, List.set_cons_succ]
      refine fz_take 11 (v := ?_) rfl (by kernel_rfl) (by kernel_rfl) (by kernel_rfl) (by kernel_rfl) (fun _ _ _ h => h) rfl ?_ S100 ?_
      rotate_left
      · intro W hW
        have c0 := hW.1.at (i := 1) rfl
        have ll := hW.1.lt
        go_simp
        (try with_reducible rfl)
      simp only [Act.put, List.setIfInBounds_toArray, List.set_cons_zero, List.set_cons_succ]
      refine fz_take 12 (v := ?_) rfl (by kernel_rfl) (by kernel_rfl) (by kernel_rfl) (by kernel_rfl) (fun _ _ _ h => h) rfl ?_ S100 ?_
      rotate_left
      · intro W hW
        go_simp
        (try with_reducible rfl)
      simp only [Act.put, List.setIfInBounds_toArray, List.set_cons_zero, List.set_cons_succ]
      refine fz_take 13 (v := ?_) rfl (by kernel_rfl) (by kernel_rfl) (by kernel_rfl) (by kernel_rfl) (fun _ _ _ h => h) rfl ?_ S100 ?_
      rotate_left
      · intro W hW
        go_simp
        (try with_reducible rfl)
      simp only [Act.put, List.setIfInBounds_toArray, List.set_cons_zero, List.set_cons_succ]
      refine fz_take 14 (v := ?_) rfl (by kernel_rfl) (by kernel_rfl) (by kernel_rfl) (by kernel_rfl) (fun _ _ _ h => h) rfl ?_ S100 ?_
      rotate_left
      · intro W hW
        go_simp
        (try with_reducible rfl)
      simp only [Act.put, List.setIfInBounds_toArray, List.set_cons_zero, List.set_cons_succ]
      refine fz_take 15 (v := ?_) rfl (by kernel_rfl) (by kernel_rfl) (by kernel_rfl) (by kernel_rfl) (fun _ _ _ h => h) rfl ?_ S100 ?_
      rotate_left
      · intro W hW
        have c0 : W.cell? ⟨g, off + k * 2 + 1, none⟩ = _ := ((HK0.out.trans hW.2).cell (p := ⟨g, off + k * 2 + 1, none⟩) HG.out).trans HY1.out
        have ll := Nat.lt_of_lt_of_le HG.out (HK0.out.trans hW.2).size
        go_simp
        (try with_reducible rfl)
      simp only [Act.put, List.setIfInBounds_toArray, List.set_cons_zero, List.set_cons_succ]
      refine fz_one 7 rfl rfl (by kernel_rfl) (fun K hK => ?_)
      go_simp
      refine (hL _).mono ?_
      rintro _ v1 ⟨rfl, k1⟩
      have B1 := And.intro (Bk.on S100.1 k1) (On.trans S100.2 k1)
      refine hK.out _ _ (fun _ => B1) ?_
      clear hK
      refine fz_take 8 (v := .string q2) rfl (by kernel_rfl) (by kernel_rfl) (by kernel_rfl) (by kernel_rfl) (fun _ _ _ h => h) rfl ?_ B1 ?_
      · intro W hW
        go_simp
        first
        | rw [if_neg (by omega), hq2.out]
        | rw [hq2.out]
      simp only [Act.put, List.setIfInBounds_toArray, List.set_cons_zero, List.set_cons_succ]
      refine fz_take 9 (v := .string q3) rfl (by kernel_rfl) (by kernel_rfl) (by kernel_rfl) (by kernel_rfl) (fun _ _ _ h => h) rfl ?_ B1 ?_
      · intro W hW
        go_simp
        first
        | rw [if_neg (by omega), hq3.out]
        | rw [hq3.out]
      simp only [Act.put, List.setIfInBounds_toArray, List.set_cons_zero, List.set_cons_succ]
      refine fz_one 16 rfl rfl (by kernel_rfl) (fun K hK => ?_)
      go_simp
      refine (hV _).mono ?_
      rintro _ v2 ⟨rfl, k2⟩
      have B2 := And.intro (Bk.on B1.1 k2) (On.trans B1.2 k2)
      refine hK.out _ _ (fun _ => B2) ?_
      clear hK
      refine fz_take 17 (v := .string q4) rfl (by kernel_rfl) (by kernel_rfl) (by kernel_rfl) (by kernel_rfl) (fun _ _ _ h => h) rfl ?_ B2 ?_
      · intro W hW
        go_simp
        first
        | rw [if_neg (by omega), hq4.out]
        | rw [hq4.out]
      simp only [Act.put, List.setIfInBounds_toArray, List.set_cons_zero, List.set_cons_succ]
      refine fz_take 18 (v := .string q5) rfl (by kernel_rfl) (by kernel_rfl) (by kernel_rfl) (by kernel_rfl) (fun _ _ _ h => h) rfl ?_ B2 ?_
      · intro W hW
        go_simp
        first
        | rw [if_neg (by omega), hq5.out]
        | rw [hq5.out]
      simp only [Act.put, List.setIfInBounds_toArray, List.set_cons_zero, List.set_cons_succ]
      refine fz_take 19 (v := ?_) rfl (by kernel_rfl) (by kernel_rfl) (by kernel_rfl) (by kernel_rfl) (fun _ _ _ h => h) rfl ?_ B2 ?_
      rotate_left
      · intro W hW
        go_simp
        (try with_reducible rfl)
      simp only [Act.put, List.setIfInBounds_toArray, List.set_cons_zero, List.set_cons_succ]
      refine fz_done (by kernel_rfl) (NoPanic.normal ?_)
      go_wp2
      go_roundg (IN.length - (k + 1))
      case measure => omega
      case rel => exact ⟨k + 1, _, hlt2, rfl, by congr 1, rfl, HS3, B2.2⟩
    · obtain rfl : k = IN.length := by omega
      have HS4 : Hid ((S2 ++ ⟨#[125, 10]⟩ : ByteArray).data.toList ++ ((TH.drop 0).flatMap thrX ++ E) = TXT) := by
        show _ = _
        rw [← HQ2.out, HX.out, list_append, List.drop_length]
        simp
      clear HQ2 BR
      go_wp2
      clear x1 xl
      go_loopg [3, 5] TH.length (fun gg s3 s5 wr => ∃ (i : Nat) (S : ByteArray), i ≤ TH.length ∧ gg = TH.length - i ∧ s5 = .int .i64 i ∧ s3 = .string S ∧ Hid (S.data.toList ++ ((TH.drop i).flatMap thrX ++ E) = TXT) ∧ Hid (On w0 wr))
      case atStart => exact ⟨0, _, Nat.zero_le _, rfl, rfl, rfl, HS4, HO2⟩
      case round =>
        obtain ⟨i, S, hi, hk, rfl, rfl, HQ, HO⟩ := hrel
        have hSs := str_len HQ.out hTl
        have BR := HB0.out.on HO.out
        have x2 := BR.at (i := 2) rfl
        have x3 := BR.at (i := 3) rfl
        have xl := BR.lt
        rcases Nat.lt_or_ge i TH.length with hlt | hge
        · obtain ⟨L, hL⟩ : ∃ L, TH[i]? = some L := ⟨_, List.getElem?_eq_getElem hlt⟩
          have HLm : Hid (L ∈ TH) := List.mem_of_getElem? hL
          obtain ⟨g2, off2, rfl, hg2, ax, cx, hcl, hLl, hLr⟩ := HR2.out.row hL
          have HLr : Hid (Rd insC 9 w (.slice ax L.length cx) L) := hLr
          have HG2 : Hid (g2 < w.heap.size) := hg2
          have HCL : Hid (w.cell? ⟨g2, off2 + i, none⟩ = some (.slice ax L.length cx)) := hcl
          obtain ⟨X, hX⟩ : ∃ X, X = [125, 10] ++ ((TH.drop (i + 1)).flatMap thrX ++ E) := ⟨_, rfl⟩
          have HX : Hid (X = [125, 10] ++ ((TH.drop (i + 1)).flatMap thrX ++ E)) := hX
          have HS1 : Hid ((S ++ ⟨#[116, 104, 114, 101, 97, 100, 32, 123, 10]⟩ : ByteArray).data.toList ++ ((L.drop 0).flatMap insX ++ X) = TXT) := by
            show _ = _
            rw [← HQ.out, drop_nx thrX hL, list_append, hX]
            unfold thrX
            simp
          clear hX hL hLr hcl hg2 HQ
          go_wp2
          go_loopg [3, 6] L.length (fun gg s3 s6 wr => ∃ (k : Nat) (S : ByteArray), k ≤ L.length ∧ gg = L.length - k ∧ s6 = .int .i64 k ∧ s3 = .string S ∧ Hid (S.data.toList ++ ((L.drop k).flatMap insX ++ X) = TXT) ∧ Hid (On w0 wr))
          case atStart => exact ⟨0, _, Nat.zero_le _, rfl, rfl, rfl, HS1, HO⟩
          case round =>
            clear HS1 HO x2 x3 xl BR hSs
            obtain ⟨k, S2, hk1, hk2, rfl, rfl, HQ2, HO2⟩ := hrel
            have hSs := str_len HQ2.out hTl
            have BR := HB0.out.on HO2.out
            have x2 := BR.at (i := 2) rfl
            have xl := BR.lt
            have KO : On w wr := HK0.out.trans HO2.out
            have hg2 : g2 < wr.heap.size := Nat.lt_of_lt_of_le HG2.out KO.size
            have hcl : wr.cell? ⟨g2, off2 + i, none⟩ = some (.slice ax L.length cx) := (KO.cell (p := ⟨g2, off2 + i, none⟩) HG2.out).trans HCL.out
            rcases Nat.lt_or_ge k L.length with hlt2 | hge2
            · obtain ⟨x, hx⟩ : ∃ x, L[k]? = some x := ⟨_, List.getElem?_eq_getElem hlt2⟩
              obtain ⟨ax', cx', hv, _, _, hrr⟩ := HLr.out
              simp only [Value.slice.injEq] at hv
              obtain ⟨rfl, _, rfl⟩ := hv
              obtain ⟨g, off, rfl, hg, hcell⟩ := hrr (by omega)
              have y0 : wr.cell? ⟨g, off + k * 9, none⟩ = _ := (KO.cell (p := ⟨g, off + k * 9, none⟩) hg).trans (hcell k x 0 _ hx rfl)
              have y1 : wr.cell? ⟨g, off + k * 9 + 1, none⟩ = _ := (KO.cell (p := ⟨g, off + k * 9 + 1, none⟩) hg).trans (hcell k x 1 _ hx rfl)
              have y2 : wr.cell? ⟨g, off + k * 9 + 2, none⟩ = _ := (KO.cell (p := ⟨g, off + k * 9 + 2, none⟩) hg).trans (hcell k x 2 _ hx rfl)
              have y3 : wr.cell? ⟨g, off + k * 9 + 3, none⟩ = _ := (KO.cell (p := ⟨g, off + k * 9 + 3, none⟩) hg).trans (hcell k x 3 _ hx rfl)
              have y4 : wr.cell? ⟨g, off + k * 9 + 4, none⟩ = _ := (KO.cell (p := ⟨g, off + k * 9 + 4, none⟩) hg).trans (hcell k x 4 _ hx rfl)
              have y5 : wr.cell? ⟨g, off + k * 9 + 5, none⟩ = _ := (KO.cell (p := ⟨g, off + k * 9 + 5, none⟩) hg).trans (hcell k x 5 _ hx rfl)
              have y6 : wr.cell? ⟨g, off + k * 9 + 6, none⟩ = _ := (KO.cell (p := ⟨g, off + k * 9 + 6, none⟩) hg).trans (hcell k x 6 _ hx rfl)
              have y7 : wr.cell? ⟨g, off + k * 9 + 7, none⟩ = _ := (KO.cell (p := ⟨g, off + k * 9 + 7, none⟩) hg).trans (hcell k x 7 _ hx rfl)
              have y8 : wr.cell? ⟨g, off + k * 9 + 8, none⟩ = _ := (KO.cell (p := ⟨g, off + k * 9 + 8, none⟩) hg).trans (hcell k x 8 _ hx rfl)
              have hg' := Nat.lt_of_lt_of_le hg KO.size
              have hIx := HI.out L HLm.out x (List.mem_of_getElem? hx)
              obtain ⟨J, hJ⟩ : ∃ J : ByteArray, J = ⟨(jn (insTk x)).toArray⟩ := ⟨_, rfl⟩
              rw [← hJ] at hIx
              have HS3 : Hid ((S2 ++ J ++ ⟨#[10]⟩ : ByteArray).data.toList ++ ((L.drop (k + 1)).flatMap insX ++ X) = TXT) := by
                show _ = _
                rw [← HQ2.out, drop_nx insX hx, list_append, list_append, hJ]
                unfold insX
                simp
              have hS3 := str_len HS3.out hTl
              rw [ByteArray.size_append, ByteArray.size_append] at hS3
              obtain ⟨xk, xr, xq, ⟨xar, xav⟩, xo, ⟨xbr, xbv⟩, xn⟩ := x
              simp only at y0 y1 y2 y3 y4 y5 y6 y7 y8 hIx
              clear hcell hrr hx hJ HQ2 KO BR
              go_wp2_with fail
              refine (hIx _).mono ?_
              rintro _ w4 ⟨rfl, k4⟩
              have HO4 : Hid (On w0 w4) := HO2.out.trans k4
              clear hIx k4 y0 y1 y2 y3 y4 y5 y6 y7 y8 HO2 hg hg'
              go_wp2
              go_roundg (L.length - (k + 1))
              case measure => omega
              case rel => exact ⟨k + 1, _, hlt2, rfl, by congr 1, rfl, HS3, HO4⟩
            · obtain rfl : k = L.length := by omega
              have HS4 : Hid ((S2 ++ ⟨#[125, 10]⟩ : ByteArray).data.toList ++ ((TH.drop (i + 1)).flatMap thrX ++ E) = TXT) := by
                show _ = _
                rw [← HQ2.out, HX.out, list_append, List.drop_length]
                simp
              clear HQ2 KO BR
              go_wp2
              go_roundg (TH.length - (i + 1))
              case measure => omega
              case rel => exact ⟨i + 1, _, hlt, rfl, by congr 1, rfl, HS4, HO2⟩
        · obtain rfl : i = TH.length := by omega
          have HF : Hid (S.data.toList ++ E = TXT) := by
            show _ = _
            rw [← HQ.out, List.drop_length]
            rfl
          clear HQ
          by_cases hk0 : kk = 0
          · subst hk0
            have HFIN : Hid ((⟨TXT.toArray⟩ : ByteArray) = S ++ ⟨#[125, 10]⟩) := by
              show _ = _
              refine bytes_ext ?_
              rw [← HF.out, HE.out, HCX.out, list_append]
              simp
            clear HF
            go_wp2
            go_ret
            exact ⟨by rw [HFIN.out]; rfl, HK0.out.trans HO.out⟩
          · obtain ⟨J, hJ⟩ : ∃ J : ByteArray, J = ⟨(jn CT).toArray⟩ := ⟨_, rfl⟩
            have HFIN : Hid ((⟨TXT.toArray⟩ : ByteArray) = S ++ J ++ ⟨#[10]⟩ ++ ⟨#[125, 10]⟩) := by
              show _ = _
              refine bytes_ext ?_
              rw [← HF.out, HE.out, HCX.out, if_neg hk0, list_append, list_append, list_append, hJ]
              simp
            have hTs : (⟨TXT.toArray⟩ : ByteArray).size ≤ 2305843009213693952 := by show TXT.toArray.size ≤ _; simpa using hTl
            rw [HFIN.out, ByteArray.size_append, ByteArray.size_append, ByteArray.size_append] at hTs
            have hJl : (jn CT).length ≤ 2305843009213693952 := by
              have : J.size = (jn CT).length := by rw [hJ]; show (jn CT).toArray.size = _; simp
              omega
            have hC2 := HCo.out hk0 hJl a3 c3 wr (HR3.out.on (HK0.out.trans HO.out))
            rw [← hJ] at hC2
            have hkb : (kk == 0) = false := by rw [beq_eq_false_iff_ne]; exact hk0
            have x4 := BR.at (i := 4) rfl
            clear HF hJ hJl
            go_wp2_with fail
            refine hC2.mono ?_
            rintro _ w4 ⟨rfl, k4⟩
            have HO4 : Hid (On w0 w4) := HO.out.trans k4
            clear hC2 k4 x2 x3 x4 xl BR HO
            go_wp2
            go_ret
            exact ⟨by rw [HFIN.out]; rfl, HK0.out.trans HO4.out⟩
theorem rprint_big (t : TestT) (v : Value) (w : World) (h : TestRd w v t) (hx : testOk t = true) (hB : TestL t) (hTl : (textL t).length ≤ 2305843009213693952) :
    Calls Tryz.prog 10 #[v] w fun e w' => e = .returned (.string ⟨(textL t).toArray⟩) ∧ On w w' := by
  rcases Nat.lt_or_ge t.ini.length 1 with hm | hm
  · exact rprint_nil t v w h hx hB hTl hm
  · exact rprint_ini t v w h hx hB hTl hm
theorem rcond_is (c : CondT) (a : Option Addr) (cap : Nat) (w : World) (h : Rd2 atomC 4 w (.slice a c.any.length cap) c.any) (hc : condOk c = true) (h0 : ¬ c.k = 0) (hok : ∀ r ∈ c.any, ∀ x ∈ r, atomOk x = true ∧ B64 x.t ∧ B64 x.v) (hlen : (jn (condTk c)).length ≤ 140737488355328) :
    Calls Tryz.prog 27 #[.agg #[.int .i64 c.k, .slice a c.any.length cap]] w fun e w' => e = .returned (.string ⟨(jn (condTk c)).toArray⟩) ∧ On w w' := rcond_big c a cap w h hc h0 hok (Nat.le_trans hlen (by decide))
theorem rprint_is (t : TestT) (v : Value) (w : World) (h : TestRd w v t) (hx : testOk t = true) (hB : TestB t) (hTl : (textL t).length ≤ 140737488355328) :
    Calls Tryz.prog 10 #[v] w fun e w' => e = .returned (.string ⟨(textL t).toArray⟩) ∧ On w w' := rprint_big t v w h hx hB.big (Nat.le_trans hTl (by decide))
end Go.Proofs.YtacflahkofmcpaaGreatDoor.Wl

namespace Go.Proofs.YtacflahkofmcpaaGreatDoor
open Go.RowKit

theorem own_cells {w : World} {base k n : Nat} {e : TypeId} {v : Value} {xs : List Value} (h : w.ownsRow base e k v n xs) (hn : 0 < n) :
    ∃ g cap, v = .slice (some ⟨g, 0, none⟩) n cap ∧ n ≤ cap ∧ base ≤ g ∧ g < w.heap.size ∧ ∀ i u, xs[i]? = some u → w.cell? ⟨g, i, none⟩ = some u := by
  rcases h.2 with ⟨_, h0⟩ | ⟨g, cap, cur, hv, hb, hh, hc, _, _, ht⟩
  · omega
  · refine ⟨g, cap, hv, hc, hb, lt_of_block hh, fun i u hi => ?_⟩
    rw [← ht, List.getElem?_take] at hi
    split at hi
    · simp only [World.cell?, hh]
      simpa using hi
    · cases hi

abbrev awakeText : ByteArray := ⟨#[116, 101, 115, 116, 32, 97, 32, 123, 32, 116, 104, 114, 101, 97, 100, 32, 123, 32, 102, 101, 110, 99, 101, 32, 59, 32, 125, 32, 125]⟩
theorem awakeP : parseP awakeText = (⟨⟨#[97]⟩, [], [[⟨3, 0, 0, ⟨0, 0⟩, 0, ⟨0, 0⟩, 0⟩]], ⟨0, []⟩⟩, 0, 0) := by kernel_rfl

theorem bytes_self (x : ByteArray) : (x.toList == x.toList) = true := by simp

set_option maxHeartbeats 1000000 in
set_option maxRecDepth 8000 in
theorem awake_any (w : World) (hw : Lw w) :
    Calls Tryz.prog 8 #[] w fun e w' => e = .returned (.bool true) ∧ On w w' := by
  have hP := parseGo_is awakeText (by decide) w hw
  rw [awakeP] at hP
  have hb := bytes_self ⟨#[97]⟩
  go_enter Tryz.func8, Tryz.ntmps8
  go_wp2_with fail
  refine hP.mono ?_
  rintro e w1 ⟨v, rfl, ⟨a1, m1, c1, a2, m2, c2, a3, m3, c3, rfl, o1, ⟨vs, p1, p2, p3⟩, o3⟩, k1⟩
  obtain ⟨g, cap, hv, hc, _, hg, hcell⟩ := own_cells p2 (by decide)
  simp only [List.length_cons, List.length_nil] at p1 hv
  obtain ⟨u, rfl⟩ : ∃ u, vs = [u] := by
    match vs, p1 with
    | [u], _ => exact ⟨u, rfl⟩
  obtain ⟨g', cap', hv', hc', _, hg', hcell'⟩ := own_cells (p3 0 u _ rfl rfl) (by decide)
  subst hv'
  simp only [Value.slice.injEq] at hv
  obtain ⟨rfl, rfl, rfl⟩ := hv
  have q0 := hcell 0 _ rfl
  have r0 := hcell' 0 _ rfl
  have r1 := hcell' 1 _ rfl
  have r2 := hcell' 2 _ rfl
  have r3 := hcell' 3 _ rfl
  have r4 := hcell' 4 _ rfl
  have r5 := hcell' 5 _ rfl
  have r6 := hcell' 6 _ rfl
  have r7 := hcell' 7 _ rfl
  have r8 := hcell' 8 _ rfl
  simp only [List.length_cons, List.length_nil] at q0
  have HK : Hid (On w w1) := k1
  clear hcell hcell' p2 p3 o1 o3 hP k1 hw
  go_wp2
  all_goals (try go_ret)
  all_goals exact ⟨rfl, (HK.out.alloc _).alloc _⟩
end Go.Proofs.YtacflahkofmcpaaGreatDoor
