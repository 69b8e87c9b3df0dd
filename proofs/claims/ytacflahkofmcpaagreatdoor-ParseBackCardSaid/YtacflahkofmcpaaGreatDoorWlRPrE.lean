/- The document's Cond: a condition's tokens joined by blanks. -/
import Derived.Test.YtacflahkofmcpaaGreatDoorWlRPrC
import Derived.Test.YtacflahkofmcpaaGreatDoorWlRPrD
import Derived.Test.YtacflahkofmcpaaGreatDoorWlROkD
namespace Go.Proofs.YtacflahkofmcpaaGreatDoor.Wl
open Go.RowKit

theorem str_len {S : ByteArray} {R T : List UInt8} {n : Nat} (h : S.data.toList ++ R = T) (hn : T.length ≤ n) : S.size ≤ n := by
  have := congrArg List.length h
  rw [List.length_append, ← size_list] at this
  omega
set_option maxHeartbeats 8000000 in
set_option maxRecDepth 8000 in
theorem rcond_1 (LL : List (List AtomT)) (a : Option Addr) (cap : Nat) (w : World) (h : Rd2 atomC 4 w (.slice a LL.length cap) LL) (hO : ∀ W, On w W → Calls Tryz.prog 66 #[.agg #[.int .i64 1, .slice a LL.length cap]] W fun e w' => e = .returned (.bool true) ∧ On W w') (hok : ∀ r ∈ LL, ∀ x ∈ r, atomOk x = true ∧ B64 x.t ∧ B64 x.v) (TOT : List UInt8) (hTl : TOT.length ≤ 2305843009213693952) (hTT : (⟨#[101, 120, 105, 115, 116, 115]⟩ : ByteArray).data.toList ++ (anyX [] LL ++ [32, 59]) = TOT) :
    Calls Tryz.prog 27 #[.agg #[.int .i64 1, .slice a LL.length cap]] w fun e w' => e = .returned (.string ⟨TOT.toArray⟩) ∧ On w w' := by
  have k0 : ∀ T, On w (w.alloc T) := fun T => (On.refl w).alloc T
  have bk : ∀ cs T, Bk (w.alloc (.cells cs T)) w.heap.size cs := fun cs T => Bk.new w cs T
  obtain ⟨_, _, _, _, hm⟩ := h.slice
  have HR2 : Hid (Rd2 atomC 4 w (.slice a LL.length cap) LL) := h
  have HOK : Hid (∀ r ∈ LL, ∀ x ∈ r, atomOk x = true ∧ B64 x.t ∧ B64 x.v) := hok
  have HS0 : Hid ((⟨#[101, 120, 105, 115, 116, 115]⟩ : ByteArray).data.toList ++ (anyX (preI 0) (LL.drop 0) ++ [32, 59]) = TOT) := hTT
  clear h hok hTT
  go_enter Tryz.func27, Tryz.ntmps27
  go_wp2_with fail
  refine (hO _ (k0 _)).mono ?_
  rintro _ w0 ⟨rfl, k1⟩
  have B0 := (bk _ _).on k1
  have HB0 : Hid (Bk w0 w.heap.size #[.int .i64 1, .slice a LL.length cap]) := B0
  have HK0 : Hid (On w w0) := (k0 _).trans k1
  have x0 := B0.at (i := 0) rfl
  have xL := B0.lt
  clear k1 bk k0 hO B0
  go_wp2
  clear x0 xL
  go_loopg [3, 4] LL.length (fun gg s3 s4 wr => ∃ (i : Nat) (S : ByteArray), i ≤ LL.length ∧ gg = LL.length - i ∧ s4 = .int .i64 i ∧ s3 = .string S ∧ Hid (S.data.toList ++ (anyX (preI i) (LL.drop i) ++ [32, 59]) = TOT) ∧ Hid (On w0 wr))
  case atStart => exact ⟨0, _, Nat.zero_le _, rfl, rfl, rfl, HS0, On.refl w0⟩
  case round =>
    clear HS0
    obtain ⟨i, S, hi, hk, rfl, rfl, HQ, HO⟩ := hrel
    have hSs := str_len HQ.out hTl
    have BR := HB0.out.on HO.out
    have x1 := BR.at (i := 1) rfl
    have xL := BR.lt
    rcases Nat.lt_or_ge i LL.length with hlt | hge
    · obtain ⟨r, hL⟩ : ∃ r, LL[i]? = some r := ⟨_, List.getElem?_eq_getElem hlt⟩
      have HLm : Hid (r ∈ LL) := List.mem_of_getElem? hL
      obtain ⟨g2, off2, rfl, hg2, ax, cx, hcl, hLl, hLr⟩ := HR2.out.row hL
      have HLr : Hid (Rd atomC 4 w (.slice ax r.length cx) r) := hLr
      have HG2 : Hid (g2 < w.heap.size) := hg2
      have HCL : Hid (w.cell? ⟨g2, off2 + i, none⟩ = some (.slice ax r.length cx)) := hcl
      obtain ⟨X, hX⟩ : ∃ X, X = anyX (preI (i + 1)) (LL.drop (i + 1)) ++ [32, 59] := ⟨_, rfl⟩
      have HX : Hid (X = anyX (preI (i + 1)) (LL.drop (i + 1)) ++ [32, 59]) := hX
      have HS1 : Hid (S.data.toList ++ (rowX (preK i 0) (r.drop 0) ++ X) = TOT) := by
        show _ = _
        rw [← HQ.out, any_drop hL, hX, List.append_assoc]
        rfl
      clear hX hL hLr hcl hg2 HQ
      go_wp2
      go_loopg [3, 5] r.length (fun gg s3 s5 wr => ∃ (k : Nat) (S : ByteArray), k ≤ r.length ∧ gg = r.length - k ∧ s5 = .int .i64 k ∧ s3 = .string S ∧ Hid (S.data.toList ++ (rowX (preK i k) (r.drop k) ++ X) = TOT) ∧ Hid (On w0 wr))
      case atStart => exact ⟨0, _, Nat.zero_le _, rfl, rfl, rfl, HS1, HO⟩
      case round =>
        clear HS1 HO x1 xL BR hSs
        obtain ⟨k, S2, hk1, hk2, rfl, rfl, HQ2, HO2⟩ := hrel
        have hSs := str_len HQ2.out hTl
        have BR := HB0.out.on HO2.out
        have x1 := BR.at (i := 1) rfl
        have xL := BR.lt
        have KO : On w wr := HK0.out.trans HO2.out
        have hg2 : g2 < wr.heap.size := Nat.lt_of_lt_of_le HG2.out KO.size
        have hcl : wr.cell? ⟨g2, off2 + i, none⟩ = some (.slice ax r.length cx) := (KO.cell (p := ⟨g2, off2 + i, none⟩) HG2.out).trans HCL.out
        rcases Nat.lt_or_ge k r.length with hlt2 | hge2
        · obtain ⟨x, hx⟩ : ∃ x, r[k]? = some x := ⟨_, List.getElem?_eq_getElem hlt2⟩
          obtain ⟨ax', cx', hv, _, _, hrr⟩ := HLr.out
          simp only [Value.slice.injEq] at hv
          obtain ⟨rfl, _, rfl⟩ := hv
          obtain ⟨g, off, rfl, hg, hcell⟩ := hrr (by omega)
          have y0 : wr.cell? ⟨g, off + k * 4, none⟩ = _ := (KO.cell (p := ⟨g, off + k * 4, none⟩) hg).trans (hcell k x 0 _ hx rfl)
          have y1 : wr.cell? ⟨g, off + k * 4 + 1, none⟩ = _ := (KO.cell (p := ⟨g, off + k * 4 + 1, none⟩) hg).trans (hcell k x 1 _ hx rfl)
          have y2 : wr.cell? ⟨g, off + k * 4 + 2, none⟩ = _ := (KO.cell (p := ⟨g, off + k * 4 + 2, none⟩) hg).trans (hcell k x 2 _ hx rfl)
          have y3 : wr.cell? ⟨g, off + k * 4 + 3, none⟩ = _ := (KO.cell (p := ⟨g, off + k * 4 + 3, none⟩) hg).trans (hcell k x 3 _ hx rfl)
          have hg' := Nat.lt_of_lt_of_le hg KO.size
          obtain ⟨hao, hbt, hbv⟩ := HOK.out r HLm.out x (List.mem_of_getElem? hx)
          have HRD : Hid (rowX (preK i k) (r.drop k) = preK i k ++ (atomX x ++ rowX (preK i (k + 1)) (r.drop (k + 1)))) := row_drop i hx
          have hax_own : ¬ x.t < 0 → atomX x = 32 :: (numT x.t).data.toList ++ [32, 58, 32] ++ (regT x.r).data.toList ++ [32, 61, 32] ++ (numT x.v).data.toList := fun e => by unfold atomX; rw [if_neg e]
          have hax_mem : x.t < 0 → atomX x = 32 :: (locT x.l).data.toList ++ [32, 61, 32] ++ (numT x.v).data.toList := fun e => by unfold atomX; rw [if_pos e]
          have hro : ¬ x.t < 0 → regOk x.r = true := fun e => by
            unfold atomOk at hao
            have : (x.t == -1) = false := by rw [beq_eq_false_iff_ne]; omega
            rw [this] at hao
            simp only [Bool.false_eq_true, if_false, Bool.and_eq_true] at hao
            exact hao.2
          have hlo : x.t < 0 → locOk x.l = true := fun e => by
            unfold atomOk at hao
            by_cases e1 : (x.t == -1) = true
            · rw [e1] at hao
              simp only [if_true, Bool.and_eq_true] at hao
              exact hao.2
            · rw [Bool.not_eq_true] at e1
              rw [e1] at hao
              simp only [Bool.false_eq_true, if_false, Bool.and_eq_true, decide_eq_true_eq] at hao
              omega
          generalize atomX x = AX at HRD hax_own hax_mem
          obtain ⟨xt, xr, xl, xv⟩ := x
          simp only at y0 y1 y2 y3 hax_own hax_mem hro hlo hbt hbv
          have hV := fun W => rnum_is hbv W
          obtain ⟨tV, htV⟩ : ∃ t : ByteArray, t = numT xv := ⟨_, rfl⟩
          have sV : tV.size ≤ 1000 := by rw [htV]; exact sz_le (sz_num hbv)
          rw [← htV] at hV hax_own hax_mem
          obtain ⟨W6, hW6⟩ : ∃ W6, W6 = wr.alloc (.cells #[.int .i64 xt, .int .i64 xr, .int .i64 xl, .int .i64 xv] 58) := ⟨_, rfl⟩
          have HB6 : Hid (Bk W6 wr.heap.size #[.int .i64 xt, .int .i64 xr, .int .i64 xl, .int .i64 xv]) := by show Bk _ _ _; rw [hW6]; exact Bk.new wr _ _
          have HO6 : Hid (On w0 W6) := by show On _ _; rw [hW6]; exact HO2.out.alloc _
          have HW6 : Hid (W6 = _) := hW6
          clear hcell hrr hx KO BR hao htV hbv hW6 HO2
          by_cases c1 : 0 < k
          · have HPR : preK i k = [32, 38] := by unfold preK; rw [if_neg (by omega)]
            by_cases c2 : 0 ≤ xt
            · have HAX := hax_own (by omega)
              have hT := fun W => rnum_is hbt W
              have hR := fun W => rreg_is (hro (by omega)) W
              obtain ⟨tT, htT⟩ : ∃ t : ByteArray, t = numT xt := ⟨_, rfl⟩
              obtain ⟨tR, htR⟩ : ∃ t : ByteArray, t = regT xr := ⟨_, rfl⟩
              have sT : tT.size ≤ 1000 := by rw [htT]; exact sz_le (sz_num hbt)
              have sR : tR.size ≤ 1000 := by rw [htR]; exact sz_le (sz_reg _)
              rw [← htT] at hT HAX
              rw [← htR] at hR HAX
              clear htT htR hro hlo hax_mem hax_own hbt
              obtain ⟨q0, hq0, zq0⟩ : ∃ q : ByteArray, Hid (q = S2 ++ (⟨#[32, 38]⟩ : ByteArray)) ∧ q.size ≤ 2305843009213693954 := ⟨_, rfl, by rw [ByteArray.size_append]; show S2.size + 2 ≤ 2305843009213693954; omega⟩
              obtain ⟨q1, hq1, zq1⟩ : ∃ q : ByteArray, Hid (q = q0 ++ (⟨#[32]⟩ : ByteArray)) ∧ q.size ≤ 2305843009213693955 := ⟨_, rfl, by rw [ByteArray.size_append]; show q0.size + 1 ≤ 2305843009213693955; omega⟩
              obtain ⟨q2, hq2, zq2⟩ : ∃ q : ByteArray, Hid (q = q1 ++ tT) ∧ q.size ≤ 2305843009213694955 := ⟨_, rfl, by rw [ByteArray.size_append]; show q1.size + tT.size ≤ 2305843009213694955; omega⟩
              obtain ⟨q3, hq3, zq3⟩ : ∃ q : ByteArray, Hid (q = q2 ++ (⟨#[32, 58, 32]⟩ : ByteArray)) ∧ q.size ≤ 2305843009213694958 := ⟨_, rfl, by rw [ByteArray.size_append]; show q2.size + 3 ≤ 2305843009213694958; omega⟩
              obtain ⟨q4, hq4, zq4⟩ : ∃ q : ByteArray, Hid (q = q3 ++ tR) ∧ q.size ≤ 2305843009213695958 := ⟨_, rfl, by rw [ByteArray.size_append]; show q3.size + tR.size ≤ 2305843009213695958; omega⟩
              obtain ⟨q5, hq5, zq5⟩ : ∃ q : ByteArray, Hid (q = q4 ++ (⟨#[32, 61, 32]⟩ : ByteArray)) ∧ q.size ≤ 2305843009213695961 := ⟨_, rfl, by rw [ByteArray.size_append]; show q4.size + 3 ≤ 2305843009213695961; omega⟩
              obtain ⟨q6, hq6, zq6⟩ : ∃ q : ByteArray, Hid (q = q5 ++ tV) ∧ q.size ≤ 2305843009213696961 := ⟨_, rfl, by rw [ByteArray.size_append]; show q5.size + tV.size ≤ 2305843009213696961; omega⟩
              have HS3 : Hid (q6.data.toList ++ (rowX (preK i (k + 1)) (r.drop (k + 1)) ++ X) = TOT) := by
                show _ = _
                rw [← HQ2.out, HRD.out, hq6.out, hq5.out, hq4.out, hq3.out, hq2.out, hq1.out, hq0.out, HPR, HAX]
                simp only [list_append]
                simp
              clear HRD HPR HAX HQ2
              go_wp2
              rw [← HW6.out]
              rw [← hq0.out]
              have S100 : Bk W6.drew wr.heap.size #[.int .i64 xt, .int .i64 xr, .int .i64 xl, .int .i64 xv] := HB6.out
              have K100 : On w0 W6.drew := HO6.out.drew
              refine region_fz (fun W => Bk W wr.heap.size #[.int .i64 xt, .int .i64 xr, .int .i64 xl, .int .i64 xv]) [] 17 (by kernel_rfl) rfl ?_
              refine fz_take 0 (v := ?_) rfl (by kernel_rfl) (by kernel_rfl) (by kernel_rfl) (by kernel_rfl) (fun _ _ _ h => h) rfl ?_ S100 ?_
              rotate_left
              · intro W hW
                go_simp
                (try with_reducible rfl)
              simp only [Act.put, List.setIfInBounds_toArray, List.set_cons_zero, List.set_cons_succ]
              refine fz_take 1 (v := .string q1) rfl (by kernel_rfl) (by kernel_rfl) (by kernel_rfl) (by kernel_rfl) (fun _ _ _ h => h) rfl ?_ S100 ?_
              · intro W hW
                go_simp
                first
                | rw [if_neg (by omega), hq1.out]
                | rw [hq1.out]
              simp only [Act.put, List.setIfInBounds_toArray, List.set_cons_zero, List.set_cons_succ]
              refine fz_take 2 (v := ?_) rfl (by kernel_rfl) (by kernel_rfl) (by kernel_rfl) (by kernel_rfl) (fun _ _ _ h => h) rfl ?_ S100 ?_
              rotate_left
              · intro W hW
                go_simp
                (try with_reducible rfl)
              simp only [Act.put, List.setIfInBounds_toArray, List.set_cons_zero, List.set_cons_succ]
              refine fz_take 3 (v := ?_) rfl (by kernel_rfl) (by kernel_rfl) (by kernel_rfl) (by kernel_rfl) (fun _ _ _ h => h) rfl ?_ S100 ?_
              rotate_left
              · intro W hW
                have c0 := hW.at (i := 0) rfl
                have ll := hW.lt
                go_simp
                (try with_reducible rfl)
              simp only [Act.put, List.setIfInBounds_toArray, List.set_cons_zero, List.set_cons_succ]
              refine fz_take 7 (v := ?_) rfl (by kernel_rfl) (by kernel_rfl) (by kernel_rfl) (by kernel_rfl) (fun _ _ _ h => h) rfl ?_ S100 ?_
              rotate_left
              · intro W hW
                go_simp
                (try with_reducible rfl)
              simp only [Act.put, List.setIfInBounds_toArray, List.set_cons_zero, List.set_cons_succ]
              refine fz_take 8 (v := ?_) rfl (by kernel_rfl) (by kernel_rfl) (by kernel_rfl) (by kernel_rfl) (fun _ _ _ h => h) rfl ?_ S100 ?_
              rotate_left
              · intro W hW
                have c0 := hW.at (i := 1) rfl
                have ll := hW.lt
                go_simp
                (try with_reducible rfl)
              simp only [Act.put, List.setIfInBounds_toArray, List.set_cons_zero, List.set_cons_succ]
              refine fz_take 12 (v := ?_) rfl (by kernel_rfl) (by kernel_rfl) (by kernel_rfl) (by kernel_rfl) (fun _ _ _ h => h) rfl ?_ S100 ?_
              rotate_left
              · intro W hW
                go_simp
                (try with_reducible rfl)
              simp only [Act.put, List.setIfInBounds_toArray, List.set_cons_zero, List.set_cons_succ]
              refine fz_take 13 (v := ?_) rfl (by kernel_rfl) (by kernel_rfl) (by kernel_rfl) (by kernel_rfl) (fun _ _ _ h => h) rfl ?_ S100 ?_
              rotate_left
              · intro W hW
                have c0 := hW.at (i := 3) rfl
                have ll := hW.lt
                go_simp
                (try with_reducible rfl)
              simp only [Act.put, List.setIfInBounds_toArray, List.set_cons_zero, List.set_cons_succ]
              refine fz_one 4 rfl rfl (by kernel_rfl) (fun K hK => ?_)
              go_simp
              refine (hT _).mono ?_
              rintro _ v1 ⟨rfl, k1⟩
              have B1 := Bk.on S100 k1
              have K1 := On.trans K100 k1
              refine hK.out _ _ (fun _ => B1) ?_
              clear hK
              refine fz_take 5 (v := .string q2) rfl (by kernel_rfl) (by kernel_rfl) (by kernel_rfl) (by kernel_rfl) (fun _ _ _ h => h) rfl ?_ B1 ?_
              · intro W hW
                go_simp
                first
                | rw [if_neg (by omega), hq2.out]
                | rw [hq2.out]
              simp only [Act.put, List.setIfInBounds_toArray, List.set_cons_zero, List.set_cons_succ]
              refine fz_take 6 (v := .string q3) rfl (by kernel_rfl) (by kernel_rfl) (by kernel_rfl) (by kernel_rfl) (fun _ _ _ h => h) rfl ?_ B1 ?_
              · intro W hW
                go_simp
                first
                | rw [if_neg (by omega), hq3.out]
                | rw [hq3.out]
              simp only [Act.put, List.setIfInBounds_toArray, List.set_cons_zero, List.set_cons_succ]
              refine fz_one 9 rfl rfl (by kernel_rfl) (fun K hK => ?_)
              go_simp
              refine (hR _).mono ?_
              rintro _ v2 ⟨rfl, k2⟩
              have B2 := Bk.on B1 k2
              have K2 := On.trans K1 k2
              refine hK.out _ _ (fun _ => B2) ?_
              clear hK
              refine fz_take 10 (v := .string q4) rfl (by kernel_rfl) (by kernel_rfl) (by kernel_rfl) (by kernel_rfl) (fun _ _ _ h => h) rfl ?_ B2 ?_
              · intro W hW
                go_simp
                first
                | rw [if_neg (by omega), hq4.out]
                | rw [hq4.out]
              simp only [Act.put, List.setIfInBounds_toArray, List.set_cons_zero, List.set_cons_succ]
              refine fz_take 11 (v := .string q5) rfl (by kernel_rfl) (by kernel_rfl) (by kernel_rfl) (by kernel_rfl) (fun _ _ _ h => h) rfl ?_ B2 ?_
              · intro W hW
                go_simp
                first
                | rw [if_neg (by omega), hq5.out]
                | rw [hq5.out]
              simp only [Act.put, List.setIfInBounds_toArray, List.set_cons_zero, List.set_cons_succ]
              refine fz_one 14 rfl rfl (by kernel_rfl) (fun K hK => ?_)
              go_simp
              refine (hV _).mono ?_
              rintro _ v3 ⟨rfl, k3⟩
              have B3 := Bk.on B2 k3
              have K3 := On.trans K2 k3
              refine hK.out _ _ (fun _ => B3) ?_
              clear hK
              refine fz_take 15 (v := .string q6) rfl (by kernel_rfl) (by kernel_rfl) (by kernel_rfl) (by kernel_rfl) (fun _ _ _ h => h) rfl ?_ B3 ?_
              · intro W hW
                go_simp
                first
                | rw [if_neg (by omega), hq6.out]
                | rw [hq6.out]
              simp only [Act.put, List.setIfInBounds_toArray, List.set_cons_zero, List.set_cons_succ]
              refine fz_take 16 (v := ?_) rfl (by kernel_rfl) (by kernel_rfl) (by kernel_rfl) (by kernel_rfl) (fun _ _ _ h => h) rfl ?_ B3 ?_
              rotate_left
              · intro W hW
                go_simp
                (try with_reducible rfl)
              simp only [Act.put, List.setIfInBounds_toArray, List.set_cons_zero, List.set_cons_succ]
              refine fz_done (by kernel_rfl) (NoPanic.normal ?_)
              go_wp2
              go_roundg (r.length - (k + 1))
              case measure => omega
              case rel => exact ⟨k + 1, _, hlt2, rfl, by congr 1, rfl, HS3, K3⟩
            · have HAX := hax_mem (by omega)
              have hL := fun W => rloc_is (hlo (by omega)) W
              obtain ⟨tL, htL⟩ : ∃ t : ByteArray, t = locT xl := ⟨_, rfl⟩
              have sL : tL.size ≤ 1000 := by rw [htL]; exact sz_le (sz_loc _)
              rw [← htL] at hL HAX
              clear htL hro hlo hax_mem hax_own hbt
              obtain ⟨q0, hq0, zq0⟩ : ∃ q : ByteArray, Hid (q = S2 ++ (⟨#[32, 38]⟩ : ByteArray)) ∧ q.size ≤ 2305843009213693954 := ⟨_, rfl, by rw [ByteArray.size_append]; show S2.size + 2 ≤ 2305843009213693954; omega⟩
              obtain ⟨q1, hq1, zq1⟩ : ∃ q : ByteArray, Hid (q = q0 ++ (⟨#[32]⟩ : ByteArray)) ∧ q.size ≤ 2305843009213693955 := ⟨_, rfl, by rw [ByteArray.size_append]; show q0.size + 1 ≤ 2305843009213693955; omega⟩
              obtain ⟨q2, hq2, zq2⟩ : ∃ q : ByteArray, Hid (q = q1 ++ tL) ∧ q.size ≤ 2305843009213694955 := ⟨_, rfl, by rw [ByteArray.size_append]; show q1.size + tL.size ≤ 2305843009213694955; omega⟩
              obtain ⟨q3, hq3, zq3⟩ : ∃ q : ByteArray, Hid (q = q2 ++ (⟨#[32, 61, 32]⟩ : ByteArray)) ∧ q.size ≤ 2305843009213694958 := ⟨_, rfl, by rw [ByteArray.size_append]; show q2.size + 3 ≤ 2305843009213694958; omega⟩
              obtain ⟨q4, hq4, zq4⟩ : ∃ q : ByteArray, Hid (q = q3 ++ tV) ∧ q.size ≤ 2305843009213695958 := ⟨_, rfl, by rw [ByteArray.size_append]; show q3.size + tV.size ≤ 2305843009213695958; omega⟩
              have HS3 : Hid (q4.data.toList ++ (rowX (preK i (k + 1)) (r.drop (k + 1)) ++ X) = TOT) := by
                show _ = _
                rw [← HQ2.out, HRD.out, hq4.out, hq3.out, hq2.out, hq1.out, hq0.out, HPR, HAX]
                simp only [list_append]
                simp
              clear HRD HPR HAX HQ2
              go_wp2
              rw [← HW6.out]
              rw [← hq0.out]
              have S100 : Bk W6.drew wr.heap.size #[.int .i64 xt, .int .i64 xr, .int .i64 xl, .int .i64 xv] := HB6.out
              have K100 : On w0 W6.drew := HO6.out.drew
              refine region_fz (fun W => Bk W wr.heap.size #[.int .i64 xt, .int .i64 xr, .int .i64 xl, .int .i64 xv]) [] 12 (by kernel_rfl) rfl ?_
              refine fz_take 0 (v := ?_) rfl (by kernel_rfl) (by kernel_rfl) (by kernel_rfl) (by kernel_rfl) (fun _ _ _ h => h) rfl ?_ S100 ?_
              rotate_left
              · intro W hW
                go_simp
                (try with_reducible rfl)
              simp only [Act.put, List.setIfInBounds_toArray, List.set_cons_zero, List.set_cons_succ]
              refine fz_take 1 (v := .string q1) rfl (by kernel_rfl) (by kernel_rfl) (by kernel_rfl) (by kernel_rfl) (fun _ _ _ h => h) rfl ?_ S100 ?_
              · intro W hW
                go_simp
                first
                | rw [if_neg (by omega), hq1.out]
                | rw [hq1.out]
              simp only [Act.put, List.setIfInBounds_toArray, List.set_cons_zero, List.set_cons_succ]
              refine fz_take 2 (v := ?_) rfl (by kernel_rfl) (by kernel_rfl) (by kernel_rfl) (by kernel_rfl) (fun _ _ _ h => h) rfl ?_ S100 ?_
              rotate_left
              · intro W hW
                go_simp
                (try with_reducible rfl)
              simp only [Act.put, List.setIfInBounds_toArray, List.set_cons_zero, List.set_cons_succ]
              refine fz_take 3 (v := ?_) rfl (by kernel_rfl) (by kernel_rfl) (by kernel_rfl) (by kernel_rfl) (fun _ _ _ h => h) rfl ?_ S100 ?_
              rotate_left
              · intro W hW
                have c0 := hW.at (i := 2) rfl
                have ll := hW.lt
                go_simp
                (try with_reducible rfl)
              simp only [Act.put, List.setIfInBounds_toArray, List.set_cons_zero, List.set_cons_succ]
              refine fz_take 7 (v := ?_) rfl (by kernel_rfl) (by kernel_rfl) (by kernel_rfl) (by kernel_rfl) (fun _ _ _ h => h) rfl ?_ S100 ?_
              rotate_left
              · intro W hW
                go_simp
                (try with_reducible rfl)
              simp only [Act.put, List.setIfInBounds_toArray, List.set_cons_zero, List.set_cons_succ]
              refine fz_take 8 (v := ?_) rfl (by kernel_rfl) (by kernel_rfl) (by kernel_rfl) (by kernel_rfl) (fun _ _ _ h => h) rfl ?_ S100 ?_
              rotate_left
              · intro W hW
                have c0 := hW.at (i := 3) rfl
                have ll := hW.lt
                go_simp
                (try with_reducible rfl)
              simp only [Act.put, List.setIfInBounds_toArray, List.set_cons_zero, List.set_cons_succ]
              refine fz_one 4 rfl rfl (by kernel_rfl) (fun K hK => ?_)
              go_simp
              refine (hL _).mono ?_
              rintro _ v1 ⟨rfl, k1⟩
              have B1 := Bk.on S100 k1
              have K1 := On.trans K100 k1
              refine hK.out _ _ (fun _ => B1) ?_
              clear hK
              refine fz_take 5 (v := .string q2) rfl (by kernel_rfl) (by kernel_rfl) (by kernel_rfl) (by kernel_rfl) (fun _ _ _ h => h) rfl ?_ B1 ?_
              · intro W hW
                go_simp
                first
                | rw [if_neg (by omega), hq2.out]
                | rw [hq2.out]
              simp only [Act.put, List.setIfInBounds_toArray, List.set_cons_zero, List.set_cons_succ]
              refine fz_take 6 (v := .string q3) rfl (by kernel_rfl) (by kernel_rfl) (by kernel_rfl) (by kernel_rfl) (fun _ _ _ h => h) rfl ?_ B1 ?_
              · intro W hW
                go_simp
                first
                | rw [if_neg (by omega), hq3.out]
                | rw [hq3.out]
              simp only [Act.put, List.setIfInBounds_toArray, List.set_cons_zero, List.set_cons_succ]
              refine fz_one 9 rfl rfl (by kernel_rfl) (fun K hK => ?_)
              go_simp
              refine (hV _).mono ?_
              rintro _ v2 ⟨rfl, k2⟩
              have B2 := Bk.on B1 k2
              have K2 := On.trans K1 k2
              refine hK.out _ _ (fun _ => B2) ?_
              clear hK
              refine fz_take 10 (v := .string q4) rfl (by kernel_rfl) (by kernel_rfl) (by kernel_rfl) (by kernel_rfl) (fun _ _ _ h => h) rfl ?_ B2 ?_
              · intro W hW
                go_simp
                first
                | rw [if_neg (by omega), hq4.out]
                | rw [hq4.out]
              simp only [Act.put, List.setIfInBounds_toArray, List.set_cons_zero, List.set_cons_succ]
              refine fz_take 11 (v := ?_) rfl (by kernel_rfl) (by kernel_rfl) (by kernel_rfl) (by kernel_rfl) (fun _ _ _ h => h) rfl ?_ B2 ?_
              rotate_left
              · intro W hW
                go_simp
                (try with_reducible rfl)
              simp only [Act.put, List.setIfInBounds_toArray, List.set_cons_zero, List.set_cons_succ]
              refine fz_done (by kernel_rfl) (NoPanic.normal ?_)
              go_wp2
              go_roundg (r.length - (k + 1))
              case measure => omega
              case rel => exact ⟨k + 1, _, hlt2, rfl, by congr 1, rfl, HS3, K2⟩
          · by_cases c3 : 0 < i
            · have HPR : preK i k = [32, 124] := by unfold preK preI; rw [if_pos (by omega), if_neg (by omega)]
              by_cases c2 : 0 ≤ xt
              · have HAX := hax_own (by omega)
                have hT := fun W => rnum_is hbt W
                have hR := fun W => rreg_is (hro (by omega)) W
                obtain ⟨tT, htT⟩ : ∃ t : ByteArray, t = numT xt := ⟨_, rfl⟩
                obtain ⟨tR, htR⟩ : ∃ t : ByteArray, t = regT xr := ⟨_, rfl⟩
                have sT : tT.size ≤ 1000 := by rw [htT]; exact sz_le (sz_num hbt)
                have sR : tR.size ≤ 1000 := by rw [htR]; exact sz_le (sz_reg _)
                rw [← htT] at hT HAX
                rw [← htR] at hR HAX
                clear htT htR hro hlo hax_mem hax_own hbt
                obtain ⟨q0, hq0, zq0⟩ : ∃ q : ByteArray, Hid (q = S2 ++ (⟨#[32, 124]⟩ : ByteArray)) ∧ q.size ≤ 2305843009213693954 := ⟨_, rfl, by rw [ByteArray.size_append]; show S2.size + 2 ≤ 2305843009213693954; omega⟩
                obtain ⟨q1, hq1, zq1⟩ : ∃ q : ByteArray, Hid (q = q0 ++ (⟨#[32]⟩ : ByteArray)) ∧ q.size ≤ 2305843009213693955 := ⟨_, rfl, by rw [ByteArray.size_append]; show q0.size + 1 ≤ 2305843009213693955; omega⟩
                obtain ⟨q2, hq2, zq2⟩ : ∃ q : ByteArray, Hid (q = q1 ++ tT) ∧ q.size ≤ 2305843009213694955 := ⟨_, rfl, by rw [ByteArray.size_append]; show q1.size + tT.size ≤ 2305843009213694955; omega⟩
                obtain ⟨q3, hq3, zq3⟩ : ∃ q : ByteArray, Hid (q = q2 ++ (⟨#[32, 58, 32]⟩ : ByteArray)) ∧ q.size ≤ 2305843009213694958 := ⟨_, rfl, by rw [ByteArray.size_append]; show q2.size + 3 ≤ 2305843009213694958; omega⟩
                obtain ⟨q4, hq4, zq4⟩ : ∃ q : ByteArray, Hid (q = q3 ++ tR) ∧ q.size ≤ 2305843009213695958 := ⟨_, rfl, by rw [ByteArray.size_append]; show q3.size + tR.size ≤ 2305843009213695958; omega⟩
                obtain ⟨q5, hq5, zq5⟩ : ∃ q : ByteArray, Hid (q = q4 ++ (⟨#[32, 61, 32]⟩ : ByteArray)) ∧ q.size ≤ 2305843009213695961 := ⟨_, rfl, by rw [ByteArray.size_append]; show q4.size + 3 ≤ 2305843009213695961; omega⟩
                obtain ⟨q6, hq6, zq6⟩ : ∃ q : ByteArray, Hid (q = q5 ++ tV) ∧ q.size ≤ 2305843009213696961 := ⟨_, rfl, by rw [ByteArray.size_append]; show q5.size + tV.size ≤ 2305843009213696961; omega⟩
                have HS3 : Hid (q6.data.toList ++ (rowX (preK i (k + 1)) (r.drop (k + 1)) ++ X) = TOT) := by
                  show _ = _
                  rw [← HQ2.out, HRD.out, hq6.out, hq5.out, hq4.out, hq3.out, hq2.out, hq1.out, hq0.out, HPR, HAX]
                  simp only [list_append]
                  simp
                clear HRD HPR HAX HQ2
                go_wp2
                rw [← HW6.out]
                rw [← hq0.out]
                have S100 : Bk W6.drew wr.heap.size #[.int .i64 xt, .int .i64 xr, .int .i64 xl, .int .i64 xv] := HB6.out
                have K100 : On w0 W6.drew := HO6.out.drew
                refine region_fz (fun W => Bk W wr.heap.size #[.int .i64 xt, .int .i64 xr, .int .i64 xl, .int .i64 xv]) [] 17 (by kernel_rfl) rfl ?_
                refine fz_take 0 (v := ?_) rfl (by kernel_rfl) (by kernel_rfl) (by kernel_rfl) (by kernel_rfl) (fun _ _ _ h => h) rfl ?_ S100 ?_
                rotate_left
                · intro W hW
                  go_simp
                  (try with_reducible rfl)
                simp only [Act.put, List.setIfInBounds_toArray, List.set_cons_zero, List.set_cons_succ]
                refine fz_take 1 (v := .string q1) rfl (by kernel_rfl) (by kernel_rfl) (by kernel_rfl) (by kernel_rfl) (fun _ _ _ h => h) rfl ?_ S100 ?_
                · intro W hW
                  go_simp
                  first
                  | rw [if_neg (by omega), hq1.out]
                  | rw [hq1.out]
                simp only [Act.put, List.setIfInBounds_toArray, List.set_cons_zero, List.set_cons_succ]
                refine fz_take 2 (v := ?_) rfl (by kernel_rfl) (by kernel_rfl) (by kernel_rfl) (by kernel_rfl) (fun _ _ _ h => h) rfl ?_ S100 ?_
                rotate_left
                · intro W hW
                  go_simp
                  (try with_reducible rfl)
                simp only [Act.put, List.setIfInBounds_toArray, List.set_cons_zero, List.set_cons_succ]
                refine fz_take 3 (v := ?_) rfl (by kernel_rfl) (by kernel_rfl) (by kernel_rfl) (by kernel_rfl) (fun _ _ _ h => h) rfl ?_ S100 ?_
                rotate_left
                · intro W hW
                  have c0 := hW.at (i := 0) rfl
                  have ll := hW.lt
                  go_simp
                  (try with_reducible rfl)
                simp only [Act.put, List.setIfInBounds_toArray, List.set_cons_zero, List.set_cons_succ]
                refine fz_take 7 (v := ?_) rfl (by kernel_rfl) (by kernel_rfl) (by kernel_rfl) (by kernel_rfl) (fun _ _ _ h => h) rfl ?_ S100 ?_
                rotate_left
                · intro W hW
                  go_simp
                  (try with_reducible rfl)
                simp only [Act.put, List.setIfInBounds_toArray, List.set_cons_zero, List.set_cons_succ]
                refine fz_take 8 (v := ?_) rfl (by kernel_rfl) (by kernel_rfl) (by kernel_rfl) (by kernel_rfl) (fun _ _ _ h => h) rfl ?_ S100 ?_
                rotate_left
                · intro W hW
                  have c0 := hW.at (i := 1) rfl
                  have ll := hW.lt
                  go_simp
                  (try with_reducible rfl)
                simp only [Act.put, List.setIfInBounds_toArray, List.set_cons_zero, List.set_cons_succ]
                refine fz_take 12 (v := ?_) rfl (by kernel_rfl) (by kernel_rfl) (by kernel_rfl) (by kernel_rfl) (fun _ _ _ h => h) rfl ?_ S100 ?_
                rotate_left
                · intro W hW
                  go_simp
                  (try with_reducible rfl)
                simp only [Act.put, List.setIfInBounds_toArray, List.set_cons_zero, List.set_cons_succ]
                refine fz_take 13 (v := ?_) rfl (by kernel_rfl) (by kernel_rfl) (by kernel_rfl) (by kernel_rfl) (fun _ _ _ h => h) rfl ?_ S100 ?_
                rotate_left
                · intro W hW
                  have c0 := hW.at (i := 3) rfl
                  have ll := hW.lt
                  go_simp
                  (try with_reducible rfl)
                simp only [Act.put, List.setIfInBounds_toArray, List.set_cons_zero, List.set_cons_succ]
                refine fz_one 4 rfl rfl (by kernel_rfl) (fun K hK => ?_)
                go_simp
                refine (hT _).mono ?_
                rintro _ v1 ⟨rfl, k1⟩
                have B1 := Bk.on S100 k1
                have K1 := On.trans K100 k1
                refine hK.out _ _ (fun _ => B1) ?_
                clear hK
                refine fz_take 5 (v := .string q2) rfl (by kernel_rfl) (by kernel_rfl) (by kernel_rfl) (by kernel_rfl) (fun _ _ _ h => h) rfl ?_ B1 ?_
                · intro W hW
                  go_simp
                  first
                  | rw [if_neg (by omega), hq2.out]
                  | rw [hq2.out]
                simp only [Act.put, List.setIfInBounds_toArray, List.set_cons_zero, List.set_cons_succ]
                refine fz_take 6 (v := .string q3) rfl (by kernel_rfl) (by kernel_rfl) (by kernel_rfl) (by kernel_rfl) (fun _ _ _ h => h) rfl ?_ B1 ?_
                · intro W hW
                  go_simp
                  first
                  | rw [if_neg (by omega), hq3.out]
                  | rw [hq3.out]
                simp only [Act.put, List.setIfInBounds_toArray, List.set_cons_zero, List.set_cons_succ]
                refine fz_one 9 rfl rfl (by kernel_rfl) (fun K hK => ?_)
                go_simp
                refine (hR _).mono ?_
                rintro _ v2 ⟨rfl, k2⟩
                have B2 := Bk.on B1 k2
                have K2 := On.trans K1 k2
                refine hK.out _ _ (fun _ => B2) ?_
                clear hK
                refine fz_take 10 (v := .string q4) rfl (by kernel_rfl) (by kernel_rfl) (by kernel_rfl) (by kernel_rfl) (fun _ _ _ h => h) rfl ?_ B2 ?_
                · intro W hW
                  go_simp
                  first
                  | rw [if_neg (by omega), hq4.out]
                  | rw [hq4.out]
                simp only [Act.put, List.setIfInBounds_toArray, List.set_cons_zero, List.set_cons_succ]
                refine fz_take 11 (v := .string q5) rfl (by kernel_rfl) (by kernel_rfl) (by kernel_rfl) (by kernel_rfl) (fun _ _ _ h => h) rfl ?_ B2 ?_
                · intro W hW
                  go_simp
                  first
                  | rw [if_neg (by omega), hq5.out]
                  | rw [hq5.out]
                simp only [Act.put, List.setIfInBounds_toArray, List.set_cons_zero, List.set_cons_succ]
                refine fz_one 14 rfl rfl (by kernel_rfl) (fun K hK => ?_)
                go_simp
                refine (hV _).mono ?_
                rintro _ v3 ⟨rfl, k3⟩
                have B3 := Bk.on B2 k3
                have K3 := On.trans K2 k3
                refine hK.out _ _ (fun _ => B3) ?_
                clear hK
                refine fz_take 15 (v := .string q6) rfl (by kernel_rfl) (by kernel_rfl) (by kernel_rfl) (by kernel_rfl) (fun _ _ _ h => h) rfl ?_ B3 ?_
                · intro W hW
                  go_simp
                  first
                  | rw [if_neg (by omega), hq6.out]
                  | rw [hq6.out]
                simp only [Act.put, List.setIfInBounds_toArray, List.set_cons_zero, List.set_cons_succ]
                refine fz_take 16 (v := ?_) rfl (by kernel_rfl) (by kernel_rfl) (by kernel_rfl) (by kernel_rfl) (fun _ _ _ h => h) rfl ?_ B3 ?_
                rotate_left
                · intro W hW
                  go_simp
                  (try with_reducible rfl)
                simp only [Act.put, List.setIfInBounds_toArray, List.set_cons_zero, List.set_cons_succ]
                refine fz_done (by kernel_rfl) (NoPanic.normal ?_)
                go_wp2
                go_roundg (r.length - (k + 1))
                case measure => omega
                case rel => exact ⟨k + 1, _, hlt2, rfl, by congr 1, rfl, HS3, K3⟩
              · have HAX := hax_mem (by omega)
                have hL := fun W => rloc_is (hlo (by omega)) W
                obtain ⟨tL, htL⟩ : ∃ t : ByteArray, t = locT xl := ⟨_, rfl⟩
                have sL : tL.size ≤ 1000 := by rw [htL]; exact sz_le (sz_loc _)
                rw [← htL] at hL HAX
                clear htL hro hlo hax_mem hax_own hbt
                obtain ⟨q0, hq0, zq0⟩ : ∃ q : ByteArray, Hid (q = S2 ++ (⟨#[32, 124]⟩ : ByteArray)) ∧ q.size ≤ 2305843009213693954 := ⟨_, rfl, by rw [ByteArray.size_append]; show S2.size + 2 ≤ 2305843009213693954; omega⟩
                obtain ⟨q1, hq1, zq1⟩ : ∃ q : ByteArray, Hid (q = q0 ++ (⟨#[32]⟩ : ByteArray)) ∧ q.size ≤ 2305843009213693955 := ⟨_, rfl, by rw [ByteArray.size_append]; show q0.size + 1 ≤ 2305843009213693955; omega⟩
                obtain ⟨q2, hq2, zq2⟩ : ∃ q : ByteArray, Hid (q = q1 ++ tL) ∧ q.size ≤ 2305843009213694955 := ⟨_, rfl, by rw [ByteArray.size_append]; show q1.size + tL.size ≤ 2305843009213694955; omega⟩
                obtain ⟨q3, hq3, zq3⟩ : ∃ q : ByteArray, Hid (q = q2 ++ (⟨#[32, 61, 32]⟩ : ByteArray)) ∧ q.size ≤ 2305843009213694958 := ⟨_, rfl, by rw [ByteArray.size_append]; show q2.size + 3 ≤ 2305843009213694958; omega⟩
                obtain ⟨q4, hq4, zq4⟩ : ∃ q : ByteArray, Hid (q = q3 ++ tV) ∧ q.size ≤ 2305843009213695958 := ⟨_, rfl, by rw [ByteArray.size_append]; show q3.size + tV.size ≤ 2305843009213695958; omega⟩
                have HS3 : Hid (q4.data.toList ++ (rowX (preK i (k + 1)) (r.drop (k + 1)) ++ X) = TOT) := by
                  show _ = _
                  rw [← HQ2.out, HRD.out, hq4.out, hq3.out, hq2.out, hq1.out, hq0.out, HPR, HAX]
                  simp only [list_append]
                  simp
                clear HRD HPR HAX HQ2
                go_wp2
                rw [← HW6.out]
                rw [← hq0.out]
                have S100 : Bk W6.drew wr.heap.size #[.int .i64 xt, .int .i64 xr, .int .i64 xl, .int .i64 xv] := HB6.out
                have K100 : On w0 W6.drew := HO6.out.drew
                refine region_fz (fun W => Bk W wr.heap.size #[.int .i64 xt, .int .i64 xr, .int .i64 xl, .int .i64 xv]) [] 12 (by kernel_rfl) rfl ?_
                refine fz_take 0 (v := ?_) rfl (by kernel_rfl) (by kernel_rfl) (by kernel_rfl) (by kernel_rfl) (fun _ _ _ h => h) rfl ?_ S100 ?_
                rotate_left
                · intro W hW
                  go_simp
                  (try with_reducible rfl)
                simp only [Act.put, List.setIfInBounds_toArray, List.set_cons_zero, List.set_cons_succ]
                refine fz_take 1 (v := .string q1) rfl (by kernel_rfl) (by kernel_rfl) (by kernel_rfl) (by kernel_rfl) (fun _ _ _ h => h) rfl ?_ S100 ?_
                · intro W hW
                  go_simp
                  first
                  | rw [if_neg (by omega), hq1.out]
                  | rw [hq1.out]
                simp only [Act.put, List.setIfInBounds_toArray, List.set_cons_zero, List.set_cons_succ]
                refine fz_take 2 (v := ?_) rfl (by kernel_rfl) (by kernel_rfl) (by kernel_rfl) (by kernel_rfl) (fun _ _ _ h => h) rfl ?_ S100 ?_
                rotate_left
                · intro W hW
                  go_simp
                  (try with_reducible rfl)
                simp only [Act.put, List.setIfInBounds_toArray, List.set_cons_zero, List.set_cons_succ]
                refine fz_take 3 (v := ?_) rfl (by kernel_rfl) (by kernel_rfl) (by kernel_rfl) (by kernel_rfl) (fun _ _ _ h => h) rfl ?_ S100 ?_
                rotate_left
                · intro W hW
                  have c0 := hW.at (i := 2) rfl
                  have ll := hW.lt
                  go_simp
                  (try with_reducible rfl)
                simp only [Act.put, List.setIfInBounds_toArray, List.set_cons_zero, List.set_cons_succ]
                refine fz_take 7 (v := ?_) rfl (by kernel_rfl) (by kernel_rfl) (by kernel_rfl) (by kernel_rfl) (fun _ _ _ h => h) rfl ?_ S100 ?_
                rotate_left
                · intro W hW
                  go_simp
                  (try with_reducible rfl)
                simp only [Act.put, List.setIfInBounds_toArray, List.set_cons_zero, List.set_cons_succ]
                refine fz_take 8 (v := ?_) rfl (by kernel_rfl) (by kernel_rfl) (by kernel_rfl) (by kernel_rfl) (fun _ _ _ h => h) rfl ?_ S100 ?_
                rotate_left
                · intro W hW
                  have c0 := hW.at (i := 3) rfl
                  have ll := hW.lt
                  go_simp
                  (try with_reducible rfl)
                simp only [Act.put, List.setIfInBounds_toArray, List.set_cons_zero, List.set_cons_succ]
                refine fz_one 4 rfl rfl (by kernel_rfl) (fun K hK => ?_)
                go_simp
                refine (hL _).mono ?_
                rintro _ v1 ⟨rfl, k1⟩
                have B1 := Bk.on S100 k1
                have K1 := On.trans K100 k1
                refine hK.out _ _ (fun _ => B1) ?_
                clear hK
                refine fz_take 5 (v := .string q2) rfl (by kernel_rfl) (by kernel_rfl) (by kernel_rfl) (by kernel_rfl) (fun _ _ _ h => h) rfl ?_ B1 ?_
                · intro W hW
                  go_simp
                  first
                  | rw [if_neg (by omega), hq2.out]
                  | rw [hq2.out]
                simp only [Act.put, List.setIfInBounds_toArray, List.set_cons_zero, List.set_cons_succ]
                refine fz_take 6 (v := .string q3) rfl (by kernel_rfl) (by kernel_rfl) (by kernel_rfl) (by kernel_rfl) (fun _ _ _ h => h) rfl ?_ B1 ?_
                · intro W hW
                  go_simp
                  first
                  | rw [if_neg (by omega), hq3.out]
                  | rw [hq3.out]
                simp only [Act.put, List.setIfInBounds_toArray, List.set_cons_zero, List.set_cons_succ]
                refine fz_one 9 rfl rfl (by kernel_rfl) (fun K hK => ?_)
                go_simp
                refine (hV _).mono ?_
                rintro _ v2 ⟨rfl, k2⟩
                have B2 := Bk.on B1 k2
                have K2 := On.trans K1 k2
                refine hK.out _ _ (fun _ => B2) ?_
                clear hK
                refine fz_take 10 (v := .string q4) rfl (by kernel_rfl) (by kernel_rfl) (by kernel_rfl) (by kernel_rfl) (fun _ _ _ h => h) rfl ?_ B2 ?_
                · intro W hW
                  go_simp
                  first
                  | rw [if_neg (by omega), hq4.out]
                  | rw [hq4.out]
                simp only [Act.put, List.setIfInBounds_toArray, List.set_cons_zero, List.set_cons_succ]
                refine fz_take 11 (v := ?_) rfl (by kernel_rfl) (by kernel_rfl) (by kernel_rfl) (by kernel_rfl) (fun _ _ _ h => h) rfl ?_ B2 ?_
                rotate_left
                · intro W hW
                  go_simp
                  (try with_reducible rfl)
                simp only [Act.put, List.setIfInBounds_toArray, List.set_cons_zero, List.set_cons_succ]
                refine fz_done (by kernel_rfl) (NoPanic.normal ?_)
                go_wp2
                go_roundg (r.length - (k + 1))
                case measure => omega
                case rel => exact ⟨k + 1, _, hlt2, rfl, by congr 1, rfl, HS3, K2⟩
            · have HPR : preK i k = [] := by unfold preK preI; rw [if_pos (by omega), if_pos (by omega)]
              by_cases c2 : 0 ≤ xt
              · have HAX := hax_own (by omega)
                have hT := fun W => rnum_is hbt W
                have hR := fun W => rreg_is (hro (by omega)) W
                obtain ⟨tT, htT⟩ : ∃ t : ByteArray, t = numT xt := ⟨_, rfl⟩
                obtain ⟨tR, htR⟩ : ∃ t : ByteArray, t = regT xr := ⟨_, rfl⟩
                have sT : tT.size ≤ 1000 := by rw [htT]; exact sz_le (sz_num hbt)
                have sR : tR.size ≤ 1000 := by rw [htR]; exact sz_le (sz_reg _)
                rw [← htT] at hT HAX
                rw [← htR] at hR HAX
                clear htT htR hro hlo hax_mem hax_own hbt
                obtain ⟨q1, hq1, zq1⟩ : ∃ q : ByteArray, Hid (q = S2 ++ (⟨#[32]⟩ : ByteArray)) ∧ q.size ≤ 2305843009213693953 := ⟨_, rfl, by rw [ByteArray.size_append]; show S2.size + 1 ≤ 2305843009213693953; omega⟩
                obtain ⟨q2, hq2, zq2⟩ : ∃ q : ByteArray, Hid (q = q1 ++ tT) ∧ q.size ≤ 2305843009213694953 := ⟨_, rfl, by rw [ByteArray.size_append]; show q1.size + tT.size ≤ 2305843009213694953; omega⟩
                obtain ⟨q3, hq3, zq3⟩ : ∃ q : ByteArray, Hid (q = q2 ++ (⟨#[32, 58, 32]⟩ : ByteArray)) ∧ q.size ≤ 2305843009213694956 := ⟨_, rfl, by rw [ByteArray.size_append]; show q2.size + 3 ≤ 2305843009213694956; omega⟩
                obtain ⟨q4, hq4, zq4⟩ : ∃ q : ByteArray, Hid (q = q3 ++ tR) ∧ q.size ≤ 2305843009213695956 := ⟨_, rfl, by rw [ByteArray.size_append]; show q3.size + tR.size ≤ 2305843009213695956; omega⟩
                obtain ⟨q5, hq5, zq5⟩ : ∃ q : ByteArray, Hid (q = q4 ++ (⟨#[32, 61, 32]⟩ : ByteArray)) ∧ q.size ≤ 2305843009213695959 := ⟨_, rfl, by rw [ByteArray.size_append]; show q4.size + 3 ≤ 2305843009213695959; omega⟩
                obtain ⟨q6, hq6, zq6⟩ : ∃ q : ByteArray, Hid (q = q5 ++ tV) ∧ q.size ≤ 2305843009213696959 := ⟨_, rfl, by rw [ByteArray.size_append]; show q5.size + tV.size ≤ 2305843009213696959; omega⟩
                have HS3 : Hid (q6.data.toList ++ (rowX (preK i (k + 1)) (r.drop (k + 1)) ++ X) = TOT) := by
                  show _ = _
                  rw [← HQ2.out, HRD.out, hq6.out, hq5.out, hq4.out, hq3.out, hq2.out, hq1.out, HPR, HAX]
                  simp only [list_append]
                  simp
                clear HRD HPR HAX HQ2
                go_wp2
                rw [← HW6.out]
                have S100 : Bk W6.drew wr.heap.size #[.int .i64 xt, .int .i64 xr, .int .i64 xl, .int .i64 xv] := HB6.out
                have K100 : On w0 W6.drew := HO6.out.drew
                refine region_fz (fun W => Bk W wr.heap.size #[.int .i64 xt, .int .i64 xr, .int .i64 xl, .int .i64 xv]) [] 17 (by kernel_rfl) rfl ?_
                refine fz_take 0 (v := ?_) rfl (by kernel_rfl) (by kernel_rfl) (by kernel_rfl) (by kernel_rfl) (fun _ _ _ h => h) rfl ?_ S100 ?_
                rotate_left
                · intro W hW
                  go_simp
                  (try with_reducible rfl)
                simp only [Act.put, List.setIfInBounds_toArray, List.set_cons_zero, List.set_cons_succ]
                refine fz_take 1 (v := .string q1) rfl (by kernel_rfl) (by kernel_rfl) (by kernel_rfl) (by kernel_rfl) (fun _ _ _ h => h) rfl ?_ S100 ?_
                · intro W hW
                  go_simp
                  first
                  | rw [if_neg (by omega), hq1.out]
                  | rw [hq1.out]
                simp only [Act.put, List.setIfInBounds_toArray, List.set_cons_zero, List.set_cons_succ]
                refine fz_take 2 (v := ?_) rfl (by kernel_rfl) (by kernel_rfl) (by kernel_rfl) (by kernel_rfl) (fun _ _ _ h => h) rfl ?_ S100 ?_
                rotate_left
                · intro W hW
                  go_simp
                  (try with_reducible rfl)
                simp only [Act.put, List.setIfInBounds_toArray, List.set_cons_zero, List.set_cons_succ]
                refine fz_take 3 (v := ?_) rfl (by kernel_rfl) (by kernel_rfl) (by kernel_rfl) (by kernel_rfl) (fun _ _ _ h => h) rfl ?_ S100 ?_
                rotate_left
                · intro W hW
                  have c0 := hW.at (i := 0) rfl
                  have ll := hW.lt
                  go_simp
                  (try with_reducible rfl)
                simp only [Act.put, List.setIfInBounds_toArray, List.set_cons_zero, List.set_cons_succ]
                refine fz_take 7 (v := ?_) rfl (by kernel_rfl) (by kernel_rfl) (by kernel_rfl) (by kernel_rfl) (fun _ _ _ h => h) rfl ?_ S100 ?_
                rotate_left
                · intro W hW
                  go_simp
                  (try with_reducible rfl)
                simp only [Act.put, List.setIfInBounds_toArray, List.set_cons_zero, List.set_cons_succ]
                refine fz_take 8 (v := ?_) rfl (by kernel_rfl) (by kernel_rfl) (by kernel_rfl) (by kernel_rfl) (fun _ _ _ h => h) rfl ?_ S100 ?_
                rotate_left
                · intro W hW
                  have c0 := hW.at (i := 1) rfl
                  have ll := hW.lt
                  go_simp
                  (try with_reducible rfl)
                simp only [Act.put, List.setIfInBounds_toArray, List.set_cons_zero, List.set_cons_succ]
                refine fz_take 12 (v := ?_) rfl (by kernel_rfl) (by kernel_rfl) (by kernel_rfl) (by kernel_rfl) (fun _ _ _ h => h) rfl ?_ S100 ?_
                rotate_left
                · intro W hW
                  go_simp
                  (try with_reducible rfl)
                simp only [Act.put, List.setIfInBounds_toArray, List.set_cons_zero, List.set_cons_succ]
                refine fz_take 13 (v := ?_) rfl (by kernel_rfl) (by kernel_rfl) (by kernel_rfl) (by kernel_rfl) (fun _ _ _ h => h) rfl ?_ S100 ?_
                rotate_left
                · intro W hW
                  have c0 := hW.at (i := 3) rfl
                  have ll := hW.lt
                  go_simp
                  (try with_reducible rfl)
                simp only [Act.put, List.setIfInBounds_toArray, List.set_cons_zero, List.set_cons_succ]
                refine fz_one 4 rfl rfl (by kernel_rfl) (fun K hK => ?_)
                go_simp
                refine (hT _).mono ?_
                rintro _ v1 ⟨rfl, k1⟩
                have B1 := Bk.on S100 k1
                have K1 := On.trans K100 k1
                refine hK.out _ _ (fun _ => B1) ?_
                clear hK
                refine fz_take 5 (v := .string q2) rfl (by kernel_rfl) (by kernel_rfl) (by kernel_rfl) (by kernel_rfl) (fun _ _ _ h => h) rfl ?_ B1 ?_
                · intro W hW
                  go_simp
                  first
                  | rw [if_neg (by omega), hq2.out]
                  | rw [hq2.out]
                simp only [Act.put, List.setIfInBounds_toArray, List.set_cons_zero, List.set_cons_succ]
                refine fz_take 6 (v := .string q3) rfl (by kernel_rfl) (by kernel_rfl) (by kernel_rfl) (by kernel_rfl) (fun _ _ _ h => h) rfl ?_ B1 ?_
                · intro W hW
                  go_simp
                  first
                  | rw [if_neg (by omega), hq3.out]
                  | rw [hq3.out]
                simp only [Act.put, List.setIfInBounds_toArray, List.set_cons_zero, List.set_cons_succ]
                refine fz_one 9 rfl rfl (by kernel_rfl) (fun K hK => ?_)
                go_simp
                refine (hR _).mono ?_
                rintro _ v2 ⟨rfl, k2⟩
                have B2 := Bk.on B1 k2
                have K2 := On.trans K1 k2
                refine hK.out _ _ (fun _ => B2) ?_
                clear hK
                refine fz_take 10 (v := .string q4) rfl (by kernel_rfl) (by kernel_rfl) (by kernel_rfl) (by kernel_rfl) (fun _ _ _ h => h) rfl ?_ B2 ?_
                · intro W hW
                  go_simp
                  first
                  | rw [if_neg (by omega), hq4.out]
                  | rw [hq4.out]
                simp only [Act.put, List.setIfInBounds_toArray, List.set_cons_zero, List.set_cons_succ]
                refine fz_take 11 (v := .string q5) rfl (by kernel_rfl) (by kernel_rfl) (by kernel_rfl) (by kernel_rfl) (fun _ _ _ h => h) rfl ?_ B2 ?_
                · intro W hW
                  go_simp
                  first
                  | rw [if_neg (by omega), hq5.out]
                  | rw [hq5.out]
                simp only [Act.put, List.setIfInBounds_toArray, List.set_cons_zero, List.set_cons_succ]
                refine fz_one 14 rfl rfl (by kernel_rfl) (fun K hK => ?_)
                go_simp
                refine (hV _).mono ?_
                rintro _ v3 ⟨rfl, k3⟩
                have B3 := Bk.on B2 k3
                have K3 := On.trans K2 k3
                refine hK.out _ _ (fun _ => B3) ?_
                clear hK
                refine fz_take 15 (v := .string q6) rfl (by kernel_rfl) (by kernel_rfl) (by kernel_rfl) (by kernel_rfl) (fun _ _ _ h => h) rfl ?_ B3 ?_
                · intro W hW
                  go_simp
                  first
                  | rw [if_neg (by omega), hq6.out]
                  | rw [hq6.out]
                simp only [Act.put, List.setIfInBounds_toArray, List.set_cons_zero, List.set_cons_succ]
                refine fz_take 16 (v := ?_) rfl (by kernel_rfl) (by kernel_rfl) (by kernel_rfl) (by kernel_rfl) (fun _ _ _ h => h) rfl ?_ B3 ?_
                rotate_left
                · intro W hW
                  go_simp
                  (try with_reducible rfl)
                simp only [Act.put, List.setIfInBounds_toArray, List.set_cons_zero, List.set_cons_succ]
                refine fz_done (by kernel_rfl) (NoPanic.normal ?_)
                go_wp2
                go_roundg (r.length - (k + 1))
                case measure => omega
                case rel => exact ⟨k + 1, _, hlt2, rfl, by congr 1, rfl, HS3, K3⟩
              · have HAX := hax_mem (by omega)
                have hL := fun W => rloc_is (hlo (by omega)) W
                obtain ⟨tL, htL⟩ : ∃ t : ByteArray, t = locT xl := ⟨_, rfl⟩
                have sL : tL.size ≤ 1000 := by rw [htL]; exact sz_le (sz_loc _)
                rw [← htL] at hL HAX
                clear htL hro hlo hax_mem hax_own hbt
                obtain ⟨q1, hq1, zq1⟩ : ∃ q : ByteArray, Hid (q = S2 ++ (⟨#[32]⟩ : ByteArray)) ∧ q.size ≤ 2305843009213693953 := ⟨_, rfl, by rw [ByteArray.size_append]; show S2.size + 1 ≤ 2305843009213693953; omega⟩
                obtain ⟨q2, hq2, zq2⟩ : ∃ q : ByteArray, Hid (q = q1 ++ tL) ∧ q.size ≤ 2305843009213694953 := ⟨_, rfl, by rw [ByteArray.size_append]; show q1.size + tL.size ≤ 2305843009213694953; omega⟩
                obtain ⟨q3, hq3, zq3⟩ : ∃ q : ByteArray, Hid (q = q2 ++ (⟨#[32, 61, 32]⟩ : ByteArray)) ∧ q.size ≤ 2305843009213694956 := ⟨_, rfl, by rw [ByteArray.size_append]; show q2.size + 3 ≤ 2305843009213694956; omega⟩
                obtain ⟨q4, hq4, zq4⟩ : ∃ q : ByteArray, Hid (q = q3 ++ tV) ∧ q.size ≤ 2305843009213695956 := ⟨_, rfl, by rw [ByteArray.size_append]; show q3.size + tV.size ≤ 2305843009213695956; omega⟩
                have HS3 : Hid (q4.data.toList ++ (rowX (preK i (k + 1)) (r.drop (k + 1)) ++ X) = TOT) := by
                  show _ = _
                  rw [← HQ2.out, HRD.out, hq4.out, hq3.out, hq2.out, hq1.out, HPR, HAX]
                  simp only [list_append]
                  simp
                clear HRD HPR HAX HQ2
                go_wp2
                rw [← HW6.out]
                have S100 : Bk W6.drew wr.heap.size #[.int .i64 xt, .int .i64 xr, .int .i64 xl, .int .i64 xv] := HB6.out
                have K100 : On w0 W6.drew := HO6.out.drew
                refine region_fz (fun W => Bk W wr.heap.size #[.int .i64 xt, .int .i64 xr, .int .i64 xl, .int .i64 xv]) [] 12 (by kernel_rfl) rfl ?_
                refine fz_take 0 (v := ?_) rfl (by kernel_rfl) (by kernel_rfl) (by kernel_rfl) (by kernel_rfl) (fun _ _ _ h => h) rfl ?_ S100 ?_
                rotate_left
                · intro W hW
                  go_simp
                  (try with_reducible rfl)
                simp only [Act.put, List.setIfInBounds_toArray, List.set_cons_zero, List.set_cons_succ]
                refine fz_take 1 (v := .string q1) rfl (by kernel_rfl) (by kernel_rfl) (by kernel_rfl) (by kernel_rfl) (fun _ _ _ h => h) rfl ?_ S100 ?_
                · intro W hW
                  go_simp
                  first
                  | rw [if_neg (by omega), hq1.out]
                  | rw [hq1.out]
                simp only [Act.put, List.setIfInBounds_toArray, List.set_cons_zero, List.set_cons_succ]
                refine fz_take 2 (v := ?_) rfl (by kernel_rfl) (by kernel_rfl) (by kernel_rfl) (by kernel_rfl) (fun _ _ _ h => h) rfl ?_ S100 ?_
                rotate_left
                · intro W hW
                  go_simp
                  (try with_reducible rfl)
                simp only [Act.put, List.setIfInBounds_toArray, List.set_cons_zero, List.set_cons_succ]
                refine fz_take 3 (v := ?_) rfl (by kernel_rfl) (by kernel_rfl) (by kernel_rfl) (by kernel_rfl) (fun _ _ _ h => h) rfl ?_ S100 ?_
                rotate_left
                · intro W hW
                  have c0 := hW.at (i := 2) rfl
                  have ll := hW.lt
                  go_simp
                  (try with_reducible rfl)
                simp only [Act.put, List.setIfInBounds_toArray, List.set_cons_zero, List.set_cons_succ]
                refine fz_take 7 (v := ?_) rfl (by kernel_rfl) (by kernel_rfl) (by kernel_rfl) (by kernel_rfl) (fun _ _ _ h => h) rfl ?_ S100 ?_
                rotate_left
                · intro W hW
                  go_simp
                  (try with_reducible rfl)
                simp only [Act.put, List.setIfInBounds_toArray, List.set_cons_zero, List.set_cons_succ]
                refine fz_take 8 (v := ?_) rfl (by kernel_rfl) (by kernel_rfl) (by kernel_rfl) (by kernel_rfl) (fun _ _ _ h => h) rfl ?_ S100 ?_
                rotate_left
                · intro W hW
                  have c0 := hW.at (i := 3) rfl
                  have ll := hW.lt
                  go_simp
                  (try with_reducible rfl)
                simp only [Act.put, List.setIfInBounds_toArray, List.set_cons_zero, List.set_cons_succ]
                refine fz_one 4 rfl rfl (by kernel_rfl) (fun K hK => ?_)
                go_simp
                refine (hL _).mono ?_
                rintro _ v1 ⟨rfl, k1⟩
                have B1 := Bk.on S100 k1
                have K1 := On.trans K100 k1
                refine hK.out _ _ (fun _ => B1) ?_
                clear hK
                refine fz_take 5 (v := .string q2) rfl (by kernel_rfl) (by kernel_rfl) (by kernel_rfl) (by kernel_rfl) (fun _ _ _ h => h) rfl ?_ B1 ?_
                · intro W hW
                  go_simp
                  first
                  | rw [if_neg (by omega), hq2.out]
                  | rw [hq2.out]
                simp only [Act.put, List.setIfInBounds_toArray, List.set_cons_zero, List.set_cons_succ]
                refine fz_take 6 (v := .string q3) rfl (by kernel_rfl) (by kernel_rfl) (by kernel_rfl) (by kernel_rfl) (fun _ _ _ h => h) rfl ?_ B1 ?_
                · intro W hW
                  go_simp
                  first
                  | rw [if_neg (by omega), hq3.out]
                  | rw [hq3.out]
                simp only [Act.put, List.setIfInBounds_toArray, List.set_cons_zero, List.set_cons_succ]
                refine fz_one 9 rfl rfl (by kernel_rfl) (fun K hK => ?_)
                go_simp
                refine (hV _).mono ?_
                rintro _ v2 ⟨rfl, k2⟩
                have B2 := Bk.on B1 k2
                have K2 := On.trans K1 k2
                refine hK.out _ _ (fun _ => B2) ?_
                clear hK
                refine fz_take 10 (v := .string q4) rfl (by kernel_rfl) (by kernel_rfl) (by kernel_rfl) (by kernel_rfl) (fun _ _ _ h => h) rfl ?_ B2 ?_
                · intro W hW
                  go_simp
                  first
                  | rw [if_neg (by omega), hq4.out]
                  | rw [hq4.out]
                simp only [Act.put, List.setIfInBounds_toArray, List.set_cons_zero, List.set_cons_succ]
                refine fz_take 11 (v := ?_) rfl (by kernel_rfl) (by kernel_rfl) (by kernel_rfl) (by kernel_rfl) (fun _ _ _ h => h) rfl ?_ B2 ?_
                rotate_left
                · intro W hW
                  go_simp
                  (try with_reducible rfl)
                simp only [Act.put, List.setIfInBounds_toArray, List.set_cons_zero, List.set_cons_succ]
                refine fz_done (by kernel_rfl) (NoPanic.normal ?_)
                go_wp2
                go_roundg (r.length - (k + 1))
                case measure => omega
                case rel => exact ⟨k + 1, _, hlt2, rfl, by congr 1, rfl, HS3, K2⟩
        · obtain rfl : k = r.length := by omega
          have HS4 : Hid (S2.data.toList ++ (anyX (preI (i + 1)) (LL.drop (i + 1)) ++ [32, 59]) = TOT) := by
            show _ = _
            rw [← HQ2.out, HX.out, List.drop_length]
            rfl
          clear HQ2 KO BR
          go_wp2
          go_roundg (LL.length - (i + 1))
          case measure => omega
          case rel => exact ⟨i + 1, _, hlt, rfl, by congr 1, rfl, HS4, HO2⟩
    · obtain rfl : i = LL.length := by omega
      have HF : Hid ((S ++ ⟨#[32, 59]⟩ : ByteArray) = ⟨TOT.toArray⟩) := by
        show _ = _
        refine bytes_ext ?_
        rw [list_append, ← HQ.out, List.drop_length]
        simp [anyX]
      clear HQ
      go_wp2
      go_ret
      exact ⟨by rw [← HF.out]; rfl, HK0.out.trans HO.out⟩
set_option maxHeartbeats 8000000 in
set_option maxRecDepth 8000 in
theorem rcond_2 (LL : List (List AtomT)) (a : Option Addr) (cap : Nat) (w : World) (h : Rd2 atomC 4 w (.slice a LL.length cap) LL) (hO : ∀ W, On w W → Calls Tryz.prog 66 #[.agg #[.int .i64 2, .slice a LL.length cap]] W fun e w' => e = .returned (.bool true) ∧ On W w') (hok : ∀ r ∈ LL, ∀ x ∈ r, atomOk x = true ∧ B64 x.t ∧ B64 x.v) (TOT : List UInt8) (hTl : TOT.length ≤ 2305843009213693952) (hTT : (⟨#[102, 111, 114, 97, 108, 108]⟩ : ByteArray).data.toList ++ (anyX [] LL ++ [32, 59]) = TOT) :
    Calls Tryz.prog 27 #[.agg #[.int .i64 2, .slice a LL.length cap]] w fun e w' => e = .returned (.string ⟨TOT.toArray⟩) ∧ On w w' := by
  have k0 : ∀ T, On w (w.alloc T) := fun T => (On.refl w).alloc T
  have bk : ∀ cs T, Bk (w.alloc (.cells cs T)) w.heap.size cs := fun cs T => Bk.new w cs T
  obtain ⟨_, _, _, _, hm⟩ := h.slice
  have HR2 : Hid (Rd2 atomC 4 w (.slice a LL.length cap) LL) := h
  have HOK : Hid (∀ r ∈ LL, ∀ x ∈ r, atomOk x = true ∧ B64 x.t ∧ B64 x.v) := hok
  have HS0 : Hid ((⟨#[102, 111, 114, 97, 108, 108]⟩ : ByteArray).data.toList ++ (anyX (preI 0) (LL.drop 0) ++ [32, 59]) = TOT) := hTT
  clear h hok hTT
  go_enter Tryz.func27, Tryz.ntmps27
  go_wp2_with fail
  refine (hO _ (k0 _)).mono ?_
  rintro _ w0 ⟨rfl, k1⟩
  have B0 := (bk _ _).on k1
  have HB0 : Hid (Bk w0 w.heap.size #[.int .i64 2, .slice a LL.length cap]) := B0
  have HK0 : Hid (On w w0) := (k0 _).trans k1
  have x0 := B0.at (i := 0) rfl
  have xL := B0.lt
  clear k1 bk k0 hO B0
  go_wp2
  clear x0 xL
  go_loopg [3, 4] LL.length (fun gg s3 s4 wr => ∃ (i : Nat) (S : ByteArray), i ≤ LL.length ∧ gg = LL.length - i ∧ s4 = .int .i64 i ∧ s3 = .string S ∧ Hid (S.data.toList ++ (anyX (preI i) (LL.drop i) ++ [32, 59]) = TOT) ∧ Hid (On w0 wr))
  case atStart => exact ⟨0, _, Nat.zero_le _, rfl, rfl, rfl, HS0, On.refl w0⟩
  case round =>
    clear HS0
    obtain ⟨i, S, hi, hk, rfl, rfl, HQ, HO⟩ := hrel
    have hSs := str_len HQ.out hTl
    have BR := HB0.out.on HO.out
    have x1 := BR.at (i := 1) rfl
    have xL := BR.lt
    rcases Nat.lt_or_ge i LL.length with hlt | hge
    · obtain ⟨r, hL⟩ : ∃ r, LL[i]? = some r := ⟨_, List.getElem?_eq_getElem hlt⟩
      have HLm : Hid (r ∈ LL) := List.mem_of_getElem? hL
      obtain ⟨g2, off2, rfl, hg2, ax, cx, hcl, hLl, hLr⟩ := HR2.out.row hL
      have HLr : Hid (Rd atomC 4 w (.slice ax r.length cx) r) := hLr
      have HG2 : Hid (g2 < w.heap.size) := hg2
      have HCL : Hid (w.cell? ⟨g2, off2 + i, none⟩ = some (.slice ax r.length cx)) := hcl
      obtain ⟨X, hX⟩ : ∃ X, X = anyX (preI (i + 1)) (LL.drop (i + 1)) ++ [32, 59] := ⟨_, rfl⟩
      have HX : Hid (X = anyX (preI (i + 1)) (LL.drop (i + 1)) ++ [32, 59]) := hX
      have HS1 : Hid (S.data.toList ++ (rowX (preK i 0) (r.drop 0) ++ X) = TOT) := by
        show _ = _
        rw [← HQ.out, any_drop hL, hX, List.append_assoc]
        rfl
      clear hX hL hLr hcl hg2 HQ
      go_wp2
      go_loopg [3, 5] r.length (fun gg s3 s5 wr => ∃ (k : Nat) (S : ByteArray), k ≤ r.length ∧ gg = r.length - k ∧ s5 = .int .i64 k ∧ s3 = .string S ∧ Hid (S.data.toList ++ (rowX (preK i k) (r.drop k) ++ X) = TOT) ∧ Hid (On w0 wr))
      case atStart => exact ⟨0, _, Nat.zero_le _, rfl, rfl, rfl, HS1, HO⟩
      case round =>
        clear HS1 HO x1 xL BR hSs
        obtain ⟨k, S2, hk1, hk2, rfl, rfl, HQ2, HO2⟩ := hrel
        have hSs := str_len HQ2.out hTl
        have BR := HB0.out.on HO2.out
        have x1 := BR.at (i := 1) rfl
        have xL := BR.lt
        have KO : On w wr := HK0.out.trans HO2.out
        have hg2 : g2 < wr.heap.size := Nat.lt_of_lt_of_le HG2.out KO.size
        have hcl : wr.cell? ⟨g2, off2 + i, none⟩ = some (.slice ax r.length cx) := (KO.cell (p := ⟨g2, off2 + i, none⟩) HG2.out).trans HCL.out
        rcases Nat.lt_or_ge k r.length with hlt2 | hge2
        · obtain ⟨x, hx⟩ : ∃ x, r[k]? = some x := ⟨_, List.getElem?_eq_getElem hlt2⟩
          obtain ⟨ax', cx', hv, _, _, hrr⟩ := HLr.out
          simp only [Value.slice.injEq] at hv
          obtain ⟨rfl, _, rfl⟩ := hv
          obtain ⟨g, off, rfl, hg, hcell⟩ := hrr (by omega)
          have y0 : wr.cell? ⟨g, off + k * 4, none⟩ = _ := (KO.cell (p := ⟨g, off + k * 4, none⟩) hg).trans (hcell k x 0 _ hx rfl)
          have y1 : wr.cell? ⟨g, off + k * 4 + 1, none⟩ = _ := (KO.cell (p := ⟨g, off + k * 4 + 1, none⟩) hg).trans (hcell k x 1 _ hx rfl)
          have y2 : wr.cell? ⟨g, off + k * 4 + 2, none⟩ = _ := (KO.cell (p := ⟨g, off + k * 4 + 2, none⟩) hg).trans (hcell k x 2 _ hx rfl)
          have y3 : wr.cell? ⟨g, off + k * 4 + 3, none⟩ = _ := (KO.cell (p := ⟨g, off + k * 4 + 3, none⟩) hg).trans (hcell k x 3 _ hx rfl)
          have hg' := Nat.lt_of_lt_of_le hg KO.size
          obtain ⟨hao, hbt, hbv⟩ := HOK.out r HLm.out x (List.mem_of_getElem? hx)
          have HRD : Hid (rowX (preK i k) (r.drop k) = preK i k ++ (atomX x ++ rowX (preK i (k + 1)) (r.drop (k + 1)))) := row_drop i hx
          have hax_own : ¬ x.t < 0 → atomX x = 32 :: (numT x.t).data.toList ++ [32, 58, 32] ++ (regT x.r).data.toList ++ [32, 61, 32] ++ (numT x.v).data.toList := fun e => by unfold atomX; rw [if_neg e]
          have hax_mem : x.t < 0 → atomX x = 32 :: (locT x.l).data.toList ++ [32, 61, 32] ++ (numT x.v).data.toList := fun e => by unfold atomX; rw [if_pos e]
          have hro : ¬ x.t < 0 → regOk x.r = true := fun e => by
            unfold atomOk at hao
            have : (x.t == -1) = false := by rw [beq_eq_false_iff_ne]; omega
            rw [this] at hao
            simp only [Bool.false_eq_true, if_false, Bool.and_eq_true] at hao
            exact hao.2
          have hlo : x.t < 0 → locOk x.l = true := fun e => by
            unfold atomOk at hao
            by_cases e1 : (x.t == -1) = true
            · rw [e1] at hao
              simp only [if_true, Bool.and_eq_true] at hao
              exact hao.2
            · rw [Bool.not_eq_true] at e1
              rw [e1] at hao
              simp only [Bool.false_eq_true, if_false, Bool.and_eq_true, decide_eq_true_eq] at hao
              omega
          generalize atomX x = AX at HRD hax_own hax_mem
          obtain ⟨xt, xr, xl, xv⟩ := x
          simp only at y0 y1 y2 y3 hax_own hax_mem hro hlo hbt hbv
          have hV := fun W => rnum_is hbv W
          obtain ⟨tV, htV⟩ : ∃ t : ByteArray, t = numT xv := ⟨_, rfl⟩
          have sV : tV.size ≤ 1000 := by rw [htV]; exact sz_le (sz_num hbv)
          rw [← htV] at hV hax_own hax_mem
          obtain ⟨W6, hW6⟩ : ∃ W6, W6 = wr.alloc (.cells #[.int .i64 xt, .int .i64 xr, .int .i64 xl, .int .i64 xv] 58) := ⟨_, rfl⟩
          have HB6 : Hid (Bk W6 wr.heap.size #[.int .i64 xt, .int .i64 xr, .int .i64 xl, .int .i64 xv]) := by show Bk _ _ _; rw [hW6]; exact Bk.new wr _ _
          have HO6 : Hid (On w0 W6) := by show On _ _; rw [hW6]; exact HO2.out.alloc _
          have HW6 : Hid (W6 = _) := hW6
          clear hcell hrr hx KO BR hao htV hbv hW6 HO2
          by_cases c1 : 0 < k
          · have HPR : preK i k = [32, 38] := by unfold preK; rw [if_neg (by omega)]
            by_cases c2 : 0 ≤ xt
            · have HAX := hax_own (by omega)
              have hT := fun W => rnum_is hbt W
              have hR := fun W => rreg_is (hro (by omega)) W
              obtain ⟨tT, htT⟩ : ∃ t : ByteArray, t = numT xt := ⟨_, rfl⟩
              obtain ⟨tR, htR⟩ : ∃ t : ByteArray, t = regT xr := ⟨_, rfl⟩
              have sT : tT.size ≤ 1000 := by rw [htT]; exact sz_le (sz_num hbt)
              have sR : tR.size ≤ 1000 := by rw [htR]; exact sz_le (sz_reg _)
              rw [← htT] at hT HAX
              rw [← htR] at hR HAX
              clear htT htR hro hlo hax_mem hax_own hbt
              obtain ⟨q0, hq0, zq0⟩ : ∃ q : ByteArray, Hid (q = S2 ++ (⟨#[32, 38]⟩ : ByteArray)) ∧ q.size ≤ 2305843009213693954 := ⟨_, rfl, by rw [ByteArray.size_append]; show S2.size + 2 ≤ 2305843009213693954; omega⟩
              obtain ⟨q1, hq1, zq1⟩ : ∃ q : ByteArray, Hid (q = q0 ++ (⟨#[32]⟩ : ByteArray)) ∧ q.size ≤ 2305843009213693955 := ⟨_, rfl, by rw [ByteArray.size_append]; show q0.size + 1 ≤ 2305843009213693955; omega⟩
              obtain ⟨q2, hq2, zq2⟩ : ∃ q : ByteArray, Hid (q = q1 ++ tT) ∧ q.size ≤ 2305843009213694955 := ⟨_, rfl, by rw [ByteArray.size_append]; show q1.size + tT.size ≤ 2305843009213694955; omega⟩
              obtain ⟨q3, hq3, zq3⟩ : ∃ q : ByteArray, Hid (q = q2 ++ (⟨#[32, 58, 32]⟩ : ByteArray)) ∧ q.size ≤ 2305843009213694958 := ⟨_, rfl, by rw [ByteArray.size_append]; show q2.size + 3 ≤ 2305843009213694958; omega⟩
              obtain ⟨q4, hq4, zq4⟩ : ∃ q : ByteArray, Hid (q = q3 ++ tR) ∧ q.size ≤ 2305843009213695958 := ⟨_, rfl, by rw [ByteArray.size_append]; show q3.size + tR.size ≤ 2305843009213695958; omega⟩
              obtain ⟨q5, hq5, zq5⟩ : ∃ q : ByteArray, Hid (q = q4 ++ (⟨#[32, 61, 32]⟩ : ByteArray)) ∧ q.size ≤ 2305843009213695961 := ⟨_, rfl, by rw [ByteArray.size_append]; show q4.size + 3 ≤ 2305843009213695961; omega⟩
              obtain ⟨q6, hq6, zq6⟩ : ∃ q : ByteArray, Hid (q = q5 ++ tV) ∧ q.size ≤ 2305843009213696961 := ⟨_, rfl, by rw [ByteArray.size_append]; show q5.size + tV.size ≤ 2305843009213696961; omega⟩
              have HS3 : Hid (q6.data.toList ++ (rowX (preK i (k + 1)) (r.drop (k + 1)) ++ X) = TOT) := by
                show _ = _
                rw [← HQ2.out, HRD.out, hq6.out, hq5.out, hq4.out, hq3.out, hq2.out, hq1.out, hq0.out, HPR, HAX]
                simp only [list_append]
                simp
              clear HRD HPR HAX HQ2
              go_wp2
              rw [← HW6.out]
              rw [← hq0.out]
              have S100 : Bk W6.drew wr.heap.size #[.int .i64 xt, .int .i64 xr, .int .i64 xl, .int .i64 xv] := HB6.out
              have K100 : On w0 W6.drew := HO6.out.drew
              refine region_fz (fun W => Bk W wr.heap.size #[.int .i64 xt, .int .i64 xr, .int .i64 xl, .int .i64 xv]) [] 17 (by kernel_rfl) rfl ?_
              refine fz_take 0 (v := ?_) rfl (by kernel_rfl) (by kernel_rfl) (by kernel_rfl) (by kernel_rfl) (fun _ _ _ h => h) rfl ?_ S100 ?_
              rotate_left
              · intro W hW
                go_simp
                (try with_reducible rfl)
              simp only [Act.put, List.setIfInBounds_toArray, List.set_cons_zero, List.set_cons_succ]
              refine fz_take 1 (v := .string q1) rfl (by kernel_rfl) (by kernel_rfl) (by kernel_rfl) (by kernel_rfl) (fun _ _ _ h => h) rfl ?_ S100 ?_
              · intro W hW
                go_simp
                first
                | rw [if_neg (by omega), hq1.out]
                | rw [hq1.out]
              simp only [Act.put, List.setIfInBounds_toArray, List.set_cons_zero, List.set_cons_succ]
              refine fz_take 2 (v := ?_) rfl (by kernel_rfl) (by kernel_rfl) (by kernel_rfl) (by kernel_rfl) (fun _ _ _ h => h) rfl ?_ S100 ?_
              rotate_left
              · intro W hW
                go_simp
                (try with_reducible rfl)
              simp only [Act.put, List.setIfInBounds_toArray, List.set_cons_zero, List.set_cons_succ]
              refine fz_take 3 (v := ?_) rfl (by kernel_rfl) (by kernel_rfl) (by kernel_rfl) (by kernel_rfl) (fun _ _ _ h => h) rfl ?_ S100 ?_
              rotate_left
              · intro W hW
                have c0 := hW.at (i := 0) rfl
                have ll := hW.lt
                go_simp
                (try with_reducible rfl)
              simp only [Act.put, List.setIfInBounds_toArray, List.set_cons_zero, List.set_cons_succ]
              refine fz_take 7 (v := ?_) rfl (by kernel_rfl) (by kernel_rfl) (by kernel_rfl) (by kernel_rfl) (fun _ _ _ h => h) rfl ?_ S100 ?_
              rotate_left
              · intro W hW
                go_simp
                (try with_reducible rfl)
              simp only [Act.put, List.setIfInBounds_toArray, List.set_cons_zero, List.set_cons_succ]
              refine fz_take 8 (v := ?_) rfl (by kernel_rfl) (by kernel_rfl) (by kernel_rfl) (by kernel_rfl) (fun _ _ _ h => h) rfl ?_ S100 ?_
              rotate_left
              · intro W hW
                have c0 := hW.at (i := 1) rfl
                have ll := hW.lt
                go_simp
                (try with_reducible rfl)
              simp only [Act.put, List.setIfInBounds_toArray, List.set_cons_zero, List.set_cons_succ]
              refine fz_take 12 (v := ?_) rfl (by kernel_rfl) (by kernel_rfl) (by kernel_rfl) (by kernel_rfl) (fun _ _ _ h => h) rfl ?_ S100 ?_
              rotate_left
              · intro W hW
                go_simp
                (try with_reducible rfl)
              simp only [Act.put, List.setIfInBounds_toArray, List.set_cons_zero, List.set_cons_succ]
              refine fz_take 13 (v := ?_) rfl (by kernel_rfl) (by kernel_rfl) (by kernel_rfl) (by kernel_rfl) (fun _ _ _ h => h) rfl ?_ S100 ?_
              rotate_left
              · intro W hW
                have c0 := hW.at (i := 3) rfl
                have ll := hW.lt
                go_simp
                (try with_reducible rfl)
              simp only [Act.put, List.setIfInBounds_toArray, List.set_cons_zero, List.set_cons_succ]
              refine fz_one 4 rfl rfl (by kernel_rfl) (fun K hK => ?_)
              go_simp
              refine (hT _).mono ?_
              rintro _ v1 ⟨rfl, k1⟩
              have B1 := Bk.on S100 k1
              have K1 := On.trans K100 k1
              refine hK.out _ _ (fun _ => B1) ?_
              clear hK
              refine fz_take 5 (v := .string q2) rfl (by kernel_rfl) (by kernel_rfl) (by kernel_rfl) (by kernel_rfl) (fun _ _ _ h => h) rfl ?_ B1 ?_
              · intro W hW
                go_simp
                first
                | rw [if_neg (by omega), hq2.out]
                | rw [hq2.out]
              simp only [Act.put, List.setIfInBounds_toArray, List.set_cons_zero, List.set_cons_succ]
              refine fz_take 6 (v := .string q3) rfl (by kernel_rfl) (by kernel_rfl) (by kernel_rfl) (by kernel_rfl) (fun _ _ _ h => h) rfl ?_ B1 ?_
              · intro W hW
                go_simp
                first
                | rw [if_neg (by omega), hq3.out]
                | rw [hq3.out]
              simp only [Act.put, List.setIfInBounds_toArray, List.set_cons_zero, List.set_cons_succ]
              refine fz_one 9 rfl rfl (by kernel_rfl) (fun K hK => ?_)
              go_simp
              refine (hR _).mono ?_
              rintro _ v2 ⟨rfl, k2⟩
              have B2 := Bk.on B1 k2
              have K2 := On.trans K1 k2
              refine hK.out _ _ (fun _ => B2) ?_
              clear hK
              refine fz_take 10 (v := .string q4) rfl (by kernel_rfl) (by kernel_rfl) (by kernel_rfl) (by kernel_rfl) (fun _ _ _ h => h) rfl ?_ B2 ?_
              · intro W hW
                go_simp
                first
                | rw [if_neg (by omega), hq4.out]
                | rw [hq4.out]
              simp only [Act.put, List.setIfInBounds_toArray, List.set_cons_zero, List.set_cons_succ]
              refine fz_take 11 (v := .string q5) rfl (by kernel_rfl) (by kernel_rfl) (by kernel_rfl) (by kernel_rfl) (fun _ _ _ h => h) rfl ?_ B2 ?_
              · intro W hW
                go_simp
                first
                | rw [if_neg (by omega), hq5.out]
                | rw [hq5.out]
              simp only [Act.put, List.setIfInBounds_toArray, List.set_cons_zero, List.set_cons_succ]
              refine fz_one 14 rfl rfl (by kernel_rfl) (fun K hK => ?_)
              go_simp
              refine (hV _).mono ?_
              rintro _ v3 ⟨rfl, k3⟩
              have B3 := Bk.on B2 k3
              have K3 := On.trans K2 k3
              refine hK.out _ _ (fun _ => B3) ?_
              clear hK
              refine fz_take 15 (v := .string q6) rfl (by kernel_rfl) (by kernel_rfl) (by kernel_rfl) (by kernel_rfl) (fun _ _ _ h => h) rfl ?_ B3 ?_
              · intro W hW
                go_simp
                first
                | rw [if_neg (by omega), hq6.out]
                | rw [hq6.out]
              simp only [Act.put, List.setIfInBounds_toArray, List.set_cons_zero, List.set_cons_succ]
              refine fz_take 16 (v := ?_) rfl (by kernel_rfl) (by kernel_rfl) (by kernel_rfl) (by kernel_rfl) (fun _ _ _ h => h) rfl ?_ B3 ?_
              rotate_left
              · intro W hW
                go_simp
                (try with_reducible rfl)
              simp only [Act.put, List.setIfInBounds_toArray, List.set_cons_zero, List.set_cons_succ]
              refine fz_done (by kernel_rfl) (NoPanic.normal ?_)
              go_wp2
              go_roundg (r.length - (k + 1))
              case measure => omega
              case rel => exact ⟨k + 1, _, hlt2, rfl, by congr 1, rfl, HS3, K3⟩
            · have HAX := hax_mem (by omega)
              have hL := fun W => rloc_is (hlo (by omega)) W
              obtain ⟨tL, htL⟩ : ∃ t : ByteArray, t = locT xl := ⟨_, rfl⟩
              have sL : tL.size ≤ 1000 := by rw [htL]; exact sz_le (sz_loc _)
              rw [← htL] at hL HAX
              clear htL hro hlo hax_mem hax_own hbt
              obtain ⟨q0, hq0, zq0⟩ : ∃ q : ByteArray, Hid (q = S2 ++ (⟨#[32, 38]⟩ : ByteArray)) ∧ q.size ≤ 2305843009213693954 := ⟨_, rfl, by rw [ByteArray.size_append]; show S2.size + 2 ≤ 2305843009213693954; omega⟩
              obtain ⟨q1, hq1, zq1⟩ : ∃ q : ByteArray, Hid (q = q0 ++ (⟨#[32]⟩ : ByteArray)) ∧ q.size ≤ 2305843009213693955 := ⟨_, rfl, by rw [ByteArray.size_append]; show q0.size + 1 ≤ 2305843009213693955; omega⟩
              obtain ⟨q2, hq2, zq2⟩ : ∃ q : ByteArray, Hid (q = q1 ++ tL) ∧ q.size ≤ 2305843009213694955 := ⟨_, rfl, by rw [ByteArray.size_append]; show q1.size + tL.size ≤ 2305843009213694955; omega⟩
              obtain ⟨q3, hq3, zq3⟩ : ∃ q : ByteArray, Hid (q = q2 ++ (⟨#[32, 61, 32]⟩ : ByteArray)) ∧ q.size ≤ 2305843009213694958 := ⟨_, rfl, by rw [ByteArray.size_append]; show q2.size + 3 ≤ 2305843009213694958; omega⟩
              obtain ⟨q4, hq4, zq4⟩ : ∃ q : ByteArray, Hid (q = q3 ++ tV) ∧ q.size ≤ 2305843009213695958 := ⟨_, rfl, by rw [ByteArray.size_append]; show q3.size + tV.size ≤ 2305843009213695958; omega⟩
              have HS3 : Hid (q4.data.toList ++ (rowX (preK i (k + 1)) (r.drop (k + 1)) ++ X) = TOT) := by
                show _ = _
                rw [← HQ2.out, HRD.out, hq4.out, hq3.out, hq2.out, hq1.out, hq0.out, HPR, HAX]
                simp only [list_append]
                simp
              clear HRD HPR HAX HQ2
              go_wp2
              rw [← HW6.out]
              rw [← hq0.out]
              have S100 : Bk W6.drew wr.heap.size #[.int .i64 xt, .int .i64 xr, .int .i64 xl, .int .i64 xv] := HB6.out
              have K100 : On w0 W6.drew := HO6.out.drew
              refine region_fz (fun W => Bk W wr.heap.size #[.int .i64 xt, .int .i64 xr, .int .i64 xl, .int .i64 xv]) [] 12 (by kernel_rfl) rfl ?_
              refine fz_take 0 (v := ?_) rfl (by kernel_rfl) (by kernel_rfl) (by kernel_rfl) (by kernel_rfl) (fun _ _ _ h => h) rfl ?_ S100 ?_
              rotate_left
              · intro W hW
                go_simp
                (try with_reducible rfl)
              simp only [Act.put, List.setIfInBounds_toArray, List.set_cons_zero, List.set_cons_succ]
              refine fz_take 1 (v := .string q1) rfl (by kernel_rfl) (by kernel_rfl) (by kernel_rfl) (by kernel_rfl) (fun _ _ _ h => h) rfl ?_ S100 ?_
              · intro W hW
                go_simp
                first
                | rw [if_neg (by omega), hq1.out]
                | rw [hq1.out]
              simp only [Act.put, List.setIfInBounds_toArray, List.set_cons_zero, List.set_cons_succ]
              refine fz_take 2 (v := ?_) rfl (by kernel_rfl) (by kernel_rfl) (by kernel_rfl) (by kernel_rfl) (fun _ _ _ h => h) rfl ?_ S100 ?_
              rotate_left
              · intro W hW
                go_simp
                (try with_reducible rfl)
              simp only [Act.put, List.setIfInBounds_toArray, List.set_cons_zero, List.set_cons_succ]
              refine fz_take 3 (v := ?_) rfl (by kernel_rfl) (by kernel_rfl) (by kernel_rfl) (by kernel_rfl) (fun _ _ _ h => h) rfl ?_ S100 ?_
              rotate_left
              · intro W hW
                have c0 := hW.at (i := 2) rfl
                have ll := hW.lt
                go_simp
                (try with_reducible rfl)
              simp only [Act.put, List.setIfInBounds_toArray, List.set_cons_zero, List.set_cons_succ]
              refine fz_take 7 (v := ?_) rfl (by kernel_rfl) (by kernel_rfl) (by kernel_rfl) (by kernel_rfl) (fun _ _ _ h => h) rfl ?_ S100 ?_
              rotate_left
              · intro W hW
                go_simp
                (try with_reducible rfl)
              simp only [Act.put, List.setIfInBounds_toArray, List.set_cons_zero, List.set_cons_succ]
              refine fz_take 8 (v := ?_) rfl (by kernel_rfl) (by kernel_rfl) (by kernel_rfl) (by kernel_rfl) (fun _ _ _ h => h) rfl ?_ S100 ?_
              rotate_left
              · intro W hW
                have c0 := hW.at (i := 3) rfl
                have ll := hW.lt
                go_simp
                (try with_reducible rfl)
              simp only [Act.put, List.setIfInBounds_toArray, List.set_cons_zero, List.set_cons_succ]
              refine fz_one 4 rfl rfl (by kernel_rfl) (fun K hK => ?_)
              go_simp
              refine (hL _).mono ?_
              rintro _ v1 ⟨rfl, k1⟩
              have B1 := Bk.on S100 k1
              have K1 := On.trans K100 k1
              refine hK.out _ _ (fun _ => B1) ?_
              clear hK
              refine fz_take 5 (v := .string q2) rfl (by kernel_rfl) (by kernel_rfl) (by kernel_rfl) (by kernel_rfl) (fun _ _ _ h => h) rfl ?_ B1 ?_
              · intro W hW
                go_simp
                first
                | rw [if_neg (by omega), hq2.out]
                | rw [hq2.out]
              simp only [Act.put, List.setIfInBounds_toArray, List.set_cons_zero, List.set_cons_succ]
              refine fz_take 6 (v := .string q3) rfl (by kernel_rfl) (by kernel_rfl) (by kernel_rfl) (by kernel_rfl) (fun _ _ _ h => h) rfl ?_ B1 ?_
              · intro W hW
                go_simp
                first
                | rw [if_neg (by omega), hq3.out]
                | rw [hq3.out]
              simp only [Act.put, List.setIfInBounds_toArray, List.set_cons_zero, List.set_cons_succ]
              refine fz_one 9 rfl rfl (by kernel_rfl) (fun K hK => ?_)
              go_simp
              refine (hV _).mono ?_
              rintro _ v2 ⟨rfl, k2⟩
              have B2 := Bk.on B1 k2
              have K2 := On.trans K1 k2
              refine hK.out _ _ (fun _ => B2) ?_
              clear hK
              refine fz_take 10 (v := .string q4) rfl (by kernel_rfl) (by kernel_rfl) (by kernel_rfl) (by kernel_rfl) (fun _ _ _ h => h) rfl ?_ B2 ?_
              · intro W hW
                go_simp
                first
                | rw [if_neg (by omega), hq4.out]
                | rw [hq4.out]
              simp only [Act.put, List.setIfInBounds_toArray, List.set_cons_zero, List.set_cons_succ]
              refine fz_take 11 (v := ?_) rfl (by kernel_rfl) (by kernel_rfl) (by kernel_rfl) (by kernel_rfl) (fun _ _ _ h => h) rfl ?_ B2 ?_
              rotate_left
              · intro W hW
                go_simp
                (try with_reducible rfl)
              simp only [Act.put, List.setIfInBounds_toArray, List.set_cons_zero, List.set_cons_succ]
              refine fz_done (by kernel_rfl) (NoPanic.normal ?_)
              go_wp2
              go_roundg (r.length - (k + 1))
              case measure => omega
              case rel => exact ⟨k + 1, _, hlt2, rfl, by congr 1, rfl, HS3, K2⟩
          · by_cases c3 : 0 < i
            · have HPR : preK i k = [32, 124] := by unfold preK preI; rw [if_pos (by omega), if_neg (by omega)]
              by_cases c2 : 0 ≤ xt
              · have HAX := hax_own (by omega)
                have hT := fun W => rnum_is hbt W
                have hR := fun W => rreg_is (hro (by omega)) W
                obtain ⟨tT, htT⟩ : ∃ t : ByteArray, t = numT xt := ⟨_, rfl⟩
                obtain ⟨tR, htR⟩ : ∃ t : ByteArray, t = regT xr := ⟨_, rfl⟩
                have sT : tT.size ≤ 1000 := by rw [htT]; exact sz_le (sz_num hbt)
                have sR : tR.size ≤ 1000 := by rw [htR]; exact sz_le (sz_reg _)
                rw [← htT] at hT HAX
                rw [← htR] at hR HAX
                clear htT htR hro hlo hax_mem hax_own hbt
                obtain ⟨q0, hq0, zq0⟩ : ∃ q : ByteArray, Hid (q = S2 ++ (⟨#[32, 124]⟩ : ByteArray)) ∧ q.size ≤ 2305843009213693954 := ⟨_, rfl, by rw [ByteArray.size_append]; show S2.size + 2 ≤ 2305843009213693954; omega⟩
                obtain ⟨q1, hq1, zq1⟩ : ∃ q : ByteArray, Hid (q = q0 ++ (⟨#[32]⟩ : ByteArray)) ∧ q.size ≤ 2305843009213693955 := ⟨_, rfl, by rw [ByteArray.size_append]; show q0.size + 1 ≤ 2305843009213693955; omega⟩
                obtain ⟨q2, hq2, zq2⟩ : ∃ q : ByteArray, Hid (q = q1 ++ tT) ∧ q.size ≤ 2305843009213694955 := ⟨_, rfl, by rw [ByteArray.size_append]; show q1.size + tT.size ≤ 2305843009213694955; omega⟩
                obtain ⟨q3, hq3, zq3⟩ : ∃ q : ByteArray, Hid (q = q2 ++ (⟨#[32, 58, 32]⟩ : ByteArray)) ∧ q.size ≤ 2305843009213694958 := ⟨_, rfl, by rw [ByteArray.size_append]; show q2.size + 3 ≤ 2305843009213694958; omega⟩
                obtain ⟨q4, hq4, zq4⟩ : ∃ q : ByteArray, Hid (q = q3 ++ tR) ∧ q.size ≤ 2305843009213695958 := ⟨_, rfl, by rw [ByteArray.size_append]; show q3.size + tR.size ≤ 2305843009213695958; omega⟩
                obtain ⟨q5, hq5, zq5⟩ : ∃ q : ByteArray, Hid (q = q4 ++ (⟨#[32, 61, 32]⟩ : ByteArray)) ∧ q.size ≤ 2305843009213695961 := ⟨_, rfl, by rw [ByteArray.size_append]; show q4.size + 3 ≤ 2305843009213695961; omega⟩
                obtain ⟨q6, hq6, zq6⟩ : ∃ q : ByteArray, Hid (q = q5 ++ tV) ∧ q.size ≤ 2305843009213696961 := ⟨_, rfl, by rw [ByteArray.size_append]; show q5.size + tV.size ≤ 2305843009213696961; omega⟩
                have HS3 : Hid (q6.data.toList ++ (rowX (preK i (k + 1)) (r.drop (k + 1)) ++ X) = TOT) := by
                  show _ = _
                  rw [← HQ2.out, HRD.out, hq6.out, hq5.out, hq4.out, hq3.out, hq2.out, hq1.out, hq0.out, HPR, HAX]
                  simp only [list_append]
                  simp
                clear HRD HPR HAX HQ2
                go_wp2
                rw [← HW6.out]
                rw [← hq0.out]
                have S100 : Bk W6.drew wr.heap.size #[.int .i64 xt, .int .i64 xr, .int .i64 xl, .int .i64 xv] := HB6.out
                have K100 : On w0 W6.drew := HO6.out.drew
                refine region_fz (fun W => Bk W wr.heap.size #[.int .i64 xt, .int .i64 xr, .int .i64 xl, .int .i64 xv]) [] 17 (by kernel_rfl) rfl ?_
                refine fz_take 0 (v := ?_) rfl (by kernel_rfl) (by kernel_rfl) (by kernel_rfl) (by kernel_rfl) (fun _ _ _ h => h) rfl ?_ S100 ?_
                rotate_left
                · intro W hW
                  go_simp
                  (try with_reducible rfl)
                simp only [Act.put, List.setIfInBounds_toArray, List.set_cons_zero, List.set_cons_succ]
                refine fz_take 1 (v := .string q1) rfl (by kernel_rfl) (by kernel_rfl) (by kernel_rfl) (by kernel_rfl) (fun _ _ _ h => h) rfl ?_ S100 ?_
                · intro W hW
                  go_simp
                  first
                  | rw [if_neg (by omega), hq1.out]
                  | rw [hq1.out]
                simp only [Act.put, List.setIfInBounds_toArray, List.set_cons_zero, List.set_cons_succ]
                refine fz_take 2 (v := ?_) rfl (by kernel_rfl) (by kernel_rfl) (by kernel_rfl) (by kernel_rfl) (fun _ _ _ h => h) rfl ?_ S100 ?_
                rotate_left
                · intro W hW
                  go_simp
                  (try with_reducible rfl)
                simp only [Act.put, List.setIfInBounds_toArray, List.set_cons_zero, List.set_cons_succ]
                refine fz_take 3 (v := ?_) rfl (by kernel_rfl) (by kernel_rfl) (by kernel_rfl) (by kernel_rfl) (fun _ _ _ h => h) rfl ?_ S100 ?_
                rotate_left
                · intro W hW
                  have c0 := hW.at (i := 0) rfl
                  have ll := hW.lt
                  go_simp
                  (try with_reducible rfl)
                simp only [Act.put, List.setIfInBounds_toArray, List.set_cons_zero, List.set_cons_succ]
                refine fz_take 7 (v := ?_) rfl (by kernel_rfl) (by kernel_rfl) (by kernel_rfl) (by kernel_rfl) (fun _ _ _ h => h) rfl ?_ S100 ?_
                rotate_left
                · intro W hW
                  go_simp
                  (try with_reducible rfl)
                simp only [Act.put, List.setIfInBounds_toArray, List.set_cons_zero, List.set_cons_succ]
                refine fz_take 8 (v := ?_) rfl (by kernel_rfl) (by kernel_rfl) (by kernel_rfl) (by kernel_rfl) (fun _ _ _ h => h) rfl ?_ S100 ?_
                rotate_left
                · intro W hW
                  have c0 := hW.at (i := 1) rfl
                  have ll := hW.lt
                  go_simp
                  (try with_reducible rfl)
                simp only [Act.put, List.setIfInBounds_toArray, List.set_cons_zero, List.set_cons_succ]
                refine fz_take 12 (v := ?_) rfl (by kernel_rfl) (by kernel_rfl) (by kernel_rfl) (by kernel_rfl) (fun _ _ _ h => h) rfl ?_ S100 ?_
                rotate_left
                · intro W hW
                  go_simp
                  (try with_reducible rfl)
                simp only [Act.put, List.setIfInBounds_toArray, List.set_cons_zero, List.set_cons_succ]
                refine fz_take 13 (v := ?_) rfl (by kernel_rfl) (by kernel_rfl) (by kernel_rfl) (by kernel_rfl) (fun _ _ _ h => h) rfl ?_ S100 ?_
                rotate_left
                · intro W hW
                  have c0 := hW.at (i := 3) rfl
                  have ll := hW.lt
                  go_simp
                  (try with_reducible rfl)
                simp only [Act.put, List.setIfInBounds_toArray, List.set_cons_zero, List.set_cons_succ]
                refine fz_one 4 rfl rfl (by kernel_rfl) (fun K hK => ?_)
                go_simp
                refine (hT _).mono ?_
                rintro _ v1 ⟨rfl, k1⟩
                have B1 := Bk.on S100 k1
                have K1 := On.trans K100 k1
                refine hK.out _ _ (fun _ => B1) ?_
                clear hK
                refine fz_take 5 (v := .string q2) rfl (by kernel_rfl) (by kernel_rfl) (by kernel_rfl) (by kernel_rfl) (fun _ _ _ h => h) rfl ?_ B1 ?_
                · intro W hW
                  go_simp
                  first
                  | rw [if_neg (by omega), hq2.out]
                  | rw [hq2.out]
                simp only [Act.put, List.setIfInBounds_toArray, List.set_cons_zero, List.set_cons_succ]
                refine fz_take 6 (v := .string q3) rfl (by kernel_rfl) (by kernel_rfl) (by kernel_rfl) (by kernel_rfl) (fun _ _ _ h => h) rfl ?_ B1 ?_
                · intro W hW
                  go_simp
                  first
                  | rw [if_neg (by omega), hq3.out]
                  | rw [hq3.out]
                simp only [Act.put, List.setIfInBounds_toArray, List.set_cons_zero, List.set_cons_succ]
                refine fz_one 9 rfl rfl (by kernel_rfl) (fun K hK => ?_)
                go_simp
                refine (hR _).mono ?_
                rintro _ v2 ⟨rfl, k2⟩
                have B2 := Bk.on B1 k2
                have K2 := On.trans K1 k2
                refine hK.out _ _ (fun _ => B2) ?_
                clear hK
                refine fz_take 10 (v := .string q4) rfl (by kernel_rfl) (by kernel_rfl) (by kernel_rfl) (by kernel_rfl) (fun _ _ _ h => h) rfl ?_ B2 ?_
                · intro W hW
                  go_simp
                  first
                  | rw [if_neg (by omega), hq4.out]
                  | rw [hq4.out]
                simp only [Act.put, List.setIfInBounds_toArray, List.set_cons_zero, List.set_cons_succ]
                refine fz_take 11 (v := .string q5) rfl (by kernel_rfl) (by kernel_rfl) (by kernel_rfl) (by kernel_rfl) (fun _ _ _ h => h) rfl ?_ B2 ?_
                · intro W hW
                  go_simp
                  first
                  | rw [if_neg (by omega), hq5.out]
                  | rw [hq5.out]
                simp only [Act.put, List.setIfInBounds_toArray, List.set_cons_zero, List.set_cons_succ]
                refine fz_one 14 rfl rfl (by kernel_rfl) (fun K hK => ?_)
                go_simp
                refine (hV _).mono ?_
                rintro _ v3 ⟨rfl, k3⟩
                have B3 := Bk.on B2 k3
                have K3 := On.trans K2 k3
                refine hK.out _ _ (fun _ => B3) ?_
                clear hK
                refine fz_take 15 (v := .string q6) rfl (by kernel_rfl) (by kernel_rfl) (by kernel_rfl) (by kernel_rfl) (fun _ _ _ h => h) rfl ?_ B3 ?_
                · intro W hW
                  go_simp
                  first
                  | rw [if_neg (by omega), hq6.out]
                  | rw [hq6.out]
                simp only [Act.put, List.setIfInBounds_toArray, List.set_cons_zero, List.set_cons_succ]
                refine fz_take 16 (v := ?_) rfl (by kernel_rfl) (by kernel_rfl) (by kernel_rfl) (by kernel_rfl) (fun _ _ _ h => h) rfl ?_ B3 ?_
                rotate_left
                · intro W hW
                  go_simp
                  (try with_reducible rfl)
                simp only [Act.put, List.setIfInBounds_toArray, List.set_cons_zero, List.set_cons_succ]
                refine fz_done (by kernel_rfl) (NoPanic.normal ?_)
                go_wp2
                go_roundg (r.length - (k + 1))
                case measure => omega
                case rel => exact ⟨k + 1, _, hlt2, rfl, by congr 1, rfl, HS3, K3⟩
              · have HAX := hax_mem (by omega)
                have hL := fun W => rloc_is (hlo (by omega)) W
                obtain ⟨tL, htL⟩ : ∃ t : ByteArray, t = locT xl := ⟨_, rfl⟩
                have sL : tL.size ≤ 1000 := by rw [htL]; exact sz_le (sz_loc _)
                rw [← htL] at hL HAX
                clear htL hro hlo hax_mem hax_own hbt
                obtain ⟨q0, hq0, zq0⟩ : ∃ q : ByteArray, Hid (q = S2 ++ (⟨#[32, 124]⟩ : ByteArray)) ∧ q.size ≤ 2305843009213693954 := ⟨_, rfl, by rw [ByteArray.size_append]; show S2.size + 2 ≤ 2305843009213693954; omega⟩
                obtain ⟨q1, hq1, zq1⟩ : ∃ q : ByteArray, Hid (q = q0 ++ (⟨#[32]⟩ : ByteArray)) ∧ q.size ≤ 2305843009213693955 := ⟨_, rfl, by rw [ByteArray.size_append]; show q0.size + 1 ≤ 2305843009213693955; omega⟩
                obtain ⟨q2, hq2, zq2⟩ : ∃ q : ByteArray, Hid (q = q1 ++ tL) ∧ q.size ≤ 2305843009213694955 := ⟨_, rfl, by rw [ByteArray.size_append]; show q1.size + tL.size ≤ 2305843009213694955; omega⟩
                obtain ⟨q3, hq3, zq3⟩ : ∃ q : ByteArray, Hid (q = q2 ++ (⟨#[32, 61, 32]⟩ : ByteArray)) ∧ q.size ≤ 2305843009213694958 := ⟨_, rfl, by rw [ByteArray.size_append]; show q2.size + 3 ≤ 2305843009213694958; omega⟩
                obtain ⟨q4, hq4, zq4⟩ : ∃ q : ByteArray, Hid (q = q3 ++ tV) ∧ q.size ≤ 2305843009213695958 := ⟨_, rfl, by rw [ByteArray.size_append]; show q3.size + tV.size ≤ 2305843009213695958; omega⟩
                have HS3 : Hid (q4.data.toList ++ (rowX (preK i (k + 1)) (r.drop (k + 1)) ++ X) = TOT) := by
                  show _ = _
                  rw [← HQ2.out, HRD.out, hq4.out, hq3.out, hq2.out, hq1.out, hq0.out, HPR, HAX]
                  simp only [list_append]
                  simp
                clear HRD HPR HAX HQ2
                go_wp2
                rw [← HW6.out]
                rw [← hq0.out]
                have S100 : Bk W6.drew wr.heap.size #[.int .i64 xt, .int .i64 xr, .int .i64 xl, .int .i64 xv] := HB6.out
                have K100 : On w0 W6.drew := HO6.out.drew
                refine region_fz (fun W => Bk W wr.heap.size #[.int .i64 xt, .int .i64 xr, .int .i64 xl, .int .i64 xv]) [] 12 (by kernel_rfl) rfl ?_
                refine fz_take 0 (v := ?_) rfl (by kernel_rfl) (by kernel_rfl) (by kernel_rfl) (by kernel_rfl) (fun _ _ _ h => h) rfl ?_ S100 ?_
                rotate_left
                · intro W hW
                  go_simp
                  (try with_reducible rfl)
                simp only [Act.put, List.setIfInBounds_toArray, List.set_cons_zero, List.set_cons_succ]
                refine fz_take 1 (v := .string q1) rfl (by kernel_rfl) (by kernel_rfl) (by kernel_rfl) (by kernel_rfl) (fun _ _ _ h => h) rfl ?_ S100 ?_
                · intro W hW
                  go_simp
                  first
                  | rw [if_neg (by omega), hq1.out]
                  | rw [hq1.out]
                simp only [Act.put, List.setIfInBounds_toArray, List.set_cons_zero, List.set_cons_succ]
                refine fz_take 2 (v := ?_) rfl (by kernel_rfl) (by kernel_rfl) (by kernel_rfl) (by kernel_rfl) (fun _ _ _ h => h) rfl ?_ S100 ?_
                rotate_left
                · intro W hW
                  go_simp
                  (try with_reducible rfl)
                simp only [Act.put, List.setIfInBounds_toArray, List.set_cons_zero, List.set_cons_succ]
                refine fz_take 3 (v := ?_) rfl (by kernel_rfl) (by kernel_rfl) (by kernel_rfl) (by kernel_rfl) (fun _ _ _ h => h) rfl ?_ S100 ?_
                rotate_left
                · intro W hW
                  have c0 := hW.at (i := 2) rfl
                  have ll := hW.lt
                  go_simp
                  (try with_reducible rfl)
                simp only [Act.put, List.setIfInBounds_toArray, List.set_cons_zero, List.set_cons_succ]
                refine fz_take 7 (v := ?_) rfl (by kernel_rfl) (by kernel_rfl) (by kernel_rfl) (by kernel_rfl) (fun _ _ _ h => h) rfl ?_ S100 ?_
                rotate_left
                · intro W hW
                  go_simp
                  (try with_reducible rfl)
                simp only [Act.put, List.setIfInBounds_toArray, List.set_cons_zero, List.set_cons_succ]
                refine fz_take 8 (v := ?_) rfl (by kernel_rfl) (by kernel_rfl) (by kernel_rfl) (by kernel_rfl) (fun _ _ _ h => h) rfl ?_ S100 ?_
                rotate_left
                · intro W hW
                  have c0 := hW.at (i := 3) rfl
                  have ll := hW.lt
                  go_simp
                  (try with_reducible rfl)
                simp only [Act.put, List.setIfInBounds_toArray, List.set_cons_zero, List.set_cons_succ]
                refine fz_one 4 rfl rfl (by kernel_rfl) (fun K hK => ?_)
                go_simp
                refine (hL _).mono ?_
                rintro _ v1 ⟨rfl, k1⟩
                have B1 := Bk.on S100 k1
                have K1 := On.trans K100 k1
                refine hK.out _ _ (fun _ => B1) ?_
                clear hK
                refine fz_take 5 (v := .string q2) rfl (by kernel_rfl) (by kernel_rfl) (by kernel_rfl) (by kernel_rfl) (fun _ _ _ h => h) rfl ?_ B1 ?_
                · intro W hW
                  go_simp
                  first
                  | rw [if_neg (by omega), hq2.out]
                  | rw [hq2.out]
                simp only [Act.put, List.setIfInBounds_toArray, List.set_cons_zero, List.set_cons_succ]
                refine fz_take 6 (v := .string q3) rfl (by kernel_rfl) (by kernel_rfl) (by kernel_rfl) (by kernel_rfl) (fun _ _ _ h => h) rfl ?_ B1 ?_
                · intro W hW
                  go_simp
                  first
                  | rw [if_neg (by omega), hq3.out]
                  | rw [hq3.out]
                simp only [Act.put, List.setIfInBounds_toArray, List.set_cons_zero, List.set_cons_succ]
                refine fz_one 9 rfl rfl (by kernel_rfl) (fun K hK => ?_)
                go_simp
                refine (hV _).mono ?_
                rintro _ v2 ⟨rfl, k2⟩
                have B2 := Bk.on B1 k2
                have K2 := On.trans K1 k2
                refine hK.out _ _ (fun _ => B2) ?_
                clear hK
                refine fz_take 10 (v := .string q4) rfl (by kernel_rfl) (by kernel_rfl) (by kernel_rfl) (by kernel_rfl) (fun _ _ _ h => h) rfl ?_ B2 ?_
                · intro W hW
                  go_simp
                  first
                  | rw [if_neg (by omega), hq4.out]
                  | rw [hq4.out]
                simp only [Act.put, List.setIfInBounds_toArray, List.set_cons_zero, List.set_cons_succ]
                refine fz_take 11 (v := ?_) rfl (by kernel_rfl) (by kernel_rfl) (by kernel_rfl) (by kernel_rfl) (fun _ _ _ h => h) rfl ?_ B2 ?_
                rotate_left
                · intro W hW
                  go_simp
                  (try with_reducible rfl)
                simp only [Act.put, List.setIfInBounds_toArray, List.set_cons_zero, List.set_cons_succ]
                refine fz_done (by kernel_rfl) (NoPanic.normal ?_)
                go_wp2
                go_roundg (r.length - (k + 1))
                case measure => omega
                case rel => exact ⟨k + 1, _, hlt2, rfl, by congr 1, rfl, HS3, K2⟩
            · have HPR : preK i k = [] := by unfold preK preI; rw [if_pos (by omega), if_pos (by omega)]
              by_cases c2 : 0 ≤ xt
              · have HAX := hax_own (by omega)
                have hT := fun W => rnum_is hbt W
                have hR := fun W => rreg_is (hro (by omega)) W
                obtain ⟨tT, htT⟩ : ∃ t : ByteArray, t = numT xt := ⟨_, rfl⟩
                obtain ⟨tR, htR⟩ : ∃ t : ByteArray, t = regT xr := ⟨_, rfl⟩
                have sT : tT.size ≤ 1000 := by rw [htT]; exact sz_le (sz_num hbt)
                have sR : tR.size ≤ 1000 := by rw [htR]; exact sz_le (sz_reg _)
                rw [← htT] at hT HAX
                rw [← htR] at hR HAX
                clear htT htR hro hlo hax_mem hax_own hbt
                obtain ⟨q1, hq1, zq1⟩ : ∃ q : ByteArray, Hid (q = S2 ++ (⟨#[32]⟩ : ByteArray)) ∧ q.size ≤ 2305843009213693953 := ⟨_, rfl, by rw [ByteArray.size_append]; show S2.size + 1 ≤ 2305843009213693953; omega⟩
                obtain ⟨q2, hq2, zq2⟩ : ∃ q : ByteArray, Hid (q = q1 ++ tT) ∧ q.size ≤ 2305843009213694953 := ⟨_, rfl, by rw [ByteArray.size_append]; show q1.size + tT.size ≤ 2305843009213694953; omega⟩
                obtain ⟨q3, hq3, zq3⟩ : ∃ q : ByteArray, Hid (q = q2 ++ (⟨#[32, 58, 32]⟩ : ByteArray)) ∧ q.size ≤ 2305843009213694956 := ⟨_, rfl, by rw [ByteArray.size_append]; show q2.size + 3 ≤ 2305843009213694956; omega⟩
                obtain ⟨q4, hq4, zq4⟩ : ∃ q : ByteArray, Hid (q = q3 ++ tR) ∧ q.size ≤ 2305843009213695956 := ⟨_, rfl, by rw [ByteArray.size_append]; show q3.size + tR.size ≤ 2305843009213695956; omega⟩
                obtain ⟨q5, hq5, zq5⟩ : ∃ q : ByteArray, Hid (q = q4 ++ (⟨#[32, 61, 32]⟩ : ByteArray)) ∧ q.size ≤ 2305843009213695959 := ⟨_, rfl, by rw [ByteArray.size_append]; show q4.size + 3 ≤ 2305843009213695959; omega⟩
                obtain ⟨q6, hq6, zq6⟩ : ∃ q : ByteArray, Hid (q = q5 ++ tV) ∧ q.size ≤ 2305843009213696959 := ⟨_, rfl, by rw [ByteArray.size_append]; show q5.size + tV.size ≤ 2305843009213696959; omega⟩
                have HS3 : Hid (q6.data.toList ++ (rowX (preK i (k + 1)) (r.drop (k + 1)) ++ X) = TOT) := by
                  show _ = _
                  rw [← HQ2.out, HRD.out, hq6.out, hq5.out, hq4.out, hq3.out, hq2.out, hq1.out, HPR, HAX]
                  simp only [list_append]
                  simp
                clear HRD HPR HAX HQ2
                go_wp2
                rw [← HW6.out]
                have S100 : Bk W6.drew wr.heap.size #[.int .i64 xt, .int .i64 xr, .int .i64 xl, .int .i64 xv] := HB6.out
                have K100 : On w0 W6.drew := HO6.out.drew
                refine region_fz (fun W => Bk W wr.heap.size #[.int .i64 xt, .int .i64 xr, .int .i64 xl, .int .i64 xv]) [] 17 (by kernel_rfl) rfl ?_
                refine fz_take 0 (v := ?_) rfl (by kernel_rfl) (by kernel_rfl) (by kernel_rfl) (by kernel_rfl) (fun _ _ _ h => h) rfl ?_ S100 ?_
                rotate_left
                · intro W hW
                  go_simp
                  (try with_reducible rfl)
                simp only [Act.put, List.setIfInBounds_toArray, List.set_cons_zero, List.set_cons_succ]
                refine fz_take 1 (v := .string q1) rfl (by kernel_rfl) (by kernel_rfl) (by kernel_rfl) (by kernel_rfl) (fun _ _ _ h => h) rfl ?_ S100 ?_
                · intro W hW
                  go_simp
                  first
                  | rw [if_neg (by omega), hq1.out]
                  | rw [hq1.out]
                simp only [Act.put, List.setIfInBounds_toArray, List.set_cons_zero, List.set_cons_succ]
                refine fz_take 2 (v := ?_) rfl (by kernel_rfl) (by kernel_rfl) (by kernel_rfl) (by kernel_rfl) (fun _ _ _ h => h) rfl ?_ S100 ?_
                rotate_left
                · intro W hW
                  go_simp
                  (try with_reducible rfl)
                simp only [Act.put, List.setIfInBounds_toArray, List.set_cons_zero, List.set_cons_succ]
                refine fz_take 3 (v := ?_) rfl (by kernel_rfl) (by kernel_rfl) (by kernel_rfl) (by kernel_rfl) (fun _ _ _ h => h) rfl ?_ S100 ?_
                rotate_left
                · intro W hW
                  have c0 := hW.at (i := 0) rfl
                  have ll := hW.lt
                  go_simp
                  (try with_reducible rfl)
                simp only [Act.put, List.setIfInBounds_toArray, List.set_cons_zero, List.set_cons_succ]
                refine fz_take 7 (v := ?_) rfl (by kernel_rfl) (by kernel_rfl) (by kernel_rfl) (by kernel_rfl) (fun _ _ _ h => h) rfl ?_ S100 ?_
                rotate_left
                · intro W hW
                  go_simp
                  (try with_reducible rfl)
                simp only [Act.put, List.setIfInBounds_toArray, List.set_cons_zero, List.set_cons_succ]
                refine fz_take 8 (v := ?_) rfl (by kernel_rfl) (by kernel_rfl) (by kernel_rfl) (by kernel_rfl) (fun _ _ _ h => h) rfl ?_ S100 ?_
                rotate_left
                · intro W hW
                  have c0 := hW.at (i := 1) rfl
                  have ll := hW.lt
                  go_simp
                  (try with_reducible rfl)
                simp only [Act.put, List.setIfInBounds_toArray, List.set_cons_zero, List.set_cons_succ]
                refine fz_take 12 (v := ?_) rfl (by kernel_rfl) (by kernel_rfl) (by kernel_rfl) (by kernel_rfl) (fun _ _ _ h => h) rfl ?_ S100 ?_
                rotate_left
                · intro W hW
                  go_simp
                  (try with_reducible rfl)
                simp only [Act.put, List.setIfInBounds_toArray, List.set_cons_zero, List.set_cons_succ]
                refine fz_take 13 (v := ?_) rfl (by kernel_rfl) (by kernel_rfl) (by kernel_rfl) (by kernel_rfl) (fun _ _ _ h => h) rfl ?_ S100 ?_
                rotate_left
                · intro W hW
                  have c0 := hW.at (i := 3) rfl
                  have ll := hW.lt
                  go_simp
                  (try with_reducible rfl)
                simp only [Act.put, List.setIfInBounds_toArray, List.set_cons_zero, List.set_cons_succ]
                refine fz_one 4 rfl rfl (by kernel_rfl) (fun K hK => ?_)
                go_simp
                refine (hT _).mono ?_
                rintro _ v1 ⟨rfl, k1⟩
                have B1 := Bk.on S100 k1
                have K1 := On.trans K100 k1
                refine hK.out _ _ (fun _ => B1) ?_
                clear hK
                refine fz_take 5 (v := .string q2) rfl (by kernel_rfl) (by kernel_rfl) (by kernel_rfl) (by kernel_rfl) (fun _ _ _ h => h) rfl ?_ B1 ?_
                · intro W hW
                  go_simp
                  first
                  | rw [if_neg (by omega), hq2.out]
                  | rw [hq2.out]
                simp only [Act.put, List.setIfInBounds_toArray, List.set_cons_zero, List.set_cons_succ]
                refine fz_take 6 (v := .string q3) rfl (by kernel_rfl) (by kernel_rfl) (by kernel_rfl) (by kernel_rfl) (fun _ _ _ h => h) rfl ?_ B1 ?_
                · intro W hW
                  go_simp
                  first
                  | rw [if_neg (by omega), hq3.out]
                  | rw [hq3.out]
                simp only [Act.put, List.setIfInBounds_toArray, List.set_cons_zero, List.set_cons_succ]
                refine fz_one 9 rfl rfl (by kernel_rfl) (fun K hK => ?_)
                go_simp
                refine (hR _).mono ?_
                rintro _ v2 ⟨rfl, k2⟩
                have B2 := Bk.on B1 k2
                have K2 := On.trans K1 k2
                refine hK.out _ _ (fun _ => B2) ?_
                clear hK
                refine fz_take 10 (v := .string q4) rfl (by kernel_rfl) (by kernel_rfl) (by kernel_rfl) (by kernel_rfl) (fun _ _ _ h => h) rfl ?_ B2 ?_
                · intro W hW
                  go_simp
                  first
                  | rw [if_neg (by omega), hq4.out]
                  | rw [hq4.out]
                simp only [Act.put, List.setIfInBounds_toArray, List.set_cons_zero, List.set_cons_succ]
                refine fz_take 11 (v := .string q5) rfl (by kernel_rfl) (by kernel_rfl) (by kernel_rfl) (by kernel_rfl) (fun _ _ _ h => h) rfl ?_ B2 ?_
                · intro W hW
                  go_simp
                  first
                  | rw [if_neg (by omega), hq5.out]
                  | rw [hq5.out]
                simp only [Act.put, List.setIfInBounds_toArray, List.set_cons_zero, List.set_cons_succ]
                refine fz_one 14 rfl rfl (by kernel_rfl) (fun K hK => ?_)
                go_simp
                refine (hV _).mono ?_
                rintro _ v3 ⟨rfl, k3⟩
                have B3 := Bk.on B2 k3
                have K3 := On.trans K2 k3
                refine hK.out _ _ (fun _ => B3) ?_
                clear hK
                refine fz_take 15 (v := .string q6) rfl (by kernel_rfl) (by kernel_rfl) (by kernel_rfl) (by kernel_rfl) (fun _ _ _ h => h) rfl ?_ B3 ?_
                · intro W hW
                  go_simp
                  first
                  | rw [if_neg (by omega), hq6.out]
                  | rw [hq6.out]
                simp only [Act.put, List.setIfInBounds_toArray, List.set_cons_zero, List.set_cons_succ]
                refine fz_take 16 (v := ?_) rfl (by kernel_rfl) (by kernel_rfl) (by kernel_rfl) (by kernel_rfl) (fun _ _ _ h => h) rfl ?_ B3 ?_
                rotate_left
                · intro W hW
                  go_simp
                  (try with_reducible rfl)
                simp only [Act.put, List.setIfInBounds_toArray, List.set_cons_zero, List.set_cons_succ]
                refine fz_done (by kernel_rfl) (NoPanic.normal ?_)
                go_wp2
                go_roundg (r.length - (k + 1))
                case measure => omega
                case rel => exact ⟨k + 1, _, hlt2, rfl, by congr 1, rfl, HS3, K3⟩
              · have HAX := hax_mem (by omega)
                have hL := fun W => rloc_is (hlo (by omega)) W
                obtain ⟨tL, htL⟩ : ∃ t : ByteArray, t = locT xl := ⟨_, rfl⟩
                have sL : tL.size ≤ 1000 := by rw [htL]; exact sz_le (sz_loc _)
                rw [← htL] at hL HAX
                clear htL hro hlo hax_mem hax_own hbt
                obtain ⟨q1, hq1, zq1⟩ : ∃ q : ByteArray, Hid (q = S2 ++ (⟨#[32]⟩ : ByteArray)) ∧ q.size ≤ 2305843009213693953 := ⟨_, rfl, by rw [ByteArray.size_append]; show S2.size + 1 ≤ 2305843009213693953; omega⟩
                obtain ⟨q2, hq2, zq2⟩ : ∃ q : ByteArray, Hid (q = q1 ++ tL) ∧ q.size ≤ 2305843009213694953 := ⟨_, rfl, by rw [ByteArray.size_append]; show q1.size + tL.size ≤ 2305843009213694953; omega⟩
                obtain ⟨q3, hq3, zq3⟩ : ∃ q : ByteArray, Hid (q = q2 ++ (⟨#[32, 61, 32]⟩ : ByteArray)) ∧ q.size ≤ 2305843009213694956 := ⟨_, rfl, by rw [ByteArray.size_append]; show q2.size + 3 ≤ 2305843009213694956; omega⟩
                obtain ⟨q4, hq4, zq4⟩ : ∃ q : ByteArray, Hid (q = q3 ++ tV) ∧ q.size ≤ 2305843009213695956 := ⟨_, rfl, by rw [ByteArray.size_append]; show q3.size + tV.size ≤ 2305843009213695956; omega⟩
                have HS3 : Hid (q4.data.toList ++ (rowX (preK i (k + 1)) (r.drop (k + 1)) ++ X) = TOT) := by
                  show _ = _
                  rw [← HQ2.out, HRD.out, hq4.out, hq3.out, hq2.out, hq1.out, HPR, HAX]
                  simp only [list_append]
                  simp
                clear HRD HPR HAX HQ2
                go_wp2
                rw [← HW6.out]
                have S100 : Bk W6.drew wr.heap.size #[.int .i64 xt, .int .i64 xr, .int .i64 xl, .int .i64 xv] := HB6.out
                have K100 : On w0 W6.drew := HO6.out.drew
                refine region_fz (fun W => Bk W wr.heap.size #[.int .i64 xt, .int .i64 xr, .int .i64 xl, .int .i64 xv]) [] 12 (by kernel_rfl) rfl ?_
                refine fz_take 0 (v := ?_) rfl (by kernel_rfl) (by kernel_rfl) (by kernel_rfl) (by kernel_rfl) (fun _ _ _ h => h) rfl ?_ S100 ?_
                rotate_left
                · intro W hW
                  go_simp
                  (try with_reducible rfl)
                simp only [Act.put, List.setIfInBounds_toArray, List.set_cons_zero, List.set_cons_succ]
                refine fz_take 1 (v := .string q1) rfl (by kernel_rfl) (by kernel_rfl) (by kernel_rfl) (by kernel_rfl) (fun _ _ _ h => h) rfl ?_ S100 ?_
                · intro W hW
                  go_simp
                  first
                  | rw [if_neg (by omega), hq1.out]
                  | rw [hq1.out]
                simp only [Act.put, List.setIfInBounds_toArray, List.set_cons_zero, List.set_cons_succ]
                refine fz_take 2 (v := ?_) rfl (by kernel_rfl) (by kernel_rfl) (by kernel_rfl) (by kernel_rfl) (fun _ _ _ h => h) rfl ?_ S100 ?_
                rotate_left
                · intro W hW
                  go_simp
                  (try with_reducible rfl)
                simp only [Act.put, List.setIfInBounds_toArray, List.set_cons_zero, List.set_cons_succ]
                refine fz_take 3 (v := ?_) rfl (by kernel_rfl) (by kernel_rfl) (by kernel_rfl) (by kernel_rfl) (fun _ _ _ h => h) rfl ?_ S100 ?_
                rotate_left
                · intro W hW
                  have c0 := hW.at (i := 2) rfl
                  have ll := hW.lt
                  go_simp
                  (try with_reducible rfl)
                simp only [Act.put, List.setIfInBounds_toArray, List.set_cons_zero, List.set_cons_succ]
                refine fz_take 7 (v := ?_) rfl (by kernel_rfl) (by kernel_rfl) (by kernel_rfl) (by kernel_rfl) (fun _ _ _ h => h) rfl ?_ S100 ?_
                rotate_left
                · intro W hW
                  go_simp
                  (try with_reducible rfl)
                simp only [Act.put, List.setIfInBounds_toArray, List.set_cons_zero, List.set_cons_succ]
                refine fz_take 8 (v := ?_) rfl (by kernel_rfl) (by kernel_rfl) (by kernel_rfl) (by kernel_rfl) (fun _ _ _ h => h) rfl ?_ S100 ?_
                rotate_left
                · intro W hW
                  have c0 := hW.at (i := 3) rfl
                  have ll := hW.lt
                  go_simp
                  (try with_reducible rfl)
                simp only [Act.put, List.setIfInBounds_toArray, List.set_cons_zero, List.set_cons_succ]
                refine fz_one 4 rfl rfl (by kernel_rfl) (fun K hK => ?_)
                go_simp
                refine (hL _).mono ?_
                rintro _ v1 ⟨rfl, k1⟩
                have B1 := Bk.on S100 k1
                have K1 := On.trans K100 k1
                refine hK.out _ _ (fun _ => B1) ?_
                clear hK
                refine fz_take 5 (v := .string q2) rfl (by kernel_rfl) (by kernel_rfl) (by kernel_rfl) (by kernel_rfl) (fun _ _ _ h => h) rfl ?_ B1 ?_
                · intro W hW
                  go_simp
                  first
                  | rw [if_neg (by omega), hq2.out]
                  | rw [hq2.out]
                simp only [Act.put, List.setIfInBounds_toArray, List.set_cons_zero, List.set_cons_succ]
                refine fz_take 6 (v := .string q3) rfl (by kernel_rfl) (by kernel_rfl) (by kernel_rfl) (by kernel_rfl) (fun _ _ _ h => h) rfl ?_ B1 ?_
                · intro W hW
                  go_simp
                  first
                  | rw [if_neg (by omega), hq3.out]
                  | rw [hq3.out]
                simp only [Act.put, List.setIfInBounds_toArray, List.set_cons_zero, List.set_cons_succ]
                refine fz_one 9 rfl rfl (by kernel_rfl) (fun K hK => ?_)
                go_simp
                refine (hV _).mono ?_
                rintro _ v2 ⟨rfl, k2⟩
                have B2 := Bk.on B1 k2
                have K2 := On.trans K1 k2
                refine hK.out _ _ (fun _ => B2) ?_
                clear hK
                refine fz_take 10 (v := .string q4) rfl (by kernel_rfl) (by kernel_rfl) (by kernel_rfl) (by kernel_rfl) (fun _ _ _ h => h) rfl ?_ B2 ?_
                · intro W hW
                  go_simp
                  first
                  | rw [if_neg (by omega), hq4.out]
                  | rw [hq4.out]
                simp only [Act.put, List.setIfInBounds_toArray, List.set_cons_zero, List.set_cons_succ]
                refine fz_take 11 (v := ?_) rfl (by kernel_rfl) (by kernel_rfl) (by kernel_rfl) (by kernel_rfl) (fun _ _ _ h => h) rfl ?_ B2 ?_
                rotate_left
                · intro W hW
                  go_simp
                  (try with_reducible rfl)
                simp only [Act.put, List.setIfInBounds_toArray, List.set_cons_zero, List.set_cons_succ]
                refine fz_done (by kernel_rfl) (NoPanic.normal ?_)
                go_wp2
                go_roundg (r.length - (k + 1))
                case measure => omega
                case rel => exact ⟨k + 1, _, hlt2, rfl, by congr 1, rfl, HS3, K2⟩
        · obtain rfl : k = r.length := by omega
          have HS4 : Hid (S2.data.toList ++ (anyX (preI (i + 1)) (LL.drop (i + 1)) ++ [32, 59]) = TOT) := by
            show _ = _
            rw [← HQ2.out, HX.out, List.drop_length]
            rfl
          clear HQ2 KO BR
          go_wp2
          go_roundg (LL.length - (i + 1))
          case measure => omega
          case rel => exact ⟨i + 1, _, hlt, rfl, by congr 1, rfl, HS4, HO2⟩
    · obtain rfl : i = LL.length := by omega
      have HF : Hid ((S ++ ⟨#[32, 59]⟩ : ByteArray) = ⟨TOT.toArray⟩) := by
        show _ = _
        refine bytes_ext ?_
        rw [list_append, ← HQ.out, List.drop_length]
        simp [anyX]
      clear HQ
      go_wp2
      go_ret
      exact ⟨by rw [← HF.out]; rfl, HK0.out.trans HO.out⟩
end Go.Proofs.YtacflahkofmcpaaGreatDoor.Wl
