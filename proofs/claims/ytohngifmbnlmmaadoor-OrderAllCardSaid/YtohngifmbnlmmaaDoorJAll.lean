/- The verifier's own orders, one by one: jacquardlaw9.all, walked. -/
import Derived.Test.YtohngifmbnlmmaaDoorAllP
namespace Go.Proofs.YtohngifmbnlmmaaDoor
open Go.RowKit

structure Sj (base : Nat) (r : RelT) (N : Nat) (vr : Value) (row : List Nat) (wr : World) : Prop where
  b : wr.heap[N]? = some (.cells (relA r) 27 (0, 0))
  r : wr.ownsRow 0 3 1 vr row.length (row.map intV)
  s : base ≤ wr.heap.size
theorem Sj.fr {base N : Nat} {r : RelT} {vr : Value} {row : List Nat} {w w' : World} (h : Sj base r N vr row w) (f : Fr base w w') : Sj base r N vr row w' := ⟨box_fr h.b f, own_fr h.r f, Nat.le_trans h.s f.size⟩
theorem Sj.on {base N : Nat} {r : RelT} {vr : Value} {row : List Nat} {w w' : World} (h : Sj base r N vr row w) (k : On w w') : Sj base r N vr row w' := h.fr (Fr.of k)
theorem Sj.bk {base N : Nat} {r : RelT} {vr : Value} {row : List Nat} {w : World} (h : Sj base r N vr row w) : Bk w N (relA r) := ⟨_, h.b⟩
theorem Sj.at {base N : Nat} {r : RelT} {a : Option Addr} {c : Nat} {row : List Nat} {w : World} (h : Sj base r N (.slice a row.length c) row w) {k x : Nat} (hx : row[k]? = some x) : ∃ g, a = some ⟨g, 0, none⟩ ∧ g < w.heap.size ∧ w.cell? ⟨g, k, none⟩ = some (.int .i64 (x : Int)) := by
  have hk := (List.getElem?_eq_some_iff.1 hx).1
  obtain ⟨g, cap, hv, _, _, hg, hc⟩ := own_cells h.r (by omega)
  simp only [Value.slice.injEq] at hv
  obtain ⟨rfl, _, _⟩ := hv
  exact ⟨g, rfl, hg, hc k _ (by rw [List.getElem?_map, hx]; rfl)⟩
theorem own_ints {w : World} {b n : Nat} {e : TypeId} {v : Value} {Y : List Nat} (h : w.ownsRow b e 1 v n (Y.map intV)) : w.ownsRow b e 1 v n ((ints Y).flatMap intC) := by
  rw [flat_int]
  unfold ints
  rw [List.map_map]
  exact h
set_option maxHeartbeats 2000000 in
set_option maxRecDepth 8000 in
theorem jall_is (r : RelT) (hr : Wf r) (base M : Nat) (hM : M ≤ 2000) : ∀ (k : Nat) (row : List Nat) (out : List (List Nat)) (vr vo : Value) (w : World), row.length + k = r.n → okS r.n (DL2D (needL r)) 0 row = true →
    w.ownsRow 0 3 1 vr row.length (row.map intV) → OwnI w base vo (out.map ints) → out.length ≤ 2000 → base ≤ w.heap.size →
    Calls Tryd.prog 18 #[.agg (relA r), vr, vo, .int .i64 M] w fun e w' => ∃ v', e = .returned v' ∧ OwnI w' base v' ((out ++ ((exts r.n (DL2D (needL r)) k (mskN 0 row)).map (row ++ ·)).take (M - out.length)).map ints) ∧ Fr base w w' := by
  obtain ⟨i0, hi, hz0, hz1, hz2⟩ := info_parts infoInts
  have hn := hr.n
  have hN := fun W => n_is r W
  have HH : Hid (∀ (a b : Nat) W, Calls Tryd.prog 20 #[.agg (relA r), .int .i64 a, .int .i64 b] W fun e w' => e = .returned (.bool (H r a b)) ∧ On W w') := fun a b W => by
    have := rhas_is r hr.wr a b W
    rwa [has_nat2 hr] at this
  intro k
  induction k with
  | zero =>
    intro row out vr vo w hrk hok hown hout hol hbs
    obtain ⟨oa, oc, rfl⟩ := hout.slice
    obtain ⟨ra, rc, rfl⟩ := own_slice hown
    have hlr : row.length = r.n := by omega
    have hO := hout
    rw [List.length_map] at hO ⊢
    by_cases hge : M ≤ out.length
    · have e : M - out.length = 0 := by omega
      rw [e, List.take_zero, List.append_nil]
      have hd : decide (M ≤ out.length) = true := decide_eq_true hge
      have HO : Hid (OwnI (w.alloc (.cells (relA r) 27)) base (.slice oa out.length oc) (out.map ints)) := hO.on ((On.refl w).alloc _)
      clear hO hout hown hok e
      generalize out.length = ol at *
      generalize row.length = rl at *
      go_enter Tryd.func18, Tryd.ntmps18
      go_wp2
      go_ret
      exact ⟨_, rfl, HO.out, Fr.of ((On.refl w).alloc _)⟩
    · have e : (out ++ ((exts r.n (DL2D (needL r)) 0 (mskN 0 row)).map (row ++ ·)).take (M - out.length)) = out ++ [row] := by
        obtain ⟨d, hd⟩ : ∃ d, M - out.length = d + 1 := ⟨M - out.length - 1, by omega⟩
        rw [hd, exts]
        simp
      rw [e]
      have hd : decide (M ≤ out.length) = false := decide_eq_false hge
      have h1 := Bk.new w (relA r) 27
      have kb := (On.refl w).alloc (.cells (relA r) 27)
      have HOW : Hid (OwnI w base (.slice oa out.length oc) (out.map ints)) := hO
      have HRW : Hid (w.ownsRow 0 3 1 (.slice ra row.length rc) row.length (row.map intV)) := hown
      have HLR : Hid (row.length = r.n) := hlr
      have hrl : row.length ≤ 64 := by omega
      rw [← hlr] at hN
      clear hO hout hown hok e
      obtain ⟨ol, hol2⟩ : ∃ ol, ol = out.length := ⟨_, rfl⟩
      rw [← hol2] at hd hol HOW ⊢
      have HOL : Hid (out.length = ol) := hol2.symm
      clear hol2
      obtain ⟨rl, hrl2⟩ : ∃ rl, rl = row.length := ⟨_, rfl⟩
      rw [← hrl2] at hrl HRW hN ⊢
      have HRL : Hid (row.length = rl) := hrl2.symm
      clear hrl2 hlr hrk
      go_enter Tryd.func18, Tryd.ntmps18
      go_wp2_with (refine wpList_ld rfl rfl rfl h1 ?_)
      refine (hN _).mono ?_
      rintro _ w1 ⟨rfl, k1⟩
      have K1 := kb.trans k1
      have ke := (On.refl w1).alloc (.cells #[] 3)
      have hs1 := K1.size
      have hE : (w1.alloc (.cells #[] 3)).ownsRow w1.heap.size 3 1 (.slice (some ⟨w1.heap.size, 0, none⟩) 0 0) ([] : List Nat).length (([] : List Nat).map intV) := World.ownsRow_made w1 #[] 0 (Nat.le_refl _) (Nat.zero_le _) rfl
      have hRw := own_on HRW.out (K1.trans ke)
      rw [← HRL.out] at hRw
      go_wp2_with (at_builtin; refine wpList_append_rows rfl _ _ rfl rfl (by rw [← HRL.out]; rfl) hE hRw (by rw [HRL.out]; simp; omega) (by simp) ?_)
      intro v2 w2 hv2 hg2
      rw [HRL.out] at hv2
      have K2 : On w w2 := ((K1.alloc _).grown hg2 (by intro q hq; simp [Value.ownBlock] at hq; omega))
      have kc := (On.refl w2).alloc (.cells #[v2] 36)
      have hsz2 := K2.size
      have HOW2 := HOW.out.on (K2.trans kc)
      obtain ⟨vs, e1, e2, e3⟩ := HOW2
      rw [List.length_map, HOL.out] at e1 e2
      have fu : (w2.alloc (.cells #[v2] 36)).ownsRow base 3 1 v2 (ints row).length ((ints row).flatMap intC) := by
        rw [ints_len, HRL.out]
        exact own_ints (own_mono (own_on hv2 kc) (by omega))
      obtain ⟨va, vc, rfl⟩ := own_slice hv2
      have F2 : Hid ((w2.alloc (.cells #[.slice va rl vc] 36)).ownsRow base 36 1 (.slice oa ol oc) ol vs) := e2
      have E1 : Hid (vs.length = ol) := e1
      have E3 : Hid (∀ (i : Nat) (u : Value) (L : List Int), vs[i]? = some u → (out.map ints)[i]? = some L → (w2.alloc (.cells #[.slice va rl vc] 36)).ownsRow base 3 1 u L.length (L.flatMap intC)) := e3
      clear e1 e2 e3 hv2 hg2 hE hRw HRW HOW
      go_wp2_with (at_builtin; refine wpList_append_own _ rfl _ _ 33 rfl base 36 i0 (.slice none 0 0) 1 24 Tryd.underlying33 hi hz0 hz1 hz2 rfl (by decide) _ _ _ rfl F2.out ⟨w2.heap.size, 0, none⟩ 1 1 [.slice va rl vc] rfl rfl ?c1 ?c2 ?c3 ?c4 ?c5 ?_)
      case c1 =>
        intro j u hu
        rw [new_cell]
        exact hu
      case c2 =>
        intro u hu
        simp only [List.mem_cons, List.not_mem_nil, or_false] at hu
        subst hu
        rfl
      case c3 => unfold maxLen; omega
      case c4 => omega
      case c5 => simp only [World.size_alloc]; omega
      intro v' w5 hown5 hg5 _
      have HOW5 : Hid (OwnI w5 base v' ((out ++ [row]).map ints)) := by
        have := Own2.snoc (C := intC) (k := 1) (eo := 36) (ei := 3) (LL := out.map ints) (L := ints row) (w' := w5) (v' := v') (u := .slice va rl vc) (by rw [List.length_map, HOL.out]; exact E1.out) (by rw [List.length_map, HOL.out]; exact F2.out) E3.out (by decide) hg5 (by rw [List.length_map, HOL.out]; exact hown5) fu
        show Own2 _ _ _ _ _ _ _ _
        rw [List.map_append]
        exact this
      have HFR : Hid (Fr base w w5) := (Fr.of (K2.trans kc)).trans (Fr.grown F2.out hg5)
      clear hown5 hg5 F2 E1 E3 fu
      go_wp2
      go_ret
      exact ⟨_, rfl, HOW5.out, HFR.out⟩
  | succ k ih =>
    intro row out vr vo w hrk hok hown hout hol hbs
    obtain ⟨oa, oc, rfl⟩ := hout.slice
    obtain ⟨ra, rc, rfl⟩ := own_slice hown
    have hO := hout
    rw [List.length_map] at hO ⊢
    by_cases hge : M ≤ out.length
    · have e : M - out.length = 0 := by omega
      rw [e, List.take_zero, List.append_nil]
      have hd : decide (M ≤ out.length) = true := decide_eq_true hge
      have HO : Hid (OwnI (w.alloc (.cells (relA r) 27)) base (.slice oa out.length oc) (out.map ints)) := hO.on ((On.refl w).alloc _)
      clear hO hout hown hok e ih
      generalize out.length = ol at *
      generalize row.length = rl at *
      go_enter Tryd.func18, Tryd.ntmps18
      go_wp2
      go_ret
      exact ⟨_, rfl, HO.out, Fr.of ((On.refl w).alloc _)⟩
    · have hd : decide (M ≤ out.length) = false := decide_eq_false hge
      have hro : ∀ x ∈ row, x < 64 := fun x hx => by have := okS_lt row 0 hok x hx; omega
      have htl := msk_lt row 0 (by decide)
      have hall := preL_all (D := DL2D (needL r)) hr.n row k htl
      have hstep := preL_step r.n (DL2D (needL r)) row k (mskN 0 row)
      have HFM : Hid (∀ i, i < r.n → frJ r row i r.n = mayP r.n (DL2D (needL r)) (mskN 0 row) i) := fun i hi => frJ_may hr hro hi
      have HIH : Hid (∀ (i : Nat), mayP r.n (DL2D (needL r)) (mskN 0 row) i = true → ∀ (o : List (List Nat)) (v8 vo : Value) (W : World), W.ownsRow 0 3 1 v8 (row ++ [i]).length ((row ++ [i]).map intV) → OwnI W base vo (o.map ints) → o.length ≤ 2000 → base ≤ W.heap.size →
          Calls Tryd.prog 18 #[.agg (relA r), v8, vo, .int .i64 M] W fun e w' => ∃ v', e = .returned v' ∧ OwnI w' base v' ((o ++ (grpL r.n (DL2D (needL r)) row k (mskN 0 row) i).take (M - o.length)).map ints) ∧ Fr base W w') := fun i hmay o v8 vo W h8 ho hl hb => by
        have hok2 : okS r.n (DL2D (needL r)) 0 (row ++ [i]) = true := by rw [okS_append, hok, okS, okS, hmay]; rfl
        have := ih (row ++ [i]) o v8 vo W (by simp; omega) hok2 h8 ho hl hb
        have e : (exts r.n (DL2D (needL r)) k (mskN 0 (row ++ [i]))).map ((row ++ [i]) ++ ·) = grpL r.n (DL2D (needL r)) row k (mskN 0 row) i := by
          unfold grpL
          rw [msk_append]
          congr 1
          funext s
          simp
        rwa [e] at this
      rw [← hall]
      have h1 : (w.alloc (.cells (relA r) 27)).heap[w.heap.size]? = some (.cells (relA r) 27 (0, 0)) := heap_alloc_new w _
      have kb := (On.refl w).alloc (.cells (relA r) 27)
      have S1 : Sj base r w.heap.size (.slice ra row.length rc) row (w.alloc (.cells (relA r) 27)) := ⟨h1, own_on hown kb, Nat.le_trans hbs kb.size⟩
      have B1 := S1.bk
      have HOW : Hid (OwnI w base (.slice oa out.length oc) (out.map ints)) := hO
      have hlr : row.length < r.n := by omega
      have hrl : row.length ≤ 64 := by omega
      have HST : Hid (∀ i, preL r.n (DL2D (needL r)) row k (mskN 0 row) (i + 1) = if mayP r.n (DL2D (needL r)) (mskN 0 row) i = true then preL r.n (DL2D (needL r)) row k (mskN 0 row) i ++ grpL r.n (DL2D (needL r)) row k (mskN 0 row) i else preL r.n (DL2D (needL r)) row k (mskN 0 row) i) := hstep
      have HP0 : Hid (preL r.n (DL2D (needL r)) row k (mskN 0 row) 0 = []) := rfl
      clear hO hout hown hok ih hall hstep h1 hro htl hr
      obtain ⟨n, hnn⟩ : ∃ n, n = r.n := ⟨_, rfl⟩
      rw [← hnn] at hn hN HFM HIH HST HP0 hlr hrk ⊢
      clear hnn
      generalize DL2D (needL r) = D at *
      generalize mskN 0 row = t at *
      obtain ⟨ol, hol2⟩ : ∃ ol, ol = out.length := ⟨_, rfl⟩
      rw [← hol2] at hd hol HOW hge ⊢
      have HOL : Hid (out.length = ol) := hol2.symm
      clear hol2
      obtain ⟨rl, hrl2⟩ : ∃ rl, rl = row.length := ⟨_, rfl⟩
      rw [← hrl2] at hrl S1 hlr ⊢
      have HRL : Hid (row.length = rl) := hrl2.symm
      have heq : ((rl : Int) == (n : Int)) = false := by simpa using (by omega : ¬ (rl : Int) = n)
      clear hrl2 hrk
      go_enter Tryd.func18, Tryd.ntmps18
      go_wp2_with (refine wpList_ld rfl rfl rfl B1 ?_)
      refine (hN _).mono ?_
      rintro _ w1 ⟨rfl, k1⟩
      have HFR1 : Hid (Fr base w w1) := Fr.of (kb.trans k1)
      have HS1 : Hid (Sj base r w.heap.size (.slice ra rl rc) row w1) := S1.on k1
      have HOW1 : Hid (OwnI w1 base (.slice oa ol oc) (out.map ints)) := HOW.out.on (kb.trans k1)
      clear S1 B1 kb k1 HOW
      go_wp2
      go_loopg [2, 9] n (fun gg s2 s9 wr => ∃ (i : Nat) (o : List (List Nat)), i ≤ n ∧ gg = n - i ∧ s9 = .int .i64 i ∧ Hid (OwnI wr base s2 (o.map ints)) ∧ Hid (o = out ++ (preL n D row k t i).take (M - ol)) ∧ Hid (Fr base w wr) ∧ Hid (Sj base r w.heap.size (.slice ra rl rc) row wr))
      case atStart => exact ⟨0, out, Nat.zero_le _, rfl, rfl, HOW1, (by show _ = _; rw [HP0.out]; simp), HFR1, HS1⟩
      case round =>
        clear HOW1 HFR1 HS1 HP0
        obtain ⟨i, o, hin, hk, rfl, HOW, HO, HFR, HS⟩ := hrel
        have B1 := HS.out.bk
        rcases Nat.lt_or_ge i n with hlt | hge2
        · go_wp2_with (refine wpList_ld rfl rfl rfl B1 ?_)
          refine (hN _).mono ?_
          rintro _ w2 ⟨rfl, k2⟩
          have HFR2 : Hid (Fr base w w2) := HFR.out.trans (Fr.of k2)
          have HS2 : Hid (Sj base r w.heap.size (.slice ra rl rc) row w2) := HS.out.on k2
          have HOW2 : Hid (OwnI w2 base u2 (o.map ints)) := HOW.out.on k2
          clear HFR HS HOW B1 k2
          go_wp2
          go_loopg [10, 11] rl (fun gg s10 s11 wi => ∃ (q : Nat) (f : Bool), q ≤ rl ∧ gg = rl - q ∧ s11 = .int .i64 q ∧ s10 = .bool f ∧ Hid (f = notT row i q) ∧ w2 = wi)
          case atStart => exact ⟨0, true, Nat.zero_le _, rfl, rfl, rfl, rfl, rfl⟩
          case round =>
            obtain ⟨q, f, hq, hkq, rfl, rfl, HF, hwi⟩ := hrel
            subst hwi
            rcases Nat.lt_or_ge q rl with hql | hqg
            · obtain ⟨x, hx⟩ : ∃ x, row[q]? = some x := ⟨_, List.getElem?_eq_getElem (by rw [HRL.out]; exact hql)⟩
              have hns := notT_step i hx
              rw [← HF.out] at hns
              have HSX := HS2.out
              rw [← HRL.out] at HSX
              obtain ⟨g, hga, hg, hc⟩ := HSX.at hx
              subst hga
              clear HSX hx
              cases f with
              | false =>
                rw [Bool.false_and] at hns
                have HF2 : Hid (false = notT row i (q + 1)) := hns.symm
                clear hns hc
                go_wp2
                go_roundg (rl - (q + 1))
                case measure => omega
                case rel => exact ⟨q + 1, false, hql, rfl, by congr 1, rfl, HF2, rfl⟩
              | true =>
                rw [Bool.true_and] at hns
                by_cases hxi : x = i
                · subst hxi
                  have HF2 : Hid (false = notT row x (q + 1)) := by show false = _; rw [hns]; simp
                  clear hns
                  go_wp2
                  clear hc
                  go_roundg (rl - (q + 1))
                  case measure => omega
                  case rel => exact ⟨q + 1, false, hql, rfl, by congr 1, rfl, HF2, rfl⟩
                · have HF2 : Hid (true = notT row i (q + 1)) := by show true = _; rw [hns]; simp [hxi]
                  have hne : ((x : Int) == (i : Int)) = false := by simpa using (by omega : ¬ (x : Int) = i)
                  have hne2 : ((x : Int) != (i : Int)) = true := by rw [bne, hne]; rfl
                  clear hns hxi
                  go_wp2
                  clear hc
                  go_roundg (rl - (q + 1))
                  case measure => omega
                  case rel => exact ⟨q + 1, true, hql, rfl, by congr 1, rfl, HF2, rfl⟩
            · obtain rfl : rl = q := by omega
              have HFJ : Hid (f = frJ r row i 0) := by show f = notT row i row.length; rw [HRL.out]; exact HF.out
              clear HF
              go_wp2
              go_loopg [10, 12] n (fun gg s10 s12 wi => ∃ (a : Nat) (f : Bool), a ≤ n ∧ gg = n - a ∧ s12 = .int .i64 a ∧ s10 = .bool f ∧ Hid (f = frJ r row i a) ∧ Hid (On w2 wi) ∧ Hid (Sj base r w.heap.size (.slice ra rl rc) row wi))
              case atStart => exact ⟨0, f, Nat.zero_le _, rfl, rfl, rfl, HFJ, On.refl _, HS2⟩
              case round =>
                clear HFJ
                obtain ⟨a, f, han, hka, rfl, rfl, HFJ, HO3, HS3⟩ := hrel
                have B3 := HS3.out.bk
                rcases Nat.lt_or_ge a n with hal | hag
                · have hHa := HH.out a i
                  have hfs : frJ r row i (a + 1) = if H r a i = true then frJ r row i a && thrT row a row.length else frJ r row i a := rfl
                  rw [← HFJ.out, HRL.out] at hfs
                  go_wp2_with (refine wpList_ld rfl rfl rfl B3 ?_)
                  refine (hN _).mono ?_
                  rintro _ w4 ⟨rfl, k4⟩
                  have B4 := B3.on k4
                  cases hh : H r a i with
                  | false =>
                    rw [hh] at hHa hfs
                    rw [if_neg (by decide)] at hfs
                    have HF2 : Hid (f = frJ r row i (a + 1)) := hfs.symm
                    clear hfs hh
                    go_wp2_with (refine wpList_ld rfl rfl rfl B4 ?_)
                    refine (hHa _).mono ?_
                    rintro _ w5 ⟨rfl, k5⟩
                    have HO5 : Hid (On w2 w5) := HO3.out.trans (k4.trans k5)
                    have HS5 : Hid (Sj base r w.heap.size (.slice ra rl rc) row w5) := HS3.out.on (k4.trans k5)
                    clear HO3 HS3 B3 B4 k4 k5
                    go_wp2
                    go_roundg (n - (a + 1))
                    case measure => omega
                    case rel => exact ⟨a + 1, f, hal, rfl, by congr 1, rfl, HF2, HO5, HS5⟩
                  | true =>
                    rw [hh] at hHa hfs
                    rw [if_pos rfl] at hfs
                    have HFS : Hid (frJ r row i (a + 1) = (f && thrT row a rl)) := hfs
                    clear hfs hh
                    go_wp2_with (refine wpList_ld rfl rfl rfl B4 ?_)
                    refine (hHa _).mono ?_
                    rintro _ w5 ⟨rfl, k5⟩
                    have HO5 : Hid (On w2 w5) := HO3.out.trans (k4.trans k5)
                    have HS5 : Hid (Sj base r w.heap.size (.slice ra rl rc) row w5) := HS3.out.on (k4.trans k5)
                    clear HO3 HS3 B3 B4 k4 k5
                    go_wp2
                    go_loopg [13, 14] rl (fun gg s13 s14 wi => ∃ (q : Nat) (th : Bool), q ≤ rl ∧ gg = rl - q ∧ s14 = .int .i64 q ∧ s13 = .bool th ∧ Hid (th = thrT row a q) ∧ w5 = wi)
                    case atStart => exact ⟨0, false, Nat.zero_le _, rfl, rfl, rfl, rfl, rfl⟩
                    case round =>
                      obtain ⟨q, th, hq, hkq, rfl, rfl, HT, hwi⟩ := hrel
                      subst hwi
                      rcases Nat.lt_or_ge q rl with hql | hqg
                      · obtain ⟨x, hx⟩ : ∃ x, row[q]? = some x := ⟨_, List.getElem?_eq_getElem (by rw [HRL.out]; exact hql)⟩
                        have hns := thrT_step a hx
                        rw [← HT.out] at hns
                        have HSX := HS5.out
                        rw [← HRL.out] at HSX
                        obtain ⟨g, hga, hg, hc⟩ := HSX.at hx
                        subst hga
                        clear HSX hx
                        cases th with
                        | true =>
                          rw [Bool.true_or] at hns
                          have HF2 : Hid (true = thrT row a (q + 1)) := hns.symm
                          clear hns hc
                          go_wp2
                          go_roundg (rl - (q + 1))
                          case measure => omega
                          case rel => exact ⟨q + 1, true, hql, rfl, by congr 1, rfl, HF2, rfl⟩
                        | false =>
                          rw [Bool.false_or] at hns
                          by_cases hxi : x = a
                          · subst hxi
                            have HF2 : Hid (true = thrT row x (q + 1)) := by show true = _; rw [hns]; simp
                            clear hns
                            go_wp2
                            clear hc
                            go_roundg (rl - (q + 1))
                            case measure => omega
                            case rel => exact ⟨q + 1, true, hql, rfl, by congr 1, rfl, HF2, rfl⟩
                          · have HF2 : Hid (false = thrT row a (q + 1)) := by show false = _; rw [hns]; simp [hxi]
                            have hne : ((x : Int) == (a : Int)) = false := by simpa using (by omega : ¬ (x : Int) = a)
                            clear hns hxi
                            go_wp2
                            clear hc
                            go_roundg (rl - (q + 1))
                            case measure => omega
                            case rel => exact ⟨q + 1, false, hql, rfl, by congr 1, rfl, HF2, rfl⟩
                      · obtain rfl : rl = q := by omega
                        have HF3 : Hid ((f && th) = frJ r row i (a + 1)) := by show _ = _; rw [HFS.out, HT.out]
                        clear HFS HT
                        cases f with
                        | false =>
                          go_wp2
                          go_roundg (n - (a + 1))
                          case measure => omega
                          case rel => exact ⟨a + 1, false, hal, rfl, by congr 1, rfl, HF3, HO5, HS5⟩
                        | true =>
                          go_wp2
                          go_roundg (n - (a + 1))
                          case measure => omega
                          case rel => exact ⟨a + 1, th, hal, rfl, by congr 1, rfl, (by rw [← Bool.true_and th]; exact HF3), HO5, HS5⟩
                · obtain rfl : n = a := by omega
                  have hfm : Hid (f = mayP n D t i) := HFJ.out.trans (HFM.out i hlt)
                  have hst0 := HST.out i
                  rw [← hfm.out] at hst0
                  have HS0 : Hid (preL n D row k t (i + 1) = if f = true then preL n D row k t i ++ grpL n D row k t i else preL n D row k t i) := hst0
                  clear hst0
                  go_wp2_with (refine wpList_ld rfl rfl rfl B3 ?_)
                  refine (hN _).mono ?_
                  rintro _ w4 ⟨rfl, k4⟩
                  have HO4 : Hid (On w2 w4) := HO3.out.trans k4
                  have HS4 : Hid (Sj base r w.heap.size (.slice ra rl rc) row w4) := HS3.out.on k4
                  have HFR4 : Hid (Fr base w w4) := HFR2.out.trans (Fr.of HO4.out)
                  have HOW4 : Hid (OwnI w4 base u2 (o.map ints)) := HOW2.out.on HO4.out
                  clear HO3 HS3 k4 HFJ B3 HO4
                  cases f with
                  | false =>
                    have hst := HS0.out
                    rw [if_neg (by decide)] at hst
                    clear HS0
                    have HO5 : Hid (o = out ++ (preL n D row k t (i + 1)).take (M - ol)) := by show o = _; rw [hst]; exact HO.out
                    clear hst hfm
                    go_wp2
                    go_roundg (n - (i + 1))
                    case measure => omega
                    case rel => exact ⟨i + 1, o, hlt, rfl, by congr 1, HOW4, HO5, HFR4, HS4⟩
                  | true =>
                    have hst := HS0.out
                    rw [if_pos rfl] at hst
                    clear HS0
                    have HIHI := HIH.out i hfm.out.symm o
                    have hol3 : o.length ≤ 2000 := by rw [HO.out, List.length_append, List.length_take, HOL.out]; omega
                    have HO5 : Hid (o ++ (grpL n D row k t i).take (M - o.length) = out ++ (preL n D row k t (i + 1)).take (M - ol)) := by
                      show _ = _
                      have htm := take_more out (preL n D row k t i) (grpL n D row k t i) M
                      rw [HOL.out] at htm
                      rw [hst, htm, ← HO.out]
                    have HCALL : Hid (∀ (v8 : Value) (W : World), W.ownsRow 0 3 1 v8 (row ++ [i]).length ((row ++ [i]).map intV) → OwnI W base u2 (o.map ints) → base ≤ W.heap.size → Calls Tryd.prog 18 #[.agg (relA r), v8, u2, .int .i64 M] W fun e w' => ∃ v', e = .returned v' ∧ OwnI w' base v' ((o ++ (grpL n D row k t i).take (M - o.length)).map ints) ∧ Fr base W w') := fun v8 W h1 h2 h3 => HIHI v8 u2 W h1 h2 hol3 h3
                    have hs4 : w4.drew.heap.size = w4.heap.size := rfl
                    have S0 : Bk w4.drew w.heap.size (relA r) := HS4.out.bk
                    have hR4 : w4.drew.ownsRow 0 3 1 (.slice ra rl rc) row.length (row.map intV) := (HS4.out.on ((On.refl w4).drew)).r
                    have HR4 : Hid (w4.drew.ownsRow 0 3 1 (.slice ra rl rc) row.length (row.map intV)) := hR4
                    have hb4 := HS4.out.s
                    clear hst hfm HIHI hR4
                    obtain ⟨ua, uc, rfl⟩ := HOW4.out.slice
                    rw [List.length_map] at HOW4 HCALL ⊢
                    obtain ⟨oo, hoo⟩ : ∃ oo, oo = o.length := ⟨_, rfl⟩
                    rw [← hoo] at HOW4 HCALL ⊢
                    rw [← hoo] at HO5
                    clear hoo hol3
                    go_wp2
                    refine region_fz (fun W => Bk W w.heap.size (relA r)) [] 11 (by kernel_rfl) rfl ?_
                    refine fz_take 0 (v := .agg (relA r)) rfl (by kernel_rfl) (by kernel_rfl) (by kernel_rfl) (by kernel_rfl) (fun _ _ _ h => h) rfl (fun W hW => exec_ld rfl rfl (hW)) S0 ?_
                    simp only [Act.put, List.setIfInBounds_toArray, List.set_cons_zero, List.set_cons_succ]
                    refine fz_take 2 (v := ?_) rfl (by kernel_rfl) (by kernel_rfl) (by kernel_rfl) (by kernel_rfl) (fun _ _ _ h => h) rfl ?_ S0 ?_
                    rotate_left
                    · intro W hW
                      go_simp
                      (try with_reducible rfl)
                    simp only [Act.put, List.setIfInBounds_toArray, List.set_cons_zero, List.set_cons_succ]
                    refine fz_take 4 (v := ?_) rfl (by kernel_rfl) (by kernel_rfl) (by kernel_rfl) (by kernel_rfl) (fun _ _ _ h => h) rfl ?_ S0 ?_
                    rotate_left
                    · intro W hW
                      go_simp
                      (try with_reducible rfl)
                    simp only [Act.put, List.setIfInBounds_toArray, List.set_cons_zero, List.set_cons_succ]
                    refine fz_take 7 (v := ?_) rfl (by kernel_rfl) (by kernel_rfl) (by kernel_rfl) (by kernel_rfl) (fun _ _ _ h => h) rfl ?_ S0 ?_
                    rotate_left
                    · intro W hW
                      go_simp
                      (try with_reducible rfl)
                    simp only [Act.put, List.setIfInBounds_toArray, List.set_cons_zero, List.set_cons_succ]
                    refine fz_take 8 (v := ?_) rfl (by kernel_rfl) (by kernel_rfl) (by kernel_rfl) (by kernel_rfl) (fun _ _ _ h => h) rfl ?_ S0 ?_
                    rotate_left
                    · intro W hW
                      go_simp
                      (try with_reducible rfl)
                    simp only [Act.put, List.setIfInBounds_toArray, List.set_cons_zero, List.set_cons_succ]
                    have J0 : On w4.drew w4.drew := On.refl _
                    refine fz_two 1 5 rfl rfl rfl rfl (by kernel_rfl) (fun K hK => ?_) (fun K hK => ?_)
                    · have eE : (w4.drew.alloc (.cells #[] 3)).ownsRow w4.drew.heap.size 3 1 (.slice (some ⟨w4.drew.heap.size, 0, none⟩) 0 0) ([] : List Nat).length (([] : List Nat).map intV) := World.ownsRow_made w4.drew #[] 0 (Nat.le_refl _) (Nat.zero_le _) rfl
                      have J1 : On w4.drew (w4.drew.alloc (.cells #[] 3)) := J0.alloc _
                      go_simp
                      refine hK.out _ _ (fun _ => S0.on J1) ?_
                      clear hK
                      refine fz_two 3 5 rfl rfl rfl rfl (by kernel_rfl) (fun K hK => ?_) (fun K hK => ?_)
                      · refine wp_append_rows (v := .slice (some ⟨w4.drew.heap.size, 0, none⟩) 0 0) (u := .slice ra rl rc) _ _ rfl rfl rfl eE (own_on HR4.out J1) (by rw [HRL.out]; simp; omega) (by first | exact J1.size | simp) ?_
                        intro vA wA hA gA
                        have J2 : On w4.drew wA := J1.grown gA (by intro q hq; show w4.heap.size ≤ q; simp [Value.ownBlock] at hq; omega)
                        rw [List.nil_append] at hA
                        refine hK.out _ _ (fun _ => S0.on J2) ?_
                        clear hK
                        refine fz_one 5 rfl rfl (by kernel_rfl) (fun K hK => ?_)
                        have eI : (wA.alloc (.cells #[.int .i64 (i : Int)] 3)).ownsRow 0 3 1 (.slice (some ⟨wA.heap.size, 0, none⟩) 1 1) ([i] : List Nat).length (([i] : List Nat).map intV) := own_one wA #[.int .i64 (i : Int)] 3 1 0 rfl (Nat.zero_le _)
                        have J3 : On w4.drew (wA.alloc (.cells #[.int .i64 (i : Int)] 3)) := J2.alloc _
                        go_simp
                        refine hK.out _ _ (fun _ => S0.on J3) ?_
                        clear hK
                        have hA6 := own_on hA ((On.refl wA).alloc (.cells #[.int .i64 (i : Int)] 3))
                        have eI6 := eI
                        have hz6 := J3.size
                        refine fz_one 6 rfl rfl (by kernel_rfl) (fun K hK => ?_)
                        refine wp_append_rows (v := vA) (u := .slice (some ⟨wA.heap.size, 0, none⟩) 1 1) _ _ rfl rfl rfl hA6 eI6 (by rw [HRL.out]; simp; omega) (by simp only [World.size_alloc] at hz6 ⊢; exact Nat.le_trans J2.size (Nat.le_succ _)) ?_
                        intro vB wB hB gB
                        have JB : On w4.drew wB := J3.grown gB (fun q hq => (hA6.lt q hq).1)
                        refine hK.out _ _ (fun _ => S0.on JB) ?_
                        clear hK
                        refine fz_one 9 rfl rfl (by kernel_rfl) (fun K hK => ?_)
                        go_simp
                        have J4 : On w4 wB := ((On.refl w4).drew).trans JB
                        refine (HCALL.out vB wB (own_mono hB (Nat.zero_le _)) (HOW4.out.on J4) (Nat.le_trans hb4 J4.size)).mono ?_
                        rintro _ wC ⟨vC, rfl, hC, fC⟩
                        have S9 : Bk wC w.heap.size (relA r) := ((HS4.out.on J4).fr fC).bk
                        refine hK.out _ _ (fun _ => S9) ?_
                        clear hK
                        refine fz_take 10 (v := ?_) rfl (by kernel_rfl) (by kernel_rfl) (by kernel_rfl) (by kernel_rfl) (fun _ _ _ h => h) rfl ?_ S9 ?_
                        rotate_left
                        · intro W hW
                          go_simp
                          (try with_reducible rfl)
                        simp only [Act.put, List.setIfInBounds_toArray, List.set_cons_zero, List.set_cons_succ]
                        refine fz_done (by kernel_rfl) (NoPanic.normal ?_)
                        rw [HO5.out] at hC
                        have HC : Hid (OwnI wC base vC ((out ++ (preL n D row k t (i + 1)).take (M - ol)).map ints)) := hC
                        have HFC : Hid (Fr base w wC) := (HFR4.out.trans (Fr.of J4)).trans fC
                        have HSC : Hid (Sj base r w.heap.size (.slice ra rl rc) row wC) := (HS4.out.on J4).fr fC
                        clear hC fC S9 J4 JB hB gB HCALL HR4 HS4 HFR4 HOW4 S0
                        go_wp2
                        go_roundg (n - (i + 1))
                        case measure => omega
                        case rel => exact ⟨i + 1, _, hlt, rfl, by congr 1, HC, rfl, HFC, HSC⟩
                      · have eI : ((w4.drew.alloc (.cells #[] 3)).alloc (.cells #[.int .i64 (i : Int)] 3)).ownsRow 0 3 1 (.slice (some ⟨(w4.drew.alloc (.cells #[] 3)).heap.size, 0, none⟩) 1 1) ([i] : List Nat).length (([i] : List Nat).map intV) := own_one (w4.drew.alloc (.cells #[] 3)) #[.int .i64 (i : Int)] 3 1 0 rfl (Nat.zero_le _)
                        have J2 : On w4.drew ((w4.drew.alloc (.cells #[] 3)).alloc (.cells #[.int .i64 (i : Int)] 3)) := J1.alloc _
                        simp only [World.size_alloc] at eI
                        go_simp
                        refine hK.out _ _ (fun _ => S0.on J2) ?_
                        clear hK
                        have eE0 := eE
                        clear eE
                        have eE := own_on eE0 ((On.refl (w4.drew.alloc (.cells #[] 3))).alloc (.cells #[.int .i64 (i : Int)] 3))
                        refine fz_one 3 rfl rfl (by kernel_rfl) (fun K hK => ?_)
                        refine wp_append_rows (v := .slice (some ⟨w4.drew.heap.size, 0, none⟩) 0 0) (u := .slice ra rl rc) _ _ rfl rfl rfl eE (own_on HR4.out J2) (by rw [HRL.out]; simp; omega) (by first | exact J2.size | simp) ?_
                        intro vA wA hA gA
                        have J3 : On w4.drew wA := J2.grown gA (by intro q hq; show w4.heap.size ≤ q; simp [Value.ownBlock] at hq; omega)
                        rw [List.nil_append] at hA
                        refine hK.out _ _ (fun _ => S0.on J3) ?_
                        clear hK
                        have eI6 : wA.ownsRow 0 3 1 (.slice (some ⟨w4.drew.heap.size + 1, 0, none⟩) 1 1) ([i] : List Nat).length (([i] : List Nat).map intV) := eI.kept gA (by simp [Value.ownBlock])
                        have hA6 := hA
                        refine fz_one 6 rfl rfl (by kernel_rfl) (fun K hK => ?_)
                        refine wp_append_rows (v := vA) (u := .slice (some ⟨w4.drew.heap.size + 1, 0, none⟩) 1 1) _ _ rfl rfl rfl hA6 eI6 (by rw [HRL.out]; simp; omega) (by exact J3.size) ?_
                        intro vB wB hB gB
                        have JB : On w4.drew wB := J3.grown gB (fun q hq => (hA6.lt q hq).1)
                        refine hK.out _ _ (fun _ => S0.on JB) ?_
                        clear hK
                        refine fz_one 9 rfl rfl (by kernel_rfl) (fun K hK => ?_)
                        go_simp
                        have J4 : On w4 wB := ((On.refl w4).drew).trans JB
                        refine (HCALL.out vB wB (own_mono hB (Nat.zero_le _)) (HOW4.out.on J4) (Nat.le_trans hb4 J4.size)).mono ?_
                        rintro _ wC ⟨vC, rfl, hC, fC⟩
                        have S9 : Bk wC w.heap.size (relA r) := ((HS4.out.on J4).fr fC).bk
                        refine hK.out _ _ (fun _ => S9) ?_
                        clear hK
                        refine fz_take 10 (v := ?_) rfl (by kernel_rfl) (by kernel_rfl) (by kernel_rfl) (by kernel_rfl) (fun _ _ _ h => h) rfl ?_ S9 ?_
                        rotate_left
                        · intro W hW
                          go_simp
                          (try with_reducible rfl)
                        simp only [Act.put, List.setIfInBounds_toArray, List.set_cons_zero, List.set_cons_succ]
                        refine fz_done (by kernel_rfl) (NoPanic.normal ?_)
                        rw [HO5.out] at hC
                        have HC : Hid (OwnI wC base vC ((out ++ (preL n D row k t (i + 1)).take (M - ol)).map ints)) := hC
                        have HFC : Hid (Fr base w wC) := (HFR4.out.trans (Fr.of J4)).trans fC
                        have HSC : Hid (Sj base r w.heap.size (.slice ra rl rc) row wC) := (HS4.out.on J4).fr fC
                        clear hC fC S9 J4 JB hB gB HCALL HR4 HS4 HFR4 HOW4 S0
                        go_wp2
                        go_roundg (n - (i + 1))
                        case measure => omega
                        case rel => exact ⟨i + 1, _, hlt, rfl, by congr 1, HC, rfl, HFC, HSC⟩
                    · have eI : (w4.drew.alloc (.cells #[.int .i64 (i : Int)] 3)).ownsRow 0 3 1 (.slice (some ⟨w4.drew.heap.size, 0, none⟩) 1 1) ([i] : List Nat).length (([i] : List Nat).map intV) := own_one w4.drew #[.int .i64 (i : Int)] 3 1 0 rfl (Nat.zero_le _)
                      have J1 : On w4.drew (w4.drew.alloc (.cells #[.int .i64 (i : Int)] 3)) := J0.alloc _
                      go_simp
                      refine hK.out _ _ (fun _ => S0.on J1) ?_
                      clear hK
                      refine fz_one 1 rfl rfl (by kernel_rfl) (fun K hK => ?_)
                      have eE : ((w4.drew.alloc (.cells #[.int .i64 (i : Int)] 3)).alloc (.cells #[] 3)).ownsRow (w4.drew.alloc (.cells #[.int .i64 (i : Int)] 3)).heap.size 3 1 (.slice (some ⟨(w4.drew.alloc (.cells #[.int .i64 (i : Int)] 3)).heap.size, 0, none⟩) 0 0) ([] : List Nat).length (([] : List Nat).map intV) := World.ownsRow_made (w4.drew.alloc (.cells #[.int .i64 (i : Int)] 3)) #[] 0 (Nat.le_refl _) (Nat.zero_le _) rfl
                      have J2 : On w4.drew ((w4.drew.alloc (.cells #[.int .i64 (i : Int)] 3)).alloc (.cells #[] 3)) := J1.alloc _
                      simp only [World.size_alloc] at eE
                      go_simp
                      refine hK.out _ _ (fun _ => S0.on J2) ?_
                      clear hK
                      refine fz_one 3 rfl rfl (by kernel_rfl) (fun K hK => ?_)
                      refine wp_append_rows (v := .slice (some ⟨w4.drew.heap.size + 1, 0, none⟩) 0 0) (u := .slice ra rl rc) _ _ rfl rfl rfl eE (own_on HR4.out J2) (by rw [HRL.out]; simp; omega) (by first | exact J2.size | simp) ?_
                      intro vA wA hA gA
                      have J3 : On w4.drew wA := J2.grown gA (by intro q hq; show w4.heap.size ≤ q; simp [Value.ownBlock] at hq; omega)
                      rw [List.nil_append] at hA
                      refine hK.out _ _ (fun _ => S0.on J3) ?_
                      clear hK
                      have eI6 : wA.ownsRow 0 3 1 (.slice (some ⟨w4.drew.heap.size, 0, none⟩) 1 1) ([i] : List Nat).length (([i] : List Nat).map intV) := (own_on eI ((On.refl (w4.drew.alloc (.cells #[.int .i64 (i : Int)] 3))).alloc (.cells #[] 3))).kept gA (by simp [Value.ownBlock])
                      have hA6 := own_mono hA (Nat.le_succ w4.drew.heap.size)
                      refine fz_one 6 rfl rfl (by kernel_rfl) (fun K hK => ?_)
                      refine wp_append_rows (v := vA) (u := .slice (some ⟨w4.drew.heap.size, 0, none⟩) 1 1) _ _ rfl rfl rfl hA6 eI6 (by rw [HRL.out]; simp; omega) (by exact J3.size) ?_
                      intro vB wB hB gB
                      have JB : On w4.drew wB := J3.grown gB (fun q hq => (hA6.lt q hq).1)
                      refine hK.out _ _ (fun _ => S0.on JB) ?_
                      clear hK
                      refine fz_one 9 rfl rfl (by kernel_rfl) (fun K hK => ?_)
                      go_simp
                      have J4 : On w4 wB := ((On.refl w4).drew).trans JB
                      refine (HCALL.out vB wB (own_mono hB (Nat.zero_le _)) (HOW4.out.on J4) (Nat.le_trans hb4 J4.size)).mono ?_
                      rintro _ wC ⟨vC, rfl, hC, fC⟩
                      have S9 : Bk wC w.heap.size (relA r) := ((HS4.out.on J4).fr fC).bk
                      refine hK.out _ _ (fun _ => S9) ?_
                      clear hK
                      refine fz_take 10 (v := ?_) rfl (by kernel_rfl) (by kernel_rfl) (by kernel_rfl) (by kernel_rfl) (fun _ _ _ h => h) rfl ?_ S9 ?_
                      rotate_left
                      · intro W hW
                        go_simp
                        (try with_reducible rfl)
                      simp only [Act.put, List.setIfInBounds_toArray, List.set_cons_zero, List.set_cons_succ]
                      refine fz_done (by kernel_rfl) (NoPanic.normal ?_)
                      rw [HO5.out] at hC
                      have HC : Hid (OwnI wC base vC ((out ++ (preL n D row k t (i + 1)).take (M - ol)).map ints)) := hC
                      have HFC : Hid (Fr base w wC) := (HFR4.out.trans (Fr.of J4)).trans fC
                      have HSC : Hid (Sj base r w.heap.size (.slice ra rl rc) row wC) := (HS4.out.on J4).fr fC
                      clear hC fC S9 J4 JB hB gB HCALL HR4 HS4 HFR4 HOW4 S0
                      go_wp2
                      go_roundg (n - (i + 1))
                      case measure => omega
                      case rel => exact ⟨i + 1, _, hlt, rfl, by congr 1, HC, rfl, HFC, HSC⟩
        · obtain rfl : n = i := by omega
          have HFR3 : Hid (OwnI wr base u2 ((out ++ (preL n D row k t n).take (M - ol)).map ints)) := by rw [← HO.out]; exact HOW
          go_wp2_with (refine wpList_ld rfl rfl rfl B1 ?_)
          refine (hN _).mono ?_
          rintro _ w2 ⟨rfl, k2⟩
          go_wp2
          go_ret
          exact ⟨_, rfl, HFR3.out.on k2, HFR.out.trans (Fr.of k2)⟩
end Go.Proofs.YtohngifmbnlmmaaDoor
