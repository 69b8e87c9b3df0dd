/- BufPlays' same: a Buf tells of a location what the document's row does. -/
import Derived.Test.YtnoeofbjnogkmaaBufM
namespace Go.Proofs.Ytnoeofbjnogkmaa
open Go.RowKit

theorem exec_ene_same {a : Act} {o : Oper} {x y : Operand} {u : TypeId} (ho : o.op = .binOp .neq 24 x y u) {f : EnT} (h1 : EnIn f) (hx : a.eval x = .agg (entA f)) (hy : a.eval y = .agg (entA f)) (W : World) : (execOp a.eval o).run Try.prog W = .ok (.value (.bool false)) W := by
  have := exec_ene ho h1 h1 hx hy W
  simpa using this
/-- Where the newest of the first i stands. -/
def NwAt (c : Int) (wl : List EnT) (i : Nat) (p : Int) : Prop := (p = -1 ∧ newestL c (wl.take i) = none) ∨ ∃ (j : Nat) (e : EnT), p = j ∧ wl[j]? = some e ∧ newestL c (wl.take i) = some e
theorem NwAt.yes {c : Int} {wl : List EnT} {i : Nat} {p : Int} {e : EnT} (_ : NwAt c wl i p) (he : wl[i]? = some e) (hc : e.1 = c) : NwAt c wl (i + 1) i := by
  refine Or.inr ⟨i, e, rfl, he, ?_⟩
  rw [List.take_add_one, he, Option.toList_some, newestL_append, if_pos hc]
theorem NwAt.no {c : Int} {wl : List EnT} {i : Nat} {p : Int} {e : EnT} (h : NwAt c wl i p) (he : wl[i]? = some e) (hc : ¬ e.1 = c) : NwAt c wl (i + 1) p := by
  unfold NwAt
  rw [List.take_add_one, he, Option.toList_some, newestL_append, if_neg hc]
  exact h
theorem filtW_yes {m c : Int} {wl : List EnT} {i : Nat} {e : EnT} (he : wl[i]? = some e) (h : seesW m c e = true) : (filtW m (wl.take (i + 1)) c).length = (filtW m (wl.take i) c).length + 1 ∧ (filtW m wl c)[(filtW m (wl.take i) c).length]? = some e := by
  have e1 : filtW m (wl.take (i + 1)) c = filtW m (wl.take i) c ++ [e] := by
    unfold filtW
    rw [List.take_add_one, he, Option.toList_some, List.filter_append, List.filter_cons, if_pos h, List.filter_nil]
  have e2 : filtW m wl c = filtW m (wl.take (i + 1)) c ++ filtW m (wl.drop (i + 1)) c := by
    unfold filtW
    rw [← List.filter_append, List.take_append_drop]
  refine ⟨by rw [e1, List.length_append]; rfl, ?_⟩
  rw [e2, e1, List.append_assoc, List.getElem?_append_right (Nat.le_refl _), Nat.sub_self]
  rfl
theorem filtW_no {m c : Int} {wl : List EnT} {i : Nat} {e : EnT} (he : wl[i]? = some e) (h : seesW m c e = false) : (filtW m (wl.take (i + 1)) c).length = (filtW m (wl.take i) c).length := by
  unfold filtW
  rw [List.take_add_one, he, Option.toList_some, List.filter_append, List.filter_cons, if_neg (by simp [h]), List.filter_nil, List.append_nil]
theorem new_none {b : BufT} {c : Int} (h : newestB b c = none) (W : World) : Calls Try.prog 18 #[.agg (bufA b), .int .i64 c] W fun e w' => e = .returned (.tuple #[.int .i64 0, .int .i64 0, .bool false]) ∧ On W w' := by
  have := newest_is b c W
  rw [h] at this
  exact this
theorem new_some {b : BufT} {c : Int} {e : EnT} (h : newestB b c = some e) (W : World) : Calls Try.prog 18 #[.agg (bufA b), .int .i64 c] W fun r w' => r = .returned (.tuple #[.int .i64 e.2.1, .int .i64 e.2.2, .bool true]) ∧ On W w' := by
  have := newest_is b c W
  rw [h] at this
  exact this
theorem old_none {b : BufT} {c : Int} (h : oldB b c = none) (W : World) : Calls Try.prog 16 #[.agg (bufA b), .int .i64 c] W fun e w' => e = .returned (.tuple #[.int .i64 0, .int .i64 0, .int .i64 0, .bool false]) ∧ On W w' := by
  have := oldest_is b c W
  rw [h] at this
  exact this
/-- The law's last loop and what is behind it. -/
structure SaJ (w W : World) (N : Nat) (b : BufT) (a : Option Addr) (n cap : Nat) (wl : List EnT) (m c : Int) : Prop where
  on : On w W
  bk : Bk W N (bufA b)
  rd : Rd entC 3 W (.slice a n cap) wl
theorem SaJ.go {w W W' : World} {N : Nat} {b : BufT} {a : Option Addr} {n cap : Nat} {wl : List EnT} {m c : Int} (h : SaJ w W N b a n cap wl m c) (k : On W W') : SaJ w W' N b a n cap wl m c := ⟨h.on.trans k, h.bk.on k, h.rd.on k⟩
set_option maxHeartbeats 16000000 in
set_option maxRecDepth 8000 in
theorem same_is (b : BufT) (a : Option Addr) (n cap : Nat) (wl : List EnT) (m c : Int) (w : World) (hr : Rd entC 3 w (.slice a n cap) wl) (hb : BW m b wl) (hin : ∀ e ∈ wl, EnIn e) : Calls Try.prog 15 #[.agg (bufA b), .slice a n cap, .int .i64 m, .int .i64 c] w fun e w' => e = .returned (.bool true) ∧ On w w' := by
  obtain ⟨W1, hW1⟩ : ∃ W1, W1 = w.alloc (.cells (bufA b) 27) := ⟨_, rfl⟩
  have J1 : Hid (SaJ w W1 w.heap.size b a n cap wl m c) := by
    show SaJ _ _ _ _ _ _ _ _ _ _
    rw [hW1]
    exact ⟨(On.refl w).alloc _, Bk.new w _ _, hr.on ((On.refl w).alloc _)⟩
  have hn : n = wl.length := hr.len
  have h24 : wl.length ≤ 24 := by rw [← hb.1]; exact b.len
  have HN : Hid (n = wl.length) := hn
  have H24 : Hid (n ≤ 24) := by show n ≤ 24; omega
  have H24' : Hid (wl.length ≤ 24) := h24
  have HB : Hid (BW m b wl) := hb
  have HINA : Hid (∀ e ∈ wl, EnIn e) := hin
  have hnew := hb.newest c
  have hold := hb.old c
  have HNEW : Hid (newestB b c = newestL c wl) := hnew
  have HOLD : Hid (oldB b c = wl[fstN m wl c]?) := hold
  have cLi : ∀ W, Calls Try.prog 12 #[.agg (bufA b), .int .i64 c] W fun e w' => ∃ v, e = .returned v ∧ w'.ownsRow W.heap.size 24 3 v (filtW m wl c).length ((filtW m wl c).flatMap entC) ∧ On W w' := fun W => by
    have := list_is b c W
    rw [hb.row c] at this
    exact this
  have HLi : Hid (∀ W, Calls Try.prog 12 #[.agg (bufA b), .int .i64 c] W fun e w' => ∃ v, e = .returned v ∧ w'.ownsRow W.heap.size 24 3 v (filtW m wl c).length ((filtW m wl c).flatMap entC) ∧ On W w') := cLi
  have hln : b.l.length = n := by rw [hn]; exact hb.1
  have cLe : ∀ W, Calls Try.prog 8 #[.agg (bufA b)] W fun e w' => e = .returned (.int .i64 (n : Nat)) ∧ On W w' := fun W => by
    have := len_is b W
    rw [hln] at this
    exact this
  have HLe : Hid (∀ W, Calls Try.prog 8 #[.agg (bufA b)] W fun e w' => e = .returned (.int .i64 (n : Nat)) ∧ On W w') := cLe
  obtain ⟨A, hA⟩ : ∃ A, A = newestL c wl := ⟨_, rfl⟩
  have HA : Hid (A = newestL c wl) := hA
  have hcN : ∀ W, Calls Try.prog 18 #[.agg (bufA b), .int .i64 c] W fun e w' => (∃ v i ok, e = .returned (.tuple #[.int .i64 v, .int .i64 i, .bool ok]) ∧ ((A = none ∧ v = 0 ∧ i = 0 ∧ ok = false) ∨ ∃ x : EnT, A = some x ∧ v = x.2.1 ∧ i = x.2.2 ∧ ok = true)) ∧ On W w' := fun W => by
    cases hx : A with
    | none =>
      refine (new_none (by rw [hnew, ← hA, hx]) W).mono ?_
      rintro _ w' ⟨rfl, k⟩
      exact ⟨⟨_, _, _, rfl, Or.inl ⟨rfl, rfl, rfl, rfl⟩⟩, k⟩
    | some x =>
      refine (new_some (e := x) (by rw [hnew, ← hA, hx]) W).mono ?_
      rintro _ w' ⟨rfl, k⟩
      exact ⟨⟨_, _, _, rfl, Or.inr ⟨x, rfl, rfl, rfl, rfl⟩⟩, k⟩
  clear hr hb hin hn h24 hnew hold cLi cLe hln hA
  go_enter Try.func15, Try.ntmps15
  go_upto_region 1 with fail
  rw [← hW1]
  clear hW1
  generalize w.heap.size = N at *
  go_wp2_with (refine wpList_bld rfl rfl rfl J1.out.bk ?_)
  refine (hcN _).mono ?_
  rintro _ w1 ⟨⟨nv, ni, nok, rfl, hnv⟩, k1⟩
  have HNV : Hid ((A = none ∧ nv = 0 ∧ ni = 0 ∧ nok = false) ∨ ∃ x : EnT, A = some x ∧ nv = x.2.1 ∧ ni = x.2.2 ∧ nok = true) := hnv
  have J2 : Hid (SaJ w w1 N b a n cap wl m c) := J1.out.go k1
  clear k1 hcN J1 hnv
  go_wp2
  go_loopg [12, 13] n (fun gg s12 s13 wr => ∃ (i : Nat) (p : Int), i ≤ n ∧ gg = n - i ∧ s12 = .int .i64 p ∧ s13 = .int .i64 (i : Nat) ∧ Hid (NwAt c wl i p) ∧ Hid (SaJ w wr N b a n cap wl m c))
  case atStart => exact ⟨0, -1, Nat.zero_le _, rfl, rfl, rfl, Or.inl ⟨rfl, rfl⟩, J2⟩
  case round =>
    obtain ⟨i, p, hin, hg, rfl, rfl, HP, HJ⟩ := hrel
    have HI : Hid (i ≤ n) := hin
    have HG : Hid (gk = n - i) := hg
    clear hin hg J2
    rcases Nat.lt_or_ge i n with hlt | hge
    · have hiL : i < wl.length := by rw [← HN.out]; exact hlt
      obtain ⟨e, he⟩ : ∃ e, wl[i]? = some e := ⟨_, List.getElem?_eq_getElem hiL⟩
      obtain ⟨g, off, hae, hea⟩ := rd_ents HJ.out.rd (Nat.lt_of_le_of_lt (Nat.zero_le _) hiL)
      subst hae
      have hE := hea i e he
      have f0 := hE.c0
      have fl := hE.lt
      have d1 : (i : Int) < (n : Int) := nat_lt hlt
      have d2 : decide ((i : Int) < 0) = false := nat_nn i
      have d4 : (0 : Int) ≤ (i : Int) := nat_0 i
      have HL : Hid (i < n) := hlt
      have hov : wrap64 ((i : Int) + 1) = ((i + 1 : Nat) : Int) := wrapN (Nat.le_trans (Nat.le_of_lt hlt) (Nat.le_trans H24.out (by decide)))
      clear hea hlt hiL hE
      by_cases hc : e.1 = c
      · have HP2 : Hid (NwAt c wl (i + 1) i) := HP.out.yes he hc
        rw [hc] at f0
        clear hc he
        go_wp2
        go_roundg (n - (i + 1))
        case measure => have := HL.out; have := HG.out; omega
        case rel => exact ⟨i + 1, i, HL.out, rfl, rfl, by go_num, HP2, HJ⟩
      · have HP2 : Hid (NwAt c wl (i + 1) p) := HP.out.no he hc
        have hcc : (e.1 == c) = false := by simp [hc]
        clear hc he
        generalize e.1 = el at *
        go_wp2
        go_roundg (n - (i + 1))
        case measure => have := HL.out; have := HG.out; omega
        case rel => exact ⟨i + 1, p, HL.out, rfl, rfl, by go_num, HP2, HJ⟩
    · obtain ⟨b1, b2⟩ := lt_no hge
      have hfull : wl.take i = wl := List.take_of_length_le (by have := HN.out; omega)
      have hP := HP.out
      unfold NwAt at hP
      rw [hfull, ← HA.out] at hP
      have hcO : ∀ W, Rd entC 3 W (.slice a n cap) wl → Calls Try.prog 16 #[.agg (bufA b), .int .i64 c] W fun e w' => (∃ x y z ok, e = .returned (.tuple #[.int .i64 x, .int .i64 y, .int .i64 z, .bool ok]) ∧ ((firstV m wl c = -1 ∧ x = 0 ∧ y = 0 ∧ z = 0 ∧ ok = false) ∨ ∃ (k : Nat) (en : EnT), firstV m wl c = k ∧ wl[k]? = some en ∧ x = en.1 ∧ y = en.2.1 ∧ z = en.2.2 ∧ ok = true)) ∧ On W w' := fun W _ => by
        by_cases hf : fstN m wl c < wl.length
        · obtain ⟨en, hen⟩ : ∃ en, wl[fstN m wl c]? = some en := ⟨_, List.getElem?_eq_getElem hf⟩
          have := oldest_some (b := b) (c := c) (x := en.1) (y := en.2.1) (z := en.2.2) (by rw [HOLD.out, hen]) W
          refine this.mono ?_
          rintro _ w' ⟨rfl, k⟩
          exact ⟨⟨_, _, _, _, rfl, Or.inr ⟨fstN m wl c, en, if_pos hf, hen, rfl, rfl, rfl, rfl⟩⟩, k⟩
        · refine (old_none (by rw [HOLD.out, List.getElem?_eq_none (by omega)]) W).mono ?_
          rintro _ w' ⟨rfl, k⟩
          exact ⟨⟨_, _, _, _, rfl, Or.inl ⟨if_neg hf, rfl, rfl, rfl, rfl⟩⟩, k⟩
      have HcO : Hid (∀ W, Rd entC 3 W (.slice a n cap) wl → Calls Try.prog 16 #[.agg (bufA b), .int .i64 c] W fun e w' => (∃ x y z ok, e = .returned (.tuple #[.int .i64 x, .int .i64 y, .int .i64 z, .bool ok]) ∧ ((firstV m wl c = -1 ∧ x = 0 ∧ y = 0 ∧ z = 0 ∧ ok = false) ∨ ∃ (k : Nat) (en : EnT), firstV m wl c = k ∧ wl[k]? = some en ∧ x = en.1 ∧ y = en.2.1 ∧ z = en.2.2 ∧ ok = true)) ∧ On W w') := hcO
      have HNVC : Hid ((p = -1 ∧ nv = 0 ∧ ni = 0 ∧ nok = false) ∨ ∃ (j : Nat) (e : EnT), p = j ∧ wl[j]? = some e ∧ nv = e.2.1 ∧ ni = e.2.2 ∧ nok = true) := by
        rcases HNV.out with ⟨q0, q1, q2, q3⟩ | ⟨x, q0, q1, q2, q3⟩
        · rcases hP with ⟨r1, _⟩ | ⟨j, e, _, _, r3⟩
          · exact Or.inl ⟨r1, q1, q2, q3⟩
          · rw [q0] at r3; cases r3
        · rcases hP with ⟨_, r2⟩ | ⟨j, e, r1, r2, r3⟩
          · rw [q0] at r2; cases r2
          · rw [q0] at r3
            obtain rfl := Option.some.inj r3
            exact Or.inr ⟨j, x, r1, r2, q1, q2, q3⟩
      clear hfull hP hcO HP HNV HA HI HG hge HNEW HOLD
      obtain ⟨F, hF⟩ : ∃ F, F = filtW m wl c := ⟨_, rfl⟩
      have HF : Hid (F = filtW m wl c) := hF
      obtain ⟨nF, hnF⟩ : ∃ nF, nF = F.length := ⟨_, rfl⟩
      have HNF : Hid (nF = F.length) := hnF
      have HN9 : Hid (nF ≤ 900) := by
        show nF ≤ 900
        rw [hnF, hF]
        exact Nat.le_trans (List.length_filter_le _ _) (Nat.le_trans H24'.out (by decide))
      clear hF hnF
      have hnvc := HNVC.out
      clear HNVC
      rcases hnvc with ⟨rfl, rfl, rfl, rfl⟩ | ⟨j, e, rfl, hjj, rfl, rfl, rfl⟩
      · go_wp2_with (refine wpList_bld rfl rfl rfl HJ.out.bk ?_)
        refine (HcO.out _ HJ.out.rd).mono ?_
        rintro _ w2 ⟨⟨x, y, z, ok, rfl, ho⟩, k2⟩
        have HO : Hid ((firstV m wl c = -1 ∧ x = 0 ∧ y = 0 ∧ z = 0 ∧ ok = false) ∨ ∃ (k : Nat) (en : EnT), firstV m wl c = k ∧ wl[k]? = some en ∧ x = en.1 ∧ y = en.2.1 ∧ z = en.2.2 ∧ ok = true) := ho
        have J3 : Hid (SaJ w w2 N b a n cap wl m c) := HJ.out.go k2
        clear k2 ho HcO
        go_wp2_with fail
        refine (first_is _ n cap wl m c _ J3.out.rd H24'.out).mono ?_
        rintro _ w3 ⟨rfl, k3⟩
        have J4 : Hid (SaJ w w3 N b a n cap wl m c) := J3.out.go k3
        clear k3 J3
        have ho := HO.out
        clear HO
        generalize firstV m wl c = fv at *
        rcases ho with ⟨rfl, rfl, rfl, rfl, rfl⟩ | ⟨k, en, rfl, hjk, rfl, rfl, rfl, rfl⟩
        · go_wp2_with (refine wpList_bld rfl rfl rfl J4.out.bk ?_)
          refine (HLi.out _).mono ?_
          rintro _ w4 ⟨lv, rfl, ol, k4⟩
          obtain ⟨la, lc, rfl⟩ := own_slice ol
          have RF : Hid (Rd entC 3 w4 (.slice la nF lc) F) := by
            show Rd _ _ _ _ _
            rw [HNF.out, HF.out]
            exact Rd.own entC_len ol
          have J5 : Hid (SaJ w w4 N b a n cap wl m c) := J4.out.go k4
          try rw [← HF.out, ← HNF.out]
          clear k4 ol J4
          go_wp2
          go_loopg [20, 21] n (fun gg s20 s21 wr => ∃ (i q : Nat), i ≤ n ∧ gg = n - i ∧ s20 = .int .i64 (q : Nat) ∧ s21 = .int .i64 (i : Nat) ∧ Hid (q = (filtW m (wl.take i) c).length) ∧ Hid (SaJ w wr N b a n cap wl m c) ∧ Hid (Rd entC 3 wr (.slice la nF lc) F))
          case atStart => exact ⟨0, 0, Nat.zero_le _, rfl, rfl, rfl, rfl, J5, RF⟩
          case round =>
            obtain ⟨i, q, hin, hg, rfl, rfl, HQ, HJ, HRF⟩ := hrel
            have HI : Hid (i ≤ n) := hin
            have HG : Hid (gk = n - i) := hg
            clear hin hg J5 RF
            rcases Nat.lt_or_ge i n with hlt | hge
            · have hiL : i < wl.length := by rw [← HN.out]; exact hlt
              obtain ⟨e, he⟩ : ∃ e, wl[i]? = some e := ⟨_, List.getElem?_eq_getElem hiL⟩
              obtain ⟨g, off, hae, hea⟩ := rd_ents HJ.out.rd (Nat.lt_of_le_of_lt (Nat.zero_le _) hiL)
              first | subst hae | (simp only [Option.some.injEq, Addr.mk.injEq] at hae; obtain ⟨rfl, rfl, _⟩ := hae)
              have HWE : Hid (EnAt wr _ (_ + i * 3) e) := hea i e he
              have HIN : Hid (EnIn e) := HINA.out e (List.mem_of_getElem? he)
              have f0 := HWE.out.c0
              have fl := HWE.out.lt
              have d1 : (i : Int) < (n : Int) := nat_lt hlt
              have d2 : decide ((i : Int) < 0) = false := nat_nn i
              have d4 : (0 : Int) ≤ (i : Int) := nat_0 i
              have HL : Hid (i < n) := hlt
              obtain ⟨i1, hi1⟩ : ∃ i1, i1 = i + 1 := ⟨_, rfl⟩
              have HI1 : Hid (i1 = i + 1) := hi1
              have hov : wrap64 ((i : Int) + 1) = (i1 : Int) := wrapM (Nat.le_trans (Nat.le_of_lt hlt) (Nat.le_trans H24.out (by decide))) hi1
              have hs : (m != 2) = true ∧ (e.1 != c) = true ∧ seesW m c e = false ∨ ((m != 2) = false ∧ seesW m c e = true) ∨ ((m != 2) = true ∧ (e.1 != c) = false ∧ seesW m c e = true) := by
                unfold seesW bne
                cases (m == 2) <;> cases (e.1 == c) <;> simp
              clear hea hlt hiL hi1
              rcases hs with ⟨h1, h2, h3⟩ | ⟨h1, h3⟩ | ⟨h1, h2, h3⟩
              · have HQ2 : Hid (q = (filtW m (wl.take i1) c).length) := by show q = _; rw [HI1.out, filtW_no he h3]; exact HQ.out
                clear h3 he
                generalize e.1 = el at f0 h2
                go_wp2
                go_roundg (n - i1)
                case measure => have := HL.out; have := HG.out; have := HI1.out; omega
                case rel => exact ⟨i1, q, by have := HL.out; have := HI1.out; omega, rfl, rfl, (by first | rfl | exact congrArg (Value.int .i64) hov), HQ2, HJ, HRF⟩
              · obtain ⟨q1, hq1⟩ : ∃ q1, q1 = q + 1 := ⟨_, rfl⟩
                have hfy := filtW_yes he h3
                rw [← HQ.out, ← HF.out] at hfy
                have HQ2 : Hid (q1 = (filtW m (wl.take i1) c).length) := by show q1 = _; rw [HI1.out, hfy.1, hq1]
                have hqF : q < F.length := (List.getElem?_eq_some_iff.1 hfy.2).1
                have hqn : q < nF := by rw [HNF.out]; exact hqF
                obtain ⟨gF, oF, hlae, hef⟩ := rd_ents HRF.out (Nat.lt_of_le_of_lt (Nat.zero_le _) hqF)
                subst hlae
                have HSE : Hid (EnAt wr gF (oF + q * 3) e) := hef q e hfy.2
                have x1 : (q : Int) < (nF : Int) := nat_lt hqn
                have x2 : decide ((q : Int) < 0) = false := nat_nn q
                have x4 : (0 : Int) ≤ (q : Int) := nat_0 q
                have x5 : decide (nF ≤ q) = false := decide_eq_false (by omega)
                have x6 : decide ((nF : Int) ≤ (q : Int)) = false := decide_eq_false (by omega)
                have hq24 : q ≤ 900 := Nat.le_trans (Nat.le_of_lt hqn) HN9.out
                have hov2 : wrap64 ((q : Int) + 1) = (q1 : Int) := wrapM hq24 hq1
                have hov3 : (q : Int) + 1 = (q1 : Int) := by rw [hq1]; rfl
                have HOV3 : Hid ((q : Int) + 1 = (q1 : Int)) := hov3
                clear h3 he hfy hqF hqn hef hq24 hq1 hov3
                generalize e.1 = el at f0
                go_wp2
                clear f0 fl
                have JD : Hid (SaJ w wr.drew N b _ n cap wl m c) := HJ.out.go ((On.refl wr).drew)
                have RD : Hid (Rd entC 3 wr.drew _ F) := HRF.out.on ((On.refl wr).drew)
                have S0 : On wr wr.drew := (On.refl wr).drew
                refine region_fin (fun W => On wr W) 99 15 (by kernel_rfl) rfl ?_
                refine fin_take 0 (v := ?_) rfl (by kernel_rfl) (by kernel_rfl) (by kernel_rfl) (by kernel_rfl) (fun _ _ _ h => h) rfl ?_ S0 ?_
                rotate_left
                · intro W hW
                  have g1 := (HSE.out.on hW).lt
                  have g2 := (HWE.out.on hW).lt
                  go_simp
                  (try with_reducible rfl)
                simp only [Act.put, List.setIfInBounds_toArray, List.set_cons_zero, List.set_cons_succ]
                refine fin_take 1 (v := ?_) rfl (by kernel_rfl) (by kernel_rfl) (by kernel_rfl) (by kernel_rfl) (fun _ _ _ h => h) rfl ?_ S0 ?_
                rotate_left
                · intro W hW
                  have g1 := (HSE.out.on hW).lt
                  have g2 := (HWE.out.on hW).lt
                  go_simp
                  (try with_reducible rfl)
                simp only [Act.put, List.setIfInBounds_toArray, List.set_cons_zero, List.set_cons_succ]
                refine fin_take 2 (v := ?_) rfl (by kernel_rfl) (by kernel_rfl) (by kernel_rfl) (by kernel_rfl) (fun _ _ _ h => h) rfl ?_ S0 ?_
                rotate_left
                · intro W hW
                  have g1 := (HSE.out.on hW).lt
                  have g2 := (HWE.out.on hW).lt
                  go_simp
                  (try with_reducible rfl)
                simp only [Act.put, List.setIfInBounds_toArray, List.set_cons_zero, List.set_cons_succ]
                refine fin_take 3 (v := ?_) rfl (by kernel_rfl) (by kernel_rfl) (by kernel_rfl) (by kernel_rfl) (fun _ _ _ h => h) rfl ?_ S0 ?_
                rotate_left
                · intro W hW
                  have g1 := (HSE.out.on hW).lt
                  have g2 := (HWE.out.on hW).lt
                  go_simp
                  (try with_reducible rfl)
                simp only [Act.put, List.setIfInBounds_toArray, List.set_cons_zero, List.set_cons_succ]
                refine fin_take 4 (v := ?_) rfl (by kernel_rfl) (by kernel_rfl) (by kernel_rfl) (by kernel_rfl) (fun _ _ _ h => h) rfl ?_ S0 ?_
                rotate_left
                · intro W hW
                  have g1 := (HSE.out.on hW).lt
                  have g2 := (HWE.out.on hW).lt
                  go_simp
                  (try with_reducible rfl)
                simp only [Act.put, List.setIfInBounds_toArray, List.set_cons_zero, List.set_cons_succ]
                refine fin_takeG 5 (v := ?_) rfl (by kernel_rfl) (by kernel_rfl) (by kernel_rfl) (by kernel_rfl) (fun _ _ _ h => h) (by rfl) ?_ S0 ?_
                rotate_left
                · intro W hW
                  have g1 := (HSE.out.on hW).lt
                  have g2 := (HWE.out.on hW).lt
                  go_simp
                  (try with_reducible rfl)
                simp only [Act.put, List.setIfInBounds_toArray, List.set_cons_zero, List.set_cons_succ]
                refine fin_takeG 6 (v := ?_) rfl (by kernel_rfl) (by kernel_rfl) (by kernel_rfl) (by kernel_rfl) (fun _ _ _ h => h) (by rfl) ?_ S0 ?_
                rotate_left
                · intro W hW
                  have g1 := (HSE.out.on hW).lt
                  have g2 := (HWE.out.on hW).lt
                  go_simp
                  (try with_reducible rfl)
                simp only [Act.put, List.setIfInBounds_toArray, List.set_cons_zero, List.set_cons_succ]
                refine fin_takeG 7 (v := ?_) rfl (by kernel_rfl) (by kernel_rfl) (by kernel_rfl) (by kernel_rfl) (fun _ _ _ h => h) (by rfl) ?_ S0 ?_
                rotate_left
                · intro W hW
                  have g1 := (HSE.out.on hW).lt
                  have g2 := (HWE.out.on hW).lt
                  go_simp
                  (try with_reducible rfl)
                simp only [Act.put, List.setIfInBounds_toArray, List.set_cons_zero, List.set_cons_succ]
                refine fin_takeG 8 (v := .agg (entA e)) rfl (by kernel_rfl) (by kernel_rfl) (by kernel_rfl) (by kernel_rfl) (fun _ _ _ h => h) (by rfl) (fun W hW => exec_eld rfl rfl (HSE.out.on hW).r) S0 ?_
                simp only [Act.put, List.setIfInBounds_toArray, List.set_cons_zero, List.set_cons_succ]
                refine fin_takeG 9 (v := ?_) rfl (by kernel_rfl) (by kernel_rfl) (by kernel_rfl) (by kernel_rfl) (fun _ _ _ h => h) (by rfl) ?_ S0 ?_
                rotate_left
                · intro W hW
                  have g1 := (HSE.out.on hW).lt
                  have g2 := (HWE.out.on hW).lt
                  go_simp
                  (try with_reducible rfl)
                simp only [Act.put, List.setIfInBounds_toArray, List.set_cons_zero, List.set_cons_succ]
                refine fin_takeG 10 (v := ?_) rfl (by kernel_rfl) (by kernel_rfl) (by kernel_rfl) (by kernel_rfl) (fun _ _ _ h => h) (by rfl) ?_ S0 ?_
                rotate_left
                · intro W hW
                  have g1 := (HSE.out.on hW).lt
                  have g2 := (HWE.out.on hW).lt
                  go_simp
                  (try with_reducible rfl)
                simp only [Act.put, List.setIfInBounds_toArray, List.set_cons_zero, List.set_cons_succ]
                refine fin_takeG 11 (v := ?_) rfl (by kernel_rfl) (by kernel_rfl) (by kernel_rfl) (by kernel_rfl) (fun _ _ _ h => h) (by rfl) ?_ S0 ?_
                rotate_left
                · intro W hW
                  have g1 := (HSE.out.on hW).lt
                  have g2 := (HWE.out.on hW).lt
                  go_simp
                  (try with_reducible rfl)
                simp only [Act.put, List.setIfInBounds_toArray, List.set_cons_zero, List.set_cons_succ]
                refine fin_takeG 12 (v := .agg (entA e)) rfl (by kernel_rfl) (by kernel_rfl) (by kernel_rfl) (by kernel_rfl) (fun _ _ _ h => h) (by rfl) (fun W hW => exec_eld rfl rfl (HWE.out.on hW).r) S0 ?_
                simp only [Act.put, List.setIfInBounds_toArray, List.set_cons_zero, List.set_cons_succ]
                refine fin_takeG 13 (v := .bool false) rfl (by kernel_rfl) (by kernel_rfl) (by kernel_rfl) (by kernel_rfl) (fun _ _ _ h => h) (by rfl) (fun W hW => exec_ene_same rfl HIN.out rfl rfl W) S0 ?_
                simp only [Act.put, List.setIfInBounds_toArray, List.set_cons_zero, List.set_cons_succ]
                refine fin_take 14 (v := ?_) rfl (by kernel_rfl) (by kernel_rfl) (by kernel_rfl) (by kernel_rfl) (fun _ _ _ h => h) rfl ?_ S0 ?_
                rotate_left
                · intro W hW
                  have g1 := (HSE.out.on hW).lt
                  have g2 := (HWE.out.on hW).lt
                  go_simp
                  (try with_reducible rfl)
                simp only [Act.put, List.setIfInBounds_toArray, List.set_cons_zero, List.set_cons_succ]
                clear S0
                refine fin_done (by kernel_rfl) (NoPanic.normal ?_)
                go_wp2
                go_roundg (n - i1)
                case measure => have := HL.out; have := HG.out; have := HI1.out; omega
                case rel => exact ⟨i1, q1, by have := HL.out; have := HI1.out; omega, rfl, (by first | rfl | exact congrArg (Value.int .i64) HOV3.out | exact congrArg (Value.int .i64) hov2), (by first | rfl | exact congrArg (Value.int .i64) hov), HQ2, JD, RD⟩
              · obtain ⟨q1, hq1⟩ : ∃ q1, q1 = q + 1 := ⟨_, rfl⟩
                have hfy := filtW_yes he h3
                rw [← HQ.out, ← HF.out] at hfy
                have HQ2 : Hid (q1 = (filtW m (wl.take i1) c).length) := by show q1 = _; rw [HI1.out, hfy.1, hq1]
                have hqF : q < F.length := (List.getElem?_eq_some_iff.1 hfy.2).1
                have hqn : q < nF := by rw [HNF.out]; exact hqF
                obtain ⟨gF, oF, hlae, hef⟩ := rd_ents HRF.out (Nat.lt_of_le_of_lt (Nat.zero_le _) hqF)
                subst hlae
                have HSE : Hid (EnAt wr gF (oF + q * 3) e) := hef q e hfy.2
                have x1 : (q : Int) < (nF : Int) := nat_lt hqn
                have x2 : decide ((q : Int) < 0) = false := nat_nn q
                have x4 : (0 : Int) ≤ (q : Int) := nat_0 q
                have x5 : decide (nF ≤ q) = false := decide_eq_false (by omega)
                have x6 : decide ((nF : Int) ≤ (q : Int)) = false := decide_eq_false (by omega)
                have hq24 : q ≤ 900 := Nat.le_trans (Nat.le_of_lt hqn) HN9.out
                have hov2 : wrap64 ((q : Int) + 1) = (q1 : Int) := wrapM hq24 hq1
                have hov3 : (q : Int) + 1 = (q1 : Int) := by rw [hq1]; rfl
                have HOV3 : Hid ((q : Int) + 1 = (q1 : Int)) := hov3
                clear h3 he hfy hqF hqn hef hq24 hq1 hov3
                generalize e.1 = el at f0 h2
                go_wp2
                clear f0 h2 fl
                have JD : Hid (SaJ w wr.drew N b _ n cap wl m c) := HJ.out.go ((On.refl wr).drew)
                have RD : Hid (Rd entC 3 wr.drew _ F) := HRF.out.on ((On.refl wr).drew)
                have S0 : On wr wr.drew := (On.refl wr).drew
                refine region_fin (fun W => On wr W) 99 15 (by kernel_rfl) rfl ?_
                refine fin_take 0 (v := ?_) rfl (by kernel_rfl) (by kernel_rfl) (by kernel_rfl) (by kernel_rfl) (fun _ _ _ h => h) rfl ?_ S0 ?_
                rotate_left
                · intro W hW
                  have g1 := (HSE.out.on hW).lt
                  have g2 := (HWE.out.on hW).lt
                  go_simp
                  (try with_reducible rfl)
                simp only [Act.put, List.setIfInBounds_toArray, List.set_cons_zero, List.set_cons_succ]
                refine fin_take 1 (v := ?_) rfl (by kernel_rfl) (by kernel_rfl) (by kernel_rfl) (by kernel_rfl) (fun _ _ _ h => h) rfl ?_ S0 ?_
                rotate_left
                · intro W hW
                  have g1 := (HSE.out.on hW).lt
                  have g2 := (HWE.out.on hW).lt
                  go_simp
                  (try with_reducible rfl)
                simp only [Act.put, List.setIfInBounds_toArray, List.set_cons_zero, List.set_cons_succ]
                refine fin_take 2 (v := ?_) rfl (by kernel_rfl) (by kernel_rfl) (by kernel_rfl) (by kernel_rfl) (fun _ _ _ h => h) rfl ?_ S0 ?_
                rotate_left
                · intro W hW
                  have g1 := (HSE.out.on hW).lt
                  have g2 := (HWE.out.on hW).lt
                  go_simp
                  (try with_reducible rfl)
                simp only [Act.put, List.setIfInBounds_toArray, List.set_cons_zero, List.set_cons_succ]
                refine fin_take 3 (v := ?_) rfl (by kernel_rfl) (by kernel_rfl) (by kernel_rfl) (by kernel_rfl) (fun _ _ _ h => h) rfl ?_ S0 ?_
                rotate_left
                · intro W hW
                  have g1 := (HSE.out.on hW).lt
                  have g2 := (HWE.out.on hW).lt
                  go_simp
                  (try with_reducible rfl)
                simp only [Act.put, List.setIfInBounds_toArray, List.set_cons_zero, List.set_cons_succ]
                refine fin_take 4 (v := ?_) rfl (by kernel_rfl) (by kernel_rfl) (by kernel_rfl) (by kernel_rfl) (fun _ _ _ h => h) rfl ?_ S0 ?_
                rotate_left
                · intro W hW
                  have g1 := (HSE.out.on hW).lt
                  have g2 := (HWE.out.on hW).lt
                  go_simp
                  (try with_reducible rfl)
                simp only [Act.put, List.setIfInBounds_toArray, List.set_cons_zero, List.set_cons_succ]
                refine fin_takeG 5 (v := ?_) rfl (by kernel_rfl) (by kernel_rfl) (by kernel_rfl) (by kernel_rfl) (fun _ _ _ h => h) (by rfl) ?_ S0 ?_
                rotate_left
                · intro W hW
                  have g1 := (HSE.out.on hW).lt
                  have g2 := (HWE.out.on hW).lt
                  go_simp
                  (try with_reducible rfl)
                simp only [Act.put, List.setIfInBounds_toArray, List.set_cons_zero, List.set_cons_succ]
                refine fin_takeG 6 (v := ?_) rfl (by kernel_rfl) (by kernel_rfl) (by kernel_rfl) (by kernel_rfl) (fun _ _ _ h => h) (by rfl) ?_ S0 ?_
                rotate_left
                · intro W hW
                  have g1 := (HSE.out.on hW).lt
                  have g2 := (HWE.out.on hW).lt
                  go_simp
                  (try with_reducible rfl)
                simp only [Act.put, List.setIfInBounds_toArray, List.set_cons_zero, List.set_cons_succ]
                refine fin_takeG 7 (v := ?_) rfl (by kernel_rfl) (by kernel_rfl) (by kernel_rfl) (by kernel_rfl) (fun _ _ _ h => h) (by rfl) ?_ S0 ?_
                rotate_left
                · intro W hW
                  have g1 := (HSE.out.on hW).lt
                  have g2 := (HWE.out.on hW).lt
                  go_simp
                  (try with_reducible rfl)
                simp only [Act.put, List.setIfInBounds_toArray, List.set_cons_zero, List.set_cons_succ]
                refine fin_takeG 8 (v := .agg (entA e)) rfl (by kernel_rfl) (by kernel_rfl) (by kernel_rfl) (by kernel_rfl) (fun _ _ _ h => h) (by rfl) (fun W hW => exec_eld rfl rfl (HSE.out.on hW).r) S0 ?_
                simp only [Act.put, List.setIfInBounds_toArray, List.set_cons_zero, List.set_cons_succ]
                refine fin_takeG 9 (v := ?_) rfl (by kernel_rfl) (by kernel_rfl) (by kernel_rfl) (by kernel_rfl) (fun _ _ _ h => h) (by rfl) ?_ S0 ?_
                rotate_left
                · intro W hW
                  have g1 := (HSE.out.on hW).lt
                  have g2 := (HWE.out.on hW).lt
                  go_simp
                  (try with_reducible rfl)
                simp only [Act.put, List.setIfInBounds_toArray, List.set_cons_zero, List.set_cons_succ]
                refine fin_takeG 10 (v := ?_) rfl (by kernel_rfl) (by kernel_rfl) (by kernel_rfl) (by kernel_rfl) (fun _ _ _ h => h) (by rfl) ?_ S0 ?_
                rotate_left
                · intro W hW
                  have g1 := (HSE.out.on hW).lt
                  have g2 := (HWE.out.on hW).lt
                  go_simp
                  (try with_reducible rfl)
                simp only [Act.put, List.setIfInBounds_toArray, List.set_cons_zero, List.set_cons_succ]
                refine fin_takeG 11 (v := ?_) rfl (by kernel_rfl) (by kernel_rfl) (by kernel_rfl) (by kernel_rfl) (fun _ _ _ h => h) (by rfl) ?_ S0 ?_
                rotate_left
                · intro W hW
                  have g1 := (HSE.out.on hW).lt
                  have g2 := (HWE.out.on hW).lt
                  go_simp
                  (try with_reducible rfl)
                simp only [Act.put, List.setIfInBounds_toArray, List.set_cons_zero, List.set_cons_succ]
                refine fin_takeG 12 (v := .agg (entA e)) rfl (by kernel_rfl) (by kernel_rfl) (by kernel_rfl) (by kernel_rfl) (fun _ _ _ h => h) (by rfl) (fun W hW => exec_eld rfl rfl (HWE.out.on hW).r) S0 ?_
                simp only [Act.put, List.setIfInBounds_toArray, List.set_cons_zero, List.set_cons_succ]
                refine fin_takeG 13 (v := .bool false) rfl (by kernel_rfl) (by kernel_rfl) (by kernel_rfl) (by kernel_rfl) (fun _ _ _ h => h) (by rfl) (fun W hW => exec_ene_same rfl HIN.out rfl rfl W) S0 ?_
                simp only [Act.put, List.setIfInBounds_toArray, List.set_cons_zero, List.set_cons_succ]
                refine fin_take 14 (v := ?_) rfl (by kernel_rfl) (by kernel_rfl) (by kernel_rfl) (by kernel_rfl) (fun _ _ _ h => h) rfl ?_ S0 ?_
                rotate_left
                · intro W hW
                  have g1 := (HSE.out.on hW).lt
                  have g2 := (HWE.out.on hW).lt
                  go_simp
                  (try with_reducible rfl)
                simp only [Act.put, List.setIfInBounds_toArray, List.set_cons_zero, List.set_cons_succ]
                clear S0
                refine fin_done (by kernel_rfl) (NoPanic.normal ?_)
                go_wp2
                go_roundg (n - i1)
                case measure => have := HL.out; have := HG.out; have := HI1.out; omega
                case rel => exact ⟨i1, q1, by have := HL.out; have := HI1.out; omega, rfl, (by first | rfl | exact congrArg (Value.int .i64) HOV3.out | exact congrArg (Value.int .i64) hov2), (by first | rfl | exact congrArg (Value.int .i64) hov), HQ2, JD, RD⟩
            · have hfull : wl.take i = wl := List.take_of_length_le (by have := HN.out; omega)
              obtain ⟨b1, b2⟩ := lt_no hge
              have hq : q = nF := by rw [HQ.out, hfull, HNF.out, HF.out]
              subst hq
              have cLe := HLe.out
              clear hfull HQ HI HG hge
              go_wp2_with (refine wpList_bld rfl rfl rfl HJ.out.bk ?_)
              refine (cLe _).mono ?_
              rintro _ w5 ⟨rfl, k5⟩
              have K5 : Hid (On w w5) := HJ.out.on.trans k5
              clear k5 cLe
              go_wp2
              go_ret
              exact ⟨rfl, K5.out⟩
        · obtain ⟨gqk, oqk, haq, heq⟩ := rd_ents (J4.out).rd (List.length_pos_of_mem (List.mem_of_getElem? hjk))
          first | subst haq | (simp only [Option.some.injEq, Addr.mk.injEq] at haq; obtain ⟨rfl, rfl, _⟩ := haq)
          have hjn := (List.getElem?_eq_some_iff.1 hjk).1
          rw [← HN.out] at hjn
          have z0 := (heq k en hjk).c0
          have z1 := (heq k en hjk).c1
          have z2 := (heq k en hjk).c2
          have zl := (heq k en hjk).lt
          have y1 : (k : Int) < (n : Int) := nat_lt hjn
          have y2 : decide ((k : Int) < 0) = false := nat_nn k
          have y4 : (0 : Int) ≤ (k : Int) := nat_0 k
          clear heq hjn hjk
          go_wp2_with (refine wpList_bld rfl rfl rfl J4.out.bk ?_)
          clear z0 z1 z2 zl y1 y2 y4
          refine (HLi.out _).mono ?_
          rintro _ w4 ⟨lv, rfl, ol, k4⟩
          obtain ⟨la, lc, rfl⟩ := own_slice ol
          have RF : Hid (Rd entC 3 w4 (.slice la nF lc) F) := by
            show Rd _ _ _ _ _
            rw [HNF.out, HF.out]
            exact Rd.own entC_len ol
          have J5 : Hid (SaJ w w4 N b (some ⟨gqk, oqk, none⟩) n cap wl m c) := J4.out.go k4
          try rw [← HF.out, ← HNF.out]
          clear k4 ol J4
          go_wp2
          go_loopg [20, 21] n (fun gg s20 s21 wr => ∃ (i q : Nat), i ≤ n ∧ gg = n - i ∧ s20 = .int .i64 (q : Nat) ∧ s21 = .int .i64 (i : Nat) ∧ Hid (q = (filtW m (wl.take i) c).length) ∧ Hid (SaJ w wr N b (some ⟨gqk, oqk, none⟩) n cap wl m c) ∧ Hid (Rd entC 3 wr (.slice la nF lc) F))
          case atStart => exact ⟨0, 0, Nat.zero_le _, rfl, rfl, rfl, rfl, J5, RF⟩
          case round =>
            obtain ⟨i, q, hin, hg, rfl, rfl, HQ, HJ, HRF⟩ := hrel
            have HI : Hid (i ≤ n) := hin
            have HG : Hid (gk = n - i) := hg
            clear hin hg J5 RF
            rcases Nat.lt_or_ge i n with hlt | hge
            · have hiL : i < wl.length := by rw [← HN.out]; exact hlt
              obtain ⟨e, he⟩ : ∃ e, wl[i]? = some e := ⟨_, List.getElem?_eq_getElem hiL⟩
              obtain ⟨g, off, hae, hea⟩ := rd_ents HJ.out.rd (Nat.lt_of_le_of_lt (Nat.zero_le _) hiL)
              first | subst hae | (simp only [Option.some.injEq, Addr.mk.injEq] at hae; obtain ⟨rfl, rfl, _⟩ := hae)
              have HWE : Hid (EnAt wr _ (_ + i * 3) e) := hea i e he
              have HIN : Hid (EnIn e) := HINA.out e (List.mem_of_getElem? he)
              have f0 := HWE.out.c0
              have fl := HWE.out.lt
              have d1 : (i : Int) < (n : Int) := nat_lt hlt
              have d2 : decide ((i : Int) < 0) = false := nat_nn i
              have d4 : (0 : Int) ≤ (i : Int) := nat_0 i
              have HL : Hid (i < n) := hlt
              obtain ⟨i1, hi1⟩ : ∃ i1, i1 = i + 1 := ⟨_, rfl⟩
              have HI1 : Hid (i1 = i + 1) := hi1
              have hov : wrap64 ((i : Int) + 1) = (i1 : Int) := wrapM (Nat.le_trans (Nat.le_of_lt hlt) (Nat.le_trans H24.out (by decide))) hi1
              have hs : (m != 2) = true ∧ (e.1 != c) = true ∧ seesW m c e = false ∨ ((m != 2) = false ∧ seesW m c e = true) ∨ ((m != 2) = true ∧ (e.1 != c) = false ∧ seesW m c e = true) := by
                unfold seesW bne
                cases (m == 2) <;> cases (e.1 == c) <;> simp
              clear hea hlt hiL hi1
              rcases hs with ⟨h1, h2, h3⟩ | ⟨h1, h3⟩ | ⟨h1, h2, h3⟩
              · have HQ2 : Hid (q = (filtW m (wl.take i1) c).length) := by show q = _; rw [HI1.out, filtW_no he h3]; exact HQ.out
                clear h3 he
                generalize e.1 = el at f0 h2
                go_wp2
                go_roundg (n - i1)
                case measure => have := HL.out; have := HG.out; have := HI1.out; omega
                case rel => exact ⟨i1, q, by have := HL.out; have := HI1.out; omega, rfl, rfl, (by first | rfl | exact congrArg (Value.int .i64) hov), HQ2, HJ, HRF⟩
              · obtain ⟨q1, hq1⟩ : ∃ q1, q1 = q + 1 := ⟨_, rfl⟩
                have hfy := filtW_yes he h3
                rw [← HQ.out, ← HF.out] at hfy
                have HQ2 : Hid (q1 = (filtW m (wl.take i1) c).length) := by show q1 = _; rw [HI1.out, hfy.1, hq1]
                have hqF : q < F.length := (List.getElem?_eq_some_iff.1 hfy.2).1
                have hqn : q < nF := by rw [HNF.out]; exact hqF
                obtain ⟨gF, oF, hlae, hef⟩ := rd_ents HRF.out (Nat.lt_of_le_of_lt (Nat.zero_le _) hqF)
                subst hlae
                have HSE : Hid (EnAt wr gF (oF + q * 3) e) := hef q e hfy.2
                have x1 : (q : Int) < (nF : Int) := nat_lt hqn
                have x2 : decide ((q : Int) < 0) = false := nat_nn q
                have x4 : (0 : Int) ≤ (q : Int) := nat_0 q
                have x5 : decide (nF ≤ q) = false := decide_eq_false (by omega)
                have x6 : decide ((nF : Int) ≤ (q : Int)) = false := decide_eq_false (by omega)
                have hq24 : q ≤ 900 := Nat.le_trans (Nat.le_of_lt hqn) HN9.out
                have hov2 : wrap64 ((q : Int) + 1) = (q1 : Int) := wrapM hq24 hq1
                have hov3 : (q : Int) + 1 = (q1 : Int) := by rw [hq1]; rfl
                have HOV3 : Hid ((q : Int) + 1 = (q1 : Int)) := hov3
                clear h3 he hfy hqF hqn hef hq24 hq1 hov3
                generalize e.1 = el at f0
                go_wp2
                clear f0 fl
                have JD : Hid (SaJ w wr.drew N b _ n cap wl m c) := HJ.out.go ((On.refl wr).drew)
                have RD : Hid (Rd entC 3 wr.drew _ F) := HRF.out.on ((On.refl wr).drew)
                have S0 : On wr wr.drew := (On.refl wr).drew
                refine region_fin (fun W => On wr W) 99 15 (by kernel_rfl) rfl ?_
                refine fin_take 0 (v := ?_) rfl (by kernel_rfl) (by kernel_rfl) (by kernel_rfl) (by kernel_rfl) (fun _ _ _ h => h) rfl ?_ S0 ?_
                rotate_left
                · intro W hW
                  have g1 := (HSE.out.on hW).lt
                  have g2 := (HWE.out.on hW).lt
                  go_simp
                  (try with_reducible rfl)
                simp only [Act.put, List.setIfInBounds_toArray, List.set_cons_zero, List.set_cons_succ]
                refine fin_take 1 (v := ?_) rfl (by kernel_rfl) (by kernel_rfl) (by kernel_rfl) (by kernel_rfl) (fun _ _ _ h => h) rfl ?_ S0 ?_
                rotate_left
                · intro W hW
                  have g1 := (HSE.out.on hW).lt
                  have g2 := (HWE.out.on hW).lt
                  go_simp
                  (try with_reducible rfl)
                simp only [Act.put, List.setIfInBounds_toArray, List.set_cons_zero, List.set_cons_succ]
                refine fin_take 2 (v := ?_) rfl (by kernel_rfl) (by kernel_rfl) (by kernel_rfl) (by kernel_rfl) (fun _ _ _ h => h) rfl ?_ S0 ?_
                rotate_left
                · intro W hW
                  have g1 := (HSE.out.on hW).lt
                  have g2 := (HWE.out.on hW).lt
                  go_simp
                  (try with_reducible rfl)
                simp only [Act.put, List.setIfInBounds_toArray, List.set_cons_zero, List.set_cons_succ]
                refine fin_take 3 (v := ?_) rfl (by kernel_rfl) (by kernel_rfl) (by kernel_rfl) (by kernel_rfl) (fun _ _ _ h => h) rfl ?_ S0 ?_
                rotate_left
                · intro W hW
                  have g1 := (HSE.out.on hW).lt
                  have g2 := (HWE.out.on hW).lt
                  go_simp
                  (try with_reducible rfl)
                simp only [Act.put, List.setIfInBounds_toArray, List.set_cons_zero, List.set_cons_succ]
                refine fin_take 4 (v := ?_) rfl (by kernel_rfl) (by kernel_rfl) (by kernel_rfl) (by kernel_rfl) (fun _ _ _ h => h) rfl ?_ S0 ?_
                rotate_left
                · intro W hW
                  have g1 := (HSE.out.on hW).lt
                  have g2 := (HWE.out.on hW).lt
                  go_simp
                  (try with_reducible rfl)
                simp only [Act.put, List.setIfInBounds_toArray, List.set_cons_zero, List.set_cons_succ]
                refine fin_takeG 5 (v := ?_) rfl (by kernel_rfl) (by kernel_rfl) (by kernel_rfl) (by kernel_rfl) (fun _ _ _ h => h) (by rfl) ?_ S0 ?_
                rotate_left
                · intro W hW
                  have g1 := (HSE.out.on hW).lt
                  have g2 := (HWE.out.on hW).lt
                  go_simp
                  (try with_reducible rfl)
                simp only [Act.put, List.setIfInBounds_toArray, List.set_cons_zero, List.set_cons_succ]
                refine fin_takeG 6 (v := ?_) rfl (by kernel_rfl) (by kernel_rfl) (by kernel_rfl) (by kernel_rfl) (fun _ _ _ h => h) (by rfl) ?_ S0 ?_
                rotate_left
                · intro W hW
                  have g1 := (HSE.out.on hW).lt
                  have g2 := (HWE.out.on hW).lt
                  go_simp
                  (try with_reducible rfl)
                simp only [Act.put, List.setIfInBounds_toArray, List.set_cons_zero, List.set_cons_succ]
                refine fin_takeG 7 (v := ?_) rfl (by kernel_rfl) (by kernel_rfl) (by kernel_rfl) (by kernel_rfl) (fun _ _ _ h => h) (by rfl) ?_ S0 ?_
                rotate_left
                · intro W hW
                  have g1 := (HSE.out.on hW).lt
                  have g2 := (HWE.out.on hW).lt
                  go_simp
                  (try with_reducible rfl)
                simp only [Act.put, List.setIfInBounds_toArray, List.set_cons_zero, List.set_cons_succ]
                refine fin_takeG 8 (v := .agg (entA e)) rfl (by kernel_rfl) (by kernel_rfl) (by kernel_rfl) (by kernel_rfl) (fun _ _ _ h => h) (by rfl) (fun W hW => exec_eld rfl rfl (HSE.out.on hW).r) S0 ?_
                simp only [Act.put, List.setIfInBounds_toArray, List.set_cons_zero, List.set_cons_succ]
                refine fin_takeG 9 (v := ?_) rfl (by kernel_rfl) (by kernel_rfl) (by kernel_rfl) (by kernel_rfl) (fun _ _ _ h => h) (by rfl) ?_ S0 ?_
                rotate_left
                · intro W hW
                  have g1 := (HSE.out.on hW).lt
                  have g2 := (HWE.out.on hW).lt
                  go_simp
                  (try with_reducible rfl)
                simp only [Act.put, List.setIfInBounds_toArray, List.set_cons_zero, List.set_cons_succ]
                refine fin_takeG 10 (v := ?_) rfl (by kernel_rfl) (by kernel_rfl) (by kernel_rfl) (by kernel_rfl) (fun _ _ _ h => h) (by rfl) ?_ S0 ?_
                rotate_left
                · intro W hW
                  have g1 := (HSE.out.on hW).lt
                  have g2 := (HWE.out.on hW).lt
                  go_simp
                  (try with_reducible rfl)
                simp only [Act.put, List.setIfInBounds_toArray, List.set_cons_zero, List.set_cons_succ]
                refine fin_takeG 11 (v := ?_) rfl (by kernel_rfl) (by kernel_rfl) (by kernel_rfl) (by kernel_rfl) (fun _ _ _ h => h) (by rfl) ?_ S0 ?_
                rotate_left
                · intro W hW
                  have g1 := (HSE.out.on hW).lt
                  have g2 := (HWE.out.on hW).lt
                  go_simp
                  (try with_reducible rfl)
                simp only [Act.put, List.setIfInBounds_toArray, List.set_cons_zero, List.set_cons_succ]
                refine fin_takeG 12 (v := .agg (entA e)) rfl (by kernel_rfl) (by kernel_rfl) (by kernel_rfl) (by kernel_rfl) (fun _ _ _ h => h) (by rfl) (fun W hW => exec_eld rfl rfl (HWE.out.on hW).r) S0 ?_
                simp only [Act.put, List.setIfInBounds_toArray, List.set_cons_zero, List.set_cons_succ]
                refine fin_takeG 13 (v := .bool false) rfl (by kernel_rfl) (by kernel_rfl) (by kernel_rfl) (by kernel_rfl) (fun _ _ _ h => h) (by rfl) (fun W hW => exec_ene_same rfl HIN.out rfl rfl W) S0 ?_
                simp only [Act.put, List.setIfInBounds_toArray, List.set_cons_zero, List.set_cons_succ]
                refine fin_take 14 (v := ?_) rfl (by kernel_rfl) (by kernel_rfl) (by kernel_rfl) (by kernel_rfl) (fun _ _ _ h => h) rfl ?_ S0 ?_
                rotate_left
                · intro W hW
                  have g1 := (HSE.out.on hW).lt
                  have g2 := (HWE.out.on hW).lt
                  go_simp
                  (try with_reducible rfl)
                simp only [Act.put, List.setIfInBounds_toArray, List.set_cons_zero, List.set_cons_succ]
                clear S0
                refine fin_done (by kernel_rfl) (NoPanic.normal ?_)
                go_wp2
                go_roundg (n - i1)
                case measure => have := HL.out; have := HG.out; have := HI1.out; omega
                case rel => exact ⟨i1, q1, by have := HL.out; have := HI1.out; omega, rfl, (by first | rfl | exact congrArg (Value.int .i64) HOV3.out | exact congrArg (Value.int .i64) hov2), (by first | rfl | exact congrArg (Value.int .i64) hov), HQ2, JD, RD⟩
              · obtain ⟨q1, hq1⟩ : ∃ q1, q1 = q + 1 := ⟨_, rfl⟩
                have hfy := filtW_yes he h3
                rw [← HQ.out, ← HF.out] at hfy
                have HQ2 : Hid (q1 = (filtW m (wl.take i1) c).length) := by show q1 = _; rw [HI1.out, hfy.1, hq1]
                have hqF : q < F.length := (List.getElem?_eq_some_iff.1 hfy.2).1
                have hqn : q < nF := by rw [HNF.out]; exact hqF
                obtain ⟨gF, oF, hlae, hef⟩ := rd_ents HRF.out (Nat.lt_of_le_of_lt (Nat.zero_le _) hqF)
                subst hlae
                have HSE : Hid (EnAt wr gF (oF + q * 3) e) := hef q e hfy.2
                have x1 : (q : Int) < (nF : Int) := nat_lt hqn
                have x2 : decide ((q : Int) < 0) = false := nat_nn q
                have x4 : (0 : Int) ≤ (q : Int) := nat_0 q
                have x5 : decide (nF ≤ q) = false := decide_eq_false (by omega)
                have x6 : decide ((nF : Int) ≤ (q : Int)) = false := decide_eq_false (by omega)
                have hq24 : q ≤ 900 := Nat.le_trans (Nat.le_of_lt hqn) HN9.out
                have hov2 : wrap64 ((q : Int) + 1) = (q1 : Int) := wrapM hq24 hq1
                have hov3 : (q : Int) + 1 = (q1 : Int) := by rw [hq1]; rfl
                have HOV3 : Hid ((q : Int) + 1 = (q1 : Int)) := hov3
                clear h3 he hfy hqF hqn hef hq24 hq1 hov3
                generalize e.1 = el at f0 h2
                go_wp2
                clear f0 h2 fl
                have JD : Hid (SaJ w wr.drew N b _ n cap wl m c) := HJ.out.go ((On.refl wr).drew)
                have RD : Hid (Rd entC 3 wr.drew _ F) := HRF.out.on ((On.refl wr).drew)
                have S0 : On wr wr.drew := (On.refl wr).drew
                refine region_fin (fun W => On wr W) 99 15 (by kernel_rfl) rfl ?_
                refine fin_take 0 (v := ?_) rfl (by kernel_rfl) (by kernel_rfl) (by kernel_rfl) (by kernel_rfl) (fun _ _ _ h => h) rfl ?_ S0 ?_
                rotate_left
                · intro W hW
                  have g1 := (HSE.out.on hW).lt
                  have g2 := (HWE.out.on hW).lt
                  go_simp
                  (try with_reducible rfl)
                simp only [Act.put, List.setIfInBounds_toArray, List.set_cons_zero, List.set_cons_succ]
                refine fin_take 1 (v := ?_) rfl (by kernel_rfl) (by kernel_rfl) (by kernel_rfl) (by kernel_rfl) (fun _ _ _ h => h) rfl ?_ S0 ?_
                rotate_left
                · intro W hW
                  have g1 := (HSE.out.on hW).lt
                  have g2 := (HWE.out.on hW).lt
                  go_simp
                  (try with_reducible rfl)
                simp only [Act.put, List.setIfInBounds_toArray, List.set_cons_zero, List.set_cons_succ]
                refine fin_take 2 (v := ?_) rfl (by kernel_rfl) (by kernel_rfl) (by kernel_rfl) (by kernel_rfl) (fun _ _ _ h => h) rfl ?_ S0 ?_
                rotate_left
                · intro W hW
                  have g1 := (HSE.out.on hW).lt
                  have g2 := (HWE.out.on hW).lt
                  go_simp
                  (try with_reducible rfl)
                simp only [Act.put, List.setIfInBounds_toArray, List.set_cons_zero, List.set_cons_succ]
                refine fin_take 3 (v := ?_) rfl (by kernel_rfl) (by kernel_rfl) (by kernel_rfl) (by kernel_rfl) (fun _ _ _ h => h) rfl ?_ S0 ?_
                rotate_left
                · intro W hW
                  have g1 := (HSE.out.on hW).lt
                  have g2 := (HWE.out.on hW).lt
                  go_simp
                  (try with_reducible rfl)
                simp only [Act.put, List.setIfInBounds_toArray, List.set_cons_zero, List.set_cons_succ]
                refine fin_take 4 (v := ?_) rfl (by kernel_rfl) (by kernel_rfl) (by kernel_rfl) (by kernel_rfl) (fun _ _ _ h => h) rfl ?_ S0 ?_
                rotate_left
                · intro W hW
                  have g1 := (HSE.out.on hW).lt
                  have g2 := (HWE.out.on hW).lt
                  go_simp
                  (try with_reducible rfl)
                simp only [Act.put, List.setIfInBounds_toArray, List.set_cons_zero, List.set_cons_succ]
                refine fin_takeG 5 (v := ?_) rfl (by kernel_rfl) (by kernel_rfl) (by kernel_rfl) (by kernel_rfl) (fun _ _ _ h => h) (by rfl) ?_ S0 ?_
                rotate_left
                · intro W hW
                  have g1 := (HSE.out.on hW).lt
                  have g2 := (HWE.out.on hW).lt
                  go_simp
                  (try with_reducible rfl)
                simp only [Act.put, List.setIfInBounds_toArray, List.set_cons_zero, List.set_cons_succ]
                refine fin_takeG 6 (v := ?_) rfl (by kernel_rfl) (by kernel_rfl) (by kernel_rfl) (by kernel_rfl) (fun _ _ _ h => h) (by rfl) ?_ S0 ?_
                rotate_left
                · intro W hW
                  have g1 := (HSE.out.on hW).lt
                  have g2 := (HWE.out.on hW).lt
                  go_simp
                  (try with_reducible rfl)
                simp only [Act.put, List.setIfInBounds_toArray, List.set_cons_zero, List.set_cons_succ]
                refine fin_takeG 7 (v := ?_) rfl (by kernel_rfl) (by kernel_rfl) (by kernel_rfl) (by kernel_rfl) (fun _ _ _ h => h) (by rfl) ?_ S0 ?_
                rotate_left
                · intro W hW
                  have g1 := (HSE.out.on hW).lt
                  have g2 := (HWE.out.on hW).lt
                  go_simp
                  (try with_reducible rfl)
                simp only [Act.put, List.setIfInBounds_toArray, List.set_cons_zero, List.set_cons_succ]
                refine fin_takeG 8 (v := .agg (entA e)) rfl (by kernel_rfl) (by kernel_rfl) (by kernel_rfl) (by kernel_rfl) (fun _ _ _ h => h) (by rfl) (fun W hW => exec_eld rfl rfl (HSE.out.on hW).r) S0 ?_
                simp only [Act.put, List.setIfInBounds_toArray, List.set_cons_zero, List.set_cons_succ]
                refine fin_takeG 9 (v := ?_) rfl (by kernel_rfl) (by kernel_rfl) (by kernel_rfl) (by kernel_rfl) (fun _ _ _ h => h) (by rfl) ?_ S0 ?_
                rotate_left
                · intro W hW
                  have g1 := (HSE.out.on hW).lt
                  have g2 := (HWE.out.on hW).lt
                  go_simp
                  (try with_reducible rfl)
                simp only [Act.put, List.setIfInBounds_toArray, List.set_cons_zero, List.set_cons_succ]
                refine fin_takeG 10 (v := ?_) rfl (by kernel_rfl) (by kernel_rfl) (by kernel_rfl) (by kernel_rfl) (fun _ _ _ h => h) (by rfl) ?_ S0 ?_
                rotate_left
                · intro W hW
                  have g1 := (HSE.out.on hW).lt
                  have g2 := (HWE.out.on hW).lt
                  go_simp
                  (try with_reducible rfl)
                simp only [Act.put, List.setIfInBounds_toArray, List.set_cons_zero, List.set_cons_succ]
                refine fin_takeG 11 (v := ?_) rfl (by kernel_rfl) (by kernel_rfl) (by kernel_rfl) (by kernel_rfl) (fun _ _ _ h => h) (by rfl) ?_ S0 ?_
                rotate_left
                · intro W hW
                  have g1 := (HSE.out.on hW).lt
                  have g2 := (HWE.out.on hW).lt
                  go_simp
                  (try with_reducible rfl)
                simp only [Act.put, List.setIfInBounds_toArray, List.set_cons_zero, List.set_cons_succ]
                refine fin_takeG 12 (v := .agg (entA e)) rfl (by kernel_rfl) (by kernel_rfl) (by kernel_rfl) (by kernel_rfl) (fun _ _ _ h => h) (by rfl) (fun W hW => exec_eld rfl rfl (HWE.out.on hW).r) S0 ?_
                simp only [Act.put, List.setIfInBounds_toArray, List.set_cons_zero, List.set_cons_succ]
                refine fin_takeG 13 (v := .bool false) rfl (by kernel_rfl) (by kernel_rfl) (by kernel_rfl) (by kernel_rfl) (fun _ _ _ h => h) (by rfl) (fun W hW => exec_ene_same rfl HIN.out rfl rfl W) S0 ?_
                simp only [Act.put, List.setIfInBounds_toArray, List.set_cons_zero, List.set_cons_succ]
                refine fin_take 14 (v := ?_) rfl (by kernel_rfl) (by kernel_rfl) (by kernel_rfl) (by kernel_rfl) (fun _ _ _ h => h) rfl ?_ S0 ?_
                rotate_left
                · intro W hW
                  have g1 := (HSE.out.on hW).lt
                  have g2 := (HWE.out.on hW).lt
                  go_simp
                  (try with_reducible rfl)
                simp only [Act.put, List.setIfInBounds_toArray, List.set_cons_zero, List.set_cons_succ]
                clear S0
                refine fin_done (by kernel_rfl) (NoPanic.normal ?_)
                go_wp2
                go_roundg (n - i1)
                case measure => have := HL.out; have := HG.out; have := HI1.out; omega
                case rel => exact ⟨i1, q1, by have := HL.out; have := HI1.out; omega, rfl, (by first | rfl | exact congrArg (Value.int .i64) HOV3.out | exact congrArg (Value.int .i64) hov2), (by first | rfl | exact congrArg (Value.int .i64) hov), HQ2, JD, RD⟩
            · have hfull : wl.take i = wl := List.take_of_length_le (by have := HN.out; omega)
              obtain ⟨b1, b2⟩ := lt_no hge
              have hq : q = nF := by rw [HQ.out, hfull, HNF.out, HF.out]
              subst hq
              have cLe := HLe.out
              clear hfull HQ HI HG hge
              go_wp2_with (refine wpList_bld rfl rfl rfl HJ.out.bk ?_)
              refine (cLe _).mono ?_
              rintro _ w5 ⟨rfl, k5⟩
              have K5 : Hid (On w w5) := HJ.out.on.trans k5
              clear k5 cLe
              go_wp2
              go_ret
              exact ⟨rfl, K5.out⟩
      · obtain ⟨gqj, oqj, haq, heq⟩ := rd_ents (HJ.out).rd (List.length_pos_of_mem (List.mem_of_getElem? hjj))
        first | subst haq | (simp only [Option.some.injEq, Addr.mk.injEq] at haq; obtain ⟨rfl, rfl, _⟩ := haq)
        have hjn := (List.getElem?_eq_some_iff.1 hjj).1
        rw [← HN.out] at hjn
        have z0 := (heq j e hjj).c0
        have z1 := (heq j e hjj).c1
        have z2 := (heq j e hjj).c2
        have zl := (heq j e hjj).lt
        have y1 : (j : Int) < (n : Int) := nat_lt hjn
        have y2 : decide ((j : Int) < 0) = false := nat_nn j
        have y4 : (0 : Int) ≤ (j : Int) := nat_0 j
        clear heq hjn hjj
        go_wp2_with (refine wpList_bld rfl rfl rfl HJ.out.bk ?_)
        refine (HcO.out _ HJ.out.rd).mono ?_
        rintro _ w2 ⟨⟨x, y, z, ok, rfl, ho⟩, k2⟩
        have HO : Hid ((firstV m wl c = -1 ∧ x = 0 ∧ y = 0 ∧ z = 0 ∧ ok = false) ∨ ∃ (k : Nat) (en : EnT), firstV m wl c = k ∧ wl[k]? = some en ∧ x = en.1 ∧ y = en.2.1 ∧ z = en.2.2 ∧ ok = true) := ho
        have J3 : Hid (SaJ w w2 N b (some ⟨gqj, oqj, none⟩) n cap wl m c) := HJ.out.go k2
        clear k2 ho HcO z0 z1 z2 zl y1 y2 y4
        go_wp2_with fail
        refine (first_is _ n cap wl m c _ J3.out.rd H24'.out).mono ?_
        rintro _ w3 ⟨rfl, k3⟩
        have J4 : Hid (SaJ w w3 N b (some ⟨gqj, oqj, none⟩) n cap wl m c) := J3.out.go k3
        clear k3 J3
        have ho := HO.out
        clear HO
        generalize firstV m wl c = fv at *
        rcases ho with ⟨rfl, rfl, rfl, rfl, rfl⟩ | ⟨k, en, rfl, hjk, rfl, rfl, rfl, rfl⟩
        · go_wp2_with (refine wpList_bld rfl rfl rfl J4.out.bk ?_)
          refine (HLi.out _).mono ?_
          rintro _ w4 ⟨lv, rfl, ol, k4⟩
          obtain ⟨la, lc, rfl⟩ := own_slice ol
          have RF : Hid (Rd entC 3 w4 (.slice la nF lc) F) := by
            show Rd _ _ _ _ _
            rw [HNF.out, HF.out]
            exact Rd.own entC_len ol
          have J5 : Hid (SaJ w w4 N b (some ⟨gqj, oqj, none⟩) n cap wl m c) := J4.out.go k4
          try rw [← HF.out, ← HNF.out]
          clear k4 ol J4
          go_wp2
          go_loopg [20, 21] n (fun gg s20 s21 wr => ∃ (i q : Nat), i ≤ n ∧ gg = n - i ∧ s20 = .int .i64 (q : Nat) ∧ s21 = .int .i64 (i : Nat) ∧ Hid (q = (filtW m (wl.take i) c).length) ∧ Hid (SaJ w wr N b (some ⟨gqj, oqj, none⟩) n cap wl m c) ∧ Hid (Rd entC 3 wr (.slice la nF lc) F))
          case atStart => exact ⟨0, 0, Nat.zero_le _, rfl, rfl, rfl, rfl, J5, RF⟩
          case round =>
            obtain ⟨i, q, hin, hg, rfl, rfl, HQ, HJ, HRF⟩ := hrel
            have HI : Hid (i ≤ n) := hin
            have HG : Hid (gk = n - i) := hg
            clear hin hg J5 RF
            rcases Nat.lt_or_ge i n with hlt | hge
            · have hiL : i < wl.length := by rw [← HN.out]; exact hlt
              obtain ⟨e, he⟩ : ∃ e, wl[i]? = some e := ⟨_, List.getElem?_eq_getElem hiL⟩
              obtain ⟨g, off, hae, hea⟩ := rd_ents HJ.out.rd (Nat.lt_of_le_of_lt (Nat.zero_le _) hiL)
              first | subst hae | (simp only [Option.some.injEq, Addr.mk.injEq] at hae; obtain ⟨rfl, rfl, _⟩ := hae)
              have HWE : Hid (EnAt wr _ (_ + i * 3) e) := hea i e he
              have HIN : Hid (EnIn e) := HINA.out e (List.mem_of_getElem? he)
              have f0 := HWE.out.c0
              have fl := HWE.out.lt
              have d1 : (i : Int) < (n : Int) := nat_lt hlt
              have d2 : decide ((i : Int) < 0) = false := nat_nn i
              have d4 : (0 : Int) ≤ (i : Int) := nat_0 i
              have HL : Hid (i < n) := hlt
              obtain ⟨i1, hi1⟩ : ∃ i1, i1 = i + 1 := ⟨_, rfl⟩
              have HI1 : Hid (i1 = i + 1) := hi1
              have hov : wrap64 ((i : Int) + 1) = (i1 : Int) := wrapM (Nat.le_trans (Nat.le_of_lt hlt) (Nat.le_trans H24.out (by decide))) hi1
              have hs : (m != 2) = true ∧ (e.1 != c) = true ∧ seesW m c e = false ∨ ((m != 2) = false ∧ seesW m c e = true) ∨ ((m != 2) = true ∧ (e.1 != c) = false ∧ seesW m c e = true) := by
                unfold seesW bne
                cases (m == 2) <;> cases (e.1 == c) <;> simp
              clear hea hlt hiL hi1
              rcases hs with ⟨h1, h2, h3⟩ | ⟨h1, h3⟩ | ⟨h1, h2, h3⟩
              · have HQ2 : Hid (q = (filtW m (wl.take i1) c).length) := by show q = _; rw [HI1.out, filtW_no he h3]; exact HQ.out
                clear h3 he
                generalize e.1 = el at f0 h2
                go_wp2
                go_roundg (n - i1)
                case measure => have := HL.out; have := HG.out; have := HI1.out; omega
                case rel => exact ⟨i1, q, by have := HL.out; have := HI1.out; omega, rfl, rfl, (by first | rfl | exact congrArg (Value.int .i64) hov), HQ2, HJ, HRF⟩
              · obtain ⟨q1, hq1⟩ : ∃ q1, q1 = q + 1 := ⟨_, rfl⟩
                have hfy := filtW_yes he h3
                rw [← HQ.out, ← HF.out] at hfy
                have HQ2 : Hid (q1 = (filtW m (wl.take i1) c).length) := by show q1 = _; rw [HI1.out, hfy.1, hq1]
                have hqF : q < F.length := (List.getElem?_eq_some_iff.1 hfy.2).1
                have hqn : q < nF := by rw [HNF.out]; exact hqF
                obtain ⟨gF, oF, hlae, hef⟩ := rd_ents HRF.out (Nat.lt_of_le_of_lt (Nat.zero_le _) hqF)
                subst hlae
                have HSE : Hid (EnAt wr gF (oF + q * 3) e) := hef q e hfy.2
                have x1 : (q : Int) < (nF : Int) := nat_lt hqn
                have x2 : decide ((q : Int) < 0) = false := nat_nn q
                have x4 : (0 : Int) ≤ (q : Int) := nat_0 q
                have x5 : decide (nF ≤ q) = false := decide_eq_false (by omega)
                have x6 : decide ((nF : Int) ≤ (q : Int)) = false := decide_eq_false (by omega)
                have hq24 : q ≤ 900 := Nat.le_trans (Nat.le_of_lt hqn) HN9.out
                have hov2 : wrap64 ((q : Int) + 1) = (q1 : Int) := wrapM hq24 hq1
                have hov3 : (q : Int) + 1 = (q1 : Int) := by rw [hq1]; rfl
                have HOV3 : Hid ((q : Int) + 1 = (q1 : Int)) := hov3
                clear h3 he hfy hqF hqn hef hq24 hq1 hov3
                generalize e.1 = el at f0
                go_wp2
                clear f0 fl
                have JD : Hid (SaJ w wr.drew N b _ n cap wl m c) := HJ.out.go ((On.refl wr).drew)
                have RD : Hid (Rd entC 3 wr.drew _ F) := HRF.out.on ((On.refl wr).drew)
                have S0 : On wr wr.drew := (On.refl wr).drew
                refine region_fin (fun W => On wr W) 99 15 (by kernel_rfl) rfl ?_
                refine fin_take 0 (v := ?_) rfl (by kernel_rfl) (by kernel_rfl) (by kernel_rfl) (by kernel_rfl) (fun _ _ _ h => h) rfl ?_ S0 ?_
                rotate_left
                · intro W hW
                  have g1 := (HSE.out.on hW).lt
                  have g2 := (HWE.out.on hW).lt
                  go_simp
                  (try with_reducible rfl)
                simp only [Act.put, List.setIfInBounds_toArray, List.set_cons_zero, List.set_cons_succ]
                refine fin_take 1 (v := ?_) rfl (by kernel_rfl) (by kernel_rfl) (by kernel_rfl) (by kernel_rfl) (fun _ _ _ h => h) rfl ?_ S0 ?_
                rotate_left
                · intro W hW
                  have g1 := (HSE.out.on hW).lt
                  have g2 := (HWE.out.on hW).lt
                  go_simp
                  (try with_reducible rfl)
                simp only [Act.put, List.setIfInBounds_toArray, List.set_cons_zero, List.set_cons_succ]
                refine fin_take 2 (v := ?_) rfl (by kernel_rfl) (by kernel_rfl) (by kernel_rfl) (by kernel_rfl) (fun _ _ _ h => h) rfl ?_ S0 ?_
                rotate_left
                · intro W hW
                  have g1 := (HSE.out.on hW).lt
                  have g2 := (HWE.out.on hW).lt
                  go_simp
                  (try with_reducible rfl)
                simp only [Act.put, List.setIfInBounds_toArray, List.set_cons_zero, List.set_cons_succ]
                refine fin_take 3 (v := ?_) rfl (by kernel_rfl) (by kernel_rfl) (by kernel_rfl) (by kernel_rfl) (fun _ _ _ h => h) rfl ?_ S0 ?_
                rotate_left
                · intro W hW
                  have g1 := (HSE.out.on hW).lt
                  have g2 := (HWE.out.on hW).lt
                  go_simp
                  (try with_reducible rfl)
                simp only [Act.put, List.setIfInBounds_toArray, List.set_cons_zero, List.set_cons_succ]
                refine fin_take 4 (v := ?_) rfl (by kernel_rfl) (by kernel_rfl) (by kernel_rfl) (by kernel_rfl) (fun _ _ _ h => h) rfl ?_ S0 ?_
                rotate_left
                · intro W hW
                  have g1 := (HSE.out.on hW).lt
                  have g2 := (HWE.out.on hW).lt
                  go_simp
                  (try with_reducible rfl)
                simp only [Act.put, List.setIfInBounds_toArray, List.set_cons_zero, List.set_cons_succ]
                refine fin_takeG 5 (v := ?_) rfl (by kernel_rfl) (by kernel_rfl) (by kernel_rfl) (by kernel_rfl) (fun _ _ _ h => h) (by rfl) ?_ S0 ?_
                rotate_left
                · intro W hW
                  have g1 := (HSE.out.on hW).lt
                  have g2 := (HWE.out.on hW).lt
                  go_simp
                  (try with_reducible rfl)
                simp only [Act.put, List.setIfInBounds_toArray, List.set_cons_zero, List.set_cons_succ]
                refine fin_takeG 6 (v := ?_) rfl (by kernel_rfl) (by kernel_rfl) (by kernel_rfl) (by kernel_rfl) (fun _ _ _ h => h) (by rfl) ?_ S0 ?_
                rotate_left
                · intro W hW
                  have g1 := (HSE.out.on hW).lt
                  have g2 := (HWE.out.on hW).lt
                  go_simp
                  (try with_reducible rfl)
                simp only [Act.put, List.setIfInBounds_toArray, List.set_cons_zero, List.set_cons_succ]
                refine fin_takeG 7 (v := ?_) rfl (by kernel_rfl) (by kernel_rfl) (by kernel_rfl) (by kernel_rfl) (fun _ _ _ h => h) (by rfl) ?_ S0 ?_
                rotate_left
                · intro W hW
                  have g1 := (HSE.out.on hW).lt
                  have g2 := (HWE.out.on hW).lt
                  go_simp
                  (try with_reducible rfl)
                simp only [Act.put, List.setIfInBounds_toArray, List.set_cons_zero, List.set_cons_succ]
                refine fin_takeG 8 (v := .agg (entA e)) rfl (by kernel_rfl) (by kernel_rfl) (by kernel_rfl) (by kernel_rfl) (fun _ _ _ h => h) (by rfl) (fun W hW => exec_eld rfl rfl (HSE.out.on hW).r) S0 ?_
                simp only [Act.put, List.setIfInBounds_toArray, List.set_cons_zero, List.set_cons_succ]
                refine fin_takeG 9 (v := ?_) rfl (by kernel_rfl) (by kernel_rfl) (by kernel_rfl) (by kernel_rfl) (fun _ _ _ h => h) (by rfl) ?_ S0 ?_
                rotate_left
                · intro W hW
                  have g1 := (HSE.out.on hW).lt
                  have g2 := (HWE.out.on hW).lt
                  go_simp
                  (try with_reducible rfl)
                simp only [Act.put, List.setIfInBounds_toArray, List.set_cons_zero, List.set_cons_succ]
                refine fin_takeG 10 (v := ?_) rfl (by kernel_rfl) (by kernel_rfl) (by kernel_rfl) (by kernel_rfl) (fun _ _ _ h => h) (by rfl) ?_ S0 ?_
                rotate_left
                · intro W hW
                  have g1 := (HSE.out.on hW).lt
                  have g2 := (HWE.out.on hW).lt
                  go_simp
                  (try with_reducible rfl)
                simp only [Act.put, List.setIfInBounds_toArray, List.set_cons_zero, List.set_cons_succ]
                refine fin_takeG 11 (v := ?_) rfl (by kernel_rfl) (by kernel_rfl) (by kernel_rfl) (by kernel_rfl) (fun _ _ _ h => h) (by rfl) ?_ S0 ?_
                rotate_left
                · intro W hW
                  have g1 := (HSE.out.on hW).lt
                  have g2 := (HWE.out.on hW).lt
                  go_simp
                  (try with_reducible rfl)
                simp only [Act.put, List.setIfInBounds_toArray, List.set_cons_zero, List.set_cons_succ]
                refine fin_takeG 12 (v := .agg (entA e)) rfl (by kernel_rfl) (by kernel_rfl) (by kernel_rfl) (by kernel_rfl) (fun _ _ _ h => h) (by rfl) (fun W hW => exec_eld rfl rfl (HWE.out.on hW).r) S0 ?_
                simp only [Act.put, List.setIfInBounds_toArray, List.set_cons_zero, List.set_cons_succ]
                refine fin_takeG 13 (v := .bool false) rfl (by kernel_rfl) (by kernel_rfl) (by kernel_rfl) (by kernel_rfl) (fun _ _ _ h => h) (by rfl) (fun W hW => exec_ene_same rfl HIN.out rfl rfl W) S0 ?_
                simp only [Act.put, List.setIfInBounds_toArray, List.set_cons_zero, List.set_cons_succ]
                refine fin_take 14 (v := ?_) rfl (by kernel_rfl) (by kernel_rfl) (by kernel_rfl) (by kernel_rfl) (fun _ _ _ h => h) rfl ?_ S0 ?_
                rotate_left
                · intro W hW
                  have g1 := (HSE.out.on hW).lt
                  have g2 := (HWE.out.on hW).lt
                  go_simp
                  (try with_reducible rfl)
                simp only [Act.put, List.setIfInBounds_toArray, List.set_cons_zero, List.set_cons_succ]
                clear S0
                refine fin_done (by kernel_rfl) (NoPanic.normal ?_)
                go_wp2
                go_roundg (n - i1)
                case measure => have := HL.out; have := HG.out; have := HI1.out; omega
                case rel => exact ⟨i1, q1, by have := HL.out; have := HI1.out; omega, rfl, (by first | rfl | exact congrArg (Value.int .i64) HOV3.out | exact congrArg (Value.int .i64) hov2), (by first | rfl | exact congrArg (Value.int .i64) hov), HQ2, JD, RD⟩
              · obtain ⟨q1, hq1⟩ : ∃ q1, q1 = q + 1 := ⟨_, rfl⟩
                have hfy := filtW_yes he h3
                rw [← HQ.out, ← HF.out] at hfy
                have HQ2 : Hid (q1 = (filtW m (wl.take i1) c).length) := by show q1 = _; rw [HI1.out, hfy.1, hq1]
                have hqF : q < F.length := (List.getElem?_eq_some_iff.1 hfy.2).1
                have hqn : q < nF := by rw [HNF.out]; exact hqF
                obtain ⟨gF, oF, hlae, hef⟩ := rd_ents HRF.out (Nat.lt_of_le_of_lt (Nat.zero_le _) hqF)
                subst hlae
                have HSE : Hid (EnAt wr gF (oF + q * 3) e) := hef q e hfy.2
                have x1 : (q : Int) < (nF : Int) := nat_lt hqn
                have x2 : decide ((q : Int) < 0) = false := nat_nn q
                have x4 : (0 : Int) ≤ (q : Int) := nat_0 q
                have x5 : decide (nF ≤ q) = false := decide_eq_false (by omega)
                have x6 : decide ((nF : Int) ≤ (q : Int)) = false := decide_eq_false (by omega)
                have hq24 : q ≤ 900 := Nat.le_trans (Nat.le_of_lt hqn) HN9.out
                have hov2 : wrap64 ((q : Int) + 1) = (q1 : Int) := wrapM hq24 hq1
                have hov3 : (q : Int) + 1 = (q1 : Int) := by rw [hq1]; rfl
                have HOV3 : Hid ((q : Int) + 1 = (q1 : Int)) := hov3
                clear h3 he hfy hqF hqn hef hq24 hq1 hov3
                generalize e.1 = el at f0 h2
                go_wp2
                clear f0 h2 fl
                have JD : Hid (SaJ w wr.drew N b _ n cap wl m c) := HJ.out.go ((On.refl wr).drew)
                have RD : Hid (Rd entC 3 wr.drew _ F) := HRF.out.on ((On.refl wr).drew)
                have S0 : On wr wr.drew := (On.refl wr).drew
                refine region_fin (fun W => On wr W) 99 15 (by kernel_rfl) rfl ?_
                refine fin_take 0 (v := ?_) rfl (by kernel_rfl) (by kernel_rfl) (by kernel_rfl) (by kernel_rfl) (fun _ _ _ h => h) rfl ?_ S0 ?_
                rotate_left
                · intro W hW
                  have g1 := (HSE.out.on hW).lt
                  have g2 := (HWE.out.on hW).lt
                  go_simp
                  (try with_reducible rfl)
                simp only [Act.put, List.setIfInBounds_toArray, List.set_cons_zero, List.set_cons_succ]
                refine fin_take 1 (v := ?_) rfl (by kernel_rfl) (by kernel_rfl) (by kernel_rfl) (by kernel_rfl) (fun _ _ _ h => h) rfl ?_ S0 ?_
                rotate_left
                · intro W hW
                  have g1 := (HSE.out.on hW).lt
                  have g2 := (HWE.out.on hW).lt
                  go_simp
                  (try with_reducible rfl)
                simp only [Act.put, List.setIfInBounds_toArray, List.set_cons_zero, List.set_cons_succ]
                refine fin_take 2 (v := ?_) rfl (by kernel_rfl) (by kernel_rfl) (by kernel_rfl) (by kernel_rfl) (fun _ _ _ h => h) rfl ?_ S0 ?_
                rotate_left
                · intro W hW
                  have g1 := (HSE.out.on hW).lt
                  have g2 := (HWE.out.on hW).lt
                  go_simp
                  (try with_reducible rfl)
                simp only [Act.put, List.setIfInBounds_toArray, List.set_cons_zero, List.set_cons_succ]
                refine fin_take 3 (v := ?_) rfl (by kernel_rfl) (by kernel_rfl) (by kernel_rfl) (by kernel_rfl) (fun _ _ _ h => h) rfl ?_ S0 ?_
                rotate_left
                · intro W hW
                  have g1 := (HSE.out.on hW).lt
                  have g2 := (HWE.out.on hW).lt
                  go_simp
                  (try with_reducible rfl)
                simp only [Act.put, List.setIfInBounds_toArray, List.set_cons_zero, List.set_cons_succ]
                refine fin_take 4 (v := ?_) rfl (by kernel_rfl) (by kernel_rfl) (by kernel_rfl) (by kernel_rfl) (fun _ _ _ h => h) rfl ?_ S0 ?_
                rotate_left
                · intro W hW
                  have g1 := (HSE.out.on hW).lt
                  have g2 := (HWE.out.on hW).lt
                  go_simp
                  (try with_reducible rfl)
                simp only [Act.put, List.setIfInBounds_toArray, List.set_cons_zero, List.set_cons_succ]
                refine fin_takeG 5 (v := ?_) rfl (by kernel_rfl) (by kernel_rfl) (by kernel_rfl) (by kernel_rfl) (fun _ _ _ h => h) (by rfl) ?_ S0 ?_
                rotate_left
                · intro W hW
                  have g1 := (HSE.out.on hW).lt
                  have g2 := (HWE.out.on hW).lt
                  go_simp
                  (try with_reducible rfl)
                simp only [Act.put, List.setIfInBounds_toArray, List.set_cons_zero, List.set_cons_succ]
                refine fin_takeG 6 (v := ?_) rfl (by kernel_rfl) (by kernel_rfl) (by kernel_rfl) (by kernel_rfl) (fun _ _ _ h => h) (by rfl) ?_ S0 ?_
                rotate_left
                · intro W hW
                  have g1 := (HSE.out.on hW).lt
                  have g2 := (HWE.out.on hW).lt
                  go_simp
                  (try with_reducible rfl)
                simp only [Act.put, List.setIfInBounds_toArray, List.set_cons_zero, List.set_cons_succ]
                refine fin_takeG 7 (v := ?_) rfl (by kernel_rfl) (by kernel_rfl) (by kernel_rfl) (by kernel_rfl) (fun _ _ _ h => h) (by rfl) ?_ S0 ?_
                rotate_left
                · intro W hW
                  have g1 := (HSE.out.on hW).lt
                  have g2 := (HWE.out.on hW).lt
                  go_simp
                  (try with_reducible rfl)
                simp only [Act.put, List.setIfInBounds_toArray, List.set_cons_zero, List.set_cons_succ]
                refine fin_takeG 8 (v := .agg (entA e)) rfl (by kernel_rfl) (by kernel_rfl) (by kernel_rfl) (by kernel_rfl) (fun _ _ _ h => h) (by rfl) (fun W hW => exec_eld rfl rfl (HSE.out.on hW).r) S0 ?_
                simp only [Act.put, List.setIfInBounds_toArray, List.set_cons_zero, List.set_cons_succ]
                refine fin_takeG 9 (v := ?_) rfl (by kernel_rfl) (by kernel_rfl) (by kernel_rfl) (by kernel_rfl) (fun _ _ _ h => h) (by rfl) ?_ S0 ?_
                rotate_left
                · intro W hW
                  have g1 := (HSE.out.on hW).lt
                  have g2 := (HWE.out.on hW).lt
                  go_simp
                  (try with_reducible rfl)
                simp only [Act.put, List.setIfInBounds_toArray, List.set_cons_zero, List.set_cons_succ]
                refine fin_takeG 10 (v := ?_) rfl (by kernel_rfl) (by kernel_rfl) (by kernel_rfl) (by kernel_rfl) (fun _ _ _ h => h) (by rfl) ?_ S0 ?_
                rotate_left
                · intro W hW
                  have g1 := (HSE.out.on hW).lt
                  have g2 := (HWE.out.on hW).lt
                  go_simp
                  (try with_reducible rfl)
                simp only [Act.put, List.setIfInBounds_toArray, List.set_cons_zero, List.set_cons_succ]
                refine fin_takeG 11 (v := ?_) rfl (by kernel_rfl) (by kernel_rfl) (by kernel_rfl) (by kernel_rfl) (fun _ _ _ h => h) (by rfl) ?_ S0 ?_
                rotate_left
                · intro W hW
                  have g1 := (HSE.out.on hW).lt
                  have g2 := (HWE.out.on hW).lt
                  go_simp
                  (try with_reducible rfl)
                simp only [Act.put, List.setIfInBounds_toArray, List.set_cons_zero, List.set_cons_succ]
                refine fin_takeG 12 (v := .agg (entA e)) rfl (by kernel_rfl) (by kernel_rfl) (by kernel_rfl) (by kernel_rfl) (fun _ _ _ h => h) (by rfl) (fun W hW => exec_eld rfl rfl (HWE.out.on hW).r) S0 ?_
                simp only [Act.put, List.setIfInBounds_toArray, List.set_cons_zero, List.set_cons_succ]
                refine fin_takeG 13 (v := .bool false) rfl (by kernel_rfl) (by kernel_rfl) (by kernel_rfl) (by kernel_rfl) (fun _ _ _ h => h) (by rfl) (fun W hW => exec_ene_same rfl HIN.out rfl rfl W) S0 ?_
                simp only [Act.put, List.setIfInBounds_toArray, List.set_cons_zero, List.set_cons_succ]
                refine fin_take 14 (v := ?_) rfl (by kernel_rfl) (by kernel_rfl) (by kernel_rfl) (by kernel_rfl) (fun _ _ _ h => h) rfl ?_ S0 ?_
                rotate_left
                · intro W hW
                  have g1 := (HSE.out.on hW).lt
                  have g2 := (HWE.out.on hW).lt
                  go_simp
                  (try with_reducible rfl)
                simp only [Act.put, List.setIfInBounds_toArray, List.set_cons_zero, List.set_cons_succ]
                clear S0
                refine fin_done (by kernel_rfl) (NoPanic.normal ?_)
                go_wp2
                go_roundg (n - i1)
                case measure => have := HL.out; have := HG.out; have := HI1.out; omega
                case rel => exact ⟨i1, q1, by have := HL.out; have := HI1.out; omega, rfl, (by first | rfl | exact congrArg (Value.int .i64) HOV3.out | exact congrArg (Value.int .i64) hov2), (by first | rfl | exact congrArg (Value.int .i64) hov), HQ2, JD, RD⟩
            · have hfull : wl.take i = wl := List.take_of_length_le (by have := HN.out; omega)
              obtain ⟨b1, b2⟩ := lt_no hge
              have hq : q = nF := by rw [HQ.out, hfull, HNF.out, HF.out]
              subst hq
              have cLe := HLe.out
              clear hfull HQ HI HG hge
              go_wp2_with (refine wpList_bld rfl rfl rfl HJ.out.bk ?_)
              refine (cLe _).mono ?_
              rintro _ w5 ⟨rfl, k5⟩
              have K5 : Hid (On w w5) := HJ.out.on.trans k5
              clear k5 cLe
              go_wp2
              go_ret
              exact ⟨rfl, K5.out⟩
        · obtain ⟨gqk, oqk, haq, heq⟩ := rd_ents (J4.out).rd (List.length_pos_of_mem (List.mem_of_getElem? hjk))
          first | subst haq | (simp only [Option.some.injEq, Addr.mk.injEq] at haq; obtain ⟨rfl, rfl, _⟩ := haq)
          have hjn := (List.getElem?_eq_some_iff.1 hjk).1
          rw [← HN.out] at hjn
          have z0 := (heq k en hjk).c0
          have z1 := (heq k en hjk).c1
          have z2 := (heq k en hjk).c2
          have zl := (heq k en hjk).lt
          have y1 : (k : Int) < (n : Int) := nat_lt hjn
          have y2 : decide ((k : Int) < 0) = false := nat_nn k
          have y4 : (0 : Int) ≤ (k : Int) := nat_0 k
          clear heq hjn hjk
          go_wp2_with (refine wpList_bld rfl rfl rfl J4.out.bk ?_)
          clear z0 z1 z2 zl y1 y2 y4
          refine (HLi.out _).mono ?_
          rintro _ w4 ⟨lv, rfl, ol, k4⟩
          obtain ⟨la, lc, rfl⟩ := own_slice ol
          have RF : Hid (Rd entC 3 w4 (.slice la nF lc) F) := by
            show Rd _ _ _ _ _
            rw [HNF.out, HF.out]
            exact Rd.own entC_len ol
          have J5 : Hid (SaJ w w4 N b (some ⟨gqj, oqj, none⟩) n cap wl m c) := J4.out.go k4
          try rw [← HF.out, ← HNF.out]
          clear k4 ol J4
          go_wp2
          go_loopg [20, 21] n (fun gg s20 s21 wr => ∃ (i q : Nat), i ≤ n ∧ gg = n - i ∧ s20 = .int .i64 (q : Nat) ∧ s21 = .int .i64 (i : Nat) ∧ Hid (q = (filtW m (wl.take i) c).length) ∧ Hid (SaJ w wr N b (some ⟨gqj, oqj, none⟩) n cap wl m c) ∧ Hid (Rd entC 3 wr (.slice la nF lc) F))
          case atStart => exact ⟨0, 0, Nat.zero_le _, rfl, rfl, rfl, rfl, J5, RF⟩
          case round =>
            obtain ⟨i, q, hin, hg, rfl, rfl, HQ, HJ, HRF⟩ := hrel
            have HI : Hid (i ≤ n) := hin
            have HG : Hid (gk = n - i) := hg
            clear hin hg J5 RF
            rcases Nat.lt_or_ge i n with hlt | hge
            · have hiL : i < wl.length := by rw [← HN.out]; exact hlt
              obtain ⟨e, he⟩ : ∃ e, wl[i]? = some e := ⟨_, List.getElem?_eq_getElem hiL⟩
              obtain ⟨g, off, hae, hea⟩ := rd_ents HJ.out.rd (Nat.lt_of_le_of_lt (Nat.zero_le _) hiL)
              first | subst hae | (simp only [Option.some.injEq, Addr.mk.injEq] at hae; obtain ⟨rfl, rfl, _⟩ := hae)
              have HWE : Hid (EnAt wr _ (_ + i * 3) e) := hea i e he
              have HIN : Hid (EnIn e) := HINA.out e (List.mem_of_getElem? he)
              have f0 := HWE.out.c0
              have fl := HWE.out.lt
              have d1 : (i : Int) < (n : Int) := nat_lt hlt
              have d2 : decide ((i : Int) < 0) = false := nat_nn i
              have d4 : (0 : Int) ≤ (i : Int) := nat_0 i
              have HL : Hid (i < n) := hlt
              obtain ⟨i1, hi1⟩ : ∃ i1, i1 = i + 1 := ⟨_, rfl⟩
              have HI1 : Hid (i1 = i + 1) := hi1
              have hov : wrap64 ((i : Int) + 1) = (i1 : Int) := wrapM (Nat.le_trans (Nat.le_of_lt hlt) (Nat.le_trans H24.out (by decide))) hi1
              have hs : (m != 2) = true ∧ (e.1 != c) = true ∧ seesW m c e = false ∨ ((m != 2) = false ∧ seesW m c e = true) ∨ ((m != 2) = true ∧ (e.1 != c) = false ∧ seesW m c e = true) := by
                unfold seesW bne
                cases (m == 2) <;> cases (e.1 == c) <;> simp
              clear hea hlt hiL hi1
              rcases hs with ⟨h1, h2, h3⟩ | ⟨h1, h3⟩ | ⟨h1, h2, h3⟩
              · have HQ2 : Hid (q = (filtW m (wl.take i1) c).length) := by show q = _; rw [HI1.out, filtW_no he h3]; exact HQ.out
                clear h3 he
                generalize e.1 = el at f0 h2
                go_wp2
                go_roundg (n - i1)
                case measure => have := HL.out; have := HG.out; have := HI1.out; omega
                case rel => exact ⟨i1, q, by have := HL.out; have := HI1.out; omega, rfl, rfl, (by first | rfl | exact congrArg (Value.int .i64) hov), HQ2, HJ, HRF⟩
              · obtain ⟨q1, hq1⟩ : ∃ q1, q1 = q + 1 := ⟨_, rfl⟩
                have hfy := filtW_yes he h3
                rw [← HQ.out, ← HF.out] at hfy
                have HQ2 : Hid (q1 = (filtW m (wl.take i1) c).length) := by show q1 = _; rw [HI1.out, hfy.1, hq1]
                have hqF : q < F.length := (List.getElem?_eq_some_iff.1 hfy.2).1
                have hqn : q < nF := by rw [HNF.out]; exact hqF
                obtain ⟨gF, oF, hlae, hef⟩ := rd_ents HRF.out (Nat.lt_of_le_of_lt (Nat.zero_le _) hqF)
                subst hlae
                have HSE : Hid (EnAt wr gF (oF + q * 3) e) := hef q e hfy.2
                have x1 : (q : Int) < (nF : Int) := nat_lt hqn
                have x2 : decide ((q : Int) < 0) = false := nat_nn q
                have x4 : (0 : Int) ≤ (q : Int) := nat_0 q
                have x5 : decide (nF ≤ q) = false := decide_eq_false (by omega)
                have x6 : decide ((nF : Int) ≤ (q : Int)) = false := decide_eq_false (by omega)
                have hq24 : q ≤ 900 := Nat.le_trans (Nat.le_of_lt hqn) HN9.out
                have hov2 : wrap64 ((q : Int) + 1) = (q1 : Int) := wrapM hq24 hq1
                have hov3 : (q : Int) + 1 = (q1 : Int) := by rw [hq1]; rfl
                have HOV3 : Hid ((q : Int) + 1 = (q1 : Int)) := hov3
                clear h3 he hfy hqF hqn hef hq24 hq1 hov3
                generalize e.1 = el at f0
                go_wp2
                clear f0 fl
                have JD : Hid (SaJ w wr.drew N b _ n cap wl m c) := HJ.out.go ((On.refl wr).drew)
                have RD : Hid (Rd entC 3 wr.drew _ F) := HRF.out.on ((On.refl wr).drew)
                have S0 : On wr wr.drew := (On.refl wr).drew
                refine region_fin (fun W => On wr W) 99 15 (by kernel_rfl) rfl ?_
                refine fin_take 0 (v := ?_) rfl (by kernel_rfl) (by kernel_rfl) (by kernel_rfl) (by kernel_rfl) (fun _ _ _ h => h) rfl ?_ S0 ?_
                rotate_left
                · intro W hW
                  have g1 := (HSE.out.on hW).lt
                  have g2 := (HWE.out.on hW).lt
                  go_simp
                  (try with_reducible rfl)
                simp only [Act.put, List.setIfInBounds_toArray, List.set_cons_zero, List.set_cons_succ]
                refine fin_take 1 (v := ?_) rfl (by kernel_rfl) (by kernel_rfl) (by kernel_rfl) (by kernel_rfl) (fun _ _ _ h => h) rfl ?_ S0 ?_
                rotate_left
                · intro W hW
                  have g1 := (HSE.out.on hW).lt
                  have g2 := (HWE.out.on hW).lt
                  go_simp
                  (try with_reducible rfl)
                simp only [Act.put, List.setIfInBounds_toArray, List.set_cons_zero, List.set_cons_succ]
                refine fin_take 2 (v := ?_) rfl (by kernel_rfl) (by kernel_rfl) (by kernel_rfl) (by kernel_rfl) (fun _ _ _ h => h) rfl ?_ S0 ?_
                rotate_left
                · intro W hW
                  have g1 := (HSE.out.on hW).lt
                  have g2 := (HWE.out.on hW).lt
                  go_simp
                  (try with_reducible rfl)
                simp only [Act.put, List.setIfInBounds_toArray, List.set_cons_zero, List.set_cons_succ]
                refine fin_take 3 (v := ?_) rfl (by kernel_rfl) (by kernel_rfl) (by kernel_rfl) (by kernel_rfl) (fun _ _ _ h => h) rfl ?_ S0 ?_
                rotate_left
                · intro W hW
                  have g1 := (HSE.out.on hW).lt
                  have g2 := (HWE.out.on hW).lt
                  go_simp
                  (try with_reducible rfl)
                simp only [Act.put, List.setIfInBounds_toArray, List.set_cons_zero, List.set_cons_succ]
                refine fin_take 4 (v := ?_) rfl (by kernel_rfl) (by kernel_rfl) (by kernel_rfl) (by kernel_rfl) (fun _ _ _ h => h) rfl ?_ S0 ?_
                rotate_left
                · intro W hW
                  have g1 := (HSE.out.on hW).lt
                  have g2 := (HWE.out.on hW).lt
                  go_simp
                  (try with_reducible rfl)
                simp only [Act.put, List.setIfInBounds_toArray, List.set_cons_zero, List.set_cons_succ]
                refine fin_takeG 5 (v := ?_) rfl (by kernel_rfl) (by kernel_rfl) (by kernel_rfl) (by kernel_rfl) (fun _ _ _ h => h) (by rfl) ?_ S0 ?_
                rotate_left
                · intro W hW
                  have g1 := (HSE.out.on hW).lt
                  have g2 := (HWE.out.on hW).lt
                  go_simp
                  (try with_reducible rfl)
                simp only [Act.put, List.setIfInBounds_toArray, List.set_cons_zero, List.set_cons_succ]
                refine fin_takeG 6 (v := ?_) rfl (by kernel_rfl) (by kernel_rfl) (by kernel_rfl) (by kernel_rfl) (fun _ _ _ h => h) (by rfl) ?_ S0 ?_
                rotate_left
                · intro W hW
                  have g1 := (HSE.out.on hW).lt
                  have g2 := (HWE.out.on hW).lt
                  go_simp
                  (try with_reducible rfl)
                simp only [Act.put, List.setIfInBounds_toArray, List.set_cons_zero, List.set_cons_succ]
                refine fin_takeG 7 (v := ?_) rfl (by kernel_rfl) (by kernel_rfl) (by kernel_rfl) (by kernel_rfl) (fun _ _ _ h => h) (by rfl) ?_ S0 ?_
                rotate_left
                · intro W hW
                  have g1 := (HSE.out.on hW).lt
                  have g2 := (HWE.out.on hW).lt
                  go_simp
                  (try with_reducible rfl)
                simp only [Act.put, List.setIfInBounds_toArray, List.set_cons_zero, List.set_cons_succ]
                refine fin_takeG 8 (v := .agg (entA e)) rfl (by kernel_rfl) (by kernel_rfl) (by kernel_rfl) (by kernel_rfl) (fun _ _ _ h => h) (by rfl) (fun W hW => exec_eld rfl rfl (HSE.out.on hW).r) S0 ?_
                simp only [Act.put, List.setIfInBounds_toArray, List.set_cons_zero, List.set_cons_succ]
                refine fin_takeG 9 (v := ?_) rfl (by kernel_rfl) (by kernel_rfl) (by kernel_rfl) (by kernel_rfl) (fun _ _ _ h => h) (by rfl) ?_ S0 ?_
                rotate_left
                · intro W hW
                  have g1 := (HSE.out.on hW).lt
                  have g2 := (HWE.out.on hW).lt
                  go_simp
                  (try with_reducible rfl)
                simp only [Act.put, List.setIfInBounds_toArray, List.set_cons_zero, List.set_cons_succ]
                refine fin_takeG 10 (v := ?_) rfl (by kernel_rfl) (by kernel_rfl) (by kernel_rfl) (by kernel_rfl) (fun _ _ _ h => h) (by rfl) ?_ S0 ?_
                rotate_left
                · intro W hW
                  have g1 := (HSE.out.on hW).lt
                  have g2 := (HWE.out.on hW).lt
                  go_simp
                  (try with_reducible rfl)
                simp only [Act.put, List.setIfInBounds_toArray, List.set_cons_zero, List.set_cons_succ]
                refine fin_takeG 11 (v := ?_) rfl (by kernel_rfl) (by kernel_rfl) (by kernel_rfl) (by kernel_rfl) (fun _ _ _ h => h) (by rfl) ?_ S0 ?_
                rotate_left
                · intro W hW
                  have g1 := (HSE.out.on hW).lt
                  have g2 := (HWE.out.on hW).lt
                  go_simp
                  (try with_reducible rfl)
                simp only [Act.put, List.setIfInBounds_toArray, List.set_cons_zero, List.set_cons_succ]
                refine fin_takeG 12 (v := .agg (entA e)) rfl (by kernel_rfl) (by kernel_rfl) (by kernel_rfl) (by kernel_rfl) (fun _ _ _ h => h) (by rfl) (fun W hW => exec_eld rfl rfl (HWE.out.on hW).r) S0 ?_
                simp only [Act.put, List.setIfInBounds_toArray, List.set_cons_zero, List.set_cons_succ]
                refine fin_takeG 13 (v := .bool false) rfl (by kernel_rfl) (by kernel_rfl) (by kernel_rfl) (by kernel_rfl) (fun _ _ _ h => h) (by rfl) (fun W hW => exec_ene_same rfl HIN.out rfl rfl W) S0 ?_
                simp only [Act.put, List.setIfInBounds_toArray, List.set_cons_zero, List.set_cons_succ]
                refine fin_take 14 (v := ?_) rfl (by kernel_rfl) (by kernel_rfl) (by kernel_rfl) (by kernel_rfl) (fun _ _ _ h => h) rfl ?_ S0 ?_
                rotate_left
                · intro W hW
                  have g1 := (HSE.out.on hW).lt
                  have g2 := (HWE.out.on hW).lt
                  go_simp
                  (try with_reducible rfl)
                simp only [Act.put, List.setIfInBounds_toArray, List.set_cons_zero, List.set_cons_succ]
                clear S0
                refine fin_done (by kernel_rfl) (NoPanic.normal ?_)
                go_wp2
                go_roundg (n - i1)
                case measure => have := HL.out; have := HG.out; have := HI1.out; omega
                case rel => exact ⟨i1, q1, by have := HL.out; have := HI1.out; omega, rfl, (by first | rfl | exact congrArg (Value.int .i64) HOV3.out | exact congrArg (Value.int .i64) hov2), (by first | rfl | exact congrArg (Value.int .i64) hov), HQ2, JD, RD⟩
              · obtain ⟨q1, hq1⟩ : ∃ q1, q1 = q + 1 := ⟨_, rfl⟩
                have hfy := filtW_yes he h3
                rw [← HQ.out, ← HF.out] at hfy
                have HQ2 : Hid (q1 = (filtW m (wl.take i1) c).length) := by show q1 = _; rw [HI1.out, hfy.1, hq1]
                have hqF : q < F.length := (List.getElem?_eq_some_iff.1 hfy.2).1
                have hqn : q < nF := by rw [HNF.out]; exact hqF
                obtain ⟨gF, oF, hlae, hef⟩ := rd_ents HRF.out (Nat.lt_of_le_of_lt (Nat.zero_le _) hqF)
                subst hlae
                have HSE : Hid (EnAt wr gF (oF + q * 3) e) := hef q e hfy.2
                have x1 : (q : Int) < (nF : Int) := nat_lt hqn
                have x2 : decide ((q : Int) < 0) = false := nat_nn q
                have x4 : (0 : Int) ≤ (q : Int) := nat_0 q
                have x5 : decide (nF ≤ q) = false := decide_eq_false (by omega)
                have x6 : decide ((nF : Int) ≤ (q : Int)) = false := decide_eq_false (by omega)
                have hq24 : q ≤ 900 := Nat.le_trans (Nat.le_of_lt hqn) HN9.out
                have hov2 : wrap64 ((q : Int) + 1) = (q1 : Int) := wrapM hq24 hq1
                have hov3 : (q : Int) + 1 = (q1 : Int) := by rw [hq1]; rfl
                have HOV3 : Hid ((q : Int) + 1 = (q1 : Int)) := hov3
                clear h3 he hfy hqF hqn hef hq24 hq1 hov3
                generalize e.1 = el at f0 h2
                go_wp2
                clear f0 h2 fl
                have JD : Hid (SaJ w wr.drew N b _ n cap wl m c) := HJ.out.go ((On.refl wr).drew)
                have RD : Hid (Rd entC 3 wr.drew _ F) := HRF.out.on ((On.refl wr).drew)
                have S0 : On wr wr.drew := (On.refl wr).drew
                refine region_fin (fun W => On wr W) 99 15 (by kernel_rfl) rfl ?_
                refine fin_take 0 (v := ?_) rfl (by kernel_rfl) (by kernel_rfl) (by kernel_rfl) (by kernel_rfl) (fun _ _ _ h => h) rfl ?_ S0 ?_
                rotate_left
                · intro W hW
                  have g1 := (HSE.out.on hW).lt
                  have g2 := (HWE.out.on hW).lt
                  go_simp
                  (try with_reducible rfl)
                simp only [Act.put, List.setIfInBounds_toArray, List.set_cons_zero, List.set_cons_succ]
                refine fin_take 1 (v := ?_) rfl (by kernel_rfl) (by kernel_rfl) (by kernel_rfl) (by kernel_rfl) (fun _ _ _ h => h) rfl ?_ S0 ?_
                rotate_left
                · intro W hW
                  have g1 := (HSE.out.on hW).lt
                  have g2 := (HWE.out.on hW).lt
                  go_simp
                  (try with_reducible rfl)
                simp only [Act.put, List.setIfInBounds_toArray, List.set_cons_zero, List.set_cons_succ]
                refine fin_take 2 (v := ?_) rfl (by kernel_rfl) (by kernel_rfl) (by kernel_rfl) (by kernel_rfl) (fun _ _ _ h => h) rfl ?_ S0 ?_
                rotate_left
                · intro W hW
                  have g1 := (HSE.out.on hW).lt
                  have g2 := (HWE.out.on hW).lt
                  go_simp
                  (try with_reducible rfl)
                simp only [Act.put, List.setIfInBounds_toArray, List.set_cons_zero, List.set_cons_succ]
                refine fin_take 3 (v := ?_) rfl (by kernel_rfl) (by kernel_rfl) (by kernel_rfl) (by kernel_rfl) (fun _ _ _ h => h) rfl ?_ S0 ?_
                rotate_left
                · intro W hW
                  have g1 := (HSE.out.on hW).lt
                  have g2 := (HWE.out.on hW).lt
                  go_simp
                  (try with_reducible rfl)
                simp only [Act.put, List.setIfInBounds_toArray, List.set_cons_zero, List.set_cons_succ]
                refine fin_take 4 (v := ?_) rfl (by kernel_rfl) (by kernel_rfl) (by kernel_rfl) (by kernel_rfl) (fun _ _ _ h => h) rfl ?_ S0 ?_
                rotate_left
                · intro W hW
                  have g1 := (HSE.out.on hW).lt
                  have g2 := (HWE.out.on hW).lt
                  go_simp
                  (try with_reducible rfl)
                simp only [Act.put, List.setIfInBounds_toArray, List.set_cons_zero, List.set_cons_succ]
                refine fin_takeG 5 (v := ?_) rfl (by kernel_rfl) (by kernel_rfl) (by kernel_rfl) (by kernel_rfl) (fun _ _ _ h => h) (by rfl) ?_ S0 ?_
                rotate_left
                · intro W hW
                  have g1 := (HSE.out.on hW).lt
                  have g2 := (HWE.out.on hW).lt
                  go_simp
                  (try with_reducible rfl)
                simp only [Act.put, List.setIfInBounds_toArray, List.set_cons_zero, List.set_cons_succ]
                refine fin_takeG 6 (v := ?_) rfl (by kernel_rfl) (by kernel_rfl) (by kernel_rfl) (by kernel_rfl) (fun _ _ _ h => h) (by rfl) ?_ S0 ?_
                rotate_left
                · intro W hW
                  have g1 := (HSE.out.on hW).lt
                  have g2 := (HWE.out.on hW).lt
                  go_simp
                  (try with_reducible rfl)
                simp only [Act.put, List.setIfInBounds_toArray, List.set_cons_zero, List.set_cons_succ]
                refine fin_takeG 7 (v := ?_) rfl (by kernel_rfl) (by kernel_rfl) (by kernel_rfl) (by kernel_rfl) (fun _ _ _ h => h) (by rfl) ?_ S0 ?_
                rotate_left
                · intro W hW
                  have g1 := (HSE.out.on hW).lt
                  have g2 := (HWE.out.on hW).lt
                  go_simp
                  (try with_reducible rfl)
                simp only [Act.put, List.setIfInBounds_toArray, List.set_cons_zero, List.set_cons_succ]
                refine fin_takeG 8 (v := .agg (entA e)) rfl (by kernel_rfl) (by kernel_rfl) (by kernel_rfl) (by kernel_rfl) (fun _ _ _ h => h) (by rfl) (fun W hW => exec_eld rfl rfl (HSE.out.on hW).r) S0 ?_
                simp only [Act.put, List.setIfInBounds_toArray, List.set_cons_zero, List.set_cons_succ]
                refine fin_takeG 9 (v := ?_) rfl (by kernel_rfl) (by kernel_rfl) (by kernel_rfl) (by kernel_rfl) (fun _ _ _ h => h) (by rfl) ?_ S0 ?_
                rotate_left
                · intro W hW
                  have g1 := (HSE.out.on hW).lt
                  have g2 := (HWE.out.on hW).lt
                  go_simp
                  (try with_reducible rfl)
                simp only [Act.put, List.setIfInBounds_toArray, List.set_cons_zero, List.set_cons_succ]
                refine fin_takeG 10 (v := ?_) rfl (by kernel_rfl) (by kernel_rfl) (by kernel_rfl) (by kernel_rfl) (fun _ _ _ h => h) (by rfl) ?_ S0 ?_
                rotate_left
                · intro W hW
                  have g1 := (HSE.out.on hW).lt
                  have g2 := (HWE.out.on hW).lt
                  go_simp
                  (try with_reducible rfl)
                simp only [Act.put, List.setIfInBounds_toArray, List.set_cons_zero, List.set_cons_succ]
                refine fin_takeG 11 (v := ?_) rfl (by kernel_rfl) (by kernel_rfl) (by kernel_rfl) (by kernel_rfl) (fun _ _ _ h => h) (by rfl) ?_ S0 ?_
                rotate_left
                · intro W hW
                  have g1 := (HSE.out.on hW).lt
                  have g2 := (HWE.out.on hW).lt
                  go_simp
                  (try with_reducible rfl)
                simp only [Act.put, List.setIfInBounds_toArray, List.set_cons_zero, List.set_cons_succ]
                refine fin_takeG 12 (v := .agg (entA e)) rfl (by kernel_rfl) (by kernel_rfl) (by kernel_rfl) (by kernel_rfl) (fun _ _ _ h => h) (by rfl) (fun W hW => exec_eld rfl rfl (HWE.out.on hW).r) S0 ?_
                simp only [Act.put, List.setIfInBounds_toArray, List.set_cons_zero, List.set_cons_succ]
                refine fin_takeG 13 (v := .bool false) rfl (by kernel_rfl) (by kernel_rfl) (by kernel_rfl) (by kernel_rfl) (fun _ _ _ h => h) (by rfl) (fun W hW => exec_ene_same rfl HIN.out rfl rfl W) S0 ?_
                simp only [Act.put, List.setIfInBounds_toArray, List.set_cons_zero, List.set_cons_succ]
                refine fin_take 14 (v := ?_) rfl (by kernel_rfl) (by kernel_rfl) (by kernel_rfl) (by kernel_rfl) (fun _ _ _ h => h) rfl ?_ S0 ?_
                rotate_left
                · intro W hW
                  have g1 := (HSE.out.on hW).lt
                  have g2 := (HWE.out.on hW).lt
                  go_simp
                  (try with_reducible rfl)
                simp only [Act.put, List.setIfInBounds_toArray, List.set_cons_zero, List.set_cons_succ]
                clear S0
                refine fin_done (by kernel_rfl) (NoPanic.normal ?_)
                go_wp2
                go_roundg (n - i1)
                case measure => have := HL.out; have := HG.out; have := HI1.out; omega
                case rel => exact ⟨i1, q1, by have := HL.out; have := HI1.out; omega, rfl, (by first | rfl | exact congrArg (Value.int .i64) HOV3.out | exact congrArg (Value.int .i64) hov2), (by first | rfl | exact congrArg (Value.int .i64) hov), HQ2, JD, RD⟩
            · have hfull : wl.take i = wl := List.take_of_length_le (by have := HN.out; omega)
              obtain ⟨b1, b2⟩ := lt_no hge
              have hq : q = nF := by rw [HQ.out, hfull, HNF.out, HF.out]
              subst hq
              have cLe := HLe.out
              clear hfull HQ HI HG hge
              go_wp2_with (refine wpList_bld rfl rfl rfl HJ.out.bk ?_)
              refine (cLe _).mono ?_
              rintro _ w5 ⟨rfl, k5⟩
              have K5 : Hid (On w w5) := HJ.out.on.trans k5
              clear k5 cLe
              go_wp2
              go_ret
              exact ⟨rfl, K5.out⟩
end Go.Proofs.Ytnoeofbjnogkmaa
