/- The program's package order: All, Keeps. -/
import Derived.Test.YtohngifmbnlmmaaDoorOrdE
namespace Go.Proofs.YtohngifmbnlmmaaDoor
open Go.RowKit

theorem infoInts : (Tryd.prog.info? 36).map (fun i => (i.zero, i.size, i.bytes)) = some (some (.slice none 0 0), 1, 24) := by kernel_rfl
theorem Rd.at' {α : Type} {C : α → List Value} {k len : Nat} {w : World} {L : List α} {a : Option Addr} {c : Nat} (h : Rd C k w (.slice a len c) L) (hl : L.length = len) {i : Nat} {x : α} (hi : L[i]? = some x) :
    ∃ g off, a = some ⟨g, off, none⟩ ∧ g < w.heap.size ∧ ∀ (j : Nat) (u : Value), (C x)[j]? = some u → w.cell? ⟨g, off + i * k + j, none⟩ = some u := by
  subst hl
  exact h.at hi
abbrev OwnI (w : World) (base : Nat) (v : Value) (LL : List (List Int)) : Prop := Own2 intC 1 36 3 w base v LL
set_option maxHeartbeats 4000000 in
set_option maxRecDepth 8000 in
theorem alls_is (r : RelT) (hr : Wf r) (m : Int) (w : World) (hd : Dt w) :
    Calls Tryd.prog 10 #[.agg (relA r), .int .i64 m] w fun e w' => ∃ a c, e = .returned (.slice a ((ordsR r).take (boundI m)).length c) ∧ OwnI w' w.heap.size (.slice a ((ordsR r).take (boundI m)).length c) (((ordsR r).take (boundI m)).map ints) ∧ On w w' := by
  obtain ⟨i0, hi, hz0, hz1, hz2⟩ := info_parts infoInts
  have h1 := Bk.new w (relA r) 27
  have k0 := (On.refl w).alloc (.cells (relA r) 27)
  have hn : (needL r).length ≤ 64 := by rw [need_len]; exact hr.n
  have hx := need_x hr
  have hbo := fun W => bound_is m W
  have hnd := fun W => needs_is r hr W
  have hfs := fun W (k : On w W) => frst_is r hr W (hd.on k)
  have hB : boundI m ≤ 100000 := Nat.min_le_right _ _
  unfold ordsR
  generalize needL r = DL at *
  generalize boundI m = B at *
  have HD : Hid (Dt w) := hd
  have HX : Hid (∀ x ∈ DL, x < 18446744073709551616) := hx
  have HF := fun l => exts_first (l := l) hn (D_lt hx)
  have HE := exts_none hn (D_lt hx)
  obtain ⟨O, hO⟩ : ∃ O, O = exts DL.length (DL2D DL) DL.length 0 := ⟨_, rfl⟩
  obtain ⟨RES, hRES⟩ : ∃ RES, RES = O.take B := ⟨_, rfl⟩
  rw [← hO] at HF HE ⊢
  rw [← hRES]
  have HRES : Hid (RES = O.take B) := hRES
  clear hO hx hd hr hRES
  obtain ⟨n, hnn⟩ : ∃ n, n = DL.length := ⟨_, rfl⟩
  have HNN : Hid (n = DL.length) := hnn
  rw [← hnn] at hn hnd
  obtain ⟨G, hG⟩ : ∃ G, G = greedyP DL.length (DL2D DL) (bestN []) DL.length 0 := ⟨_, rfl⟩
  rw [← hG] at HF HE hfs
  clear hG hnn
  cases G with
  | none =>
    have e : RES = [] := by rw [HRES.out, HE rfl]; simp
    subst e
    clear HE HF HRES
    go_enter Tryd.func10, Tryd.ntmps10
    go_wp2_with fail
    refine (hbo _).mono ?_
    rintro _ w1 ⟨rfl, hw1⟩
    subst w1
    go_wp2_with (refine wpList_ld rfl rfl rfl h1 ?_)
    refine (hnd _).mono ?_
    rintro _ w1 ⟨an, cn, rfl, hrd, k1⟩
    have K1 := k0.trans k1
    have B1 := h1.on k1
    go_wp2_with (refine wpList_ld rfl rfl rfl B1 ?_)
    refine (hfs _ K1).mono ?_
    rintro _ w2 ⟨rfl, k2⟩
    have K2 : Hid (On w w2) := K1.trans k2
    clear hrd
    go_wp2
    go_loopg [6, 8] 0 (fun gg s6 s8 wr => gg = 0 ∧ s6 = .slice none 0 0 ∧ s8 = .bool false ∧ wr = w2)
    case atStart => exact ⟨rfl, rfl, rfl, rfl⟩
    case round =>
      obtain ⟨hg, rfl, rfl, hwr⟩ := hrel
      subst hwr
      go_wp2
      go_ret
      exact ⟨none, 0, rfl, Own2.nil _ _ _ _ _ _, K2.out⟩
  | some l0 =>
    obtain ⟨hFull, hO, hok0, hl0⟩ := HF _ rfl
    have HFU : Hid (Full DL.length (DL2D DL)) := hFull
    have HO : Hid (O = l0 :: afterS DL.length (DL2D DL) 0 l0) := hO
    have HOK0 : Hid (okS DL.length (DL2D DL) 0 l0 = true) := hok0
    have HL0 : Hid (l0.length = n) := hl0.trans HNN.out.symm
    have hl0n : l0.length = n := HL0.out
    rw [show (GrPost (some l0)) = (fun w e w' => ∃ g c, e = .returned (.tuple #[.slice (some ⟨g, 0, none⟩) n c, .bool true]) ∧ w.heap.size ≤ g ∧ n ≤ c ∧ Rw w' g (ints l0) ∧ On w w') by rw [← hl0n]; rfl] at hfs
    clear HE HF hFull hO hok0 hl0 hl0n
    go_enter Tryd.func10, Tryd.ntmps10
    go_wp2_with fail
    refine (hbo _).mono ?_
    rintro _ w1 ⟨rfl, hw1⟩
    subst w1
    go_wp2_with (refine wpList_ld rfl rfl rfl h1 ?_)
    refine (hnd _).mono ?_
    rintro _ w1 ⟨an, cn, rfl, hrd, k1⟩
    have K1 := k0.trans k1
    have B1 := h1.on k1
    have ND : Hid (Nd w1 (.slice an n cn) DL) := ⟨hrd, by rw [← HNN.out]; exact hn, HX.out, HD.out.on K1⟩
    go_wp2_with (refine wpList_ld rfl rfl rfl B1 ?_)
    refine (hfs _ K1).mono ?_
    rintro _ w2 ⟨g, c, rfl, hg, hc, hrw, k2⟩
    have K2 : Hid (On w w2) := K1.trans k2
    have hsz := K1.size
    have hsz2 := K2.out.size
    have hg2 := hrw.lt
    clear hrd h1 k0 B1 hbo hnd hfs
    go_wp2
    go_loopg [6, 8] O.length (fun gg s6 s8 wr => ∃ (dn rem : List (List Nat)) (ok : Bool), gg = rem.length ∧ s8 = .bool ok ∧ Hid (ok = !rem.isEmpty) ∧ Hid (O = dn ++ rem) ∧ dn.length ≤ B ∧ Hid (OwnI wr w2.heap.size s6 (dn.map ints)) ∧ Hid (On w wr) ∧ Hid (On w1 wr) ∧ w2.heap.size ≤ wr.heap.size ∧ Hid (∀ l ls, rem = l :: ls → Rw wr g (ints l) ∧ okS DL.length (DL2D DL) 0 l = true ∧ l.length = DL.length ∧ ls = afterS DL.length (DL2D DL) 0 l))
    case atStart => exact ⟨[], O, true, rfl, rfl, (by show true = _; rw [HO.out]; rfl), (by show _ = _; simp), Nat.zero_le _, Own2.nil _ _ _ _ _ _, K2, k2, Nat.le_refl _, fun l ls h => by
      rw [HO.out] at h
      simp only [List.cons.injEq] at h
      obtain ⟨rfl, rfl⟩ := h
      exact ⟨hrw, HOK0.out, HL0.out.trans HNN.out, rfl⟩⟩
    case round =>
      clear HO HOK0 HL0 K2 k2 hrw
      obtain ⟨dn, rem, ok, hgk, rfl, HOK, HLEN, hdB, HOW, HO, HO1, hws, HS⟩ := hrel
      obtain ⟨ra, rc, rfl⟩ := HOW.out.slice
      rw [List.length_map] at HOW ⊢
      cases rem with
      | nil =>
        obtain rfl : ok = false := HOK.out
        have e : RES = dn := by
          rw [HRES.out, HLEN.out, List.append_nil, List.take_of_length_le hdB]
        subst e
        obtain ⟨vs, e1, e2, e3⟩ := HOW.out
        have HOW2 : Hid (OwnI wr w.heap.size (.slice ra RES.length rc) (RES.map ints)) := ⟨vs, e1, own_mono e2 hsz2, fun i u L a b => own_mono (e3 i u L a b) hsz2⟩
        clear e1 e2 e3
        go_wp2
        go_ret
        exact ⟨ra, rc, rfl, HOW2.out, HO.out⟩
      | cons l ls =>
        obtain rfl : ok = true := HOK.out
        by_cases hdl : dn.length < B
        · obtain ⟨s1, s2, s3, s4⟩ := HS.out l ls rfl
          have hrd := s1.rd (c := c) (k := n) (by rw [ints_len, s3, HNN.out]; exact Nat.le_refl _) hc (by omega)
          have hln : (ints l).length = n := by rw [ints_len, s3, HNN.out]
          rw [List.take_of_length_le (by omega)] at hrd
          have hcl := clone_is (ints l) g c wr hrd (by omega)
          rw [hln] at hcl
          have HST : Hid (∀ W, On w1 W → Rw W g (ints l) → Calls Tryd.prog 26 #[.slice an n cn, .slice (some ⟨g, 0, none⟩) n c] W fun e w' => ∃ rem, e = .returned (.bool (!rem.isEmpty)) ∧ afterS n (DL2D DL) 0 l = rem ∧ (∀ l' ls, rem = l' :: ls → Rw w' g (ints l') ∧ okS n (DL2D DL) 0 l' = true ∧ l'.length = n ∧ ls = afterS n (DL2D DL) 0 l') ∧ Wa g W w') := fun W k hr => by
            have := step_row HFU.out ND.out k hg hr (by rw [s3, ← HNN.out]; exact hc) s3 s2
            rwa [← HNN.out] at this
          have HLS : Hid (ls = afterS n (DL2D DL) 0 l) := by show ls = _; rw [HNN.out]; exact s4
          have HLN : Hid (O = (dn ++ [l]) ++ ls) := by show O = _; rw [HLEN.out]; simp
          have HS1 : Hid (Rw wr g (ints l)) := s1
          have HLL : Hid ((ints l).length = n) := hln
          have hgk2 : gk = ls.length + 1 := hgk
          have hd2 : (dn ++ [l]).length ≤ B := by simp; omega
          clear HS s1 s2 s3 s4 HOK HLEN hgk hrd hln
          go_wp2_with fail
          refine hcl.mono ?_
          rintro _ w3 ⟨ca, cc, rfl, hcown, k3⟩
          obtain ⟨vs, e1, e2, e3⟩ := HOW.out
          rw [List.length_map] at e1
          have hs3 := k3.size
          have kA := (On.refl w3).alloc (.cells #[.slice ca n cc] 36)
          have f2 := own_on e2 (k3.trans kA)
          rw [List.length_map] at f2
          have f3 : ∀ (i : Nat) (u : Value) (L : List Int), vs[i]? = some u → (dn.map ints)[i]? = some L → (w3.alloc (.cells #[.slice ca n cc] 36)).ownsRow w2.heap.size 3 1 u L.length (L.flatMap intC) := fun i u L a b => own_on (e3 i u L a b) (k3.trans kA)
          have fu : (w3.alloc (.cells #[.slice ca n cc] 36)).ownsRow w2.heap.size 3 1 (.slice ca n cc) (ints l).length ((ints l).flatMap intC) := by
            rw [HLL.out, flat_int]
            exact own_mono (own_on hcown kA) hws
          have hblk : ∀ q, (Value.slice ra dn.length rc).ownBlock = some q → w2.heap.size ≤ q := fun q hq => (e2.lt q hq).1
          have KA1 := (HO1.out.trans k3).alloc (.cells #[.slice ca n cc] 36)
          have KA0 := (HO.out.trans k3).alloc (.cells #[.slice ca n cc] 36)
          have HS3 := (HS1.out.on k3).on kA
          clear e2 e3 hcown hcl
          have F2 : Hid ((w3.alloc (.cells #[.slice ca n cc] 36)).ownsRow w2.heap.size 36 1 (.slice ra dn.length rc) dn.length vs) := f2
          have F3 : Hid (∀ (i : Nat) (u : Value) (L : List Int), vs[i]? = some u → (dn.map ints)[i]? = some L → (w3.alloc (.cells #[.slice ca n cc] 36)).ownsRow w2.heap.size 3 1 u L.length (L.flatMap intC)) := f3
          have E1 : Hid (vs.length = dn.length) := e1
          clear f2 f3 e1
          go_wp2_with (at_builtin; refine wpList_append_own _ rfl _ _ 33 rfl w2.heap.size 36 i0 (.slice none 0 0) 1 24 Tryd.underlying33 hi hz0 hz1 hz2 rfl (by decide) _ _ _ rfl F2.out ⟨w3.heap.size, 0, none⟩ 1 1 [.slice ca n cc] rfl rfl ?c1 ?c2 ?c3 ?c4 ?c5 ?_)
          case c1 =>
            intro j u hu
            rw [new_cell]
            exact hu
          case c2 =>
            intro u hu
            simp only [List.mem_cons, List.not_mem_nil, or_false] at hu
            subst hu
            rfl
          case c3 => unfold maxLen; omega
          case c4 => omega
          case c5 => simp only [World.size_alloc]; omega
          intro v' w5 hown5 hg5 _
          have HOW5 : Hid (OwnI w5 w2.heap.size v' ((dn ++ [l]).map ints)) := by
            have := Own2.snoc (C := intC) (k := 1) (eo := 36) (ei := 3) (LL := dn.map ints) (L := ints l) (w' := w5) (v' := v') (u := .slice ca n cc) (by rw [List.length_map]; exact E1.out) (by rw [List.length_map]; exact F2.out) F3.out (by decide) hg5 (by rw [List.length_map]; exact hown5) fu
            show Own2 _ _ _ _ _ _ _ _
            rw [List.map_append]
            exact this
          have hgw : On (w3.alloc (.cells #[.slice ca n cc] 36)) w5 ∨ True := Or.inr trivial
          have KB1 : On w1 w5 := KA1.grown hg5 (fun q hq => by have := hblk q hq; omega)
          have KB0 : On w w5 := KA0.grown hg5 (fun q hq => by have := hblk q hq; omega)
          have hs5 : w2.heap.size ≤ w5.heap.size := by
            have h5 := hg5.size
            simp only [World.size_alloc] at h5
            omega
          have HS5 : Rw w5 g (ints l) := by
            obtain ⟨tl, hb⟩ := HS3
            exact ⟨tl, Bk.grown hb hg5 hg2 hblk⟩
          have hst := HST.out w5 KB1 HS5
          clear hg5 hown5 hgw fu F2 F3 HS3 KA0 KA1 kA HOW HO HO1 HST HS1
          obtain ⟨va, vc, rfl⟩ := HOW5.out.slice
          rw [List.length_map] at HOW5
          go_wp2_with fail
          refine hst.mono ?_
          rintro _ w6 ⟨rem, rfl, hrem, hnx, hwa⟩
          have HR2 : Hid (ls = rem) := HLS.out.trans hrem
          have HO2 : Hid (On w w6) := KB0.wa hwa (by omega)
          have HO3 : Hid (On w1 w6) := KB1.wa hwa hg
          have HOW6 : Hid (OwnI w6 w2.heap.size (.slice va (dn.length + 1) vc) ((dn ++ [l]).map ints)) := by
            have e9 : (dn ++ [l]).length = dn.length + 1 := by simp
            rw [← e9]
            exact HOW5.out.wa hwa hg2
          have hs6 : w2.heap.size ≤ w6.heap.size := Nat.le_trans hs5 hwa.size
          obtain ⟨ok, hok⟩ : ∃ ok, ok = !rem.isEmpty := ⟨_, rfl⟩
          rw [← hok]
          have HOK : Hid (ok = !rem.isEmpty) := hok
          have HNX : Hid (∀ l' ls, rem = l' :: ls → Rw w6 g (ints l') ∧ okS n (DL2D DL) 0 l' = true ∧ l'.length = n ∧ ls = afterS n (DL2D DL) 0 l') := hnx
          clear hok hrem hwa hnx HOW5
          go_wp2
          go_roundg ls.length
          case measure => omega
          case rel => exact ⟨dn ++ [l], rem, ok, by rw [HR2.out], rfl, HOK, by show _ = _; rw [HLN.out, HR2.out], hd2, HOW6, HO2, HO3, hs6, by rw [← HNN.out]; exact HNX⟩
        · have e : RES = dn := by
            rw [HRES.out, HLEN.out]
            have : B = dn.length := by omega
            rw [this, List.take_left]
          subst e
          obtain ⟨vs, e1, e2, e3⟩ := HOW.out
          have HOW2 : Hid (OwnI wr w.heap.size (.slice ra RES.length rc) (RES.map ints)) := ⟨vs, e1, own_mono e2 hsz2, fun i u L a b => own_mono (e3 i u L a b) hsz2⟩
          clear e1 e2 e3
          go_wp2
          go_ret
          exact ⟨ra, rc, rfl, HOW2.out, HO.out⟩
section
variable (n : Nat) (D : Nat → Nat)
def goK : Nat → List Int → Bool
  | _, [] => true
  | t, x :: L => hasI (freeN n D t) x && goK (withI t x) L
def keepI (L : List Int) : Bool := decide (L.length = n) && goK n D 0 L
end
set_option maxHeartbeats 4000000 in
set_option maxRecDepth 8000 in
theorem okeeps_is (r : RelT) (hr : Wf r) (L : List Int) (v : Value) (w : World) (hL : Rd intC 1 w v L) (hd : Dt w) :
    Calls Tryd.prog 16 #[.agg (relA r), v] w fun e w' => e = .returned (.bool (keepI (needL r).length (DL2D (needL r)) L)) ∧ On w w' := by
  obtain ⟨la, lc, rfl, hlc, hlm⟩ := hL.slice
  have h1 := Bk.new w (relA r) 27
  have k0 := (On.refl w).alloc (.cells (relA r) 27)
  have hn : (needL r).length ≤ 64 := by rw [need_len]; exact hr.n
  have hx := need_x hr
  have hnd := fun W => needs_is r hr W
  generalize needL r = DL at *
  have HX : Hid (∀ x ∈ DL, x < 18446744073709551616) := hx
  have HD : Hid (Dt w) := hd
  have HL : Hid (Rd intC 1 w (.slice la L.length lc) L) := hL
  obtain ⟨n, hnn⟩ : ∃ n, n = DL.length := ⟨_, rfl⟩
  rw [← hnn] at hnd hn ⊢
  have HNN : Hid (n = DL.length) := hnn
  obtain ⟨T, hT⟩ : ∃ T, T = keepI n (DL2D DL) L := ⟨_, rfl⟩
  rw [← hT]
  clear hx hd hL hnn hr
  by_cases hln : L.length = n
  · have HT : Hid (T = goK n (DL2D DL) 0 (L.drop 0)) := by show T = _; rw [hT]; unfold keepI; simp [hln]
    clear hT
    obtain ⟨len, hlen⟩ : ∃ len, len = L.length := ⟨_, rfl⟩
    rw [← hlen] at hln HL hlc hlm ⊢
    have HLE : Hid (L.length = len) := hlen.symm
    clear hlen
    subst hln
    go_enter Tryd.func16, Tryd.ntmps16
    go_wp2_with (refine wpList_ld rfl rfl rfl h1 ?_)
    refine (hnd _).mono ?_
    rintro _ w1 ⟨an, cn, rfl, hrd, k1⟩
    have K1 : Hid (On w w1) := k0.trans k1
    have ND : Hid (Nd w1 (.slice an len cn) DL) := ⟨hrd, by rw [← HNN.out]; exact hn, HX.out, HD.out.on K1.out⟩
    clear hrd h1 k0 k1 hnd
    go_wp2
    go_loopg [6, 18] len (fun gg s6 s18 wr => ∃ i t : Nat, i ≤ len ∧ gg = len - i ∧ s18 = .int .i64 i ∧ s6 = .int .u64 t ∧ t < 18446744073709551616 ∧ wr = w1 ∧ Hid (T = goK len (DL2D DL) t (L.drop i)))
    case atStart => exact ⟨0, 0, Nat.zero_le _, rfl, rfl, rfl, by decide, rfl, HT⟩
    case round =>
      clear HT
      obtain ⟨i, t, hi, hk, rfl, rfl, ht, hwr, HT⟩ := hrel
      subst hwr
      rcases Nat.lt_or_ge i len with hlt | hge
      · obtain ⟨x, hx, hdr⟩ := drop_at (by rw [HLE.out]; exact hlt : i < L.length)
        obtain ⟨g, off, hga, hg, u0⟩ := (HL.out.on K1.out).at' HLE.out hx
        subst hga
        have hc0 := u0 0 _ rfl
        simp only [Nat.mul_one, Nat.add_zero] at hc0
        have hfr := ND.out.free t ht
        have hfl := free_lt DL.length (DL2D DL) t
        rw [← HNN.out] at hfr hfl
        have HT1 := HT.out
        rw [hdr, goK] at HT1
        generalize freeN len (DL2D DL) t = F at *
        have hha := fun W => has_is F x hfl W
        have hwi := fun W => with_is t x ht W
        have hwl := with_lt t x ht
        clear HT u0 hx hdr
        generalize withI t x = t2 at *
        cases hh : hasI F x with
        | false =>
          rw [hh, Bool.false_and] at HT1
          rw [hh] at hha
          have HT2 : Hid (T = false) := HT1
          clear HT1 hh
          go_wp2_with fail
          refine hfr.mono ?_
          rintro _ w2 ⟨rfl, hw2⟩
          subst w2
          go_wp2_with fail
          refine (hha _).mono ?_
          rintro _ w2 ⟨rfl, hw2⟩
          subst w2
          go_wp2
          go_ret
          exact ⟨by rw [HT2.out]; rfl, K1.out⟩
        | true =>
          rw [hh, Bool.true_and] at HT1
          rw [hh] at hha
          have HT2 : Hid (T = _) := HT1
          clear HT1 hh
          go_wp2_with fail
          refine hfr.mono ?_
          rintro _ w2 ⟨rfl, hw2⟩
          subst w2
          go_wp2_with fail
          refine (hha _).mono ?_
          rintro _ w2 ⟨rfl, hw2⟩
          subst w2
          go_wp2_with fail
          refine (hwi _).mono ?_
          rintro _ w2 ⟨rfl, hw2⟩
          subst w2
          go_wp2
          go_roundg (len - (i + 1))
          case measure => omega
          case rel => exact ⟨i + 1, t2, hlt, rfl, by congr 1, rfl, hwl, rfl, HT2⟩
      · obtain rfl : len = i := by omega
        have e : T = true := by rw [HT.out, ← HLE.out, List.drop_length]; rfl
        subst e
        go_wp2
        go_ret
        exact ⟨rfl, K1.out⟩
  · have e : T = false := by rw [hT]; unfold keepI; simp [hln]
    subst e
    have hb : ((L.length : Int) == (n : Int)) = false := by simpa using (by omega : ¬ (L.length : Int) = n)
    clear hT
    generalize L.length = len at *
    go_enter Tryd.func16, Tryd.ntmps16
    go_wp2_with (refine wpList_ld rfl rfl rfl h1 ?_)
    refine (hnd _).mono ?_
    rintro _ w1 ⟨an, cn, rfl, hrd, k1⟩
    clear hrd
    go_wp2
    go_ret
    exact ⟨rfl, k0.trans k1⟩
end Go.Proofs.YtohngifmbnlmmaaDoor
