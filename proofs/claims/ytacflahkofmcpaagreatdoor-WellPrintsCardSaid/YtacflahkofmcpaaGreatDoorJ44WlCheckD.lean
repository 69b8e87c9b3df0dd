/- well.locations: the letters of a test. -/
import Derived.Test.YtacflahkofmcpaaGreatDoorJ43WlCheckB
import Derived.Test.YtacflahkofmcpaaGreatDoorJ24WlTestW
namespace Go.Proofs.YtacflahkofmcpaaGreatDoor.Wl
open Go.RowKit

theorem fold_lt {α : Type} (f : α → Int) : ∀ (L : List α) (n : Nat), n < 67108864 → L.foldl (fun n x => withL n (f x)) n < 67108864
  | [], _, h => h
  | x :: L, _, h => fold_lt f L _ (withL_lt h (f x))
theorem fold2_lt {α : Type} (f : α → Int) : ∀ (LL : List (List α)) (n : Nat), n < 67108864 → LL.foldl (fun n L => L.foldl (fun n x => withL n (f x)) n) n < 67108864
  | [], _, h => h
  | L :: LL, _, h => fold2_lt f LL _ (fold_lt f L _ h)
theorem locsN_lt (t : TestT) : locsN t < 67108864 := by
  unfold locsN
  exact fold2_lt (fun x : AtomT => x.l) _ _ (fold2_lt (fun x : InsT => x.l) _ _ (fold_lt (fun x : InitT => x.l) _ _ (by decide)))

set_option maxHeartbeats 8000000 in
set_option maxRecDepth 8000 in
theorem locations_is (t : TestT) (v : Value) (w : World) (h : TestRd w v t) :
    Calls Tryz.prog 104 #[v] w fun e w' => e = .returned (.int .u32 (locsN t)) ∧ On w w' := by
  obtain ⟨a1, c1, a2, c2, a3, c3, rfl, hnm, r1, r2, r3⟩ := h.ex
  clear h
  obtain ⟨_, _, _, _, hm1⟩ := r1.slice
  obtain ⟨_, _, _, _, hm2⟩ := r2.slice
  obtain ⟨_, _, _, _, hm3⟩ := r3.slice
  have R1 : Hid (Rd iniC 2 w (.slice a1 t.ini.length c1) t.ini) := r1
  have R2 : Hid (Rd2 insC 9 w (.slice a2 t.thr.length c2) t.thr) := r2
  have R3 : Hid (Rd2 atomC 4 w (.slice a3 t.cond.any.length c3) t.cond.any) := r3
  obtain ⟨B, hB⟩ : ∃ B, B = locsN t := ⟨_, rfl⟩
  rw [← hB]
  have HB : Hid (B = locAny (locThr (locIni 0 (t.ini.drop 0)) t.thr) t.cond.any) := hB
  clear hB r1 r2 r3 hnm
  generalize t.name = nm
  generalize t.cond.k = kk
  generalize t.ini = I at *
  generalize t.thr = T at *
  generalize t.cond.any = A at *
  go_enter Tryz.func104, Tryz.ntmps104
  go_wp2
  go_loopg [3, 17] I.length (fun gg s3 s17 wr => ∃ n s : Nat, n ≤ I.length ∧ gg = I.length - n ∧ s17 = .int .i64 n ∧ s3 = .int .u32 s ∧ s < 67108864 ∧ Hid (On w wr) ∧ Bk wr w.heap.size #[.string nm, .slice a1 I.length c1, .slice a2 T.length c2, .int .i64 kk, .slice a3 A.length c3] ∧ Hid (B = locAny (locThr (locIni s (I.drop n)) T) A))
  case atStart => exact ⟨0, 0, Nat.zero_le _, rfl, rfl, rfl, by decide, (On.refl w).alloc _, Bk.new w _ _, HB⟩
  case round =>
    clear HB
    obtain ⟨n, s, hn, hk, rfl, rfl, hs, HO, BK, HB⟩ := hrel
    rcases Nat.lt_or_ge n I.length with hlt | hge
    · obtain ⟨x, hx⟩ : ∃ x, I[n]? = some x := ⟨_, List.getElem?_eq_getElem hlt⟩
      obtain ⟨g, off, rfl, hg, hcell⟩ := (R1.out.on HO.out).at hx
      have u0 : wr.cell? ⟨g, off + n * 2, none⟩ = _ := hcell 0 _ rfl
      have u1 : wr.cell? ⟨g, off + n * 2 + 1, none⟩ = _ := hcell 1 _ rfl
      have hd : Hid (I.drop n = x :: I.drop (n + 1)) := drop_at hx
      have hW := fun W => with_is s x.l hs W
      have hwl := withL_lt hs x.l
      have HB2 : Hid (B = locAny (locThr (locIni (withL s x.l) (I.drop (n + 1))) T) A) := by
        show B = _
        rw [HB.out, hd.out]; rfl
      have BH : Hid (Bk wr w.heap.size _) := BK
      clear hx hcell HB hd BK
      generalize withL s x.l = s' at *
      go_wp2_with (go_at_call 107; refine (hW _).mono ?_; rintro e w1 ⟨rfl, rfl⟩)
      go_roundg (I.length - (n + 1))
      case measure => omega
      case rel => exact ⟨n + 1, s', by omega, rfl, by go_num, rfl, hwl, HO.out.trans (by repeat' (first | exact On.refl _ | refine On.setNew ?_ (Nat.le_refl _) _ | refine On.alloc ?_ _)), BH.out.on (by repeat' (first | exact On.refl _ | refine On.setNew ?_ (Nat.le_refl _) _ | refine On.alloc ?_ _)), HB2⟩
    · obtain rfl : n = I.length := by omega
      have HN : Hid (B = locAny (locThr s (T.drop 0)) A) := by
        show B = _
        rw [HB.out, List.drop_of_length_le hge]; rfl
      have xf := BK.at (i := 2) rfl
      have xl := BK.lt
      obtain ⟨W, hWW⟩ : ∃ W, W = wr := ⟨_, rfl⟩
      subst hWW
      clear HB
      go_wp2
      clear xf xl hge
      go_loopg [3, 29] T.length (fun gg sl3 sl9 wq => ∃ n2 s2 : Nat, n2 ≤ T.length ∧ gg = T.length - n2 ∧ sl9 = .int .i64 n2 ∧ sl3 = .int .u32 s2 ∧ s2 < 67108864 ∧ Hid (On w wq) ∧ Bk wq w.heap.size #[.string nm, .slice a1 I.length c1, .slice a2 T.length c2, .int .i64 kk, .slice a3 A.length c3] ∧ Hid (B = locAny (locThr s2 (T.drop n2)) A))
      case atStart => exact ⟨0, s, Nat.zero_le _, rfl, rfl, rfl, hs, HO, BK, HN⟩
      case round =>
        clear HN BK HO
        obtain ⟨n2, s2, hn2, hk2, rfl, rfl, hs2, HO2, BK2, HB2⟩ := hrel
        obtain ⟨V2, hV2⟩ : ∃ V, V = wr := ⟨_, rfl⟩
        subst hV2
        rcases Nat.lt_or_ge n2 T.length with hlt | hge
        · obtain ⟨x, hx⟩ : ∃ x, T[n2]? = some x := ⟨_, List.getElem?_eq_getElem hlt⟩
          obtain ⟨g, off, rfl, hg, ax, cx, v0, hxm, rx⟩ := (R2.out.on HO2.out).row hx
          have hd : Hid (T.drop n2 = x :: T.drop (n2 + 1)) := drop_at hx
          have HI : Hid (B = locAny (locThr (locRow s2 (x.drop 0)) (T.drop (n2 + 1))) A) := by
            show B = _
            rw [HB2.out, hd.out]; rfl
          have RX : Hid (Rd insC 9 V2 (.slice ax x.length cx) x) := rx
          have BH : Hid (Bk V2 w.heap.size _) := BK2
          clear hx HB2 hd BK2 rx
          go_wp2
          clear v0
          go_loopg [3, 35] x.length (fun gg sl3 sl9 wq => ∃ m s' : Nat, m ≤ x.length ∧ gg = x.length - m ∧ sl9 = .int .i64 m ∧ sl3 = .int .u32 s' ∧ s' < 67108864 ∧ Hid (On V2 wq) ∧ Hid (B = locAny (locThr (locRow s' (x.drop m)) (T.drop (n2 + 1))) A))
          case atStart => exact ⟨0, s2, Nat.zero_le _, rfl, rfl, rfl, hs2, On.refl _, HI⟩
          case round =>
            clear HI
            obtain ⟨m, s', hm, hkm, rfl, rfl, hs', HOM, HI⟩ := hrel
            rcases Nat.lt_or_ge m x.length with hlm | hgm
            · obtain ⟨y, hy⟩ : ∃ y, x[m]? = some y := ⟨_, List.getElem?_eq_getElem hlm⟩
              obtain ⟨g2, off2, rfl, hg2, hcell⟩ := (RX.out.on HOM.out).at hy
              have c0 : wr.cell? ⟨g2, off2 + m * 9, none⟩ = _ := hcell 0 _ rfl
              have c1 : wr.cell? ⟨g2, off2 + m * 9 + 1, none⟩ = _ := hcell 1 _ rfl
              have c2 : wr.cell? ⟨g2, off2 + m * 9 + 2, none⟩ = _ := hcell 2 _ rfl
              have c3 : wr.cell? ⟨g2, off2 + m * 9 + 3, none⟩ = _ := hcell 3 _ rfl
              have c4 : wr.cell? ⟨g2, off2 + m * 9 + 4, none⟩ = _ := hcell 4 _ rfl
              have c5 : wr.cell? ⟨g2, off2 + m * 9 + 5, none⟩ = _ := hcell 5 _ rfl
              have c6 : wr.cell? ⟨g2, off2 + m * 9 + 6, none⟩ = _ := hcell 6 _ rfl
              have c7 : wr.cell? ⟨g2, off2 + m * 9 + 7, none⟩ = _ := hcell 7 _ rfl
              have c8 : wr.cell? ⟨g2, off2 + m * 9 + 8, none⟩ = _ := hcell 8 _ rfl
              have hd : Hid (x.drop m = y :: x.drop (m + 1)) := drop_at hy
              have hWt := fun W => with_is s' y.l hs' W
              have hwl := withL_lt hs' y.l
              have HJ : Hid (B = locAny (locThr (locRow (withL s' y.l) (x.drop (m + 1))) (T.drop (n2 + 1))) A) := by
                show B = _
                rw [HI.out, hd.out]; rfl
              clear hy hcell HI hd
              generalize withL s' y.l = s'' at *
              go_wp2_with (go_at_call 107; refine (hWt _).mono ?_; rintro e w1 ⟨rfl, rfl⟩)
              go_roundg (x.length - (m + 1))
              case measure => omega
              case rel => exact ⟨m + 1, s'', by omega, rfl, by go_num, rfl, hwl, HOM.out.trans (by repeat' (first | exact On.refl _ | refine On.setNew ?_ (Nat.le_refl _) _ | refine On.alloc ?_ _)), HJ⟩
            · have HJ : Hid (B = locAny (locThr s' (T.drop (n2 + 1))) A) := by
                show B = _
                rw [HI.out, List.drop_of_length_le hgm]; rfl
              clear HI
              go_wp2
              go_roundg (T.length - (n2 + 1))
              case measure => omega
              case rel => exact ⟨n2 + 1, s', by omega, rfl, by go_num, rfl, hs', HO2.out.trans HOM.out, BH.out.on HOM.out, HJ⟩
        · obtain rfl : n2 = T.length := by omega
          have HN2 : Hid (B = locAny s2 (A.drop 0)) := by
            show B = _
            rw [HB2.out, List.drop_of_length_le hge]; rfl
          have xf := BK2.at (i := 4) rfl
          have xl := BK2.lt
          clear HB2
          go_wp2
          clear xf xl hge
          go_loopg [3, 49] A.length (fun gg sl3 sl9 wq => ∃ n3 s3 : Nat, n3 ≤ A.length ∧ gg = A.length - n3 ∧ sl9 = .int .i64 n3 ∧ sl3 = .int .u32 s3 ∧ s3 < 67108864 ∧ Hid (On w wq) ∧ Bk wq w.heap.size #[.string nm, .slice a1 I.length c1, .slice a2 T.length c2, .int .i64 kk, .slice a3 A.length c3] ∧ Hid (B = locAny s3 (A.drop n3)))
          case atStart => exact ⟨0, s2, Nat.zero_le _, rfl, rfl, rfl, hs2, HO2, BK2, HN2⟩
          case round =>
            clear HN2 BK2 HO2
            obtain ⟨n3, s3, hn3, hk3, rfl, rfl, hs3, HO3, BK3, HB3⟩ := hrel
            obtain ⟨V3, hV3⟩ : ∃ V, V = wr := ⟨_, rfl⟩
            subst hV3
            rcases Nat.lt_or_ge n3 A.length with hlt | hge
            · obtain ⟨x, hx⟩ : ∃ x, A[n3]? = some x := ⟨_, List.getElem?_eq_getElem hlt⟩
              obtain ⟨g, off, rfl, hg, ax, cx, v0, hxm, rx⟩ := (R3.out.on HO3.out).row hx
              have hd : Hid (A.drop n3 = x :: A.drop (n3 + 1)) := drop_at hx
              have HI : Hid (B = locAny (locAts s3 (x.drop 0)) (A.drop (n3 + 1))) := by
                show B = _
                rw [HB3.out, hd.out]; rfl
              have RX : Hid (Rd atomC 4 V3 (.slice ax x.length cx) x) := rx
              have BH : Hid (Bk V3 w.heap.size _) := BK3
              clear hx HB3 hd BK3 rx
              go_wp2
              clear v0
              go_loopg [3, 55] x.length (fun gg sl3 sl9 wq => ∃ m s' : Nat, m ≤ x.length ∧ gg = x.length - m ∧ sl9 = .int .i64 m ∧ sl3 = .int .u32 s' ∧ s' < 67108864 ∧ Hid (On V3 wq) ∧ Hid (B = locAny (locAts s' (x.drop m)) (A.drop (n3 + 1))))
              case atStart => exact ⟨0, s3, Nat.zero_le _, rfl, rfl, rfl, hs3, On.refl _, HI⟩
              case round =>
                clear HI
                obtain ⟨m, s', hm, hkm, rfl, rfl, hs', HOM, HI⟩ := hrel
                rcases Nat.lt_or_ge m x.length with hlm | hgm
                · obtain ⟨y, hy⟩ : ∃ y, x[m]? = some y := ⟨_, List.getElem?_eq_getElem hlm⟩
                  obtain ⟨g2, off2, rfl, hg2, hcell⟩ := (RX.out.on HOM.out).at hy
                  have c0 : wr.cell? ⟨g2, off2 + m * 4, none⟩ = _ := hcell 0 _ rfl
                  have c1 : wr.cell? ⟨g2, off2 + m * 4 + 1, none⟩ = _ := hcell 1 _ rfl
                  have c2 : wr.cell? ⟨g2, off2 + m * 4 + 2, none⟩ = _ := hcell 2 _ rfl
                  have c3 : wr.cell? ⟨g2, off2 + m * 4 + 3, none⟩ = _ := hcell 3 _ rfl
                  have hd : Hid (x.drop m = y :: x.drop (m + 1)) := drop_at hy
                  have hWt := fun W => with_is s' y.l hs' W
                  have hwl := withL_lt hs' y.l
                  have HJ : Hid (B = locAny (locAts (withL s' y.l) (x.drop (m + 1))) (A.drop (n3 + 1))) := by
                    show B = _
                    rw [HI.out, hd.out]; rfl
                  clear hy hcell HI hd
                  generalize withL s' y.l = s'' at *
                  go_wp2_with (go_at_call 107; refine (hWt _).mono ?_; rintro e w1 ⟨rfl, rfl⟩)
                  go_roundg (x.length - (m + 1))
                  case measure => omega
                  case rel => exact ⟨m + 1, s'', by omega, rfl, by go_num, rfl, hwl, HOM.out.trans (by repeat' (first | exact On.refl _ | refine On.setNew ?_ (Nat.le_refl _) _ | refine On.alloc ?_ _)), HJ⟩
                · have HJ : Hid (B = locAny s' (A.drop (n3 + 1))) := by
                    show B = _
                    rw [HI.out, List.drop_of_length_le hgm]; rfl
                  clear HI
                  go_wp2
                  go_roundg (A.length - (n3 + 1))
                  case measure => omega
                  case rel => exact ⟨n3 + 1, s', by omega, rfl, by go_num, rfl, hs', HO3.out.trans HOM.out, BH.out.on HOM.out, HJ⟩
            · obtain rfl : n3 = A.length := by omega
              have HN3 : Hid (B = s3) := by
                show B = _
                rw [HB3.out, List.drop_of_length_le hge]; rfl
              obtain rfl : B = s3 := HN3.out
              clear HB3 HN3
              go_wp2
              go_ret
              exact ⟨rfl, HO3.out⟩
end Go.Proofs.YtacflahkofmcpaaGreatDoor.Wl

namespace Go.Proofs.YtacflahkofmcpaaGreatDoor.Wl
open Go.RowKit

set_option maxHeartbeats 4000000 in
set_option maxRecDepth 8000 in
theorem isBig_is (t : TestT) (v : Value) (w : World) (h : TestRd w v t) :
    Calls Tryz.prog 61 #[v] w fun e w' => e = .returned (.bool (bigT t)) ∧ On w w' := by
  have hL := fun W (k : On w W) => locations_is t v W (h.on k)
  have hlt := locsN_lt t
  have hC := fun W => count_is (locsN t) hlt W
  obtain ⟨a1, c1, a2, c2, a3, c3, rfl, hnm, r1, r2, r3⟩ := h.ex
  have hT := fun W (k : On w W) => threadsBig_is t.thr a2 c2 W (r2.on k)
  have hB := fun W (k : On w W) => condBig_is t.cond.k t.cond.any a3 c3 W (r3.on k)
  have k0 : ∀ T, On w (w.alloc T) := fun T => (On.refl w).alloc T
  have bk : ∀ cs T, Bk (w.alloc (.cells cs T)) w.heap.size cs := fun cs T => Bk.new w cs T
  unfold bigT
  clear h r1 r2 r3 hlt
  have hcnt : cntN (locsN t) ≤ 26 := by
    unfold cntN
    have := List.length_filter_le (fun i => (locsN t).testBit i) (List.range 26)
    simpa using this
  generalize locsN t = N at *
  generalize cntN N = M at *
  generalize thrBig t.thr = b2 at hT ⊢
  generalize condBig t.cond.any = b4 at hB ⊢
  generalize t.ini.length = m1 at *
  generalize t.thr.length = m2 at *
  generalize t.cond.any.length = m3 at *
  generalize t.cond.k = kk at *
  generalize t.name = nm at *
  by_cases h1 : 20 < nm.size
  · rw [decide_eq_true h1]
    go_enter Tryz.func61, Tryz.ntmps61
    go_wp2
    go_ret
    exact ⟨rfl, k0 _⟩
  · rw [decide_eq_false h1, Bool.false_or]
    cases b2 with
    | true =>
      go_enter Tryz.func61, Tryz.ntmps61
      go_wp2_with (go_at_call 103; refine (hT _ (k0 _)).mono ?_; rintro e w1 ⟨rfl, rfl⟩)
      go_ret
      exact ⟨rfl, k0 _⟩
    | false =>
      rw [Bool.false_or]
      obtain ⟨B, hQ⟩ : ∃ B, B = (decide (4 < M) || b4) := ⟨_, rfl⟩
      rw [← hQ]
      have HQ : Hid (B = (decide (4 < M) || b4)) := hQ
      clear hQ
      go_enter Tryz.func61, Tryz.ntmps61
      go_wp2_with fail
      refine (hT _ (k0 _)).mono ?_
      rintro e w1 ⟨rfl, rfl⟩
      clear hT
      go_wp2_with fail
      refine (hL _ (k0 _)).mono ?_
      rintro e w2 ⟨rfl, k2⟩
      have B2 := (bk _ _).on k2
      have K2 : Hid (On w w2) := (k0 _).trans k2
      clear hL k2 bk k0
      go_wp2_with fail
      refine (hC _).mono ?_
      rintro e w3 ⟨rfl, k3⟩
      have B3 := B2.on k3
      have K3 : Hid (On w w3) := K2.out.trans k3
      have x3 := B3.at (i := 3) rfl
      have x4 := B3.at (i := 4) rfl
      have s3 := B3.lt
      clear hC k3 B2 K2
      by_cases h4 : 4 < M
      · obtain rfl : B = true := by rw [HQ.out, decide_eq_true h4, Bool.true_or]
        go_wp2
        go_ret
        exact ⟨rfl, K3.out⟩
      · obtain rfl : B = b4 := by rw [HQ.out, decide_eq_false h4, Bool.false_or]
        go_wp2_with (go_at_call 106; refine (hB _ K3.out).mono ?_; rintro e w4 ⟨rfl, k4⟩)
        go_ret
        exact ⟨ret_bool (by rw [decide_eq_false (by omega : ¬ (20 : Int) < nm.size), decide_eq_false (by omega : ¬ (4 : Int) < M)]; rfl), K3.out.trans k4⟩

set_option maxHeartbeats 8000000 in
set_option maxRecDepth 8000 in
theorem nowhere_is (t : TestT) (v : Value) (w : World) (h : TestRd w v t) :
    Calls Tryz.prog 63 #[v] w fun e w' => e = .returned (.bool (nowhere t)) ∧ On w w' := by
  obtain ⟨a1, c1, a2, c2, a3, c3, rfl, hnm, r1, r2, r3⟩ := h.ex
  clear h
  obtain ⟨_, _, _, _, hm2⟩ := r2.slice
  obtain ⟨_, _, _, _, hm3⟩ := r3.slice
  have R2 : Hid (Rd2 insC 9 w (.slice a2 t.thr.length c2) t.thr) := r2
  have R3 : Hid (Rd2 atomC 4 w (.slice a3 t.cond.any.length c3) t.cond.any) := r3
  obtain ⟨B, hB⟩ : ∃ B, B = nowhere t := ⟨_, rfl⟩
  rw [← hB]
  have HB : Hid (B = ((t.thr.drop 0).any skipBad || t.cond.any.any (fun L => L.any (farAtom t.thr.length)))) := hB
  clear hB r1 r2 r3 hnm
  generalize t.name = nm
  generalize t.cond.k = kk
  generalize t.ini.length = I at *
  generalize t.thr = T at *
  generalize t.cond.any = A at *
  go_enter Tryz.func63, Tryz.ntmps63
  go_wp2
  go_loopg [12] T.length (fun gg sl9 wq => ∃ n : Nat, n ≤ T.length ∧ gg = T.length - n ∧ sl9 = .int .i64 n ∧ Hid (On w wq) ∧ Bk wq w.heap.size #[.string nm, .slice a1 I c1, .slice a2 T.length c2, .int .i64 kk, .slice a3 A.length c3] ∧ Hid (B = ((T.drop n).any skipBad || A.any (fun L => L.any (farAtom T.length)))))
  case atStart => exact ⟨0, Nat.zero_le _, rfl, rfl, (On.refl w).alloc _, Bk.new w _ _, HB⟩
  case round =>
    clear HB
    obtain ⟨n, hn, hk, rfl, HO, BK, HB⟩ := hrel
    rcases Nat.lt_or_ge n T.length with hlt | hge
    · obtain ⟨x, hx⟩ : ∃ x, T[n]? = some x := ⟨_, List.getElem?_eq_getElem hlt⟩
      obtain ⟨g, off, rfl, hg, ax, cx, v0, hxm, rx⟩ := (R2.out.on HO.out).row hx
      have hd : Hid (T.drop n = x :: T.drop (n + 1)) := drop_at hx
      have hS := skips_is x ax cx wr rx
      have BH : Hid (Bk wr w.heap.size _) := BK
      clear hx rx BK
      cases hq : skipBad x with
      | true =>
        have hb : B = true := by rw [HB.out, hd.out, List.any_cons, hq]; rfl
        subst hb
        rw [hq] at hS
        go_wp2_with (go_at_call 108; refine hS.mono ?_; rintro e w1 ⟨rfl, k1⟩)
        go_ret
        exact ⟨rfl, HO.out.trans k1⟩
      | false =>
        have HJ : Hid (B = ((T.drop (n + 1)).any skipBad || A.any (fun L => L.any (farAtom T.length)))) := by
          show B = _
          rw [HB.out, hd.out, List.any_cons, hq]; rfl
        rw [hq] at hS
        clear HB hd
        go_wp2_with (go_at_call 108; refine hS.mono ?_; rintro e w1 ⟨rfl, k1⟩)
        go_roundg (T.length - (n + 1))
        case measure => omega
        case rel => exact ⟨n + 1, by omega, rfl, by go_num, HO.out.trans k1, BH.out.on k1, HJ⟩
    · obtain rfl : n = T.length := by omega
      have HN : Hid (B = (A.drop 0).any (fun L => L.any (farAtom T.length))) := by
        show B = _
        rw [HB.out, List.drop_of_length_le hge]; rfl
      have xf := BK.at (i := 4) rfl
      have xl := BK.lt
      clear HB
      go_wp2
      clear xf xl hge
      go_loopg [23] A.length (fun gg sl9 wq => ∃ n3 : Nat, n3 ≤ A.length ∧ gg = A.length - n3 ∧ sl9 = .int .i64 n3 ∧ Hid (On w wq) ∧ Bk wq w.heap.size #[.string nm, .slice a1 I c1, .slice a2 T.length c2, .int .i64 kk, .slice a3 A.length c3] ∧ Hid (B = (A.drop n3).any (fun L => L.any (farAtom T.length))))
      case atStart => exact ⟨0, Nat.zero_le _, rfl, rfl, HO, BK, HN⟩
      case round =>
        clear HN BK HO
        obtain ⟨n3, hn3, hk3, rfl, HO, BK, HB⟩ := hrel
        obtain ⟨V, hV⟩ : ∃ V, V = wr := ⟨_, rfl⟩
        subst hV
        rcases Nat.lt_or_ge n3 A.length with hlt | hge
        · obtain ⟨x, hx⟩ : ∃ x, A[n3]? = some x := ⟨_, List.getElem?_eq_getElem hlt⟩
          obtain ⟨g, off, rfl, hg, ax, cx, v0, hxm, rx⟩ := (R3.out.on HO.out).row hx
          have hd : Hid (A.drop n3 = x :: A.drop (n3 + 1)) := drop_at hx
          have HI : Hid (B = ((x.drop 0).any (farAtom T.length) || (A.drop (n3 + 1)).any (fun L => L.any (farAtom T.length)))) := by
            show B = _
            rw [HB.out, hd.out]; rfl
          have RX : Hid (Rd atomC 4 V (.slice ax x.length cx) x) := rx
          have BH : Hid (Bk V w.heap.size _) := BK
          clear hx HB hd BK rx
          go_wp2
          clear v0
          go_loopg [29] x.length (fun gg sl9 wq => ∃ m : Nat, m ≤ x.length ∧ gg = x.length - m ∧ sl9 = .int .i64 m ∧ Hid (On V wq) ∧ Hid (B = ((x.drop m).any (farAtom T.length) || (A.drop (n3 + 1)).any (fun L => L.any (farAtom T.length)))))
          case atStart => exact ⟨0, Nat.zero_le _, rfl, rfl, On.refl _, HI⟩
          case round =>
            clear HI
            obtain ⟨m, hm, hkm, rfl, HOM, HI⟩ := hrel
            have BW := BH.out.on HOM.out
            have x2 := BW.at (i := 2) rfl
            have xl2 := BW.lt
            clear BW
            rcases Nat.lt_or_ge m x.length with hlm | hgm
            · obtain ⟨y, hy⟩ : ∃ y, x[m]? = some y := ⟨_, List.getElem?_eq_getElem hlm⟩
              obtain ⟨g2, off2, rfl, hg2, hcell⟩ := (RX.out.on HOM.out).at hy
              have c0 : wr.cell? ⟨g2, off2 + m * 4, none⟩ = _ := hcell 0 _ rfl
              have c1 : wr.cell? ⟨g2, off2 + m * 4 + 1, none⟩ = _ := hcell 1 _ rfl
              have c2 : wr.cell? ⟨g2, off2 + m * 4 + 2, none⟩ = _ := hcell 2 _ rfl
              have c3 : wr.cell? ⟨g2, off2 + m * 4 + 3, none⟩ = _ := hcell 3 _ rfl
              have hd : Hid (x.drop m = y :: x.drop (m + 1)) := drop_at hy
              clear hy hcell
              by_cases hf : (T.length : Int) ≤ y.t
              · have hb : B = true := by rw [HI.out, hd.out, List.any_cons, farAtom, decide_eq_true hf]; rfl
                subst hb
                go_wp2
                go_ret
                exact ⟨rfl, HO.out.trans (HOM.out.trans (by repeat' (first | exact On.refl _ | refine On.setNew ?_ (Nat.le_refl _) _ | refine On.alloc ?_ _)))⟩
              · have HJ : Hid (B = ((x.drop (m + 1)).any (farAtom T.length) || (A.drop (n3 + 1)).any (fun L => L.any (farAtom T.length)))) := by
                  show B = _
                  rw [HI.out, hd.out, List.any_cons, farAtom, decide_eq_false hf]; rfl
                clear HI hd
                go_wp2
                go_roundg (x.length - (m + 1))
                case measure => omega
                case rel => exact ⟨m + 1, by omega, rfl, by go_num, HOM.out.trans (by repeat' (first | exact On.refl _ | refine On.setNew ?_ (Nat.le_refl _) _ | refine On.alloc ?_ _)), HJ⟩
            · have HJ : Hid (B = (A.drop (n3 + 1)).any (fun L => L.any (farAtom T.length))) := by
                show B = _
                rw [HI.out, List.drop_of_length_le hgm]; rfl
              clear HI
              go_wp2
              go_roundg (A.length - (n3 + 1))
              case measure => omega
              case rel => exact ⟨n3 + 1, by omega, rfl, by go_num, HO.out.trans HOM.out, BH.out.on HOM.out, HJ⟩
        · obtain rfl : n3 = A.length := by omega
          obtain rfl : B = false := by rw [HB.out, List.drop_of_length_le hge]; rfl
          clear HB
          go_wp2
          go_ret
          exact ⟨rfl, HO.out⟩

set_option maxHeartbeats 4000000 in
set_option maxRecDepth 8000 in
theorem check_is (t : TestT) (v : Value) (w : World) (lw : Lw w) (h : TestRd w v t) :
    Calls Tryz.prog 20 #[v] w fun e w' => e = .returned (.int .i64 (checkT t)) ∧ On w w' := by
  have hO := fun W (k : On w W) => ok_is t v W (lw.on k) (h.on k)
  have hG := fun W (k : On w W) => isBig_is t v W (h.on k)
  have hN := fun W (k : On w W) => nowhere_is t v W (h.on k)
  obtain ⟨a1, c1, a2, c2, a3, c3, rfl, hnm, r1, r2, r3⟩ := h.ex
  have hI := fun W (k : On w W) => twice_is t.ini a1 c1 W (r1.on k)
  have k0 : ∀ T, On w (w.alloc T) := fun T => (On.refl w).alloc T
  have bk : ∀ cs T, Bk (w.alloc (.cells cs T)) w.heap.size cs := fun cs T => Bk.new w cs T
  unfold checkT
  clear h r1 r2 r3 lw hnm
  generalize testOk t = b1 at hO ⊢
  generalize bigT t = b2 at hG ⊢
  generalize twiceFrom 0 t.ini = b3 at hI ⊢
  generalize nowhere t = b4 at hN ⊢
  generalize t.ini.length = m1 at *
  generalize t.thr.length = m2 at *
  generalize t.cond.any.length = m3 at *
  generalize t.cond.k = kk at *
  generalize t.name = nm at *
  cases b1 with
  | false =>
    go_enter Tryz.func20, Tryz.ntmps20
    go_wp2_with (go_at_call 18; refine (hO _ (k0 _)).mono ?_; rintro e w1 ⟨rfl, k1⟩)
    go_ret
    exact ⟨rfl, (k0 _).trans k1⟩
  | true =>
    go_enter Tryz.func20, Tryz.ntmps20
    go_wp2_with fail
    refine (hO _ (k0 _)).mono ?_
    rintro e w1 ⟨rfl, k1⟩
    have B1 := (bk _ _).on k1
    have K1 : Hid (On w w1) := (k0 _).trans k1
    have x0 := B1.at (i := 0) rfl
    have x1 := B1.at (i := 1) rfl
    have x2 := B1.at (i := 2) rfl
    have x3 := B1.at (i := 3) rfl
    have x4 := B1.at (i := 4) rfl
    have s1 := B1.lt
    clear hO k1 bk k0
    cases b2 with
    | true =>
      go_wp2_with (go_at_call 61; refine (hG _ K1.out).mono ?_; rintro e w2 ⟨rfl, k2⟩)
      go_ret
      exact ⟨rfl, K1.out.trans k2⟩
    | false =>
      go_wp2_with fail
      refine (hG _ K1.out).mono ?_
      rintro e w2 ⟨rfl, k2⟩
      have B2 := B1.on k2
      have K2 : Hid (On w w2) := K1.out.trans k2
      clear hG k2 K1 B1 x0 x1 x2 x3 x4 s1
      have x1 := B2.at (i := 1) rfl
      have s1 := B2.lt
      cases b3 with
      | true =>
        go_wp2_with (go_at_call 62; refine (hI _ K2.out).mono ?_; rintro e w3 ⟨rfl, k3⟩)
        go_ret
        exact ⟨rfl, K2.out.trans k3⟩
      | false =>
        go_wp2_with fail
        refine (hI _ K2.out).mono ?_
        rintro e w3 ⟨rfl, k3⟩
        have B3 := B2.on k3
        have K3 : Hid (On w w3) := K2.out.trans k3
        clear hI k3 K2 B2 x1 s1
        have x0 := B3.at (i := 0) rfl
        have x1 := B3.at (i := 1) rfl
        have x2 := B3.at (i := 2) rfl
        have x3 := B3.at (i := 3) rfl
        have x4 := B3.at (i := 4) rfl
        have s1 := B3.lt
        cases b4
        all_goals
          go_wp2_with (go_at_call 63; refine (hN _ K3.out).mono ?_; rintro e w4 ⟨rfl, k4⟩)
          go_ret
          exact ⟨rfl, K3.out.trans k4⟩
end Go.Proofs.YtacflahkofmcpaaGreatDoor.Wl
