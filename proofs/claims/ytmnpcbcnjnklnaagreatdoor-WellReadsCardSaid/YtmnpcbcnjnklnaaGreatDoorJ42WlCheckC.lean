/- The parts of well.Check: what begins twice, what leads nowhere. -/
import Derived.Test.YtmnpcbcnjnklnaaGreatDoorJ35WlCheckA
import Derived.Test.YtmnpcbcnjnklnaaGreatDoorJ41WlROkE
namespace Go.Proofs.YtmnpcbcnjnklnaaGreatDoor.Wl
open Go.RowKit

set_option maxHeartbeats 2000000 in
set_option maxRecDepth 8000 in
theorem twice_is (L : List InitT) (a : Option Addr) (c : Nat) (w : World) (h : Rd iniC 2 w (.slice a L.length c) L) :
    Calls Tryz.prog 21 #[.slice a L.length c] w fun e w' => e = .returned (.bool (twiceFrom 0 L)) ∧ On w w' := by
  obtain ⟨_, _, _, _, hm⟩ := h.slice
  have HR : Hid (Rd iniC 2 w (.slice a L.length c) L) := h
  clear h
  obtain ⟨B, hB⟩ : ∃ B, B = twiceFrom 0 L := ⟨_, rfl⟩
  rw [← hB]
  have HB : Hid (B = twiceFrom 0 (L.drop 0)) := hB
  clear hB
  go_enter Tryz.func21, Tryz.ntmps21
  go_wp2
  go_loopg [3, 9] L.length (fun gg s3 s9 wr => ∃ n s : Nat, n ≤ L.length ∧ gg = L.length - n ∧ s9 = .int .i64 n ∧ s3 = .int .u32 s ∧ s < 67108864 ∧ Hid (On w wr) ∧ Hid (B = twiceFrom s (L.drop n)))
  case atStart => exact ⟨0, 0, Nat.zero_le _, rfl, rfl, rfl, by decide, On.refl w, HB⟩
  case round =>
    clear HB
    obtain ⟨n, s, hn, hk, rfl, rfl, hs, HO, HB⟩ := hrel
    rcases Nat.lt_or_ge n L.length with hlt | hge
    · obtain ⟨x, hx⟩ : ∃ x, L[n]? = some x := ⟨_, List.getElem?_eq_getElem hlt⟩
      obtain ⟨g, off, rfl, hg, hcell⟩ := (HR.out.on HO.out).at hx
      have u0 : wr.cell? ⟨g, off + n * 2, none⟩ = _ := hcell 0 _ rfl
      have u1 : wr.cell? ⟨g, off + n * 2 + 1, none⟩ = _ := hcell 1 _ rfl
      have hd : Hid (L.drop n = x :: L.drop (n + 1)) := drop_at hx
      have hW := fun W => with_is s x.l hs W
      have hwl := withL_lt hs x.l
      clear hx hcell
      have HB2 : Hid (B = if withL s x.l == s then true else twiceFrom (withL s x.l) (L.drop (n + 1))) := by
        show B = _
        rw [HB.out, hd.out, twiceFrom]
      generalize withL s x.l = s' at *
      by_cases h1 : s' = s
      · have hb : B = true := by rw [HB2.out, h1]; simp
        subst hb
        subst h1
        go_wp2_with (go_at_call 56; refine (hW _).mono ?_; rintro e w1 ⟨rfl, rfl⟩)
        go_ret
        exact ⟨rfl, HO.out.trans (by repeat' (first | exact On.refl _ | refine On.alloc ?_ _ | refine On.setNew ?_ (Nat.le_refl _) _))⟩
      · have hb : Hid (B = twiceFrom s' (L.drop (n + 1))) := by
          show B = _
          rw [HB2.out]; simp [h1]
        have hne : ((s' : Int) == s) = false := by simpa using (by omega : ¬ (s' : Int) = s)
        go_wp2_with (go_at_call 56; refine (hW _).mono ?_; rintro e w1 ⟨rfl, rfl⟩)
        go_roundg (L.length - (n + 1))
        case measure => omega
        case rel => exact ⟨n + 1, s', by omega, rfl, by go_num, rfl, hwl, HO.out.trans (by repeat' (first | exact On.refl _ | refine On.alloc ?_ _ | refine On.setNew ?_ (Nat.le_refl _) _)), hb⟩
    · have hb : B = false := by rw [HB.out, List.drop_of_length_le hge]; rfl
      subst hb
      go_wp2
      go_ret
      exact ⟨rfl, HO.out⟩

set_option maxHeartbeats 4000000 in
set_option maxRecDepth 8000 in
theorem skips_is (L : List InsT) (a : Option Addr) (c : Nat) (w : World) (h : Rd insC 9 w (.slice a L.length c) L) :
    Calls Tryz.prog 57 #[.slice a L.length c] w fun e w' => e = .returned (.bool (skipBad L)) ∧ On w w' := by
  obtain ⟨_, _, _, _, hm⟩ := h.slice
  have HR : Hid (Rd insC 9 w (.slice a L.length c) L) := h
  clear h
  obtain ⟨B, hB⟩ : ∃ B, B = skipBad L := ⟨_, rfl⟩
  rw [← hB]
  have HB : Hid (B = skipBad (L.drop 0)) := hB
  clear hB
  go_enter Tryz.func57, Tryz.ntmps57
  go_wp2
  go_loopg [8] L.length (fun gg s8 wr => ∃ n : Nat, n ≤ L.length ∧ gg = L.length - n ∧ s8 = .int .i64 n ∧ Hid (On w wr) ∧ Hid (B = skipBad (L.drop n)))
  case atStart => exact ⟨0, Nat.zero_le _, rfl, rfl, On.refl w, HB⟩
  case round =>
    clear HB
    obtain ⟨n, hn, hk, rfl, HO, HB⟩ := hrel
    rcases Nat.lt_or_ge n L.length with hlt | hge
    · obtain ⟨x, hx⟩ : ∃ x, L[n]? = some x := ⟨_, List.getElem?_eq_getElem hlt⟩
      obtain ⟨g, off, rfl, hg, hcell⟩ := (HR.out.on HO.out).at hx
      have hd : Hid (L.drop n = x :: L.drop (n + 1)) := drop_at hx
      obtain ⟨k, r, l, ⟨ar, av⟩, o, ⟨br, bv⟩, m⟩ := x
      have u0 : wr.cell? ⟨g, off + n * 9, none⟩ = _ := hcell 0 _ rfl
      have u1 : wr.cell? ⟨g, off + n * 9 + 1, none⟩ = _ := hcell 1 _ rfl
      have u2 : wr.cell? ⟨g, off + n * 9 + 2, none⟩ = _ := hcell 2 _ rfl
      have u3 : wr.cell? ⟨g, off + n * 9 + 3, none⟩ = _ := hcell 3 _ rfl
      have u4 : wr.cell? ⟨g, off + n * 9 + 4, none⟩ = _ := hcell 4 _ rfl
      have u5 : wr.cell? ⟨g, off + n * 9 + 5, none⟩ = _ := hcell 5 _ rfl
      have u6 : wr.cell? ⟨g, off + n * 9 + 6, none⟩ = _ := hcell 6 _ rfl
      have u7 : wr.cell? ⟨g, off + n * 9 + 7, none⟩ = _ := hcell 7 _ rfl
      have u8 : wr.cell? ⟨g, off + n * 9 + 8, none⟩ = _ := hcell 8 _ rfl
      simp only at u0 u1 u2 u3 u4 u5 u6 u7 u8
      clear hx hcell
      have HB2 : Hid (B = ((k == 6 && (m == 0 || decide (((L.drop (n + 1)).length : Int) < m))) || skipBad (L.drop (n + 1)))) := by
        show B = _
        rw [HB.out, hd.out, skipBad]
      have hlen : (L.drop (n + 1)).length = L.length - (n + 1) := List.length_drop
      clear HB hd
      by_cases h6 : k = 6
      · subst h6
        by_cases h0 : m = 0
        · have hb : B = true := by rw [HB2.out, h0]; rfl
          subst hb
          subst h0
          go_wp2
          go_ret
          exact ⟨rfl, HO.out.trans (by repeat' (first | exact On.refl _ | refine On.alloc ?_ _ | refine On.setNew ?_ (Nat.le_refl _) _))⟩
        · have m0 : (m == 0) = false := by simpa using h0
          by_cases hlm : ((L.length : Int) - n - 1 < m)
          · have hb : B = true := by
              rw [HB2.out, m0, hlen, decide_eq_true (by omega)]; rfl
            subst hb
            clear HB2 hlen
            go_wp2
            go_ret
            exact ⟨rfl, HO.out.trans (by repeat' (first | exact On.refl _ | refine On.alloc ?_ _ | refine On.setNew ?_ (Nat.le_refl _) _))⟩
          · have hb : Hid (B = skipBad (L.drop (n + 1))) := by
              show B = _
              rw [HB2.out, m0, hlen, decide_eq_false (by omega)]; rfl
            clear HB2 hlen
            go_wp2
            go_roundg (L.length - (n + 1))
            case measure => omega
            case rel => exact ⟨n + 1, by omega, rfl, by go_num, HO.out.trans (by repeat' (first | exact On.refl _ | refine On.alloc ?_ _ | refine On.setNew ?_ (Nat.le_refl _) _)), hb⟩
      · have k6 : (k == 6) = false := by simpa using h6
        have hb : Hid (B = skipBad (L.drop (n + 1))) := by
          show B = _
          rw [HB2.out, k6]; rfl
        clear HB2 hlen
        go_wp2
        go_roundg (L.length - (n + 1))
        case measure => omega
        case rel => exact ⟨n + 1, by omega, rfl, by go_num, HO.out.trans (by repeat' (first | exact On.refl _ | refine On.alloc ?_ _ | refine On.setNew ?_ (Nat.le_refl _) _)), hb⟩
    · have hb : B = false := by rw [HB.out, List.drop_of_length_le hge]; rfl
      subst hb
      go_wp2
      go_ret
      exact ⟨rfl, HO.out⟩
end Go.Proofs.YtmnpcbcnjnklnaaGreatDoor.Wl

namespace Go.Proofs.YtmnpcbcnjnklnaaGreatDoor.Wl
open Go.RowKit

theorem fold_lt {α : Type} (f : α → Int) : ∀ (L : List α) (n : Nat), n < 67108864 → L.foldl (fun n x => withL n (f x)) n < 67108864
  | [], _, h => h
  | x :: L, _, h => fold_lt f L _ (withL_lt h (f x))
theorem fold2_lt {α : Type} (f : α → Int) : ∀ (LL : List (List α)) (n : Nat), n < 67108864 → LL.foldl (fun n L => L.foldl (fun n x => withL n (f x)) n) n < 67108864
  | [], _, h => h
  | L :: LL, _, h => fold2_lt f LL _ (fold_lt f L _ h)
theorem locsN_lt (t : TestT) : locsN t < 67108864 := by
  unfold locsN
  exact fold2_lt (fun x : AtomT => x.l) _ _ (fold2_lt (fun x : InsT => x.l) _ _ (fold_lt (fun x : InitT => x.l) _ _ (by decide)))

set_option maxHeartbeats 8000000 in
set_option maxRecDepth 8000 in
theorem locations_is (t : TestT) (v : Value) (w : World) (h : TestRd w v t) :
    Calls Tryz.prog 35 #[v] w fun e w' => e = .returned (.int .u32 (locsN t)) ∧ On w w' := by
  obtain ⟨a1, c1, a2, c2, a3, c3, rfl, hnm, r1, r2, r3⟩ := h.ex
  clear h
  obtain ⟨_, _, _, _, hm1⟩ := r1.slice
  obtain ⟨_, _, _, _, hm2⟩ := r2.slice
  obtain ⟨_, _, _, _, hm3⟩ := r3.slice
  have R1 : Hid (Rd iniC 2 w (.slice a1 t.ini.length c1) t.ini) := r1
  have R2 : Hid (Rd2 insC 9 w (.slice a2 t.thr.length c2) t.thr) := r2
  have R3 : Hid (Rd2 atomC 4 w (.slice a3 t.cond.any.length c3) t.cond.any) := r3
  obtain ⟨B, hB⟩ : ∃ B, B = locsN t := ⟨_, rfl⟩
  rw [← hB]
  have HB : Hid (B = locAny (locThr (locIni 0 (t.ini.drop 0)) t.thr) t.cond.any) := hB
  clear hB r1 r2 r3 hnm
  generalize t.name = nm
  generalize t.cond.k = kk
  generalize t.ini = I at *
  generalize t.thr = T at *
  generalize t.cond.any = A at *
  go_enter Tryz.func35, Tryz.ntmps35
  go_wp2
  go_loopg [3, 17] I.length (fun gg s3 s17 wr => ∃ n s : Nat, n ≤ I.length ∧ gg = I.length - n ∧ s17 = .int .i64 n ∧ s3 = .int .u32 s ∧ s < 67108864 ∧ Hid (On w wr) ∧ Bk wr w.heap.size #[.string nm, .slice a1 I.length c1, .slice a2 T.length c2, .int .i64 kk, .slice a3 A.length c3] ∧ Hid (B = locAny (locThr (locIni s (I.drop n)) T) A))
  case atStart => exact ⟨0, 0, Nat.zero_le _, rfl, rfl, rfl, by decide, (On.refl w).alloc _, Bk.new w _ _, HB⟩
  case round =>
    clear HB
    obtain ⟨n, s, hn, hk, rfl, rfl, hs, HO, BK, HB⟩ := hrel
    rcases Nat.lt_or_ge n I.length with hlt | hge
    · obtain ⟨x, hx⟩ : ∃ x, I[n]? = some x := ⟨_, List.getElem?_eq_getElem hlt⟩
      obtain ⟨g, off, rfl, hg, hcell⟩ := (R1.out.on HO.out).at hx
      have u0 : wr.cell? ⟨g, off + n * 2, none⟩ = _ := hcell 0 _ rfl
      have u1 : wr.cell? ⟨g, off + n * 2 + 1, none⟩ = _ := hcell 1 _ rfl
      have hd : Hid (I.drop n = x :: I.drop (n + 1)) := drop_at hx
      have hW := fun W => with_is s x.l hs W
      have hwl := withL_lt hs x.l
      have HB2 : Hid (B = locAny (locThr (locIni (withL s x.l) (I.drop (n + 1))) T) A) := by
        show B = _
        rw [HB.out, hd.out]; rfl
      have BH : Hid (Bk wr w.heap.size _) := BK
      clear hx hcell HB hd BK
      generalize withL s x.l = s' at *
      go_wp2_with (go_at_call 56; refine (hW _).mono ?_; rintro e w1 ⟨rfl, rfl⟩)
      go_roundg (I.length - (n + 1))
      case measure => omega
      case rel => exact ⟨n + 1, s', by omega, rfl, by go_num, rfl, hwl, HO.out.trans (by repeat' (first | exact On.refl _ | refine On.setNew ?_ (Nat.le_refl _) _ | refine On.alloc ?_ _)), BH.out.on (by repeat' (first | exact On.refl _ | refine On.setNew ?_ (Nat.le_refl _) _ | refine On.alloc ?_ _)), HB2⟩
    · obtain rfl : n = I.length := by omega
      have HN : Hid (B = locAny (locThr s (T.drop 0)) A) := by
        show B = _
        rw [HB.out, List.drop_of_length_le hge]; rfl
      have xf := BK.at (i := 2) rfl
      have xl := BK.lt
      obtain ⟨W, hWW⟩ : ∃ W, W = wr := ⟨_, rfl⟩
      subst hWW
      clear HB
      go_wp2
      clear xf xl hge
      go_loopg [3, 29] T.length (fun gg sl3 sl9 wq => ∃ n2 s2 : Nat, n2 ≤ T.length ∧ gg = T.length - n2 ∧ sl9 = .int .i64 n2 ∧ sl3 = .int .u32 s2 ∧ s2 < 67108864 ∧ Hid (On w wq) ∧ Bk wq w.heap.size #[.string nm, .slice a1 I.length c1, .slice a2 T.length c2, .int .i64 kk, .slice a3 A.length c3] ∧ Hid (B = locAny (locThr s2 (T.drop n2)) A))
      case atStart => exact ⟨0, s, Nat.zero_le _, rfl, rfl, rfl, hs, HO, BK, HN⟩
      case round =>
        clear HN BK HO
        obtain ⟨n2, s2, hn2, hk2, rfl, rfl, hs2, HO2, BK2, HB2⟩ := hrel
        obtain ⟨V2, hV2⟩ : ∃ V, V = wr := ⟨_, rfl⟩
        subst hV2
        rcases Nat.lt_or_ge n2 T.length with hlt | hge
        · obtain ⟨x, hx⟩ : ∃ x, T[n2]? = some x := ⟨_, List.getElem?_eq_getElem hlt⟩
          obtain ⟨g, off, rfl, hg, ax, cx, v0, hxm, rx⟩ := (R2.out.on HO2.out).row hx
          have hd : Hid (T.drop n2 = x :: T.drop (n2 + 1)) := drop_at hx
          have HI : Hid (B = locAny (locThr (locRow s2 (x.drop 0)) (T.drop (n2 + 1))) A) := by
            show B = _
            rw [HB2.out, hd.out]; rfl
          have RX : Hid (Rd insC 9 V2 (.slice ax x.length cx) x) := rx
          have BH : Hid (Bk V2 w.heap.size _) := BK2
          clear hx HB2 hd BK2 rx
          go_wp2
          clear v0
          go_loopg [3, 35] x.length (fun gg sl3 sl9 wq => ∃ m s' : Nat, m ≤ x.length ∧ gg = x.length - m ∧ sl9 = .int .i64 m ∧ sl3 = .int .u32 s' ∧ s' < 67108864 ∧ Hid (On V2 wq) ∧ Hid (B = locAny (locThr (locRow s' (x.drop m)) (T.drop (n2 + 1))) A))
          case atStart => exact ⟨0, s2, Nat.zero_le _, rfl, rfl, rfl, hs2, On.refl _, HI⟩
          case round =>
            clear HI
            obtain ⟨m, s', hm, hkm, rfl, rfl, hs', HOM, HI⟩ := hrel
            rcases Nat.lt_or_ge m x.length with hlm | hgm
            · obtain ⟨y, hy⟩ : ∃ y, x[m]? = some y := ⟨_, List.getElem?_eq_getElem hlm⟩
              obtain ⟨g2, off2, rfl, hg2, hcell⟩ := (RX.out.on HOM.out).at hy
              have c0 : wr.cell? ⟨g2, off2 + m * 9, none⟩ = _ := hcell 0 _ rfl
              have c1 : wr.cell? ⟨g2, off2 + m * 9 + 1, none⟩ = _ := hcell 1 _ rfl
              have c2 : wr.cell? ⟨g2, off2 + m * 9 + 2, none⟩ = _ := hcell 2 _ rfl
              have c3 : wr.cell? ⟨g2, off2 + m * 9 + 3, none⟩ = _ := hcell 3 _ rfl
              have c4 : wr.cell? ⟨g2, off2 + m * 9 + 4, none⟩ = _ := hcell 4 _ rfl
              have c5 : wr.cell? ⟨g2, off2 + m * 9 + 5, none⟩ = _ := hcell 5 _ rfl
              have c6 : wr.cell? ⟨g2, off2 + m * 9 + 6, none⟩ = _ := hcell 6 _ rfl
              have c7 : wr.cell? ⟨g2, off2 + m * 9 + 7, none⟩ = _ := hcell 7 _ rfl
              have c8 : wr.cell? ⟨g2, off2 + m * 9 + 8, none⟩ = _ := hcell 8 _ rfl
              have hd : Hid (x.drop m = y :: x.drop (m + 1)) := drop_at hy
              have hWt := fun W => with_is s' y.l hs' W
              have hwl := withL_lt hs' y.l
              have HJ : Hid (B = locAny (locThr (locRow (withL s' y.l) (x.drop (m + 1))) (T.drop (n2 + 1))) A) := by
                show B = _
                rw [HI.out, hd.out]; rfl
              clear hy hcell HI hd
              generalize withL s' y.l = s'' at *
              go_wp2_with (go_at_call 56; refine (hWt _).mono ?_; rintro e w1 ⟨rfl, rfl⟩)
              go_roundg (x.length - (m + 1))
              case measure => omega
              case rel => exact ⟨m + 1, s'', by omega, rfl, by go_num, rfl, hwl, HOM.out.trans (by repeat' (first | exact On.refl _ | refine On.setNew ?_ (Nat.le_refl _) _ | refine On.alloc ?_ _)), HJ⟩
            · have HJ : Hid (B = locAny (locThr s' (T.drop (n2 + 1))) A) := by
                show B = _
                rw [HI.out, List.drop_of_length_le hgm]; rfl
              clear HI
              go_wp2
              go_roundg (T.length - (n2 + 1))
              case measure => omega
              case rel => exact ⟨n2 + 1, s', by omega, rfl, by go_num, rfl, hs', HO2.out.trans HOM.out, BH.out.on HOM.out, HJ⟩
        · obtain rfl : n2 = T.length := by omega
          have HN2 : Hid (B = locAny s2 (A.drop 0)) := by
            show B = _
            rw [HB2.out, List.drop_of_length_le hge]; rfl
          have xf := BK2.at (i := 4) rfl
          have xl := BK2.lt
          clear HB2
          go_wp2
          clear xf xl hge
          go_loopg [3, 49] A.length (fun gg sl3 sl9 wq => ∃ n3 s3 : Nat, n3 ≤ A.length ∧ gg = A.length - n3 ∧ sl9 = .int .i64 n3 ∧ sl3 = .int .u32 s3 ∧ s3 < 67108864 ∧ Hid (On w wq) ∧ Bk wq w.heap.size #[.string nm, .slice a1 I.length c1, .slice a2 T.length c2, .int .i64 kk, .slice a3 A.length c3] ∧ Hid (B = locAny s3 (A.drop n3)))
          case atStart => exact ⟨0, s2, Nat.zero_le _, rfl, rfl, rfl, hs2, HO2, BK2, HN2⟩
          case round =>
            clear HN2 BK2 HO2
            obtain ⟨n3, s3, hn3, hk3, rfl, rfl, hs3, HO3, BK3, HB3⟩ := hrel
            obtain ⟨V3, hV3⟩ : ∃ V, V = wr := ⟨_, rfl⟩
            subst hV3
            rcases Nat.lt_or_ge n3 A.length with hlt | hge
            · obtain ⟨x, hx⟩ : ∃ x, A[n3]? = some x := ⟨_, List.getElem?_eq_getElem hlt⟩
              obtain ⟨g, off, rfl, hg, ax, cx, v0, hxm, rx⟩ := (R3.out.on HO3.out).row hx
              have hd : Hid (A.drop n3 = x :: A.drop (n3 + 1)) := drop_at hx
              have HI : Hid (B = locAny (locAts s3 (x.drop 0)) (A.drop (n3 + 1))) := by
                show B = _
                rw [HB3.out, hd.out]; rfl
              have RX : Hid (Rd atomC 4 V3 (.slice ax x.length cx) x) := rx
              have BH : Hid (Bk V3 w.heap.size _) := BK3
              clear hx HB3 hd BK3 rx
              go_wp2
              clear v0
              go_loopg [3, 55] x.length (fun gg sl3 sl9 wq => ∃ m s' : Nat, m ≤ x.length ∧ gg = x.length - m ∧ sl9 = .int .i64 m ∧ sl3 = .int .u32 s' ∧ s' < 67108864 ∧ Hid (On V3 wq) ∧ Hid (B = locAny (locAts s' (x.drop m)) (A.drop (n3 + 1))))
              case atStart => exact ⟨0, s3, Nat.zero_le _, rfl, rfl, rfl, hs3, On.refl _, HI⟩
              case round =>
                clear HI
                obtain ⟨m, s', hm, hkm, rfl, rfl, hs', HOM, HI⟩ := hrel
                rcases Nat.lt_or_ge m x.length with hlm | hgm
                · obtain ⟨y, hy⟩ : ∃ y, x[m]? = some y := ⟨_, List.getElem?_eq_getElem hlm⟩
                  obtain ⟨g2, off2, rfl, hg2, hcell⟩ := (RX.out.on HOM.out).at hy
                  have c0 : wr.cell? ⟨g2, off2 + m * 4, none⟩ = _ := hcell 0 _ rfl
                  have c1 : wr.cell? ⟨g2, off2 + m * 4 + 1, none⟩ = _ := hcell 1 _ rfl
                  have c2 : wr.cell? ⟨g2, off2 + m * 4 + 2, none⟩ = _ := hcell 2 _ rfl
                  have c3 : wr.cell? ⟨g2, off2 + m * 4 + 3, none⟩ = _ := hcell 3 _ rfl
                  have hd : Hid (x.drop m = y :: x.drop (m + 1)) := drop_at hy
                  have hWt := fun W => with_is s' y.l hs' W
                  have hwl := withL_lt hs' y.l
                  have HJ : Hid (B = locAny (locAts (withL s' y.l) (x.drop (m + 1))) (A.drop (n3 + 1))) := by
                    show B = _
                    rw [HI.out, hd.out]; rfl
                  clear hy hcell HI hd
                  generalize withL s' y.l = s'' at *
                  go_wp2_with (go_at_call 56; refine (hWt _).mono ?_; rintro e w1 ⟨rfl, rfl⟩)
                  go_roundg (x.length - (m + 1))
                  case measure => omega
                  case rel => exact ⟨m + 1, s'', by omega, rfl, by go_num, rfl, hwl, HOM.out.trans (by repeat' (first | exact On.refl _ | refine On.setNew ?_ (Nat.le_refl _) _ | refine On.alloc ?_ _)), HJ⟩
                · have HJ : Hid (B = locAny s' (A.drop (n3 + 1))) := by
                    show B = _
                    rw [HI.out, List.drop_of_length_le hgm]; rfl
                  clear HI
                  go_wp2
                  go_roundg (A.length - (n3 + 1))
                  case measure => omega
                  case rel => exact ⟨n3 + 1, s', by omega, rfl, by go_num, rfl, hs', HO3.out.trans HOM.out, BH.out.on HOM.out, HJ⟩
            · obtain rfl : n3 = A.length := by omega
              have HN3 : Hid (B = s3) := by
                show B = _
                rw [HB3.out, List.drop_of_length_le hge]; rfl
              obtain rfl : B = s3 := HN3.out
              clear HB3 HN3
              go_wp2
              go_ret
              exact ⟨rfl, HO3.out⟩
end Go.Proofs.YtmnpcbcnjnklnaaGreatDoor.Wl
