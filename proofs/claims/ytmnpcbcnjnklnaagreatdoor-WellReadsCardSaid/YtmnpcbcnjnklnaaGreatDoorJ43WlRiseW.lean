/- well.Check for every test that lies in memory. -/
import Derived.Test.YtmnpcbcnjnklnaaGreatDoorJ42WlCheckC
import Derived.Test.YtmnpcbcnjnklnaaGreatDoorJ33WlWordW
import Derived.Deep.LoopGhost
import Derived.Deep.RegionLaw
import Derived.Laws.MakeOwn
import Derived.Maps.AppendAt
import Derived.Test.YtmnpcbcnjnklnaaGreatDoorJ31WlROkA
import Derived.Lib.TrailingZeros
namespace Go.Proofs.YtmnpcbcnjnklnaaGreatDoor.Wl
open Go.RowKit

set_option maxHeartbeats 4000000 in
set_option maxRecDepth 8000 in
theorem isBig_is (t : TestT) (v : Value) (w : World) (h : TestRd w v t) :
    Calls Tryz.prog 20 #[v] w fun e w' => e = .returned (.bool (bigT t)) ∧ On w w' := by
  have hL := fun W (k : On w W) => locations_is t v W (h.on k)
  have hlt := locsN_lt t
  have hC := fun W => count_is (locsN t) hlt W
  obtain ⟨a1, c1, a2, c2, a3, c3, rfl, hnm, r1, r2, r3⟩ := h.ex
  have hT := fun W (k : On w W) => threadsBig_is t.thr a2 c2 W (r2.on k)
  have hB := fun W (k : On w W) => condBig_is t.cond.k t.cond.any a3 c3 W (r3.on k)
  have k0 : ∀ T, On w (w.alloc T) := fun T => (On.refl w).alloc T
  have bk : ∀ cs T, Bk (w.alloc (.cells cs T)) w.heap.size cs := fun cs T => Bk.new w cs T
  unfold bigT
  clear h r1 r2 r3 hlt
  have hcnt : cntN (locsN t) ≤ 26 := by
    unfold cntN
    have := List.length_filter_le (fun i => (locsN t).testBit i) (List.range 26)
    simpa using this
  generalize locsN t = N at *
  generalize cntN N = M at *
  generalize thrBig t.thr = b2 at hT ⊢
  generalize condBig t.cond.any = b4 at hB ⊢
  generalize t.ini.length = m1 at *
  generalize t.thr.length = m2 at *
  generalize t.cond.any.length = m3 at *
  generalize t.cond.k = kk at *
  generalize t.name = nm at *
  by_cases h1 : 20 < nm.size
  · rw [decide_eq_true h1]
    go_enter Tryz.func20, Tryz.ntmps20
    go_wp2
    go_ret
    exact ⟨rfl, k0 _⟩
  · rw [decide_eq_false h1, Bool.false_or]
    cases b2 with
    | true =>
      go_enter Tryz.func20, Tryz.ntmps20
      go_wp2_with (go_at_call 53; refine (hT _ (k0 _)).mono ?_; rintro e w1 ⟨rfl, rfl⟩)
      go_ret
      exact ⟨rfl, k0 _⟩
    | false =>
      rw [Bool.false_or]
      obtain ⟨B, hQ⟩ : ∃ B, B = (decide (4 < M) || b4) := ⟨_, rfl⟩
      rw [← hQ]
      have HQ : Hid (B = (decide (4 < M) || b4)) := hQ
      clear hQ
      go_enter Tryz.func20, Tryz.ntmps20
      go_wp2_with fail
      refine (hT _ (k0 _)).mono ?_
      rintro e w1 ⟨rfl, rfl⟩
      clear hT
      go_wp2_with fail
      refine (hL _ (k0 _)).mono ?_
      rintro e w2 ⟨rfl, k2⟩
      have B2 := (bk _ _).on k2
      have K2 : Hid (On w w2) := (k0 _).trans k2
      clear hL k2 bk k0
      go_wp2_with fail
      refine (hC _).mono ?_
      rintro e w3 ⟨rfl, k3⟩
      have B3 := B2.on k3
      have K3 : Hid (On w w3) := K2.out.trans k3
      have x3 := B3.at (i := 3) rfl
      have x4 := B3.at (i := 4) rfl
      have s3 := B3.lt
      clear hC k3 B2 K2
      by_cases h4 : 4 < M
      · obtain rfl : B = true := by rw [HQ.out, decide_eq_true h4, Bool.true_or]
        go_wp2
        go_ret
        exact ⟨rfl, K3.out⟩
      · obtain rfl : B = b4 := by rw [HQ.out, decide_eq_false h4, Bool.false_or]
        go_wp2_with (go_at_call 55; refine (hB _ K3.out).mono ?_; rintro e w4 ⟨rfl, k4⟩)
        go_ret
        exact ⟨ret_bool (by rw [decide_eq_false (by omega : ¬ (20 : Int) < nm.size), decide_eq_false (by omega : ¬ (4 : Int) < M)]; rfl), K3.out.trans k4⟩

set_option maxHeartbeats 8000000 in
set_option maxRecDepth 8000 in
theorem nowhere_is (t : TestT) (v : Value) (w : World) (h : TestRd w v t) :
    Calls Tryz.prog 22 #[v] w fun e w' => e = .returned (.bool (nowhere t)) ∧ On w w' := by
  obtain ⟨a1, c1, a2, c2, a3, c3, rfl, hnm, r1, r2, r3⟩ := h.ex
  clear h
  obtain ⟨_, _, _, _, hm2⟩ := r2.slice
  obtain ⟨_, _, _, _, hm3⟩ := r3.slice
  have R2 : Hid (Rd2 insC 9 w (.slice a2 t.thr.length c2) t.thr) := r2
  have R3 : Hid (Rd2 atomC 4 w (.slice a3 t.cond.any.length c3) t.cond.any) := r3
  obtain ⟨B, hB⟩ : ∃ B, B = nowhere t := ⟨_, rfl⟩
  rw [← hB]
  have HB : Hid (B = ((t.thr.drop 0).any skipBad || t.cond.any.any (fun L => L.any (farAtom t.thr.length)))) := hB
  clear hB r1 r2 r3 hnm
  generalize t.name = nm
  generalize t.cond.k = kk
  generalize t.ini.length = I at *
  generalize t.thr = T at *
  generalize t.cond.any = A at *
  go_enter Tryz.func22, Tryz.ntmps22
  go_wp2
  go_loopg [12] T.length (fun gg sl9 wq => ∃ n : Nat, n ≤ T.length ∧ gg = T.length - n ∧ sl9 = .int .i64 n ∧ Hid (On w wq) ∧ Bk wq w.heap.size #[.string nm, .slice a1 I c1, .slice a2 T.length c2, .int .i64 kk, .slice a3 A.length c3] ∧ Hid (B = ((T.drop n).any skipBad || A.any (fun L => L.any (farAtom T.length)))))
  case atStart => exact ⟨0, Nat.zero_le _, rfl, rfl, (On.refl w).alloc _, Bk.new w _ _, HB⟩
  case round =>
    clear HB
    obtain ⟨n, hn, hk, rfl, HO, BK, HB⟩ := hrel
    rcases Nat.lt_or_ge n T.length with hlt | hge
    · obtain ⟨x, hx⟩ : ∃ x, T[n]? = some x := ⟨_, List.getElem?_eq_getElem hlt⟩
      obtain ⟨g, off, rfl, hg, ax, cx, v0, hxm, rx⟩ := (R2.out.on HO.out).row hx
      have hd : Hid (T.drop n = x :: T.drop (n + 1)) := drop_at hx
      have hS := skips_is x ax cx wr rx
      have BH : Hid (Bk wr w.heap.size _) := BK
      clear hx rx BK
      cases hq : skipBad x with
      | true =>
        have hb : B = true := by rw [HB.out, hd.out, List.any_cons, hq]; rfl
        subst hb
        rw [hq] at hS
        go_wp2_with (go_at_call 57; refine hS.mono ?_; rintro e w1 ⟨rfl, k1⟩)
        go_ret
        exact ⟨rfl, HO.out.trans k1⟩
      | false =>
        have HJ : Hid (B = ((T.drop (n + 1)).any skipBad || A.any (fun L => L.any (farAtom T.length)))) := by
          show B = _
          rw [HB.out, hd.out, List.any_cons, hq]; rfl
        rw [hq] at hS
        clear HB hd
        go_wp2_with (go_at_call 57; refine hS.mono ?_; rintro e w1 ⟨rfl, k1⟩)
        go_roundg (T.length - (n + 1))
        case measure => omega
        case rel => exact ⟨n + 1, by omega, rfl, by go_num, HO.out.trans k1, BH.out.on k1, HJ⟩
    · obtain rfl : n = T.length := by omega
      have HN : Hid (B = (A.drop 0).any (fun L => L.any (farAtom T.length))) := by
        show B = _
        rw [HB.out, List.drop_of_length_le hge]; rfl
      have xf := BK.at (i := 4) rfl
      have xl := BK.lt
      clear HB
      go_wp2
      clear xf xl hge
      go_loopg [23] A.length (fun gg sl9 wq => ∃ n3 : Nat, n3 ≤ A.length ∧ gg = A.length - n3 ∧ sl9 = .int .i64 n3 ∧ Hid (On w wq) ∧ Bk wq w.heap.size #[.string nm, .slice a1 I c1, .slice a2 T.length c2, .int .i64 kk, .slice a3 A.length c3] ∧ Hid (B = (A.drop n3).any (fun L => L.any (farAtom T.length))))
      case atStart => exact ⟨0, Nat.zero_le _, rfl, rfl, HO, BK, HN⟩
      case round =>
        clear HN BK HO
        obtain ⟨n3, hn3, hk3, rfl, HO, BK, HB⟩ := hrel
        obtain ⟨V, hV⟩ : ∃ V, V = wr := ⟨_, rfl⟩
        subst hV
        rcases Nat.lt_or_ge n3 A.length with hlt | hge
        · obtain ⟨x, hx⟩ : ∃ x, A[n3]? = some x := ⟨_, List.getElem?_eq_getElem hlt⟩
          obtain ⟨g, off, rfl, hg, ax, cx, v0, hxm, rx⟩ := (R3.out.on HO.out).row hx
          have hd : Hid (A.drop n3 = x :: A.drop (n3 + 1)) := drop_at hx
          have HI : Hid (B = ((x.drop 0).any (farAtom T.length) || (A.drop (n3 + 1)).any (fun L => L.any (farAtom T.length)))) := by
            show B = _
            rw [HB.out, hd.out]; rfl
          have RX : Hid (Rd atomC 4 V (.slice ax x.length cx) x) := rx
          have BH : Hid (Bk V w.heap.size _) := BK
          clear hx HB hd BK rx
          go_wp2
          clear v0
          go_loopg [29] x.length (fun gg sl9 wq => ∃ m : Nat, m ≤ x.length ∧ gg = x.length - m ∧ sl9 = .int .i64 m ∧ Hid (On V wq) ∧ Hid (B = ((x.drop m).any (farAtom T.length) || (A.drop (n3 + 1)).any (fun L => L.any (farAtom T.length)))))
          case atStart => exact ⟨0, Nat.zero_le _, rfl, rfl, On.refl _, HI⟩
          case round =>
            clear HI
            obtain ⟨m, hm, hkm, rfl, HOM, HI⟩ := hrel
            have BW := BH.out.on HOM.out
            have x2 := BW.at (i := 2) rfl
            have xl2 := BW.lt
            clear BW
            rcases Nat.lt_or_ge m x.length with hlm | hgm
            · obtain ⟨y, hy⟩ : ∃ y, x[m]? = some y := ⟨_, List.getElem?_eq_getElem hlm⟩
              obtain ⟨g2, off2, rfl, hg2, hcell⟩ := (RX.out.on HOM.out).at hy
              have c0 : wr.cell? ⟨g2, off2 + m * 4, none⟩ = _ := hcell 0 _ rfl
              have c1 : wr.cell? ⟨g2, off2 + m * 4 + 1, none⟩ = _ := hcell 1 _ rfl
              have c2 : wr.cell? ⟨g2, off2 + m * 4 + 2, none⟩ = _ := hcell 2 _ rfl
              have c3 : wr.cell? ⟨g2, off2 + m * 4 + 3, none⟩ = _ := hcell 3 _ rfl
              have hd : Hid (x.drop m = y :: x.drop (m + 1)) := drop_at hy
              clear hy hcell
              by_cases hf : (T.length : Int) ≤ y.t
              · have hb : B = true := by rw [HI.out, hd.out, List.any_cons, farAtom, decide_eq_true hf]; rfl
                subst hb
                go_wp2
                go_ret
                exact ⟨rfl, HO.out.trans (HOM.out.trans (by repeat' (first | exact On.refl _ | refine On.setNew ?_ (Nat.le_refl _) _ | refine On.alloc ?_ _)))⟩
              · have HJ : Hid (B = ((x.drop (m + 1)).any (farAtom T.length) || (A.drop (n3 + 1)).any (fun L => L.any (farAtom T.length)))) := by
                  show B = _
                  rw [HI.out, hd.out, List.any_cons, farAtom, decide_eq_false hf]; rfl
                clear HI hd
                go_wp2
                go_roundg (x.length - (m + 1))
                case measure => omega
                case rel => exact ⟨m + 1, by omega, rfl, by go_num, HOM.out.trans (by repeat' (first | exact On.refl _ | refine On.setNew ?_ (Nat.le_refl _) _ | refine On.alloc ?_ _)), HJ⟩
            · have HJ : Hid (B = (A.drop (n3 + 1)).any (fun L => L.any (farAtom T.length))) := by
                show B = _
                rw [HI.out, List.drop_of_length_le hgm]; rfl
              clear HI
              go_wp2
              go_roundg (A.length - (n3 + 1))
              case measure => omega
              case rel => exact ⟨n3 + 1, by omega, rfl, by go_num, HO.out.trans HOM.out, BH.out.on HOM.out, HJ⟩
        · obtain rfl : n3 = A.length := by omega
          obtain rfl : B = false := by rw [HB.out, List.drop_of_length_le hge]; rfl
          clear HB
          go_wp2
          go_ret
          exact ⟨rfl, HO.out⟩

set_option maxHeartbeats 4000000 in
set_option maxRecDepth 8000 in
theorem check_is (t : TestT) (v : Value) (w : World) (lw : Lw w) (h : TestRd w v t) :
    Calls Tryz.prog 9 #[v] w fun e w' => e = .returned (.int .i64 (checkT t)) ∧ On w w' := by
  have hO := fun W (k : On w W) => ok_is t v W (lw.on k) (h.on k)
  have hG := fun W (k : On w W) => isBig_is t v W (h.on k)
  have hN := fun W (k : On w W) => nowhere_is t v W (h.on k)
  obtain ⟨a1, c1, a2, c2, a3, c3, rfl, hnm, r1, r2, r3⟩ := h.ex
  have hI := fun W (k : On w W) => twice_is t.ini a1 c1 W (r1.on k)
  have k0 : ∀ T, On w (w.alloc T) := fun T => (On.refl w).alloc T
  have bk : ∀ cs T, Bk (w.alloc (.cells cs T)) w.heap.size cs := fun cs T => Bk.new w cs T
  unfold checkT
  clear h r1 r2 r3 lw hnm
  generalize testOk t = b1 at hO ⊢
  generalize bigT t = b2 at hG ⊢
  generalize twiceFrom 0 t.ini = b3 at hI ⊢
  generalize nowhere t = b4 at hN ⊢
  generalize t.ini.length = m1 at *
  generalize t.thr.length = m2 at *
  generalize t.cond.any.length = m3 at *
  generalize t.cond.k = kk at *
  generalize t.name = nm at *
  cases b1 with
  | false =>
    go_enter Tryz.func9, Tryz.ntmps9
    go_wp2_with (go_at_call 19; refine (hO _ (k0 _)).mono ?_; rintro e w1 ⟨rfl, k1⟩)
    go_ret
    exact ⟨rfl, (k0 _).trans k1⟩
  | true =>
    go_enter Tryz.func9, Tryz.ntmps9
    go_wp2_with fail
    refine (hO _ (k0 _)).mono ?_
    rintro e w1 ⟨rfl, k1⟩
    have B1 := (bk _ _).on k1
    have K1 : Hid (On w w1) := (k0 _).trans k1
    have x0 := B1.at (i := 0) rfl
    have x1 := B1.at (i := 1) rfl
    have x2 := B1.at (i := 2) rfl
    have x3 := B1.at (i := 3) rfl
    have x4 := B1.at (i := 4) rfl
    have s1 := B1.lt
    clear hO k1 bk k0
    cases b2 with
    | true =>
      go_wp2_with (go_at_call 20; refine (hG _ K1.out).mono ?_; rintro e w2 ⟨rfl, k2⟩)
      go_ret
      exact ⟨rfl, K1.out.trans k2⟩
    | false =>
      go_wp2_with fail
      refine (hG _ K1.out).mono ?_
      rintro e w2 ⟨rfl, k2⟩
      have B2 := B1.on k2
      have K2 : Hid (On w w2) := K1.out.trans k2
      clear hG k2 K1 B1 x0 x1 x2 x3 x4 s1
      have x1 := B2.at (i := 1) rfl
      have s1 := B2.lt
      cases b3 with
      | true =>
        go_wp2_with (go_at_call 21; refine (hI _ K2.out).mono ?_; rintro e w3 ⟨rfl, k3⟩)
        go_ret
        exact ⟨rfl, K2.out.trans k3⟩
      | false =>
        go_wp2_with fail
        refine (hI _ K2.out).mono ?_
        rintro e w3 ⟨rfl, k3⟩
        have B3 := B2.on k3
        have K3 : Hid (On w w3) := K2.out.trans k3
        clear hI k3 K2 B2 x1 s1
        have x0 := B3.at (i := 0) rfl
        have x1 := B3.at (i := 1) rfl
        have x2 := B3.at (i := 2) rfl
        have x3 := B3.at (i := 3) rfl
        have x4 := B3.at (i := 4) rfl
        have s1 := B3.lt
        cases b4
        all_goals
          go_wp2_with (go_at_call 22; refine (hN _ K3.out).mono ?_; rintro e w4 ⟨rfl, k4⟩)
          go_ret
          exact ⟨rfl, K3.out.trans k4⟩
end Go.Proofs.YtmnpcbcnjnklnaaGreatDoor.Wl

namespace Go.Proofs.YtmnpcbcnjnklnaaGreatDoor.Wl
open Go.RowKit

theorem On.grown {x w w' : World} {v : Value} (h : On x w) (hg : w.grownBy w' v.ownBlock) (hv : ∀ g, v.ownBlock = some g → x.heap.size ≤ g) : On x w' :=
  ⟨hg.os.trans h.os, hg.tape.trans h.tape, hg.output.trans h.output, Nat.le_trans h.size hg.size, fun k hk => (hg.block k (Nat.lt_of_lt_of_le hk h.size) (fun e => by have := hv k e.symm; omega)).trans (h.block k hk)⟩
theorem On.grownNone {x w w' : World} (h : On x w) (hg : w.grownBy w' none) : On x w' :=
  ⟨hg.os.trans h.os, hg.tape.trans h.tape, hg.output.trans h.output, Nat.le_trans h.size hg.size, fun k hk => (hg.block k (Nat.lt_of_lt_of_le hk h.size) (fun e => by cases e)).trans (h.block k hk)⟩
theorem own_mono {w : World} {base base' k n : Nat} {e : TypeId} {v : Value} {xs : List Value} (h : w.ownsRow base e k v n xs) (hb : base' ≤ base) : w.ownsRow base' e k v n xs := by
  refine ⟨h.1, ?_⟩
  rcases h.2 with h2 | ⟨g, cap, cur, hv, hg, r⟩
  · exact Or.inl h2
  · exact Or.inr ⟨g, cap, cur, hv, by omega, r⟩
theorem own_on {w w' : World} {base k n : Nat} {e : TypeId} {v : Value} {xs : List Value} (h : w.ownsRow base e k v n xs) (o : On w w') : w'.ownsRow base e k v n xs := by
  refine ⟨h.1, ?_⟩
  rcases h.2 with h2 | ⟨g, cap, cur, hv, hb, hh, r⟩
  · exact Or.inl h2
  · exact Or.inr ⟨g, cap, cur, hv, hb, (o.block g (lt_of_block hh)).trans hh, r⟩
/-- A row of one, just laid. -/
theorem own_one (w : World) (cs : Array Value) (e : TypeId) (k base : Nat) (hk : cs.size = k) (hb : base ≤ w.heap.size) : (w.alloc (.cells cs e)).ownsRow base e k (.slice (some ⟨w.heap.size, 0, none⟩) 1 1) 1 cs.toList := by
  refine ⟨by simp [hk], Or.inr ⟨w.heap.size, 1, cs, rfl, hb, heap_alloc_new w _, Nat.le_refl _, by decide, by simp [hk], ?_⟩⟩
  rw [List.take_of_length_le (by simp [hk])]
theorem new_cell (w : World) (cs : Array Value) (T : TypeId) (j : Nat) : (w.alloc (.cells cs T)).cell? ((⟨w.heap.size, 0, none⟩ : Addr).add j) = cs.toList[j]? := by
  have h := heap_alloc_new w (.cells cs T)
  rw [Addr.add_lit, Nat.zero_add, Array.getElem?_toList]
  unfold World.cell?
  simp only [h]
  rfl
theorem own_slice {w : World} {base k n : Nat} {e : TypeId} {v : Value} {xs : List Value} (h : w.ownsRow base e k v n xs) : ∃ a c, v = .slice a n c := by
  rcases h.2 with ⟨hv, h0⟩ | ⟨g, cap, cur, hv, _⟩
  · exact ⟨_, 0, by rw [hv, h0]⟩
  · exact ⟨_, _, hv⟩
theorem own_far {w w' : World} {b1 b2 k1 k2 n m : Nat} {eo ei : TypeId} {u v : Value} {xs ys : List Value} (h : w.ownsRow b1 ei k1 u n xs) (ho : w.ownsRow b2 eo k2 v m ys) (hne : eo ≠ ei) (hg : w.grownBy w' v.ownBlock) : w'.ownsRow b1 ei k1 u n xs := by
  refine ⟨h.1, ?_⟩
  rcases h.2 with h2 | ⟨g, cap, cur, hv, hb, hh, r⟩
  · exact Or.inl h2
  · refine Or.inr ⟨g, cap, cur, hv, hb, (hg.block g (lt_of_block hh) (fun e => ?_)).trans hh, r⟩
    rcases ho.2 with ⟨hv2, _⟩ | ⟨g2, cap2, cur2, hv2, hb2, hh2, _⟩
    · rw [hv2] at e; cases e
    · rw [hv2] at e
      simp only [Value.ownBlock, Option.some.injEq] at e
      subst e
      rw [hh] at hh2
      simp only [Option.some.injEq, Obj.cells.injEq] at hh2
      exact hne hh2.2.1.symm
theorem Bk.grown {w w' : World} {N base : Nat} {cs : Array Value} {v : Value} (h : Bk w N cs) (hg : w.grownBy w' v.ownBlock) (hN : N < base) (ho : ∀ g, v.ownBlock = some g → base ≤ g) : Bk w' N cs := by
  obtain ⟨T, e⟩ := h
  exact ⟨T, (hg.block N (lt_of_block e) (fun h => by have := ho N h.symm; omega)).trans e⟩

/-- append to a row of the call's own, as one step of a region that draws. -/
theorem step_append_own {P : Program} {ops : Array Oper} {o : Oper} {a : Act} {w : World} {K : Act → World → Prop} {Q : Exit → Act → World → Prop} {E : Prop} (hg : o.guard = none) (s x : Operand) (t : TypeId)
    (ho : o.op = .call { callee := .builtin .append, args := #[s, x], argTypes := #[t, t] })
    (base : Nat) (e : TypeId) (i : TypeInfo) (z : Value) (size bytes : Nat) (ht : P.underlying t = some (.slice e)) (hi : P.info? e = some i) (hz : i.zero = some z)
    (hsize : i.size = size) (hby : i.bytes = bytes) (hzs : z.cells.size = size) (hsz : 0 < size)
    (v : Value) (n : Nat) (xs : List Value) (hs : a.eval s = v) (hown : w.ownsRow base e size v n xs)
    (ad : Addr) (m c : Nat) (news : List Value) (hx : a.eval x = .slice (some ad) m c) (hl : news.length = m * size) (hnews : ∀ j u, news[j]? = some u → w.cell? (ad.add j) = some u) (h1 : ∀ u ∈ news, u.oneCell' = true)
    (h63 : n + m ≤ maxLen) (hbytes : (n + m) * bytes ≤ 140737488355328) (hbase : base ≤ w.heap.size)
    (h : ∀ v' w', w'.ownsRow base e size v' (n + m) (xs ++ news) → w.grownBy w' v.ownBlock → K (a.put o.dst v') w') : if Region.wanted o (yielded ops a.tmps) = true then Oper.wp P o a w K Q else E := by
  have hw : Region.wanted o (yielded ops a.tmps) = true := by simp [Region.wanted, hg]
  rw [if_pos hw]
  exact wp_append_own w s x t ho base e i z size bytes ht hi hz hsize hby hzs hsz v n xs hs hown ad m c news hx hl hnews h1 h63 hbytes hbase fun v' w' h2 h3 _ => h v' w' h2 h3

/-- v holds rows of rows. -/
def Own2 {α : Type} (C : α → List Value) (k : Nat) (eo ei : TypeId) (w : World) (base : Nat) (v : Value) (LL : List (List α)) : Prop :=
  ∃ vs : List Value, vs.length = LL.length ∧ w.ownsRow base eo 1 v LL.length vs ∧ ∀ (i : Nat) (u : Value) (L : List α), vs[i]? = some u → LL[i]? = some L → w.ownsRow base ei k u L.length (L.flatMap C)
section
variable {α : Type} {C : α → List Value} {k : Nat} {eo ei : TypeId} {w w' : World} {base : Nat} {v : Value} {LL : List (List α)}
theorem Own2.on (h : Own2 C k eo ei w base v LL) (o : On w w') : Own2 C k eo ei w' base v LL := by
  obtain ⟨vs, h1, h2, h3⟩ := h
  exact ⟨vs, h1, own_on h2 o, fun i u L a b => own_on (h3 i u L a b) o⟩
theorem Own2.nil (C : α → List Value) (k : Nat) (eo ei : TypeId) (w : World) (base : Nat) : Own2 C k eo ei w base (.slice none 0 0) [] :=
  ⟨[], rfl, World.ownsRow_nil _ _ _ _, fun i u L a _ => by simp at a⟩
theorem Own2.snoc {vs : List Value} {v' u : Value} {L : List α} (hn : vs.length = LL.length) (ho : w.ownsRow base eo 1 v LL.length vs) (hs : ∀ (i : Nat) (u : Value) (L : List α), vs[i]? = some u → LL[i]? = some L → w.ownsRow base ei k u L.length (L.flatMap C))
    (hne : eo ≠ ei) (hg : w.grownBy w' v.ownBlock) (ho' : w'.ownsRow base eo 1 v' (LL.length + 1) (vs ++ [u])) (hu : w.ownsRow base ei k u L.length (L.flatMap C)) : Own2 C k eo ei w' base v' (LL ++ [L]) := by
  refine ⟨vs ++ [u], by simp [hn], by simpa using ho', fun i x M a b => ?_⟩
  rcases Nat.lt_or_ge i vs.length with h | h
  · rw [List.getElem?_append_left h] at a
    rw [List.getElem?_append_left (by omega)] at b
    exact own_far (hs i x M a b) ho hne hg
  · have hi : i = vs.length := by
      rcases Nat.lt_or_ge vs.length i with h' | h'
      · rw [List.getElem?_eq_none (by simp; omega)] at a; cases a
      · omega
    subst hi
    simp only [List.getElem?_concat_length, Option.some.injEq] at a
    rw [hn] at b
    simp only [List.getElem?_concat_length, Option.some.injEq] at b
    subst a; subst b
    exact own_far hu ho hne hg
theorem Own2.slice (h : Own2 C k eo ei w base v LL) : ∃ a c, v = .slice a LL.length c := by
  obtain ⟨vs, _, h2, _⟩ := h
  exact own_slice h2
theorem flat_one : ∀ vs : List Value, vs.flatMap oneC = vs
  | [] => rfl
  | v :: vs => by rw [List.flatMap_cons, flat_one vs]; rfl
/-- Such rows can be read. -/
theorem Own2.rd (hC : ∀ x, (C x).length = k) (h : Own2 C k eo ei w base v LL) : Rd2 C k w v LL := by
  obtain ⟨vs, h1, h2, h3⟩ := h
  refine ⟨vs, h1, Rd.own (fun _ => rfl) (e := eo) (base := base) (by rw [flat_one, h1]; exact h2), fun i u L a b => Rd.own hC (h3 i u L a b)⟩
end
end Go.Proofs.YtmnpcbcnjnklnaaGreatDoor.Wl

namespace Go.Proofs.YtmnpcbcnjnklnaaGreatDoor.Wl

def bitsN (n : Nat) : List Nat := (List.range 26).filter (fun i => n.testBit i)
theorem cnt_bits (n : Nat) : cntN n = (bitsN n).length := rfl
theorem letters_bits (n : Nat) : lettersN n = (bitsN n).map (fun i => UInt8.ofNat (97 + i)) := rfl
theorem bits_zero : bitsN 0 = [] := by decide
theorem low_bits (k m i : Nat) : (2 ^ k * (2 * m + 1)).testBit i = (decide (i = k) || (2 ^ (k + 1) * m).testBit i) := by
  rw [Nat.mul_comm, Nat.testBit_mul_two_pow, Nat.mul_comm (2 ^ (k + 1)), Nat.testBit_mul_two_pow]
  rcases Nat.lt_trichotomy i k with h | h | h
  · have h1 : ¬ k ≤ i := by omega
    have h2 : ¬ k + 1 ≤ i := by omega
    simp [h1, h2]; omega
  · subst h
    simp [Nat.testBit_zero]
  · obtain ⟨j, rfl⟩ : ∃ j, i = k + (j + 1) := ⟨i - k - 1, by omega⟩
    have e : k + (j + 1) - k = j + 1 := by omega
    have e2 : k + (j + 1) - (k + 1) = j := by omega
    have d : (2 * m + 1) / 2 = m := by omega
    rw [e, e2, Nat.testBit_succ, d]
    simp
theorem low_and (k m : Nat) : (2 ^ k * (2 * m + 1)) &&& (2 ^ k * (2 * m + 1) - 1) = 2 ^ (k + 1) * m := by
  have hp : 0 < 2 ^ k := Nat.two_pow_pos k
  have e : 2 ^ k * (2 * m + 1) - 1 = 2 ^ (k + 1) * m + (2 ^ k - 1) := by
    rw [Nat.pow_succ, Nat.mul_add, Nat.mul_one, Nat.mul_assoc]
    omega
  have hlt : 2 ^ k - 1 < 2 ^ (k + 1) := by rw [Nat.pow_succ]; omega
  apply Nat.eq_of_testBit_eq
  intro i
  rw [Nat.testBit_and, low_bits, e, Nat.testBit_two_pow_mul_add _ hlt, Nat.mul_comm (2 ^ (k + 1)), Nat.testBit_mul_two_pow]
  by_cases h : i < k + 1
  · have h1 : ¬ k + 1 ≤ i := by omega
    rw [if_pos h, Nat.testBit_two_pow_sub_one]
    simp [h1]
    omega
  · have h1 : k + 1 ≤ i := by omega
    have h2 : ¬ i = k := by omega
    rw [if_neg h]
    simp [h1, h2]
theorem filter_cons (A B : Nat → Bool) (k d : Nat) (hA : ∀ i, A i = (decide (i = k) || B i)) (hB : ∀ i, i ≤ k → B i = false) :
    (List.range (k + (d + 1))).filter A = k :: (List.range (k + (d + 1))).filter B := by
  have h1 : (List.range k).filter A = [] := by
    rw [List.filter_eq_nil_iff]
    intro i hi
    have hi' : i < k := by simpa using hi
    rw [hA, hB i (by omega)]
    simp; omega
  have h2 : (List.range k).filter B = [] := by
    rw [List.filter_eq_nil_iff]
    intro i hi
    have hi' : i < k := by simpa using hi
    rw [hB i (by omega)]
    simp
  have h3 : ((List.range d).map (fun i => k + (i + 1))).filter A = ((List.range d).map (fun i => k + (i + 1))).filter B := by
    apply List.filter_congr
    intro i hi
    obtain ⟨j, _, rfl⟩ := List.mem_map.1 hi
    rw [hA]
    simp
  have e : List.range (k + (d + 1)) = List.range k ++ (k :: (List.range d).map (fun i => k + (i + 1))) := by
    rw [List.range_add, List.range_succ_eq_map, List.map_cons, List.map_map]
    rfl
  rw [e, List.filter_append, List.filter_append, h1, h2, List.filter_cons, List.filter_cons, h3, hA k, hB k (Nat.le_refl _)]
  simp
theorem bits_cons (k m : Nat) (hk : k < 26) : bitsN (2 ^ k * (2 * m + 1)) = k :: bitsN (2 ^ (k + 1) * m) := by
  unfold bitsN
  have e : 26 = k + ((25 - k) + 1) := by omega
  rw [e]
  refine filter_cons _ _ k (25 - k) (fun i => low_bits k m i) (fun i hi => ?_)
  rw [Nat.mul_comm, Nat.testBit_mul_two_pow]
  have : ¬ k + 1 ≤ i := by omega
  simp [this]
/-- The lowest letter, and the others. -/
theorem rise_step (r : Nat) (h0 : r ≠ 0) (h : r < 67108864) : Lib.ctz 32 r < 26 ∧ bitsN r = Lib.ctz 32 r :: bitsN (r &&& (r - 1)) ∧ r &&& (r - 1) < r := by
  obtain ⟨m, hm, _⟩ := Lib.ctzFrom_spec 32 r (by omega) (by omega)
  have e : Lib.ctz 32 r = Lib.ctzFrom 32 r := by simp [Lib.ctz, h0]
  rw [e]
  generalize Lib.ctzFrom 32 r = k at *
  have hp : 0 < 2 ^ k := Nat.two_pow_pos k
  have hle : 2 ^ k ≤ r := by rw [hm]; exact Nat.le_mul_of_pos_right _ (by omega)
  have hk : k < 26 := by
    apply Nat.lt_of_not_le
    intro hh
    have : 2 ^ 26 ≤ 2 ^ k := Nat.pow_le_pow_right (by decide) hh
    omega
  have ha : r &&& (r - 1) = 2 ^ (k + 1) * m := by rw [hm]; exact low_and k m
  refine ⟨hk, ?_, ?_⟩
  · rw [ha, hm]; exact bits_cons k m hk
  · rw [ha, hm, Nat.pow_succ, Nat.mul_add, Nat.mul_one, Nat.mul_assoc]; omega
end Go.Proofs.YtmnpcbcnjnklnaaGreatDoor.Wl

namespace Go.Proofs.YtmnpcbcnjnklnaaGreatDoor.Wl
open Go.RowKit

/-- The table lies where TrailingZeros32 looks. -/
structure Db (w : World) : Prop where
  tab : ∀ j, j < 32 → w.cell? ⟨0, j, none⟩ = some (.int .u8 (Lib.deBruijn32tab.getD j 0 : Nat))
  lt : 0 < w.heap.size
theorem Db.on {w w' : World} (h : Db w) (k : On w w') : Db w' := ⟨fun j hj => (k.cell (p := ⟨0, j, none⟩) h.lt).trans (h.tab j hj), Nat.lt_of_lt_of_le h.lt k.size⟩
theorem tz_key (x a : Nat) (hx : x < 67108864) (hx0 : x ≠ 0) (hlow : x &&& (4294967296 - x) = a) :
    bits BinOp.and IntKind.u32 (x : Int) (-(x : Int) % 4294967296) * 125613361 % 4294967296 / 134217728 = ((a * 125613361 % 4294967296 / 134217728 : Nat) : Int) := by
  have e1 : -(x : Int) % 4294967296 = ((4294967296 - x : Nat) : Int) := by omega
  rw [e1, u32_and_nat x _ (by omega) (by omega), hlow]
  omega
set_option maxHeartbeats 1000000 in
theorem tz_core (x k idx : Nat) (w : World) (hx0 : ((x : Int) == 0) = false) (key : bits BinOp.and IntKind.u32 (x : Int) (-(x : Int) % 4294967296) * 125613361 % 4294967296 / 134217728 = (idx : Int))
    (hi : idx < 32) (hk : k < 32) (hcell : w.cell? ⟨0, idx, none⟩ = some (.int .u8 k)) (_ : 0 < w.heap.size) :
    Calls Tryz.prog 67 #[.int .u32 x] w fun e w' => e = .returned (.int .i64 k) ∧ w' = w := by
  go_enter Tryz.func67, Tryz.ntmps67
  go_wp2_with (simp only [key])
  go_ret
  exact ⟨rfl, rfl⟩
theorem tz_is (x : Nat) (hx : x < 67108864) (hx0 : x ≠ 0) (w : World) (hd : Db w) :
    Calls Tryz.prog 67 #[.int .u32 x] w fun e w' => e = .returned (.int .i64 (Lib.ctz 32 x : Nat)) ∧ w' = w := by
  obtain ⟨hlow, hk⟩ := Lib.lowest_bit 32 x hx0 (by omega)
  obtain ⟨hi, htab⟩ := Lib.deBruijn32_at _ hk
  have hcell := hd.tab _ hi
  rw [htab] at hcell
  exact tz_core x _ _ w (by simp; omega) (tz_key x _ hx hx0 hlow) hi hk hcell hd.lt

def byteV (b : UInt8) : Value := .int .u8 b.toNat
theorem infoByte : (Tryz.prog.info? 5).map (fun i => (i.zero, i.size, i.bytes)) = some (some (.int .u8 0), 1, 1) := by kernel_rfl
theorem letter_val {k : Nat} (h : k < 26) : (97 + (k : Int)) = ((UInt8.ofNat (97 + k)).toNat : Int) := by
  have : (UInt8.ofNat (97 + k)).toNat = 97 + k := by rw [UInt8.toNat_ofNat']; omega
  omega
theorem and_less (r : Nat) (h : r < 67108864) (h0 : r ≠ 0) : bits .and .u32 (r : Int) ((r : Int) - 1) = ((r &&& (r - 1) : Nat) : Int) := by
  have := u32_and_nat r (r - 1) (by omega) (by omega)
  rw [← this]
  congr 1
  omega
set_option maxHeartbeats 4000000 in
set_option maxRecDepth 8000 in
theorem rising_is (n : Nat) (hn : n < 67108864) (w : World) (hd : Db w) :
    Calls Tryz.prog 36 #[.int .u32 n] w fun e w' => ∃ a c, e = .returned (.slice a (lettersN n).length c) ∧ w'.ownsRow w.heap.size 5 1 (.slice a (lettersN n).length c) (lettersN n).length ((lettersN n).map byteV) ∧ On w w' := by
  obtain ⟨i0, hi, hz0, hz1, hz2⟩ := info_parts infoByte
  have HD : Hid (Db w) := hd
  have hcl : (lettersN n).length ≤ 26 := by
    rw [letters_bits, List.length_map, ← cnt_bits]
    unfold cntN
    have := List.length_filter_le (fun i => n.testBit i) (List.range 26)
    simpa using this
  have hcn : cntN n = (lettersN n).length := by rw [letters_bits, List.length_map, cnt_bits]
  obtain ⟨LT, hLT⟩ : ∃ LT, LT = lettersN n := ⟨_, rfl⟩
  rw [← hLT] at hcl hcn ⊢
  have hC := fun W => count_is n hn W
  rw [hcn] at hC
  have HL : Hid (LT = [] ++ lettersN n) := hLT
  clear hLT hcn hd
  go_enter Tryz.func36, Tryz.ntmps36
  go_wp2_with fail
  refine (hC _).mono ?_
  rintro e w1 ⟨rfl, k1⟩
  obtain ⟨w2, hmk, hown, hgr⟩ := run_make_own (P := Tryz.prog) w1 w.heap.size 46 5 i0 (.int .u8 0) 1 Tryz.underlying46 hi hz0 hz1 .i64 .i64 LT.length (by rw [hz2]; omega) (by unfold maxLen; omega) k1.size
  have K2 : Hid (On w w2) := k1.grownNone hgr
  clear hgr k1 hC
  go_wp2
  clear hmk
  go_loopg [3, 4] n (fun gg s3 s4 wr => ∃ (r : Nat) (L : List UInt8), gg = r ∧ s4 = .int .u32 r ∧ r < 67108864 ∧ wr.ownsRow w.heap.size 5 1 s3 L.length (L.map byteV) ∧ L.length ≤ 26 ∧ Hid (On w wr) ∧ Hid (LT = L ++ lettersN r))
  case atStart => exact ⟨n, [], rfl, rfl, hn, hown, by decide, K2, HL⟩
  case round =>
    clear HL K2 hown
    obtain ⟨r, L, hg, rfl, hr, hown, hL26, HO, HL⟩ := hrel
    by_cases h0 : r = 0
    · subst h0
      have e : LT = L := by rw [HL.out, letters_bits, bits_zero]; simp
      subst e
      obtain ⟨a, c, rfl⟩ := own_slice hown
      go_wp2
      go_ret
      exact ⟨a, c, rfl, hown, HO.out⟩
    · obtain ⟨hk, hb, hless⟩ := rise_step r h0 hr
      have hT := tz_is r hr h0 wr (HD.out.on HO.out)
      obtain ⟨b, hbe, hv⟩ : ∃ b : UInt8, Hid (b = UInt8.ofNat (97 + Lib.ctz 32 r)) ∧ 97 + (Lib.ctz 32 r : Int) = (b.toNat : Int) := ⟨_, rfl, letter_val hk⟩
      have hb256 : (b.toNat : Int) < 256 := by have := b.toNat_lt; omega
      have hand := and_less r hr h0
      have HL2 : Hid (LT = (L ++ [b]) ++ lettersN (r &&& (r - 1))) := by
        show LT = _
        rw [hbe.out, HL.out, letters_bits, hb, letters_bits]
        simp
      have hr2 : (r &&& (r - 1)) < 67108864 := by omega
      have h26 : (L ++ [b]).length ≤ 26 := by
        have := congrArg List.length HL2.out
        rw [List.length_append] at this
        omega
      have hr0 : ((r : Int) == 0) = false := by simpa using (by omega : ¬ (r : Int) = 0)
      clear HL hb hbe
      generalize Lib.ctz 32 r = k at *
      generalize r &&& (r - 1) = r2 at *
      have hlt : ∀ g, u3.ownBlock = some g → w.heap.size ≤ g := fun g hg => (hown.lt g hg).1
      go_wp2_with fail
      refine hT.mono ?_
      rintro e w3 ⟨rfl, rfl⟩
      go_wp2_with (at_builtin; refine wpList_append_own _ rfl _ _ 46 rfl w.heap.size 5 i0 (.int .u8 0) 1 1 Tryz.underlying46 hi hz0 hz1 hz2 rfl (by decide) _ _ _ rfl (hown.alloc _) ⟨w3.heap.size, 0, none⟩ 1 1 [byteV b] rfl rfl ?c1 ?c2 ?c3 ?c4 ?c5 ?_)
      case c1 =>
        intro j u hu
        rw [new_cell]
        exact hu
      case c2 =>
        intro u hu
        simp only [List.mem_cons, List.not_mem_nil, or_false] at hu
        subst hu
        rfl
      case c3 => unfold maxLen; omega
      case c4 => omega
      case c5 => simp only [World.size_alloc]; have := HO.out.size; omega
      intro v' w4 hown4 hg4 _
      go_wp2
      go_roundg r2
      case measure => omega
      case rel =>
        exact ⟨r2, L ++ [b], rfl, rfl, hr2, by simpa using hown4, h26, (HO.out.alloc _).grown hg4 hlt, HL2⟩
set_option maxHeartbeats 1000000 in
theorem locs_is (t : TestT) (v : Value) (w : World) (hd : Db w) (h : TestRd w v t) :
    Calls Tryz.prog 13 #[v] w fun e w' => ∃ a c, e = .returned (.slice a (lettersN (locsN t)).length c) ∧ w'.ownsRow w.heap.size 5 1 (.slice a (lettersN (locsN t)).length c) (lettersN (locsN t)).length ((lettersN (locsN t)).map byteV) ∧ On w w' := by
  have hL := fun W (k : On w W) => locations_is t v W (h.on k)
  have hR := fun W (k : On w W) => rising_is (locsN t) (locsN_lt t) W (hd.on k)
  obtain ⟨a1, c1, a2, c2, a3, c3, rfl, hnm, r1, r2, r3⟩ := h.ex
  have k0 : ∀ T, On w (w.alloc T) := fun T => (On.refl w).alloc T
  clear h r1 r2 r3 hnm hd
  generalize locsN t = N at *
  generalize t.ini.length = m1 at *
  generalize t.thr.length = m2 at *
  generalize t.cond.any.length = m3 at *
  generalize t.cond.k = kk at *
  generalize t.name = nm at *
  generalize lettersN N = LT at *
  go_enter Tryz.func13, Tryz.ntmps13
  go_wp2_with fail
  refine (hL _ (k0 _)).mono ?_
  rintro e w1 ⟨rfl, k1⟩
  have K1 : Hid (On w w1) := (k0 _).trans k1
  clear k1 k0 hL
  go_wp2_with fail
  refine (hR _ K1.out).mono ?_
  rintro e w2 ⟨a, c, rfl, ho, k2⟩
  go_wp2
  go_ret
  exact ⟨a, c, rfl, own_mono ho K1.out.size, K1.out.trans k2⟩
end Go.Proofs.YtmnpcbcnjnklnaaGreatDoor.Wl
