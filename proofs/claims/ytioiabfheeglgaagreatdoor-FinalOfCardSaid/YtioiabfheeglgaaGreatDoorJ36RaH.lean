/- The document's sources: one event more. -/
import Derived.Test.YtioiabfheeglgaaGreatDoorJ35RaS
namespace Go.Proofs.YtioiabfheeglgaaGreatDoor
open Go.RowKit

theorem RdT2.nil (w : World) : RdT2 w (.slice none 0 0) [] := ⟨[], rfl, RdT.nil _ _ _ _, fun i u L a _ => by simp at a⟩
set_option maxHeartbeats 2000000 in
set_option maxRecDepth 8000 in
theorem src_succ (locs most N b n : Nat) (hI : SrcIs locs most N b n) : SrcIs locs most N b (n + 1) := by
 intro x tx vp L v w hp hev hco h64 hrf hx hO hl hb
 have hp0 := hp
 obtain ⟨a1, c1, a2, n2, c2, a3, n3, c3, rfl⟩ := hp
 obtain ⟨t1, t2, t3⟩ := tx
 obtain ⟨E, F, CO⟩ := x
 simp only at hev hco h64 hrf
 subst hco
 obtain ⟨q1, d1, q2, d2, q3, d3, e⟩ := hx.ex
 simp only [Prod.mk.injEq, List.length_nil] at e
 obtain ⟨rfl, rfl, rfl⟩ := e
 obtain ⟨W1, hW1⟩ : ∃ W1, W1 = w.alloc (.cells #[.slice a1 locs c1, .slice a2 n2 c2, .slice a3 n3 c3] 27) := ⟨_, rfl⟩
 have P1 : Bk W1 w.heap.size #[.slice a1 locs c1, .slice a2 n2 c2, .slice a3 n3 c3] := by rw [hW1]; exact Bk.new w _ _
 have K1 : On w W1 := by rw [hW1]; exact (On.refl w).alloc _
 have hs1 : W1.heap.size = w.heap.size + 1 := by rw [hW1, World.size_alloc]
 obtain ⟨W2, hW2⟩ : ∃ W2, W2 = W1.alloc (.cells #[.slice q1 E.length d1, .slice q2 F.length d2, .slice q3 0 d3] TX) := ⟨_, rfl⟩
 have BX : Bk W2 (w.heap.size + 1) #[.slice q1 E.length d1, .slice q2 F.length d2, .slice q3 0 d3] := by rw [hW2, ← hs1]; exact Bk.new W1 _ _
 have BP : Bk W2 w.heap.size #[.slice a1 locs c1, .slice a2 n2 c2, .slice a3 n3 c3] := by rw [hW2]; exact P1.alloc _
 have K2 : On w W2 := by rw [hW2]; exact K1.alloc _
 have hs2 : W2.heap.size = w.heap.size + 2 := by rw [hW2, World.size_alloc, hs1]
 have hNw : N < w.heap.size := lt_of_block hO.cell
 have hvlow := hO.own.low
 have hOlow := hO.low
 have hlm := hl
 have hFE : F.length < E.length := by omega
 have h900 : F.length ≤ 1000 := by omega
 obtain ⟨e, he⟩ : ∃ e, E[F.length]? = some e := ⟨_, List.getElem?_eq_getElem hFE⟩
 have hge : E.getD F.length evZ = e := by rw [List.getD_eq_getElem?_getD, he]; rfl
 have HE : Hid (E.getD F.length evZ = e) := hge
 have HRE : Hid (RdT 58 evC 6 w (.slice q1 E.length d1) E) := hx.evs
 have HRF : Hid (RdT 3 intC 1 w (.slice q2 F.length d2) F) := hx.rf
 -- the call within
 have HIH : Hid (∀ (y : Int) (vI v10 : Value) (LI : List ExT) (W : World) (n10 : Nat), y < (E.length : Int) → Hid (n10 = (F ++ [y]).length) → Ky w W → Out N b W vI LI → LI.length ≤ most → b ≤ W.heap.size → (∃ base, W.ownsRow base 3 1 v10 n10 ((F ++ [y]).flatMap intC)) →
   Calls Tryz.prog 33 #[.agg #[.slice a1 locs c1, .slice a2 n2 c2, .slice a3 n3 c3], .agg #[.slice q1 E.length d1, v10, .slice none 0 0], .pointer (some ⟨N, 0, none⟩), .int .i64 most] W (Post N b most LI (srcP locs n ⟨E, F ++ [y], []⟩) vI W)) := fun y vI v10 LI W n10 hy hn kk hOI hll hbW h10 => by
  obtain ⟨base, h10⟩ := h10
  rw [hn.out] at h10
  have hr : RdT 3 intC 1 W v10 (F ++ [y]) := RdT.own intC_len h10
  obtain ⟨a10, c10, rfl⟩ := own_slice h10
  exact hI ⟨E, F ++ [y], []⟩ (.slice q1 E.length d1, .slice a10 (F ++ [y]).length c10, .slice none 0 0) (.agg #[.slice a1 locs c1, .slice a2 n2 c2, .slice a3 n3 c3]) LI vI W hp0 (by simp; omega) rfl h64 (fun f hf => by
   simp only [List.mem_append, List.mem_singleton] at hf
   rcases hf with hf | rfl
   ·
    exact hrf f hf
   ·
    exact hy) ⟨⟨q1, d1, a10, c10, none, 0, rfl⟩, HRE.out.ky kk tE1 tE2, hr, RdT2.nil W⟩ hOI hll hbW
 have hS : srcP locs (n + 1) ⟨E, F, []⟩ = if rdsB e.k then preL (fun k => if srcB ⟨E, F, []⟩ k then srcP locs n ⟨E, F ++ [(k : Int)], []⟩ else []) E.length else srcP locs n ⟨E, F ++ [-1], []⟩ := by rw [srcP]; simp only [hge]
 obtain ⟨CC, hCC⟩ : ∃ CC, CC = srcP locs (n + 1) ⟨E, F, []⟩ := ⟨_, rfl⟩
 rw [← hCC]
 have HCC : Hid (CC = if rdsB e.k then preL (fun k => if srcB ⟨E, F, []⟩ k then srcP locs n ⟨E, F ++ [(k : Int)], []⟩ else []) E.length else srcP locs n ⟨E, F ++ [-1], []⟩) := hCC.trans hS
 clear hCC
 have HO : Hid (Out N b W2 v L) := hO.on K2
 have HK2 : Hid (On w W2) := K2
 have dc : ((F.length : Int) == (E.length : Int)) = false := by simpa using (by omega : ¬ (F.length : Int) = (E.length : Int))
 obtain ⟨g1, o1, eq1, hg1, p0, p1, p2, p3, p4, p5⟩ := rd_ev (HRE.out.1.on K2) he
 subst eq1
 have hRd := fun W => rreads_is e W
 unfold evV at hRd
 obtain ⟨W3, hW3⟩ : ∃ W3, W3 = W2.alloc (.cells #[.int .i64 e.t, .int .i64 e.i, .int .i64 e.k, .int .i64 e.l, .int .i64 e.r, .int .i64 e.w] 58) := ⟨_, rfl⟩
 have BE3 : Bk W3 (w.heap.size + 2) #[.int .i64 e.t, .int .i64 e.i, .int .i64 e.k, .int .i64 e.l, .int .i64 e.r, .int .i64 e.w] := by rw [hW3, ← hs2]; exact Bk.new W2 _ _
 have K23 : On W2 W3 := by rw [hW3]; exact (On.refl W2).alloc _
 have hs3 : W3.heap.size = w.heap.size + 3 := by rw [hW3, World.size_alloc, hs2]
 clear hx hI hO hp0 P1 K1 K2 hS he hrf hge hev
 unfold triV
 go_enter Tryz.func33, Tryz.ntmps33
 go_upto_region 1 with fail
 rw [← hW1, ← hW2]
 clear hW1 hW2
 have x0 := BX.at (i := 0) rfl
 have x1 := BX.at (i := 1) rfl
 have xl := BX.lt
 go_wp2_with fail
 rw [← hW3]
 clear hW3 x0 x1 xl dc p0 p1 p2 p3 p4 p5
 refine (hRd _).mono ?_
 rintro _ w4 ⟨rfl, k4⟩
 have HK4 : Hid (On w w4) := HK2.out.trans (K23.trans k4)
 have HO4 : Hid (Out N b w4 v L) := HO.out.on (K23.trans k4)
 have BP4 := BP.on (K23.trans k4)
 have BX4 := BX.on (K23.trans k4)
 have BE4 := BE3.on k4
 have hs4 : w.heap.size + 3 ≤ w4.heap.size := by rw [← hs3]; exact k4.size
 clear HO BP BX BE3 k4 K23 hRd hs1 hs2 hs3 HK2
 cases hr : rdsB e.k with
 | false =>
  have hCC : CC = srcP locs n ⟨E, F ++ [-1], []⟩ := by have h := HCC.out; rw [hr, if_neg (by decide)] at h; exact h
  clear HCC
  have HRF9 : Hid (Rd intC 1 w4.drew (.slice q2 F.length d2) F) := ((HRF.out.on HK4.out).on (On.drew (On.refl _))).1
  have BP9 := BP4
  have BX9 := BX4
  have HCALL : Hid (∀ (v10 : Value) (W : World) (n10 : Nat), On w4.drew W → Hid (n10 = (F ++ [(-1 : Int)]).length) → W.ownsRow w4.heap.size 3 1 v10 n10 ((F ++ [(-1 : Int)]).flatMap intC) →
    Calls Tryz.prog 33 #[.agg #[.slice a1 locs c1, .slice a2 n2 c2, .slice a3 n3 c3], .agg #[.slice (some ⟨g1, o1, none⟩) E.length d1, v10, .slice none 0 0], .pointer (some ⟨N, 0, none⟩), .int .i64 most] W fun e w' => Post N b most L CC v w e w' ∧ ((Bk W w.heap.size #[.slice a1 locs c1, .slice a2 n2 c2, .slice a3 n3 c3] ∧ Bk W (w.heap.size + 1) #[.slice (some ⟨g1, o1, none⟩) E.length d1, .slice q2 F.length d2, .slice q3 0 d3]) → (Bk w' w.heap.size #[.slice a1 locs c1, .slice a2 n2 c2, .slice a3 n3 c3] ∧ Bk w' (w.heap.size + 1) #[.slice (some ⟨g1, o1, none⟩) E.length d1, .slice q2 F.length d2, .slice q3 0 d3]))) := fun v10 W n10 k hn10 h10 => by
   have k4 : On w4 W := (On.drew (On.refl w4)).trans k
   have kw : On w W := HK4.out.trans k4
   refine (HIH.out (-1) v v10 L W n10 (by omega) hn10 (Ky.on kw) (HO4.out.on k4) hlm (Nat.le_trans hb kw.size) ⟨_, h10⟩).mono ?_
   intro e w' hP
   rw [hCC]
   refine ⟨hP.on kw, ?_⟩
   obtain ⟨_, _, _, _, _, hf, _⟩ := hP
   exact fun h => ⟨h.1.fx hf (by omega) (fun e2 => by have := (hvlow _ e2).2; omega), h.2.fx hf (by omega) (fun e2 => by have := (hvlow _ e2).2; omega)⟩
  clear hCC HIH HO4 HRF HRE BE4
  go_upto_region 12 with fail
  have S0 : Bk w4.drew w.heap.size #[.slice a1 locs c1, .slice a2 n2 c2, .slice a3 n3 c3] ∧ Bk w4.drew (w.heap.size + 1) #[.slice (some ⟨g1, o1, none⟩) E.length d1, .slice q2 F.length d2, .slice q3 0 d3] := ⟨BP9, BX9⟩
  have hon : ∀ W W', (Bk W w.heap.size #[.slice a1 locs c1, .slice a2 n2 c2, .slice a3 n3 c3] ∧ Bk W (w.heap.size + 1) #[.slice (some ⟨g1, o1, none⟩) E.length d1, .slice q2 F.length d2, .slice q3 0 d3]) → On W W' → (Bk W' w.heap.size #[.slice a1 locs c1, .slice a2 n2 c2, .slice a3 n3 c3] ∧ Bk W' (w.heap.size + 1) #[.slice (some ⟨g1, o1, none⟩) E.length d1, .slice q2 F.length d2, .slice q3 0 d3]) := fun W W' h k => ⟨h.1.on k, h.2.on k⟩
  refine region_fz (fun W => Bk W w.heap.size #[.slice a1 locs c1, .slice a2 n2 c2, .slice a3 n3 c3] ∧ Bk W (w.heap.size + 1) #[.slice (some ⟨g1, o1, none⟩) E.length d1, .slice q2 F.length d2, .slice q3 0 d3]) [] 14 (by kernel_rfl) rfl ?_
  refine fz_take 0 (v := ?_) rfl (by kernel_rfl) (by kernel_rfl) (by kernel_rfl) (by kernel_rfl) (fun _ _ _ h => h) rfl ?_ S0 ?_
  rotate_left
  ·
   intro W hW
   have x0 := hW.2.at (i := 0) rfl
   have x1 := hW.2.at (i := 1) rfl
   have x2 := hW.2.at (i := 2) rfl
   have xl := hW.2.lt
   have y0 := hW.1.at (i := 0) rfl
   have y1 := hW.1.at (i := 1) rfl
   have y2 := hW.1.at (i := 2) rfl
   have yl := hW.1.lt
   go_simp
   (try with_reducible rfl)
  simp only [zpu, zsa, zsz, zss]
  refine fz_take 1 (v := ?_) rfl (by kernel_rfl) (by kernel_rfl) (by kernel_rfl) (by kernel_rfl) (fun _ _ _ h => h) rfl ?_ S0 ?_
  rotate_left
  ·
   intro W hW
   have x0 := hW.2.at (i := 0) rfl
   have x1 := hW.2.at (i := 1) rfl
   have x2 := hW.2.at (i := 2) rfl
   have xl := hW.2.lt
   have y0 := hW.1.at (i := 0) rfl
   have y1 := hW.1.at (i := 1) rfl
   have y2 := hW.1.at (i := 2) rfl
   have yl := hW.1.lt
   go_simp
   (try with_reducible rfl)
  simp only [zpu, zsa, zsz, zss]
  refine fz_take 2 (v := ?_) rfl (by kernel_rfl) (by kernel_rfl) (by kernel_rfl) (by kernel_rfl) (fun _ _ _ h => h) rfl ?_ S0 ?_
  rotate_left
  ·
   intro W hW
   have x0 := hW.2.at (i := 0) rfl
   have x1 := hW.2.at (i := 1) rfl
   have x2 := hW.2.at (i := 2) rfl
   have xl := hW.2.lt
   have y0 := hW.1.at (i := 0) rfl
   have y1 := hW.1.at (i := 1) rfl
   have y2 := hW.1.at (i := 2) rfl
   have yl := hW.1.lt
   go_simp
   (try with_reducible rfl)
  simp only [zpu, zsa, zsz, zss]
  refine fz_take 4 (v := ?_) rfl (by kernel_rfl) (by kernel_rfl) (by kernel_rfl) (by kernel_rfl) (fun _ _ _ h => h) rfl ?_ S0 ?_
  rotate_left
  ·
   intro W hW
   have x0 := hW.2.at (i := 0) rfl
   have x1 := hW.2.at (i := 1) rfl
   have x2 := hW.2.at (i := 2) rfl
   have xl := hW.2.lt
   have y0 := hW.1.at (i := 0) rfl
   have y1 := hW.1.at (i := 1) rfl
   have y2 := hW.1.at (i := 2) rfl
   have yl := hW.1.lt
   go_simp
   (try with_reducible rfl)
  simp only [zpu, zsa, zsz, zss]
  refine fz_take 5 (v := ?_) rfl (by kernel_rfl) (by kernel_rfl) (by kernel_rfl) (by kernel_rfl) (fun _ _ _ h => h) rfl ?_ S0 ?_
  rotate_left
  ·
   intro W hW
   have x0 := hW.2.at (i := 0) rfl
   have x1 := hW.2.at (i := 1) rfl
   have x2 := hW.2.at (i := 2) rfl
   have xl := hW.2.lt
   have y0 := hW.1.at (i := 0) rfl
   have y1 := hW.1.at (i := 1) rfl
   have y2 := hW.1.at (i := 2) rfl
   have yl := hW.1.lt
   go_simp
   (try with_reducible rfl)
  simp only [zpu, zsa, zsz, zss]
  refine fz_take 10 (v := ?_) rfl (by kernel_rfl) (by kernel_rfl) (by kernel_rfl) (by kernel_rfl) (fun _ _ _ h => h) rfl ?_ S0 ?_
  rotate_left
  ·
   intro W hW
   have x0 := hW.2.at (i := 0) rfl
   have x1 := hW.2.at (i := 1) rfl
   have x2 := hW.2.at (i := 2) rfl
   have xl := hW.2.lt
   have y0 := hW.1.at (i := 0) rfl
   have y1 := hW.1.at (i := 1) rfl
   have y2 := hW.1.at (i := 2) rfl
   have yl := hW.1.lt
   go_simp
   (try with_reducible rfl)
  simp only [zpu, zsa, zsz, zss]
  refine fz_take 11 (v := ?_) rfl (by kernel_rfl) (by kernel_rfl) (by kernel_rfl) (by kernel_rfl) (fun _ _ _ h => h) rfl ?_ S0 ?_
  rotate_left
  ·
   intro W hW
   have x0 := hW.2.at (i := 0) rfl
   have x1 := hW.2.at (i := 1) rfl
   have x2 := hW.2.at (i := 2) rfl
   have xl := hW.2.lt
   have y0 := hW.1.at (i := 0) rfl
   have y1 := hW.1.at (i := 1) rfl
   have y2 := hW.1.at (i := 2) rfl
   have yl := hW.1.lt
   go_simp
   (try with_reducible rfl)
  simp only [zpu, zsa, zsz, zss]
  refine fz_grow [(3, 65, none), (6, 68, none), (7, 69, none)] (fun i v W => (i = 3 → ∃ g, v = .slice (some ⟨g, 0, none⟩) 0 0 ∧ World.ownsRow W w4.heap.size 3 1 v 0 []) ∧ (i = 6 → World.ownsRow W w4.heap.size 3 1 v F.length (F.flatMap intC)) ∧ (i = 7 → ∃ g, v = .slice (some ⟨g, 0, none⟩) 1 1 ∧ World.ownsRow W 0 3 1 v 1 [Value.int .i64 (-1)])) #[true, true, true, true, true, true, true, true, false, false, true, true, false, false] 3 4 (by simp) (by simp) ?_ rfl hon S0 ?_ (by kernel_rfl) (by kernel_rfl) ?_ ?_
  ·
   intro x hx
   simp only [List.mem_cons, List.not_mem_nil, or_false] at hx
   rcases hx with rfl | rfl | rfl <;> rfl
  ·
   intro i v w w' h k
   exact ⟨fun e => (fun h => by obtain ⟨g, h1, h2⟩ := h; exact ⟨g, h1, own_on h2 k⟩) (h.1 e), fun e => (fun h => own_on h k) (h.2.1 e), fun e => (fun h => by obtain ⟨g, h1, h2⟩ := h; exact ⟨g, h1, own_on h2 k⟩) (h.2.2 e)⟩
  ·
   intro i d c hi
   simp only [List.mem_cons, Prod.mk.injEq, List.not_mem_nil, or_false] at hi
   rcases hi with ⟨rfl, rfl, rfl⟩ | ⟨rfl, rfl, rfl⟩ | ⟨rfl, rfl, rfl⟩
   ·
    refine ⟨_, rfl, rfl, fun p W' l' K hr hm hS hK => ?_⟩
    have kW := hm.on
    clear hm hr
    simp only [putsA, putsD, List.foldl_cons, List.foldl_nil, Act.put, List.setIfInBounds_toArray, List.set_cons_zero, List.set_cons_succ] at hK ⊢
    go_simp
    exact hK _ _ ((On.refl W').alloc _) ⟨fun _ => ⟨_, rfl, own_empty W' _ 1 _ (show w4.drew.heap.size ≤ _ from kW.size)⟩, fun e => absurd e (by decide), fun e => absurd e (by decide)⟩
   ·
    refine ⟨_, rfl, rfl, fun p W' l' K hr hm hS hK => ?_⟩
    obtain ⟨u3, hu3, f3⟩ := hm.get (x := (3, 65, none)) (by simp) (ready_dep hr rfl (e := ⟨3, .data⟩) (by simp) rfl)
    have g3 := f3.1 rfl
    have kW := hm.on
    clear hm hr
    simp only [putsA, putsD, List.foldl_cons, List.foldl_nil, hu3, Option.getD_some, Act.put, List.setIfInBounds_toArray, List.set_cons_zero, List.set_cons_succ] at hK ⊢
    obtain ⟨g, rfl, hE⟩ := g3
    refine wp_append_new elInt intC_len _ _ rfl rfl rfl hE (HRF9.out.on kW) (by omega) (by decide) (show w4.drew.heap.size ≤ _ from kW.size) ?_
    intro v' w'' h1 k1
    exact hK v' w'' k1 ⟨fun e => absurd e (by decide), fun _ => h1, fun e => absurd e (by decide)⟩
   ·
    refine ⟨_, rfl, rfl, fun p W' l' K hr hm hS hK => ?_⟩
    have kW := hm.on
    clear hm hr
    simp only [putsA, putsD, List.foldl_cons, List.foldl_nil, Act.put, List.setIfInBounds_toArray, List.set_cons_zero, List.set_cons_succ] at hK ⊢
    go_simp
    exact hK _ _ ((On.refl W').alloc _) ⟨fun e => absurd e (by decide), fun e => absurd e (by decide), fun _ => ⟨_, rfl, own_one W' #[.int .i64 (-1)] _ 1 0 rfl (Nat.zero_le _)⟩⟩
  intro p WE hm hSE
  obtain ⟨u3, hu3, f3⟩ := hm.get (x := (3, 65, none)) (by simp) rfl
  have g3 := f3.1 rfl
  obtain ⟨u6, hu6, f6⟩ := hm.get (x := (6, 68, none)) (by simp) rfl
  have g6 := f6.2.1 rfl
  obtain ⟨u7, hu7, f7⟩ := hm.get (x := (7, 69, none)) (by simp) rfl
  have g7 := f7.2.2 rfl
  have kM := hm.on
  simp only [putsA, putsD, List.foldl_cons, List.foldl_nil, hu3, hu6, hu7, Option.getD_some, Act.put, List.setIfInBounds_toArray, List.set_cons_zero, List.set_cons_succ]
  clear hm hu3 f3 hu6 f6 hu7 f7
  obtain ⟨g10, rfl, h10⟩ := g7
  refine fz_one 8 rfl rfl (by kernel_rfl) (fun K hK => ?_)
  refine wp_append_rdG elInt intC_len _ _ rfl rfl rfl (intC_one _) g6 (Rd.own (C := intC) (k := 1) intC_len (L := [(-1 : Int)]) h10) (by simp; omega) (by decide) (show w4.drew.heap.size ≤ _ from kM.size) ?_
  intro v11 w11 h11 g11
  have kJ : On w4.drew w11 := kM.grown g11 (fun q hq => (g6.lt q hq).1)
  have S11 := hon _ _ S0 kJ
  obtain ⟨nn, hnn⟩ : ∃ nn, nn = (F ++ [(-1 : Int)]).length := ⟨_, rfl⟩
  rw [← hnn] at h11
  have HNN : Hid (nn = (F ++ [(-1 : Int)]).length) := hnn
  clear hnn
  obtain ⟨a11, c11, rfl⟩ := own_slice h11
  have H11 : Hid (w11.ownsRow w4.heap.size 3 1 (.slice a11 nn c11) nn ((F ++ [(-1 : Int)]).flatMap intC)) := h11
  clear h11 g6 h10 g11
  refine hK.out _ _ (fun _ => S11) ?_
  clear hK
  refine fz_take 9 (v := ?_) rfl (by kernel_rfl) (by kernel_rfl) (by kernel_rfl) (by kernel_rfl) (fun _ _ _ h => h) rfl ?_ S11 ?_
  rotate_left
  ·
   intro W hW
   have x0 := hW.2.at (i := 0) rfl
   have x1 := hW.2.at (i := 1) rfl
   have x2 := hW.2.at (i := 2) rfl
   have xl := hW.2.lt
   have y0 := hW.1.at (i := 0) rfl
   have y1 := hW.1.at (i := 1) rfl
   have y2 := hW.1.at (i := 2) rfl
   have yl := hW.1.lt
   go_simp
   (try with_reducible rfl)
  simp only [zpu, zsa, zsz, zss]
  refine fz_one 12 rfl rfl (by kernel_rfl) (fun K hK => ?_)
  go_simp
  refine (HCALL.out (.slice a11 nn c11) w11 nn kJ HNN H11.out).mono ?_
  rintro e15 w15 ⟨hPP, hBB⟩
  have S15 := hBB S11
  have eP := hPP.1
  have HPP : Hid (Post N b most L CC v w e15 w15) := hPP
  clear hPP
  obtain ⟨bb, hbb⟩ : ∃ bb, bb = (runP most L CC).isSome := ⟨_, rfl⟩
  rw [← hbb] at eP
  subst eP
  clear hbb
  refine hK.out _ _ (fun _ => S15) ?_
  clear hK
  refine fz_take 13 (v := ?_) rfl (by kernel_rfl) (by kernel_rfl) (by kernel_rfl) (by kernel_rfl) (fun _ _ _ h => h) rfl ?_ S15 ?_
  rotate_left
  ·
   intro W hW
   go_simp
   (try with_reducible rfl)
  simp only [zpu, zsa, zsz, zss]
  refine fz_done (by kernel_rfl) (NoPanic.normal ?_)
  go_wp2
  go_ret
  exact HPP.out
 | true =>
  have hCC : CC = preL (fun k => if srcB ⟨E, F, []⟩ k then srcP locs n ⟨E, F ++ [(k : Int)], []⟩ else []) E.length := by have h := HCC.out; rw [hr, if_pos rfl] at h; exact h
  clear HCC
  obtain ⟨G, hG⟩ : ∃ G : Nat → List ExT, G = (fun k => if srcB ⟨E, F, []⟩ k then srcP locs n ⟨E, F ++ [(k : Int)], []⟩ else []) := ⟨_, rfl⟩
  rw [← hG] at hCC
  have HC : Hid (CC = preL G E.length) := hCC
  clear hCC
  have HG : Hid (G = (fun k => if srcB ⟨E, F, []⟩ k then srcP locs n ⟨E, F ++ [(k : Int)], []⟩ else [])) := hG
  have HL0 : Hid (runP most L (preL G 0) = some L) := rfl
  clear hG
  go_wp2
  go_loopg [13] E.length (fun gg s13 wr => ∃ (k : Nat) (vI : Value) (LI : List ExT), k ≤ E.length ∧ gg = E.length - k ∧ s13 = .int .i64 k ∧ Hid (Out N b wr vI LI) ∧ Hid (runP most L (preL G k) = some LI) ∧ Hid (Fx N v vI w4 wr) ∧ Hid (Ky w wr) ∧ Bk wr w.heap.size #[.slice a1 locs c1, .slice a2 n2 c2, .slice a3 n3 c3] ∧ Bk wr (w.heap.size + 1) #[.slice (some ⟨g1, o1, none⟩) E.length d1, .slice q2 F.length d2, .slice q3 0 d3] ∧ Bk wr (w.heap.size + 2) #[.int .i64 e.t, .int .i64 e.i, .int .i64 e.k, .int .i64 e.l, .int .i64 e.r, .int .i64 e.w])
  case atStart => exact ⟨0, v, L, Nat.zero_le _, rfl, rfl, HO4, HL0, Fx.refl _ _ _, Ky.on HK4.out, BP4, BX4, BE4⟩
  case round =>
   clear HO4 HL0 BP4 BX4 BE4
   obtain ⟨k, vI, LI, hk, hg, rfl, HO, HRUN, HFX, HKY, BP, BX, BE⟩ := hrel
   have x0 := BX.at (i := 0) rfl
   have xl := BX.lt
   rcases Nat.lt_or_ge k E.length with hlt | hge
   ·
    obtain ⟨y, hy⟩ : ∃ y, E[k]? = some y := ⟨_, List.getElem?_eq_getElem hlt⟩
    have hgy : E.getD k evZ = y := by rw [List.getD_eq_getElem?_getD, hy]; rfl
    obtain ⟨g1', o1', eq1, hg1', p0, p1, p2, p3, p4, p5⟩ := rd_ev (HRE.out.ky HKY.out tE1 tE2).1 hy
    simp only [Option.some.injEq, Addr.mk.injEq, and_true] at eq1
    obtain ⟨rfl, rfl⟩ := eq1
    have hov : IntKind.i64.wrap ((k : Int) + 1) = ((k + 1 : Nat) : Int) := by rw [wrap_small]; omega; omega; omega
    have hkb : (k : Int) < (E.length : Int) := by omega
    have hGk : G k = if srcB ⟨E, F, []⟩ k then srcP locs n ⟨E, F ++ [(k : Int)], []⟩ else [] := by rw [HG.out]
    have hSB : srcB ⟨E, F, []⟩ k = ((((k : Int) != (F.length : Int)) && wrsB y.k && (y.l == e.l)) && (y.w == e.r)) := by unfold srcB; simp only [hgy, HE.out]
    rw [hSB] at hGk
    have HWr := fun W => rwrites_is y W
    unfold evV at HWr
    have HSK : Hid (G k = [] → ∀ w', On wr w' → (∃ (k' : Nat) (vI : Value) (LI : List ExT), k' ≤ E.length ∧ E.length - (k + 1) = E.length - k' ∧ Value.int .i64 ((k + 1 : Nat) : Int) = .int .i64 k' ∧ Hid (Out N b w' vI LI) ∧ Hid (runP most L (preL G k') = some LI) ∧ Hid (Fx N v vI w4 w') ∧ Hid (Ky w w') ∧ Bk w' w.heap.size #[.slice a1 locs c1, .slice a2 n2 c2, .slice a3 n3 c3] ∧ Bk w' (w.heap.size + 1) #[.slice (some ⟨g1, o1, none⟩) E.length d1, .slice q2 F.length d2, .slice q3 0 d3] ∧ Bk w' (w.heap.size + 2) #[.int .i64 e.t, .int .i64 e.i, .int .i64 e.k, .int .i64 e.l, .int .i64 e.r, .int .i64 e.w])) := fun h w' kk => ⟨k + 1, vI, LI, hlt, rfl, rfl, HO.out.on kk, (by show _ = _; rw [run_pre HRUN.out, h]; rfl), HFX.out.trans (Fx.on N vI kk), HKY.out.trans (Ky.on kk), BP.on kk, BX.on kk, BE.on kk⟩
    clear hgy hSB hy
    obtain ⟨W5, hW5⟩ : ∃ W5, W5 = wr.alloc (.cells #[.int .i64 y.t, .int .i64 y.i, .int .i64 y.k, .int .i64 y.l, .int .i64 y.r, .int .i64 y.w] 58) := ⟨_, rfl⟩
    have BY5 : Bk W5 wr.heap.size #[.int .i64 y.t, .int .i64 y.i, .int .i64 y.k, .int .i64 y.l, .int .i64 y.r, .int .i64 y.w] := by rw [hW5]; exact Bk.new wr _ _
    have K5 : On wr W5 := by rw [hW5]; exact (On.refl wr).alloc _
    go_upto_region 17 with fail
    rw [← hW5]
    clear hW5 x0 xl p0 p1 p2 p3 p4 p5
    have BE5 := BE.on K5
    cases h0 : ((k : Int) != (F.length : Int)) with
    | false =>
     rw [h0, Bool.false_and, Bool.false_and, Bool.false_and, if_neg (by decide)] at hGk
     have HSK2 := HSK.out hGk _ K5
     have HS3 : Hid _ := HSK2
     clear HSK2 HSK hGk
     go_wp2
     go_roundg (E.length - (k + 1))
     case measure => omega
     case rel => exact HS3.out
    | true =>
     have y0 := BY5.at (i := 0) rfl
     have y1 := BY5.at (i := 1) rfl
     have y2 := BY5.at (i := 2) rfl
     have y3 := BY5.at (i := 3) rfl
     have y4 := BY5.at (i := 4) rfl
     have y5 := BY5.at (i := 5) rfl
     have yl := BY5.lt
     cases h1 : wrsB y.k with
     | false =>
      rw [h0, h1, Bool.true_and, Bool.false_and, Bool.false_and, if_neg (by decide)] at hGk
      rw [h1] at HWr
      have HGK : Hid (G k = []) := hGk
      clear hGk
      go_wp2_with fail
      refine (HWr _).mono ?_
      rintro _ w6 ⟨rfl, k6⟩
      have HS3 : Hid _ := HSK.out HGK.out _ (K5.trans k6)
      go_wp2
      go_roundg (E.length - (k + 1))
      case measure => omega
      case rel => exact HS3.out
     | true =>
      rw [h1] at HWr
      rw [h0, h1, Bool.true_and, Bool.true_and] at hGk
      cases h2 : (y.l == e.l) with
      | false =>
       rw [h2, Bool.false_and, if_neg (by decide)] at hGk
       have HGK : Hid (G k = []) := hGk
       clear hGk
       go_wp2_with fail
       refine (HWr _).mono ?_
       rintro _ w6 ⟨rfl, k6⟩
       have HS3 : Hid _ := HSK.out HGK.out _ (K5.trans k6)
       have z3 := (BY5.on k6).at (i := 3) rfl
       have zl := (BY5.on k6).lt
       have u3 := (BE5.on k6).at (i := 3) rfl
       have ul := (BE5.on k6).lt
       go_wp2
       go_roundg (E.length - (k + 1))
       case measure => omega
       case rel => exact HS3.out
      | true =>
       rw [h2, Bool.true_and] at hGk
       cases h3 : (y.w == e.r) with
       | false =>
        rw [h3, if_neg (by decide)] at hGk
        have HGK : Hid (G k = []) := hGk
        clear hGk
        go_wp2_with fail
        refine (HWr _).mono ?_
        rintro _ w6 ⟨rfl, k6⟩
        have HS3 : Hid _ := HSK.out HGK.out _ (K5.trans k6)
        have z3 := (BY5.on k6).at (i := 3) rfl
        have z5 := (BY5.on k6).at (i := 5) rfl
        have zl := (BY5.on k6).lt
        have u3 := (BE5.on k6).at (i := 3) rfl
        have u4 := (BE5.on k6).at (i := 4) rfl
        have ul := (BE5.on k6).lt
        go_wp2
        go_roundg (E.length - (k + 1))
        case measure => omega
        case rel => exact HS3.out
       | true =>
        rw [h3, if_pos rfl] at hGk
        have HGK : Hid (G k = srcP locs n ⟨E, F ++ [(k : Int)], []⟩) := hGk
        clear hGk HSK
        go_wp2_with fail
        refine (HWr _).mono ?_
        rintro _ w6 ⟨rfl, k6⟩
        have z3 := (BY5.on k6).at (i := 3) rfl
        have z5 := (BY5.on k6).at (i := 5) rfl
        have zl := (BY5.on k6).lt
        have u3 := (BE5.on k6).at (i := 3) rfl
        have u4 := (BE5.on k6).at (i := 4) rfl
        have ul := (BE5.on k6).lt
        have HK6 : Hid (On wr w6) := K5.trans k6
        have BP9 := BP.on HK6.out
        have BX9 := BX.on HK6.out
        have HBE : Hid (Bk wr (w.heap.size + 2) #[.int .i64 e.t, .int .i64 e.i, .int .i64 e.k, .int .i64 e.l, .int .i64 e.r, .int .i64 e.w]) := BE
        clear BY5 BE5 k6 K5 HWr BE BP BX y0 y1 y2 y3 y4 y5 yl
        have hLIm : LI.length ≤ most := run_le hlm HRUN.out
        have HVI : Hid (∀ M, M < w4.heap.size → w.heap.size ≤ M → vI.ownBlock ≠ some M) := fun M hM hM2 e2 => by
         rcases HFX.out.next with h | h
         ·
          have := (hvlow M (h ▸ e2)).2; omega
         ·
          have := h M e2; omega
        have HRF9 : Hid (Rd intC 1 w6.drew (.slice q2 F.length d2) F) := (((HRF.out.ky HKY.out tN1 tN2).on HK6.out).on (On.drew (On.refl _))).1
        have HCALL : Hid (∀ (v10 : Value) (W : World) (n10 : Nat), On w6.drew W → Hid (n10 = (F ++ [(k : Int)]).length) → W.ownsRow w6.heap.size 3 1 v10 n10 ((F ++ [(k : Int)]).flatMap intC) →
          Calls Tryz.prog 33 #[.agg #[.slice a1 locs c1, .slice a2 n2 c2, .slice a3 n3 c3], .agg #[.slice (some ⟨g1, o1, none⟩) E.length d1, v10, .slice none 0 0], .pointer (some ⟨N, 0, none⟩), .int .i64 most] W (Post N b most LI (G k) vI W)) := fun v10 W n10 kk hn10 h10 => by
         have k9 : On w6 W := (On.drew (On.refl w6)).trans kk
         have kw : On wr W := HK6.out.trans k9
         rw [HGK.out]
         exact HIH.out (k : Int) vI v10 LI W n10 hkb hn10 (HKY.out.trans (Ky.on kw)) (HO.out.on kw) hLIm (Nat.le_trans hb (Nat.le_trans HKY.out.size kw.size)) ⟨_, h10⟩
        have HBB : Hid (∀ W e w', (Bk W w.heap.size #[.slice a1 locs c1, .slice a2 n2 c2, .slice a3 n3 c3] ∧ Bk W (w.heap.size + 1) #[.slice (some ⟨g1, o1, none⟩) E.length d1, .slice q2 F.length d2, .slice q3 0 d3]) → Post N b most LI (G k) vI W e w' → (Bk w' w.heap.size #[.slice a1 locs c1, .slice a2 n2 c2, .slice a3 n3 c3] ∧ Bk w' (w.heap.size + 1) #[.slice (some ⟨g1, o1, none⟩) E.length d1, .slice q2 F.length d2, .slice q3 0 d3])) := fun W e w' h hP => by
         obtain ⟨_, _, _, _, _, hf, _⟩ := hP
         exact ⟨h.1.fx hf (by omega) (HVI.out _ (by omega) (by omega)), h.2.fx hf (by omega) (HVI.out _ (by omega) (by omega))⟩
        have HG1 : Hid (runP most L (preL G (k + 1)) = runP most LI (G k)) := run_pre HRUN.out
        have HG2 : Hid (runP most LI (G k) = none → runP most L (preL G E.length) = none) := fun h => run_none HRUN.out h E.length hlt
        clear HIH HO HRF HGK
        go_upto_region 18 with fail
        have S0 : Bk w6.drew w.heap.size #[.slice a1 locs c1, .slice a2 n2 c2, .slice a3 n3 c3] ∧ Bk w6.drew (w.heap.size + 1) #[.slice (some ⟨g1, o1, none⟩) E.length d1, .slice q2 F.length d2, .slice q3 0 d3] := ⟨BP9, BX9⟩
        have hon : ∀ W W', (Bk W w.heap.size #[.slice a1 locs c1, .slice a2 n2 c2, .slice a3 n3 c3] ∧ Bk W (w.heap.size + 1) #[.slice (some ⟨g1, o1, none⟩) E.length d1, .slice q2 F.length d2, .slice q3 0 d3]) → On W W' → (Bk W' w.heap.size #[.slice a1 locs c1, .slice a2 n2 c2, .slice a3 n3 c3] ∧ Bk W' (w.heap.size + 1) #[.slice (some ⟨g1, o1, none⟩) E.length d1, .slice q2 F.length d2, .slice q3 0 d3]) := fun W W' h k => ⟨h.1.on k, h.2.on k⟩
        refine region_fz (fun W => Bk W w.heap.size #[.slice a1 locs c1, .slice a2 n2 c2, .slice a3 n3 c3] ∧ Bk W (w.heap.size + 1) #[.slice (some ⟨g1, o1, none⟩) E.length d1, .slice q2 F.length d2, .slice q3 0 d3]) [] 15 (by kernel_rfl) rfl ?_
        refine fz_take 0 (v := ?_) rfl (by kernel_rfl) (by kernel_rfl) (by kernel_rfl) (by kernel_rfl) (fun _ _ _ h => h) rfl ?_ S0 ?_
        rotate_left
        ·
         intro W hW
         have x0 := hW.2.at (i := 0) rfl
         have x1 := hW.2.at (i := 1) rfl
         have x2 := hW.2.at (i := 2) rfl
         have xl := hW.2.lt
         have y0 := hW.1.at (i := 0) rfl
         have y1 := hW.1.at (i := 1) rfl
         have y2 := hW.1.at (i := 2) rfl
         have yl := hW.1.lt
         go_simp
         (try with_reducible rfl)
        simp only [zpu, zsa, zsz, zss]
        refine fz_take 1 (v := ?_) rfl (by kernel_rfl) (by kernel_rfl) (by kernel_rfl) (by kernel_rfl) (fun _ _ _ h => h) rfl ?_ S0 ?_
        rotate_left
        ·
         intro W hW
         have x0 := hW.2.at (i := 0) rfl
         have x1 := hW.2.at (i := 1) rfl
         have x2 := hW.2.at (i := 2) rfl
         have xl := hW.2.lt
         have y0 := hW.1.at (i := 0) rfl
         have y1 := hW.1.at (i := 1) rfl
         have y2 := hW.1.at (i := 2) rfl
         have yl := hW.1.lt
         go_simp
         (try with_reducible rfl)
        simp only [zpu, zsa, zsz, zss]
        refine fz_take 2 (v := ?_) rfl (by kernel_rfl) (by kernel_rfl) (by kernel_rfl) (by kernel_rfl) (fun _ _ _ h => h) rfl ?_ S0 ?_
        rotate_left
        ·
         intro W hW
         have x0 := hW.2.at (i := 0) rfl
         have x1 := hW.2.at (i := 1) rfl
         have x2 := hW.2.at (i := 2) rfl
         have xl := hW.2.lt
         have y0 := hW.1.at (i := 0) rfl
         have y1 := hW.1.at (i := 1) rfl
         have y2 := hW.1.at (i := 2) rfl
         have yl := hW.1.lt
         go_simp
         (try with_reducible rfl)
        simp only [zpu, zsa, zsz, zss]
        refine fz_take 4 (v := ?_) rfl (by kernel_rfl) (by kernel_rfl) (by kernel_rfl) (by kernel_rfl) (fun _ _ _ h => h) rfl ?_ S0 ?_
        rotate_left
        ·
         intro W hW
         have x0 := hW.2.at (i := 0) rfl
         have x1 := hW.2.at (i := 1) rfl
         have x2 := hW.2.at (i := 2) rfl
         have xl := hW.2.lt
         have y0 := hW.1.at (i := 0) rfl
         have y1 := hW.1.at (i := 1) rfl
         have y2 := hW.1.at (i := 2) rfl
         have yl := hW.1.lt
         go_simp
         (try with_reducible rfl)
        simp only [zpu, zsa, zsz, zss]
        refine fz_take 5 (v := ?_) rfl (by kernel_rfl) (by kernel_rfl) (by kernel_rfl) (by kernel_rfl) (fun _ _ _ h => h) rfl ?_ S0 ?_
        rotate_left
        ·
         intro W hW
         have x0 := hW.2.at (i := 0) rfl
         have x1 := hW.2.at (i := 1) rfl
         have x2 := hW.2.at (i := 2) rfl
         have xl := hW.2.lt
         have y0 := hW.1.at (i := 0) rfl
         have y1 := hW.1.at (i := 1) rfl
         have y2 := hW.1.at (i := 2) rfl
         have yl := hW.1.lt
         go_simp
         (try with_reducible rfl)
        simp only [zpu, zsa, zsz, zss]
        refine fz_take 7 (v := ?_) rfl (by kernel_rfl) (by kernel_rfl) (by kernel_rfl) (by kernel_rfl) (fun _ _ _ h => h) rfl ?_ S0 ?_
        rotate_left
        ·
         intro W hW
         have x0 := hW.2.at (i := 0) rfl
         have x1 := hW.2.at (i := 1) rfl
         have x2 := hW.2.at (i := 2) rfl
         have xl := hW.2.lt
         have y0 := hW.1.at (i := 0) rfl
         have y1 := hW.1.at (i := 1) rfl
         have y2 := hW.1.at (i := 2) rfl
         have yl := hW.1.lt
         go_simp
         (try with_reducible rfl)
        simp only [zpu, zsa, zsz, zss]
        refine fz_take 11 (v := ?_) rfl (by kernel_rfl) (by kernel_rfl) (by kernel_rfl) (by kernel_rfl) (fun _ _ _ h => h) rfl ?_ S0 ?_
        rotate_left
        ·
         intro W hW
         have x0 := hW.2.at (i := 0) rfl
         have x1 := hW.2.at (i := 1) rfl
         have x2 := hW.2.at (i := 2) rfl
         have xl := hW.2.lt
         have y0 := hW.1.at (i := 0) rfl
         have y1 := hW.1.at (i := 1) rfl
         have y2 := hW.1.at (i := 2) rfl
         have yl := hW.1.lt
         go_simp
         (try with_reducible rfl)
        simp only [zpu, zsa, zsz, zss]
        refine fz_take 12 (v := ?_) rfl (by kernel_rfl) (by kernel_rfl) (by kernel_rfl) (by kernel_rfl) (fun _ _ _ h => h) rfl ?_ S0 ?_
        rotate_left
        ·
         intro W hW
         have x0 := hW.2.at (i := 0) rfl
         have x1 := hW.2.at (i := 1) rfl
         have x2 := hW.2.at (i := 2) rfl
         have xl := hW.2.lt
         have y0 := hW.1.at (i := 0) rfl
         have y1 := hW.1.at (i := 1) rfl
         have y2 := hW.1.at (i := 2) rfl
         have yl := hW.1.lt
         go_simp
         (try with_reducible rfl)
        simp only [zpu, zsa, zsz, zss]
        refine fz_grow [(3, 111, none), (6, 114, none), (8, 116, none)] (fun i v W => (i = 3 → ∃ g, v = .slice (some ⟨g, 0, none⟩) 0 0 ∧ World.ownsRow W w6.heap.size 3 1 v 0 []) ∧ (i = 6 → World.ownsRow W w6.heap.size 3 1 v F.length (F.flatMap intC)) ∧ (i = 8 → ∃ g, v = .slice (some ⟨g, 0, none⟩) 1 1 ∧ World.ownsRow W 0 3 1 v 1 [Value.int .i64 (k)])) #[true, true, true, true, true, true, true, true, true, false, false, true, true, false, false] 3 4 (by simp) (by simp) ?_ rfl hon S0 ?_ (by kernel_rfl) (by kernel_rfl) ?_ ?_
        ·
         intro x hx
         simp only [List.mem_cons, List.not_mem_nil, or_false] at hx
         rcases hx with rfl | rfl | rfl <;> rfl
        ·
         intro i v w w' h k
         exact ⟨fun e => (fun h => by obtain ⟨g, h1, h2⟩ := h; exact ⟨g, h1, own_on h2 k⟩) (h.1 e), fun e => (fun h => own_on h k) (h.2.1 e), fun e => (fun h => by obtain ⟨g, h1, h2⟩ := h; exact ⟨g, h1, own_on h2 k⟩) (h.2.2 e)⟩
        ·
         intro i d c hi
         simp only [List.mem_cons, Prod.mk.injEq, List.not_mem_nil, or_false] at hi
         rcases hi with ⟨rfl, rfl, rfl⟩ | ⟨rfl, rfl, rfl⟩ | ⟨rfl, rfl, rfl⟩
         ·
          refine ⟨_, rfl, rfl, fun p W' l' K hr hm hS hK => ?_⟩
          have kW := hm.on
          clear hm hr
          simp only [putsA, putsD, List.foldl_cons, List.foldl_nil, Act.put, List.setIfInBounds_toArray, List.set_cons_zero, List.set_cons_succ] at hK ⊢
          go_simp
          exact hK _ _ ((On.refl W').alloc _) ⟨fun _ => ⟨_, rfl, own_empty W' _ 1 _ (show w6.drew.heap.size ≤ _ from kW.size)⟩, fun e => absurd e (by decide), fun e => absurd e (by decide)⟩
         ·
          refine ⟨_, rfl, rfl, fun p W' l' K hr hm hS hK => ?_⟩
          obtain ⟨u3, hu3, f3⟩ := hm.get (x := (3, 111, none)) (by simp) (ready_dep hr rfl (e := ⟨3, .data⟩) (by simp) rfl)
          have g3 := f3.1 rfl
          have kW := hm.on
          clear hm hr
          simp only [putsA, putsD, List.foldl_cons, List.foldl_nil, hu3, Option.getD_some, Act.put, List.setIfInBounds_toArray, List.set_cons_zero, List.set_cons_succ] at hK ⊢
          obtain ⟨g, rfl, hE⟩ := g3
          refine wp_append_new elInt intC_len _ _ rfl rfl rfl hE (HRF9.out.on kW) (by omega) (by decide) (show w6.drew.heap.size ≤ _ from kW.size) ?_
          intro v' w'' h1 k1
          exact hK v' w'' k1 ⟨fun e => absurd e (by decide), fun _ => h1, fun e => absurd e (by decide)⟩
         ·
          refine ⟨_, rfl, rfl, fun p W' l' K hr hm hS hK => ?_⟩
          have kW := hm.on
          clear hm hr
          simp only [putsA, putsD, List.foldl_cons, List.foldl_nil, Act.put, List.setIfInBounds_toArray, List.set_cons_zero, List.set_cons_succ] at hK ⊢
          go_simp
          exact hK _ _ ((On.refl W').alloc _) ⟨fun e => absurd e (by decide), fun e => absurd e (by decide), fun _ => ⟨_, rfl, own_one W' #[.int .i64 (k)] _ 1 0 rfl (Nat.zero_le _)⟩⟩
        intro p WE hm hSE
        obtain ⟨u3, hu3, f3⟩ := hm.get (x := (3, 111, none)) (by simp) rfl
        have g3 := f3.1 rfl
        obtain ⟨u6, hu6, f6⟩ := hm.get (x := (6, 114, none)) (by simp) rfl
        have g6 := f6.2.1 rfl
        obtain ⟨u8, hu8, f8⟩ := hm.get (x := (8, 116, none)) (by simp) rfl
        have g8 := f8.2.2 rfl
        have kM := hm.on
        simp only [putsA, putsD, List.foldl_cons, List.foldl_nil, hu3, hu6, hu8, Option.getD_some, Act.put, List.setIfInBounds_toArray, List.set_cons_zero, List.set_cons_succ]
        clear hm hu3 f3 hu6 f6 hu8 f8
        obtain ⟨g10, rfl, h10⟩ := g8
        refine fz_one 9 rfl rfl (by kernel_rfl) (fun K hK => ?_)
        refine wp_append_rdG elInt intC_len _ _ rfl rfl rfl (intC_one _) g6 (Rd.own (C := intC) (k := 1) intC_len (L := [(k : Int)]) h10) (by simp; omega) (by decide) (show w6.drew.heap.size ≤ _ from kM.size) ?_
        intro v11 w11 h11 g11
        have kJ : On w6.drew w11 := kM.grown g11 (fun q hq => (g6.lt q hq).1)
        have S11 := hon _ _ S0 kJ
        obtain ⟨nn, hnn⟩ : ∃ nn, nn = (F ++ [(k : Int)]).length := ⟨_, rfl⟩
        rw [← hnn] at h11
        have HNN : Hid (nn = (F ++ [(k : Int)]).length) := hnn
        clear hnn
        obtain ⟨a11, c11, rfl⟩ := own_slice h11
        have H11 : Hid (w11.ownsRow w6.heap.size 3 1 (.slice a11 nn c11) nn ((F ++ [(k : Int)]).flatMap intC)) := h11
        clear h11 g6 h10 g11
        refine hK.out _ _ (fun _ => S11) ?_
        clear hK
        refine fz_take 10 (v := ?_) rfl (by kernel_rfl) (by kernel_rfl) (by kernel_rfl) (by kernel_rfl) (fun _ _ _ h => h) rfl ?_ S11 ?_
        rotate_left
        ·
         intro W hW
         have x0 := hW.2.at (i := 0) rfl
         have x1 := hW.2.at (i := 1) rfl
         have x2 := hW.2.at (i := 2) rfl
         have xl := hW.2.lt
         have y0 := hW.1.at (i := 0) rfl
         have y1 := hW.1.at (i := 1) rfl
         have y2 := hW.1.at (i := 2) rfl
         have yl := hW.1.lt
         go_simp
         (try with_reducible rfl)
        simp only [zpu, zsa, zsz, zss]
        refine fz_one 13 rfl rfl (by kernel_rfl) (fun K hK => ?_)
        go_simp
        refine (HCALL.out (.slice a11 nn c11) w11 nn kJ HNN H11.out).mono ?_
        intro e15 w15 hPP
        have S15 := HBB.out _ _ _ S11 hPP
        have eP := hPP.1
        have HPP : Hid (Post N b most LI (G k) vI w11 e15 w15) := hPP
        clear hPP
        obtain ⟨bb, hbb⟩ : ∃ bb, bb = (runP most LI (G k)).isSome := ⟨_, rfl⟩
        rw [← hbb] at eP
        subst eP
        refine hK.out _ _ (fun _ => S15) ?_
        clear hK
        refine fz_take 14 (v := ?_) rfl (by kernel_rfl) (by kernel_rfl) (by kernel_rfl) (by kernel_rfl) (fun _ _ _ h => h) rfl ?_ S15 ?_
        rotate_left
        ·
         intro W hW
         go_simp
         (try with_reducible rfl)
        simp only [zpu, zsa, zsz, zss]
        refine fz_done (by kernel_rfl) (NoPanic.normal ?_)
        have HKJ : Hid (On wr w11) := HK6.out.trans ((On.drew (On.refl w6)).trans kJ)
        have HBE2 : Hid (Bk w15 (w.heap.size + 2) #[.int .i64 e.t, .int .i64 e.i, .int .i64 e.k, .int .i64 e.l, .int .i64 e.r, .int .i64 e.w]) := by
         obtain ⟨_, _, _, _, _, hf, _⟩ := HPP.out
         exact (HBE.out.on HKJ.out).fx hf (by omega) (HVI.out _ (by omega) (by omega))
        cases hrn : runP most LI (G k) with
        | some L2 =>
         rw [hrn] at hbb
         obtain rfl : bb = true := hbb
         obtain ⟨_, v', L', hO', hL', hf', hk'⟩ := HPP.out
         obtain rfl := hL' L2 hrn
         have HO2 : Hid (Out N b w15 v' L') := hO'
         have HR2 : Hid (runP most L (preL G (k + 1)) = some L') := by show _ = _; rw [HG1.out]; exact hrn
         have HF2 : Hid (Fx N v v' w4 w15) := (HFX.out.trans (Fx.on N vI HKJ.out)).trans hf'
         have HK2' : Hid (Ky w w15) := (HKY.out.trans (Ky.on HKJ.out)).trans hk'
         clear hO' hL' hf' hk' hrn HPP HG1 HG2 HFX HKY HRUN
         go_wp2
         go_roundg (E.length - (k + 1))
         case measure => omega
         case rel => exact ⟨k + 1, v', L', hlt, rfl, rfl, HO2, HR2, HF2, HK2', S15.1, S15.2, HBE2.out⟩
        | none =>
         rw [hrn] at hbb
         obtain rfl : bb = false := hbb
         have HN : Hid (runP most L (preL G E.length) = none) := HG2.out hrn
         obtain ⟨_, v', L', hO', hL', hf', hk'⟩ := HPP.out
         have HP : Hid (∃ v' L', Out N b w15 v' L' ∧ (∀ L2, runP most L CC = some L2 → L' = L2) ∧ Fx N v v' w w15 ∧ Ky w w15) := ⟨v', L', hO', (fun L2 h => by rw [HC.out, HN.out] at h; cases h), (Fx.on N v HK4.out).trans ((HFX.out.trans (Fx.on N vI HKJ.out)).trans hf'), (HKY.out.trans (Ky.on HKJ.out)).trans hk'⟩
         have HS : Hid ((runP most L CC).isSome = false) := by show _ = _; rw [HC.out, HN.out]; rfl
         clear hO' hL' hf' hk' hrn HPP HG1 HG2 HFX HKY HRUN HN
         go_wp2
         go_ret
         refine ⟨?_, HP.out⟩
         rw [HS.out]
         rfl
   ·
    obtain rfl : k = E.length := by omega
    have hI := HRUN.out
    have HP : Hid (∃ v' L', Out N b wr v' L' ∧ (∀ L2, runP most L CC = some L2 → L' = L2) ∧ Fx N v v' w wr ∧ Ky w wr) := ⟨vI, LI, HO.out, fun L2 h => by rw [HC.out, hI] at h; exact Option.some.inj h, (Fx.on N v HK4.out).trans HFX.out, HKY.out⟩
    have HS : Hid ((runP most L CC).isSome = true) := by show _ = _; rw [HC.out, hI]; rfl
    clear hI
    go_wp2
    go_ret
    refine ⟨?_, HP.out⟩
    rw [HS.out]
    rfl
theorem src_is (hC : CmpIs) (locs most N b : Nat) (hm : most ≤ 100000) (hlo : locs ≤ 1000) : ∀ n, SrcIs locs most N b n
 | 0 => src_zero locs most N b (ord_is hC locs most N b hm hlo locs)
 | n + 1 => src_succ locs most N b n (src_is hC locs most N b hm hlo n)
end Go.Proofs.YtioiabfheeglgaaGreatDoor

namespace Go.Proofs.YtioiabfheeglgaaGreatDoor
open Go.RowKit

/-- An unfolding of each of m more threads, then sources and orders. -/
def chP (locs : Nat) (UN : Nat → List (List EvT)) : Nat → Nat → List EvT → List ExT
 | 0, _, E => srcP locs E.length ⟨E, [], []⟩
 | m + 1, t, E => preL (fun i => chP locs UN m (t + 1) (E ++ (UN t).getD i [])) (UN t).length
def capS (cap : Nat → Nat) : Nat → Nat → Nat
 | 0, _ => 0
 | m + 1, t => cap t + capS cap m (t + 1)
/-- Rows of events, in blocks of their types. -/
def RdE2 (w : World) (v : Value) (LL : List (List EvT)) : Prop :=
 ∃ vs : List Value, vs.length = LL.length ∧ RdT 38 oneC 1 w v vs ∧ ∀ (i : Nat) (u : Value) (L : List EvT), vs[i]? = some u → LL[i]? = some L → RdT 58 evC 6 w u L
theorem tV1 : (38 : TypeId) ≠ TX := by decide
theorem tV2 : (38 : TypeId) ≠ TS := by decide
theorem RdE2.ky {w w' : World} {v : Value} {LL : List (List EvT)} (h : RdE2 w v LL) (o : Ky w w') : RdE2 w' v LL := by
 obtain ⟨vs, h1, h2, h3⟩ := h
 exact ⟨vs, h1, h2.ky o tV1 tV2, fun i u L a b => (h3 i u L a b).ky o tE1 tE2⟩
theorem RdE2.on {w w' : World} {v : Value} {LL : List (List EvT)} (h : RdE2 w v LL) (o : On w w') : RdE2 w' v LL := h.ky (Ky.on o)
theorem evC_len (x : EvT) : (evC x).length = 6 := rfl
theorem evC_one (Y : List EvT) : ∀ u ∈ Y.flatMap evC, u.oneCell' = true := flat_oneC one_ev Y
theorem elEv : ElT 38 58 6 48 (.agg #[.int .i64 0, .int .i64 0, .int .i64 0, .int .i64 0, .int .i64 0, .int .i64 0]) := ⟨Tryz.underlying38, infoEv, rfl, by decide⟩
def progT (n m : Nat) (vp : Value) : Prop := ∃ a1 c1 a2 n2 c2 a3 c3, vp = .agg #[.slice a1 n c1, .slice a2 n2 c2, .slice a3 m c3]
theorem progT.v {n m : Nat} {vp : Value} (h : progT n m vp) : progV n vp := by
 obtain ⟨a1, c1, a2, n2, c2, a3, c3, e⟩ := h
 exact ⟨a1, c1, a2, n2, c2, a3, m, c3, e⟩
/-- Four rows of unfoldings. -/
structure Un (thr : Nat) (w : World) (us : Array Value) (UN : Nat → List (List EvT)) : Prop where
 ex : ∃ u0 u1 u2 u3, us = #[u0, u1, u2, u3]
 row : ∀ t, t < thr → ∃ u, us[t]? = some u ∧ RdE2 w u (UN t)
theorem Un.ky {thr : Nat} {w w' : World} {us : Array Value} {UN : Nat → List (List EvT)} (h : Un thr w us UN) (o : Ky w w') : Un thr w' us UN := ⟨h.ex, fun t ht => by obtain ⟨u, h1, h2⟩ := h.row t ht; exact ⟨u, h1, h2.ky o⟩⟩
def ChIs (locs most N b thr : Nat) (UN : Nat → List (List EvT)) (cap : Nat → Nat) (m : Nat) : Prop := ∀ (t : Nat) (E : List EvT) (ae : Option Addr) (ce : Nat) (vp : Value) (us : Array Value) (L : List ExT) (v : Value) (w : World), progT locs thr vp → t + m = thr → E.length + capS cap m t ≤ 64 → RdT 58 evC 6 w (.slice ae E.length ce) E → Un thr w us UN → Out N b w v L → L.length ≤ most → b ≤ w.heap.size →
  Calls Tryz.prog 17 #[vp, .int .i64 t, .slice ae E.length ce, .agg us, .pointer (some ⟨N, 0, none⟩), .int .i64 most] w (Post N b most L (chP locs UN m t E) v w)
set_option maxHeartbeats 1000000 in
set_option maxRecDepth 8000 in
theorem ch_zero (locs most N b thr : Nat) (UN : Nat → List (List EvT)) (cap : Nat → Nat) (hS : ∀ n, SrcIs locs most N b n) : ChIs locs most N b thr UN cap 0 := by
 intro t E ae ce vp us L v w hp ht hcap hE hU hO hl hb
 have hv := hp.v
 obtain ⟨a1, c1, a2, n2, c2, a3, c3, rfl⟩ := hp
 obtain ⟨u0, u1, u2, u3, rfl⟩ := hU.ex
 obtain rfl : thr = t := by omega
 have h64 : E.length ≤ 64 := by omega
 have HCALL : Hid (∀ W, On w W → Calls Tryz.prog 33 #[.agg #[.slice a1 locs c1, .slice a2 n2 c2, .slice a3 thr c3], .agg #[.slice ae E.length ce, .slice none 0 0, .slice none 0 0], .pointer (some ⟨N, 0, none⟩), .int .i64 most] W (Post N b most L (chP locs UN 0 thr E) v w)) := fun W k => by
  refine (hS E.length ⟨E, [], []⟩ (.slice ae E.length ce, .slice none 0 0, .slice none 0 0) (.agg #[.slice a1 locs c1, .slice a2 n2 c2, .slice a3 thr c3]) L v W hv (by simp) rfl h64 (fun f hf => by simp at hf) ⟨⟨ae, ce, none, 0, none, 0, rfl⟩, hE.on k, RdT.nil _ _ _ _, RdT2.nil W⟩ (hO.on k) hl (Nat.le_trans hb k.size)).mono fun e w' hP => hP.on k
 obtain ⟨W1, hW1⟩ : ∃ W1, W1 = w.alloc (.cells #[.slice a1 locs c1, .slice a2 n2 c2, .slice a3 thr c3] 27) := ⟨_, rfl⟩
 have P1 : Bk W1 w.heap.size #[.slice a1 locs c1, .slice a2 n2 c2, .slice a3 thr c3] := by rw [hW1]; exact Bk.new w _ _
 have K1 : On w W1 := by rw [hW1]; exact (On.refl w).alloc _
 have hs1 : W1.heap.size = w.heap.size + 1 := by rw [hW1, World.size_alloc]
 obtain ⟨W2, hW2⟩ : ∃ W2, W2 = W1.alloc (.cells #[u0, u1, u2, u3] 54) := ⟨_, rfl⟩
 have BP : Bk W2 w.heap.size #[.slice a1 locs c1, .slice a2 n2 c2, .slice a3 thr c3] := by rw [hW2]; exact P1.alloc _
 have K2 : On w W2 := by rw [hW2]; exact K1.alloc _
 have hcall := HCALL.out W2 K2
 obtain ⟨CC, hCC⟩ : ∃ CC, CC = chP locs UN 0 thr E := ⟨_, rfl⟩
 rw [← hCC] at hcall ⊢
 clear hE hU hO hl hb hv hS hcap P1 K1 hCC
 go_enter Tryz.func17, Tryz.ntmps17
 go_upto_region 1 with fail
 rw [← hW1, ← hW2]
 clear hW1 hW2 hs1
 have y0 := BP.at (i := 0) rfl
 have y1 := BP.at (i := 1) rfl
 have y2 := BP.at (i := 2) rfl
 have yl := BP.lt
 go_wp2_with fail
 refine hcall.mono ?_
 intro e w6 hP
 have eP := hP.1
 have HP : Hid (Post N b most L CC v w e w6) := hP
 clear hP hcall HCALL
 obtain ⟨bb, hbb⟩ : ∃ bb, bb = (runP most L CC).isSome := ⟨_, rfl⟩
 rw [← hbb] at eP
 subst eP
 clear hbb
 go_wp2
 go_ret
 exact HP.out
set_option maxHeartbeats 2000000 in
set_option maxRecDepth 8000 in
theorem ch_succ (locs most N b thr : Nat) (hth : thr ≤ 4) (UN : Nat → List (List EvT)) (cap : Nat → Nat) (hcp : ∀ t, t < thr → ∀ r ∈ UN t, r.length ≤ cap t) (hun : ∀ t, (UN t).length ≤ 1000000) (m : Nat) (hI : ChIs locs most N b thr UN cap m) : ChIs locs most N b thr UN cap (m + 1) := by
 intro t E ae ce vp us L v w hp ht hcap hE hU hO hl hb
 have hp0 := hp
 obtain ⟨a1, c1, a2, n2, c2, a3, c3, rfl⟩ := hp
 obtain ⟨u0, u1, u2, u3, rfl⟩ := hU.ex
 have htl : t < thr := by omega
 have ht4 : t < 4 := by omega
 rw [capS] at hcap
 have hE64 : E.length ≤ 64 := by omega
 obtain ⟨u, ut, hur⟩ := hU.row t htl
 have hcpt := hcp t htl
 have hunt := hun t
 obtain ⟨G, hG⟩ : ∃ G : Nat → List ExT, G = (fun i => chP locs UN m (t + 1) (E ++ (UN t).getD i [])) := ⟨_, rfl⟩
 obtain ⟨UT, hUT⟩ : ∃ UT, UT = UN t := ⟨_, rfl⟩
 have hC : chP locs UN (m + 1) t E = preL G UT.length := by rw [chP, hG, hUT]
 rw [hC]
 rw [← hUT] at hur hcpt hunt
 have HGI : Hid (∀ i R, UT[i]? = some R → G i = chP locs UN m (t + 1) (E ++ R)) := fun i R h => by
  rw [hG]
  simp only
  rw [← hUT, List.getD_eq_getElem?_getD, h]
  rfl
 obtain ⟨vs, hvs1, hvs2, hvs3⟩ := hur
 obtain ⟨au, cu, rfl, _, _⟩ := hvs2.1.slice
 have HVS : Hid (vs.length = UT.length) := hvs1
 have HVR : Hid (RdT 38 oneC 1 w (.slice au vs.length cu) vs) := hvs2
 have HVE : Hid (∀ (i : Nat) (u : Value) (L : List EvT), vs[i]? = some u → UT[i]? = some L → RdT 58 evC 6 w u L) := hvs3
 rw [hvs1] at ut HVR
 have HRE : Hid (RdT 58 evC 6 w (.slice ae E.length ce) E) := hE
 have hNw : N < w.heap.size := lt_of_block hO.cell
 have hvlow := hO.own.low
 have hlm := hl
 have HIH : Hid (∀ (R : List EvT) (vI v10 : Value) (LI : List ExT) (W : World) (n10 : Nat), R.length ≤ cap t → Hid (n10 = (E ++ R).length) → Ky w W → Out N b W vI LI → LI.length ≤ most → b ≤ W.heap.size → (∃ base, W.ownsRow base 58 6 v10 n10 ((E ++ R).flatMap evC)) →
   Calls Tryz.prog 17 #[.agg #[.slice a1 locs c1, .slice a2 n2 c2, .slice a3 thr c3], .int .i64 ((t + 1 : Nat) : Int), v10, .agg #[u0, u1, u2, u3], .pointer (some ⟨N, 0, none⟩), .int .i64 most] W (Post N b most LI (chP locs UN m (t + 1) (E ++ R)) vI W)) := fun R vI v10 LI W n10 hR hn kk hOI hll hbW h10 => by
  obtain ⟨base, h10⟩ := h10
  rw [hn.out] at h10
  have hr : RdT 58 evC 6 W v10 (E ++ R) := RdT.own evC_len h10
  obtain ⟨a10, c10, rfl⟩ := own_slice h10
  exact hI (t + 1) (E ++ R) a10 c10 (.agg #[.slice a1 locs c1, .slice a2 n2 c2, .slice a3 thr c3]) #[u0, u1, u2, u3] LI vI W hp0 (by omega) (by rw [List.length_append]; omega) hr (hU.ky kk) hOI hll hbW
 obtain ⟨W1, hW1⟩ : ∃ W1, W1 = w.alloc (.cells #[.slice a1 locs c1, .slice a2 n2 c2, .slice a3 thr c3] 27) := ⟨_, rfl⟩
 have P1 : Bk W1 w.heap.size #[.slice a1 locs c1, .slice a2 n2 c2, .slice a3 thr c3] := by rw [hW1]; exact Bk.new w _ _
 have K1 : On w W1 := by rw [hW1]; exact (On.refl w).alloc _
 have hs1 : W1.heap.size = w.heap.size + 1 := by rw [hW1, World.size_alloc]
 obtain ⟨W2, hW2⟩ : ∃ W2, W2 = W1.alloc (.cells #[u0, u1, u2, u3] 54) := ⟨_, rfl⟩
 have BP : Bk W2 w.heap.size #[.slice a1 locs c1, .slice a2 n2 c2, .slice a3 thr c3] := by rw [hW2]; exact P1.alloc _
 have BU : Bk W2 (w.heap.size + 1) #[u0, u1, u2, u3] := by rw [hW2, ← hs1]; exact Bk.new W1 _ _
 have K2 : On w W2 := by rw [hW2]; exact K1.alloc _
 have hs2 : W2.heap.size = w.heap.size + 2 := by rw [hW2, World.size_alloc, hs1]
 have HO : Hid (Out N b W2 v L) := hO.on K2
 have HK2 : Hid (On w W2) := K2
 have HL0 : Hid (runP most L (preL G 0) = some L) := rfl
 have dc : ((t : Int) == (thr : Int)) = false := by simpa using (by omega : ¬ (t : Int) = (thr : Int))
 have ht0 : (t : Int) < 4 := by omega
 have hot : IntKind.i64.wrap ((t : Int) + 1) = ((t + 1 : Nat) : Int) := by rw [wrap_small]; omega; omega; omega
 obtain ⟨M, hM⟩ : ∃ M, M = UT.length := ⟨_, rfl⟩
 have HM : Hid (M = UT.length) := hM
 rw [← hM] at HVR ut hunt ⊢
 have HCP : Hid (∀ r ∈ UT, r.length ≤ cap t) := hcpt
 clear hM hC hG hI hO hp0 P1 K1 K2 hE hU hvs1 hvs2 hvs3 hUT hcp hun hcpt hs1 HVS ht htl
 have HVS2 : Hid (vs.length = UT.length) := by
  have h := HVR.out.1.len
  show _ = _
  rw [← HM.out]
  exact h.symm
 go_enter Tryz.func17, Tryz.ntmps17
 go_upto_region 1 with fail
 rw [← hW1, ← hW2]
 clear hW1 hW2
 have y0 := BP.at (i := 0) rfl
 have y1 := BP.at (i := 1) rfl
 have y2 := BP.at (i := 2) rfl
 have yl := BP.lt
 go_wp2
 clear dc y0 y1 y2 yl
 go_loopg [13] M (fun gg s13 wr => ∃ (i : Nat) (vI : Value) (LI : List ExT), i ≤ M ∧ gg = M - i ∧ s13 = .int .i64 i ∧ Hid (Out N b wr vI LI) ∧ Hid (runP most L (preL G i) = some LI) ∧ Hid (Fx N v vI W2 wr) ∧ Hid (Ky w wr) ∧ Bk wr w.heap.size #[.slice a1 locs c1, .slice a2 n2 c2, .slice a3 thr c3] ∧ Bk wr (w.heap.size + 1) #[u0, u1, u2, u3])
 case atStart => exact ⟨0, v, L, Nat.zero_le _, rfl, rfl, HO, HL0, Fx.refl _ _ _, Ky.on HK2.out, BP, BU⟩
 case round =>
  clear HO HL0 BP BU
  obtain ⟨i, vI, LI, hi, hg, rfl, HO, HRUN, HFX, HKY, BP, BU⟩ := hrel
  have xt := BU.at (i := t) ut
  have xl := BU.lt
  rcases Nat.lt_or_ge i M with hlt | hge
  ·
   obtain ⟨R, hR⟩ : ∃ R, UT[i]? = some R := ⟨_, List.getElem?_eq_getElem (by rw [← HM.out]; exact hlt)⟩
   obtain ⟨r, hr⟩ : ∃ r, vs[i]? = some r := ⟨_, List.getElem?_eq_getElem (by rw [HVS2.out, ← HM.out]; exact hlt)⟩
   have hRT := HVE.out i r R hr hR
   obtain ⟨ar, cr, rfl, _, _⟩ := hRT.1.slice
   have hv1 := (HVR.out.ky HKY.out tV1 tV2).1
   have hMv : M = vs.length := by rw [HVS2.out, HM.out]
   rw [hMv] at hv1
   obtain ⟨gu, ou, rfl, hgu, hcell⟩ := hv1.at hr
   have q0 : wr.cell? ⟨gu, ou + i, none⟩ = some (.slice ar R.length cr) := by have := hcell 0 _ rfl; simpa using this
   have hRl := HCP.out R (List.mem_of_getElem? hR)
   have HGR : Hid (G i = chP locs UN m (t + 1) (E ++ R)) := HGI.out i R hR
   have HRR9 : Hid (Rd evC 6 wr (.slice ar R.length cr) R) := (hRT.ky HKY.out tE1 tE2).1
   have HRE9 : Hid (Rd evC 6 wr (.slice ae E.length ce) E) := (HRE.out.ky HKY.out tE1 tE2).1
   have hER : E.length + R.length ≤ 64 := by omega
   have hov : IntKind.i64.wrap ((i : Int) + 1) = ((i + 1 : Nat) : Int) := by rw [wrap_small]; omega; omega; omega
   have hib : (i : Int) < (M : Int) := by omega
   have hLIm : LI.length ≤ most := run_le hlm HRUN.out
   have HVI : Hid (∀ Q, Q < W2.heap.size → w.heap.size ≤ Q → vI.ownBlock ≠ some Q) := fun Q hM hM2 e2 => by
    rcases HFX.out.next with h | h
    ·
     have := (hvlow Q (h ▸ e2)).2; omega
    ·
     have := h Q e2; omega
   have HCALL : Hid (∀ (v10 : Value) (W : World) (n10 : Nat), On wr W → Hid (n10 = (E ++ R).length) → W.ownsRow wr.heap.size 58 6 v10 n10 ((E ++ R).flatMap evC) →
     Calls Tryz.prog 17 #[.agg #[.slice a1 locs c1, .slice a2 n2 c2, .slice a3 thr c3], .int .i64 ((t + 1 : Nat) : Int), v10, .agg #[u0, u1, u2, u3], .pointer (some ⟨N, 0, none⟩), .int .i64 most] W (Post N b most LI (G i) vI W)) := fun v10 W n10 kw hn10 h10 => by
    rw [HGR.out]
    exact HIH.out R vI v10 LI W n10 hRl hn10 (HKY.out.trans (Ky.on kw)) (HO.out.on kw) hLIm (Nat.le_trans hb (Nat.le_trans HKY.out.size kw.size)) ⟨_, h10⟩
   have HVT : Hid (∃ cs fr, wr.heap[gu]? = some (.cells cs 38 fr)) := (HVR.out.ky HKY.out tV1 tV2).2 gu ou M cu rfl (by rw [← hMv]; omega)
   have HBB : Hid (∀ W e w', (Bk W w.heap.size #[.slice a1 locs c1, .slice a2 n2 c2, .slice a3 thr c3] ∧ Bk W (w.heap.size + 1) #[u0, u1, u2, u3] ∧ (W.cell? ⟨gu, ou + i, none⟩ = some (Value.slice ar R.length cr) ∧ gu < W.heap.size ∧ ∃ cs fr, W.heap[gu]? = some (.cells cs 38 fr))) → Post N b most LI (G i) vI W e w' → (Bk w' w.heap.size #[.slice a1 locs c1, .slice a2 n2 c2, .slice a3 thr c3] ∧ Bk w' (w.heap.size + 1) #[u0, u1, u2, u3] ∧ (w'.cell? ⟨gu, ou + i, none⟩ = some (Value.slice ar R.length cr) ∧ gu < w'.heap.size ∧ ∃ cs fr, w'.heap[gu]? = some (.cells cs 38 fr)))) := fun W e w' h hP => by
    obtain ⟨_, _, _, _, _, hf, hky⟩ := hP
    refine ⟨h.1.fx hf (by omega) (HVI.out _ (by omega) (by omega)), h.2.1.fx hf (by omega) (HVI.out _ (by omega) (by omega)), ?_, Nat.lt_of_lt_of_le h.2.2.2.1 hf.size, ?_⟩
    all_goals obtain ⟨cs, fr, hcs⟩ := h.2.2.2.2
    all_goals first
     | exact (World.cell?_of_block (a := ⟨gu, ou + i, none⟩) (hky.block gu cs _ fr hcs tV1 tV2)).trans h.2.2.1
     | exact ⟨cs, fr, (hky.block gu cs _ fr hcs tV1 tV2).trans hcs⟩
   have HG1 : Hid (runP most L (preL G (i + 1)) = runP most LI (G i)) := run_pre HRUN.out
   have HG2 : Hid (runP most LI (G i) = none → runP most L (preL G M) = none) := fun h => run_none HRUN.out h M hlt
   clear HIH HO HRE HVR hv1 hcell hRT HGR HCP hMv hR hr HVE HVS2 HGI HM
   go_upto_region 6 with fail
   clear xt xl
   have S0 : Bk wr.drew w.heap.size #[.slice a1 locs c1, .slice a2 n2 c2, .slice a3 thr c3] ∧ Bk wr.drew (w.heap.size + 1) #[u0, u1, u2, u3] ∧ (wr.drew.cell? ⟨gu, ou + i, none⟩ = some (Value.slice ar R.length cr) ∧ gu < wr.drew.heap.size ∧ ∃ cs fr, wr.drew.heap[gu]? = some (.cells cs 38 fr)) := ⟨BP, BU, q0, hgu, HVT.out⟩
   refine region_fz (fun W => Bk W w.heap.size #[.slice a1 locs c1, .slice a2 n2 c2, .slice a3 thr c3] ∧ Bk W (w.heap.size + 1) #[u0, u1, u2, u3] ∧ (W.cell? ⟨gu, ou + i, none⟩ = some (Value.slice ar R.length cr) ∧ gu < W.heap.size ∧ ∃ cs fr, W.heap[gu]? = some (.cells cs 38 fr))) [] 18 (by kernel_rfl) rfl ?_
   refine fz_take 0 (v := ?_) rfl (by kernel_rfl) (by kernel_rfl) (by kernel_rfl) (by kernel_rfl) (fun _ _ _ h => h) rfl ?_ S0 ?_
   rotate_left
   ·
    intro W hW
    have y0 := hW.1.at (i := 0) rfl
    have y1 := hW.1.at (i := 1) rfl
    have y2 := hW.1.at (i := 2) rfl
    have yl := hW.1.lt
    have x0 := hW.2.1.at (i := 0) rfl
    have x1 := hW.2.1.at (i := 1) rfl
    have x2 := hW.2.1.at (i := 2) rfl
    have x3 := hW.2.1.at (i := 3) rfl
    have xt := hW.2.1.at (i := t) ut
    have xl := hW.2.1.lt
    have z0 := hW.2.2.1
    have zl := hW.2.2.2.1
    go_simp
    (try with_reducible rfl)
   simp only [zpu, zsa, zsz, zss]
   refine fz_take 1 (v := ?_) rfl (by kernel_rfl) (by kernel_rfl) (by kernel_rfl) (by kernel_rfl) (fun _ _ _ h => h) rfl ?_ S0 ?_
   rotate_left
   ·
    intro W hW
    have y0 := hW.1.at (i := 0) rfl
    have y1 := hW.1.at (i := 1) rfl
    have y2 := hW.1.at (i := 2) rfl
    have yl := hW.1.lt
    have x0 := hW.2.1.at (i := 0) rfl
    have x1 := hW.2.1.at (i := 1) rfl
    have x2 := hW.2.1.at (i := 2) rfl
    have x3 := hW.2.1.at (i := 3) rfl
    have xt := hW.2.1.at (i := t) ut
    have xl := hW.2.1.lt
    have z0 := hW.2.2.1
    have zl := hW.2.2.2.1
    go_simp
    (try with_reducible rfl)
   simp only [zpu, zsa, zsz, zss]
   refine fz_take 2 (v := ?_) rfl (by kernel_rfl) (by kernel_rfl) (by kernel_rfl) (by kernel_rfl) (fun _ _ _ h => h) rfl ?_ S0 ?_
   rotate_left
   ·
    intro W hW
    have y0 := hW.1.at (i := 0) rfl
    have y1 := hW.1.at (i := 1) rfl
    have y2 := hW.1.at (i := 2) rfl
    have yl := hW.1.lt
    have x0 := hW.2.1.at (i := 0) rfl
    have x1 := hW.2.1.at (i := 1) rfl
    have x2 := hW.2.1.at (i := 2) rfl
    have x3 := hW.2.1.at (i := 3) rfl
    have xt := hW.2.1.at (i := t) ut
    have xl := hW.2.1.lt
    have z0 := hW.2.2.1
    have zl := hW.2.2.2.1
    go_simp
    (try with_reducible rfl)
   simp only [zpu, zsa, zsz, zss]
   refine fz_take 4 (v := ?_) rfl (by kernel_rfl) (by kernel_rfl) (by kernel_rfl) (by kernel_rfl) (fun _ _ _ h => h) rfl ?_ S0 ?_
   rotate_left
   ·
    intro W hW
    have y0 := hW.1.at (i := 0) rfl
    have y1 := hW.1.at (i := 1) rfl
    have y2 := hW.1.at (i := 2) rfl
    have yl := hW.1.lt
    have x0 := hW.2.1.at (i := 0) rfl
    have x1 := hW.2.1.at (i := 1) rfl
    have x2 := hW.2.1.at (i := 2) rfl
    have x3 := hW.2.1.at (i := 3) rfl
    have xt := hW.2.1.at (i := t) ut
    have xl := hW.2.1.lt
    have z0 := hW.2.2.1
    have zl := hW.2.2.2.1
    go_simp
    (try with_reducible rfl)
   simp only [zpu, zsa, zsz, zss]
   refine fz_take 6 (v := ?_) rfl (by kernel_rfl) (by kernel_rfl) (by kernel_rfl) (by kernel_rfl) (fun _ _ _ h => h) rfl ?_ S0 ?_
   rotate_left
   ·
    intro W hW
    have y0 := hW.1.at (i := 0) rfl
    have y1 := hW.1.at (i := 1) rfl
    have y2 := hW.1.at (i := 2) rfl
    have yl := hW.1.lt
    have x0 := hW.2.1.at (i := 0) rfl
    have x1 := hW.2.1.at (i := 1) rfl
    have x2 := hW.2.1.at (i := 2) rfl
    have x3 := hW.2.1.at (i := 3) rfl
    have xt := hW.2.1.at (i := t) ut
    have xl := hW.2.1.lt
    have z0 := hW.2.2.1
    have zl := hW.2.2.2.1
    go_simp
    (try with_reducible rfl)
   simp only [zpu, zsa, zsz, zss]
   refine fz_take 7 (v := ?_) rfl (by kernel_rfl) (by kernel_rfl) (by kernel_rfl) (by kernel_rfl) (fun _ _ _ h => h) rfl ?_ S0 ?_
   rotate_left
   ·
    intro W hW
    have y0 := hW.1.at (i := 0) rfl
    have y1 := hW.1.at (i := 1) rfl
    have y2 := hW.1.at (i := 2) rfl
    have yl := hW.1.lt
    have x0 := hW.2.1.at (i := 0) rfl
    have x1 := hW.2.1.at (i := 1) rfl
    have x2 := hW.2.1.at (i := 2) rfl
    have x3 := hW.2.1.at (i := 3) rfl
    have xt := hW.2.1.at (i := t) ut
    have xl := hW.2.1.lt
    have z0 := hW.2.2.1
    have zl := hW.2.2.2.1
    go_simp
    (try with_reducible rfl)
   simp only [zpu, zsa, zsz, zss]
   refine fz_take 8 (v := ?_) rfl (by kernel_rfl) (by kernel_rfl) (by kernel_rfl) (by kernel_rfl) (fun _ _ _ h => h) rfl ?_ S0 ?_
   rotate_left
   ·
    intro W hW
    have y0 := hW.1.at (i := 0) rfl
    have y1 := hW.1.at (i := 1) rfl
    have y2 := hW.1.at (i := 2) rfl
    have yl := hW.1.lt
    have x0 := hW.2.1.at (i := 0) rfl
    have x1 := hW.2.1.at (i := 1) rfl
    have x2 := hW.2.1.at (i := 2) rfl
    have x3 := hW.2.1.at (i := 3) rfl
    have xt := hW.2.1.at (i := t) ut
    have xl := hW.2.1.lt
    have z0 := hW.2.2.1
    have zl := hW.2.2.2.1
    go_simp
    (try with_reducible rfl)
   simp only [zpu, zsa, zsz, zss]
   refine fz_take 9 (v := ?_) rfl (by kernel_rfl) (by kernel_rfl) (by kernel_rfl) (by kernel_rfl) (fun _ _ _ h => h) rfl ?_ S0 ?_
   rotate_left
   ·
    intro W hW
    have y0 := hW.1.at (i := 0) rfl
    have y1 := hW.1.at (i := 1) rfl
    have y2 := hW.1.at (i := 2) rfl
    have yl := hW.1.lt
    have x0 := hW.2.1.at (i := 0) rfl
    have x1 := hW.2.1.at (i := 1) rfl
    have x2 := hW.2.1.at (i := 2) rfl
    have x3 := hW.2.1.at (i := 3) rfl
    have xt := hW.2.1.at (i := t) ut
    have xl := hW.2.1.lt
    have z0 := hW.2.2.1
    have zl := hW.2.2.2.1
    go_simp
    (try with_reducible rfl)
   simp only [zpu, zsa, zsz, zss]
   refine fz_take 10 (v := ?_) rfl (by kernel_rfl) (by kernel_rfl) (by kernel_rfl) (by kernel_rfl) (fun _ _ _ h => h) rfl ?_ S0 ?_
   rotate_left
   ·
    intro W hW
    have y0 := hW.1.at (i := 0) rfl
    have y1 := hW.1.at (i := 1) rfl
    have y2 := hW.1.at (i := 2) rfl
    have yl := hW.1.lt
    have x0 := hW.2.1.at (i := 0) rfl
    have x1 := hW.2.1.at (i := 1) rfl
    have x2 := hW.2.1.at (i := 2) rfl
    have x3 := hW.2.1.at (i := 3) rfl
    have xt := hW.2.1.at (i := t) ut
    have xl := hW.2.1.lt
    have z0 := hW.2.2.1
    have zl := hW.2.2.2.1
    go_simp
    (try with_reducible rfl)
   simp only [zpu, zsa, zsz, zss]
   refine fz_take 11 (v := ?_) rfl (by kernel_rfl) (by kernel_rfl) (by kernel_rfl) (by kernel_rfl) (fun _ _ _ h => h) rfl ?_ S0 ?_
   rotate_left
   ·
    intro W hW
    have y0 := hW.1.at (i := 0) rfl
    have y1 := hW.1.at (i := 1) rfl
    have y2 := hW.1.at (i := 2) rfl
    have yl := hW.1.lt
    have x0 := hW.2.1.at (i := 0) rfl
    have x1 := hW.2.1.at (i := 1) rfl
    have x2 := hW.2.1.at (i := 2) rfl
    have x3 := hW.2.1.at (i := 3) rfl
    have xt := hW.2.1.at (i := t) ut
    have xl := hW.2.1.lt
    have z0 := hW.2.2.1
    have zl := hW.2.2.2.1
    go_simp
    (try with_reducible rfl)
   simp only [zpu, zsa, zsz, zss]
   refine fz_take 13 (v := ?_) rfl (by kernel_rfl) (by kernel_rfl) (by kernel_rfl) (by kernel_rfl) (fun _ _ _ h => h) rfl ?_ S0 ?_
   rotate_left
   ·
    intro W hW
    have y0 := hW.1.at (i := 0) rfl
    have y1 := hW.1.at (i := 1) rfl
    have y2 := hW.1.at (i := 2) rfl
    have yl := hW.1.lt
    have x0 := hW.2.1.at (i := 0) rfl
    have x1 := hW.2.1.at (i := 1) rfl
    have x2 := hW.2.1.at (i := 2) rfl
    have x3 := hW.2.1.at (i := 3) rfl
    have xt := hW.2.1.at (i := t) ut
    have xl := hW.2.1.lt
    have z0 := hW.2.2.1
    have zl := hW.2.2.2.1
    go_simp
    (try with_reducible rfl)
   simp only [zpu, zsa, zsz, zss]
   refine fz_take 14 (v := ?_) rfl (by kernel_rfl) (by kernel_rfl) (by kernel_rfl) (by kernel_rfl) (fun _ _ _ h => h) rfl ?_ S0 ?_
   rotate_left
   ·
    intro W hW
    have y0 := hW.1.at (i := 0) rfl
    have y1 := hW.1.at (i := 1) rfl
    have y2 := hW.1.at (i := 2) rfl
    have yl := hW.1.lt
    have x0 := hW.2.1.at (i := 0) rfl
    have x1 := hW.2.1.at (i := 1) rfl
    have x2 := hW.2.1.at (i := 2) rfl
    have x3 := hW.2.1.at (i := 3) rfl
    have xt := hW.2.1.at (i := t) ut
    have xl := hW.2.1.lt
    have z0 := hW.2.2.1
    have zl := hW.2.2.2.1
    go_simp
    (try with_reducible rfl)
   simp only [zpu, zsa, zsz, zss]
   refine fz_take 15 (v := ?_) rfl (by kernel_rfl) (by kernel_rfl) (by kernel_rfl) (by kernel_rfl) (fun _ _ _ h => h) rfl ?_ S0 ?_
   rotate_left
   ·
    intro W hW
    have y0 := hW.1.at (i := 0) rfl
    have y1 := hW.1.at (i := 1) rfl
    have y2 := hW.1.at (i := 2) rfl
    have yl := hW.1.lt
    have x0 := hW.2.1.at (i := 0) rfl
    have x1 := hW.2.1.at (i := 1) rfl
    have x2 := hW.2.1.at (i := 2) rfl
    have x3 := hW.2.1.at (i := 3) rfl
    have xt := hW.2.1.at (i := t) ut
    have xl := hW.2.1.lt
    have z0 := hW.2.2.1
    have zl := hW.2.2.2.1
    go_simp
    (try with_reducible rfl)
   simp only [zpu, zsa, zsz, zss]
   refine fz_one 3 rfl rfl (by kernel_rfl) (fun K hK => ?_)
   go_simp
   have kA : On wr (wr.drew.alloc (.cells #[] 58)) := (On.drew (On.refl wr)).alloc _
   have hon : ∀ W', On wr W' → (Bk W' w.heap.size #[.slice a1 locs c1, .slice a2 n2 c2, .slice a3 thr c3] ∧ Bk W' (w.heap.size + 1) #[u0, u1, u2, u3] ∧ (W'.cell? ⟨gu, ou + i, none⟩ = some (Value.slice ar R.length cr) ∧ gu < W'.heap.size ∧ ∃ cs fr, W'.heap[gu]? = some (.cells cs 38 fr))) := fun W' k => ⟨BP.on k, BU.on k, (k.cell (p := ⟨gu, ou + i, none⟩) hgu).trans q0, Nat.lt_of_lt_of_le hgu k.size, by obtain ⟨cs, fr, e⟩ := HVT.out; exact ⟨cs, fr, (k.block gu hgu).trans e⟩⟩
   refine hK.out _ _ (fun _ => hon _ kA) ?_
   clear hK
   refine fz_one 5 rfl rfl (by kernel_rfl) (fun K hK => ?_)
   refine wp_append_new elEv evC_len _ _ rfl rfl rfl (own_empty wr.drew _ 6 wr.heap.size (Nat.le_refl _)) (HRE9.out.on kA) (by omega) (by decide) kA.size ?_
   intro v5 w5 h5 k5
   have kB := kA.trans k5
   refine hK.out _ _ (fun _ => hon _ kB) ?_
   clear hK
   refine fz_one 12 rfl rfl (by kernel_rfl) (fun K hK => ?_)
   refine wp_append_rdG elEv evC_len _ _ rfl rfl rfl (evC_one _) h5 (HRR9.out.on kB) (by omega) (by decide) kB.size ?_
   intro v11 w11 h11 g11
   have kJ : On wr w11 := kB.grown g11 (fun q hq => (h5.lt q hq).1)
   have S11 := hon _ kJ
   obtain ⟨nn, hnn⟩ : ∃ nn, nn = (E ++ R).length := ⟨_, rfl⟩
   rw [← hnn] at h11
   have HNN : Hid (nn = (E ++ R).length) := hnn
   clear hnn
   obtain ⟨a11, c11, rfl⟩ := own_slice h11
   have H11 : Hid (w11.ownsRow wr.heap.size 58 6 (.slice a11 nn c11) nn ((E ++ R).flatMap evC)) := h11
   clear h11 h5 g11 k5 kA kB
   refine hK.out _ _ (fun _ => S11) ?_
   clear hK
   refine fz_one 16 rfl rfl (by kernel_rfl) (fun K hK => ?_)
   go_simp
   refine (HCALL.out (.slice a11 nn c11) w11 nn kJ HNN H11.out).mono ?_
   intro e15 w15 hPP
   have S15 := HBB.out _ _ _ S11 hPP
   have eP := hPP.1
   have HPP : Hid (Post N b most LI (G i) vI w11 e15 w15) := hPP
   clear hPP
   obtain ⟨bb, hbb⟩ : ∃ bb, bb = (runP most LI (G i)).isSome := ⟨_, rfl⟩
   rw [← hbb] at eP
   subst eP
   refine hK.out _ _ (fun _ => S15) ?_
   clear hK
   refine fz_take 17 (v := ?_) rfl (by kernel_rfl) (by kernel_rfl) (by kernel_rfl) (by kernel_rfl) (fun _ _ _ h => h) rfl ?_ S15 ?_
   rotate_left
   ·
    intro W hW
    go_simp
    (try with_reducible rfl)
   simp only [zpu, zsa, zsz, zss]
   refine fz_done (by kernel_rfl) (NoPanic.normal ?_)
   have HKJ : Hid (On wr w11) := kJ
   cases hrn : runP most LI (G i) with
   | some L2 =>
    rw [hrn] at hbb
    obtain rfl : bb = true := hbb
    obtain ⟨_, v', L', hO', hL', hf', hk'⟩ := HPP.out
    obtain rfl := hL' L2 hrn
    have HO2 : Hid (Out N b w15 v' L') := hO'
    have HR2 : Hid (runP most L (preL G (i + 1)) = some L') := by show _ = _; rw [HG1.out]; exact hrn
    have HF2 : Hid (Fx N v v' W2 w15) := (HFX.out.trans (Fx.on N vI HKJ.out)).trans hf'
    have HK2' : Hid (Ky w w15) := (HKY.out.trans (Ky.on HKJ.out)).trans hk'
    clear hO' hL' hf' hk' hrn HPP HG1 HG2 HFX HKY HRUN
    go_wp2
    go_roundg (M - (i + 1))
    case measure => omega
    case rel => exact ⟨i + 1, v', L', hlt, rfl, rfl, HO2, HR2, HF2, HK2', S15.1, S15.2.1⟩
   | none =>
    rw [hrn] at hbb
    obtain rfl : bb = false := hbb
    have HN : Hid (runP most L (preL G M) = none) := HG2.out hrn
    obtain ⟨_, v', L', hO', hL', hf', hk'⟩ := HPP.out
    have HP : Hid (∃ v' L', Out N b w15 v' L' ∧ (∀ L2, runP most L (preL G M) = some L2 → L' = L2) ∧ Fx N v v' w w15 ∧ Ky w w15) := ⟨v', L', hO', (fun L2 h => by rw [HN.out] at h; cases h), (Fx.on N v HK2.out).trans ((HFX.out.trans (Fx.on N vI HKJ.out)).trans hf'), (HKY.out.trans (Ky.on HKJ.out)).trans hk'⟩
    have HS : Hid ((runP most L (preL G M)).isSome = false) := by show _ = _; rw [HN.out]; rfl
    clear hO' hL' hf' hk' hrn HPP HG1 HG2 HFX HKY HRUN HN
    go_wp2
    go_ret
    refine ⟨?_, HP.out⟩
    rw [HS.out]
    rfl
  ·
   obtain rfl : i = M := by omega
   have hI := HRUN.out
   have HP : Hid (∃ v' L', Out N b wr v' L' ∧ (∀ L2, runP most L (preL G i) = some L2 → L' = L2) ∧ Fx N v v' w wr ∧ Ky w wr) := ⟨vI, LI, HO.out, fun L2 h => by rw [hI] at h; exact Option.some.inj h, (Fx.on N v HK2.out).trans HFX.out, HKY.out⟩
   have HS : Hid ((runP most L (preL G i)).isSome = true) := by show _ = _; rw [hI]; rfl
   clear hI
   go_wp2
   go_ret
   refine ⟨?_, HP.out⟩
   rw [HS.out]
   rfl
theorem ch_is (hC : CmpIs) (locs most N b thr : Nat) (hm : most ≤ 100000) (hlo : locs ≤ 1000) (hth : thr ≤ 4) (UN : Nat → List (List EvT)) (cap : Nat → Nat) (hcp : ∀ t, t < thr → ∀ r ∈ UN t, r.length ≤ cap t) (hun : ∀ t, (UN t).length ≤ 1000000) : ∀ m, ChIs locs most N b thr UN cap m
 | 0 => ch_zero locs most N b thr UN cap (src_is hC locs most N b hm hlo)
 | m + 1 => ch_succ locs most N b thr hth UN cap hcp hun m (ch_is hC locs most N b thr hm hlo hth UN cap hcp hun m)
end Go.Proofs.YtioiabfheeglgaaGreatDoor
