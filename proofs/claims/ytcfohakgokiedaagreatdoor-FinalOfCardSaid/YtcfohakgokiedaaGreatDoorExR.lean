/- The document's own order of executions: before, rows, evs, Cmp. -/
import Derived.Test.YtcfohakgokiedaaGreatDoorJ29RaP
import Derived.Test.YtcfohakgokiedaaGreatDoorJ07RegGrow
namespace Go.Proofs.YtcfohakgokiedaaGreatDoor
open Go.RowKit

theorem lex_end {α : Type} (f : α → α → Int) (L M : List α) (n : Nat) (h1 : n ≤ L.length) (h2 : n ≤ M.length) (h : ¬ (n < L.length ∧ n < M.length)) : lexC f (L.drop n) (M.drop n) = cmpI L.length M.length := by
 unfold cmpI
 rcases Nat.lt_or_ge n L.length with hl | hl
 ·
  have hm : n = M.length := by omega
  rw [List.drop_eq_nil_of_le (by omega : M.length ≤ n), if_neg (by omega), if_pos (by omega)]
  rw [List.drop_eq_getElem_cons hl]
  rfl
 ·
  rw [List.drop_eq_nil_of_le hl]
  rcases Nat.lt_or_ge n M.length with hm | hm
  ·
   rw [List.drop_eq_getElem_cons hm, if_pos (by omega)]
   rfl
  ·
   rw [List.drop_eq_nil_of_le hm, if_neg (by omega), if_neg (by omega)]
   rfl
set_option maxHeartbeats 1000000 in
theorem bef_is (x y : Int) (w : World) : Calls Tryz.prog 97 #[.int .i64 x, .int .i64 y] w fun e w' => e = .returned (.int .i64 (cmpI x y)) ∧ On w w' := by
 unfold cmpI
 by_cases a : x < y
 ·
  have da : decide (x < y) = true := decide_eq_true a
  rw [if_pos a]
  go_enter Tryz.func97, Tryz.ntmps97
  go_wp2
  go_ret
  exact ⟨rfl, On.refl w⟩
 ·
  have da : decide (x < y) = false := decide_eq_false a
  rw [if_neg a]
  by_cases b : y < x
  ·
   have db : decide (y < x) = true := decide_eq_true b
   rw [if_pos b]
   go_enter Tryz.func97, Tryz.ntmps97
   go_wp2
   go_ret
   exact ⟨rfl, On.refl w⟩
  ·
   have db : decide (y < x) = false := decide_eq_false b
   rw [if_neg b]
   go_enter Tryz.func97, Tryz.ntmps97
   go_wp2
   go_ret
   exact ⟨rfl, On.refl w⟩
set_option maxHeartbeats 4000000 in
set_option maxRecDepth 8000 in
theorem rrows_is (L M : List Int) (a b : Option Addr) (c d : Nat) (w : World) (h : Rd intC 1 w (.slice a L.length c) L) (h' : Rd intC 1 w (.slice b M.length d) M) :
  Calls Tryz.prog 96 #[.slice a L.length c, .slice b M.length d] w fun e w' => e = .returned (.int .i64 (lexC cmpI L M)) ∧ On w w' := by
 obtain ⟨_, _, _, _, hm⟩ := h.slice
 obtain ⟨_, _, _, _, hm'⟩ := h'.slice
 have HA : Hid (Rd intC 1 w (.slice a L.length c) L) := h
 have HB : Hid (Rd intC 1 w (.slice b M.length d) M) := h'
 obtain ⟨R, hR⟩ : ∃ R, R = lexC cmpI L M := ⟨_, rfl⟩
 rw [← hR]
 have HR : Hid (R = lexC cmpI (L.drop 0) (M.drop 0)) := hR
 have hBf := fun W => bef_is (L.length : Int) (M.length : Int) W
 clear h h' hR
 go_enter Tryz.func96, Tryz.ntmps96
 go_wp2
 go_loopg [5] L.length (fun gg s5 wq => ∃ n : Nat, n ≤ L.length ∧ n ≤ M.length ∧ gg = L.length - n ∧ s5 = .int .i64 n ∧ Hid (On w wq) ∧ Hid (R = lexC cmpI (L.drop n) (M.drop n)))
 case atStart => exact ⟨0, Nat.zero_le _, Nat.zero_le _, rfl, rfl, On.refl w, HR⟩
 case round =>
  clear HR
  obtain ⟨n, hn, hnM, hk, rfl, HO, HR⟩ := hrel
  by_cases hgo : n < L.length ∧ n < M.length
  ·
   obtain ⟨hlt, hltM⟩ := hgo
   obtain ⟨x, hx⟩ : ∃ x, L[n]? = some x := ⟨_, List.getElem?_eq_getElem hlt⟩
   obtain ⟨g1, o1, rfl, hg1, hc⟩ := (HA.out.on HO.out).at hx
   have hc0 := hc 0 _ rfl
   rw [Nat.mul_one, Nat.add_zero] at hc0
   have hr := HR.out
   have bn0 : (0 : Int) ≤ (n : Int) := by omega
   have bn1 : (n : Int) < (L.length : Int) := by omega
   obtain ⟨y, hy⟩ : ∃ y, M[n]? = some y := ⟨_, List.getElem?_eq_getElem hltM⟩
   obtain ⟨g2, o2, rfl, hg2, hd⟩ := (HB.out.on HO.out).at hy
   have hd0 := hd 0 _ rfl
   rw [Nat.mul_one, Nat.add_zero] at hd0
   have bn2 : (n : Int) < (M.length : Int) := by omega
   have dl : decide (n < L.length) = true := decide_eq_true hlt
   have dm : decide (n < M.length) = true := decide_eq_true hltM
   rw [drop_at hx, drop_at hy, lexC] at hr
   have hC := bef_is x y
   generalize cmpI x y = z at *
   by_cases h0 : z = 0
   ·
    rw [if_pos h0] at hr
    have hb : ((z : Int) != 0) = false := by rw [h0]; rfl
    have HR2 : Hid (R = lexC cmpI (L.drop (n + 1)) (M.drop (n + 1))) := hr
    clear hx hy hr HR hc hd h0
    go_upto_region 4 with fail
    have K0 : On wr wr.drew := On.drew (On.refl wr)
    have hon : ∀ W W', On wr W → On W W' → On wr W' := fun W W' h k => h.trans k
    refine region_fin (fun W => On wr W) 99 10 (by kernel_rfl) rfl ?_
    refine fin_take 0 (v := ?_) rfl (by kernel_rfl) (by kernel_rfl) (by kernel_rfl) (by kernel_rfl) (fun _ _ _ h => h) rfl ?_ K0 ?_
    rotate_left
    ·
     intro W hW
     go_simp
     (try with_reducible rfl)
    simp only [pu, sa, sz0, ss1]
    refine fin_take 1 (v := ?_) rfl (by kernel_rfl) (by kernel_rfl) (by kernel_rfl) (by kernel_rfl) (fun _ _ _ h => h) rfl ?_ K0 ?_
    rotate_left
    ·
     intro W hW
     go_simp
     (try with_reducible rfl)
    simp only [pu, sa, sz0, ss1]
    refine fin_take 2 (v := ?_) rfl (by kernel_rfl) (by kernel_rfl) (by kernel_rfl) (by kernel_rfl) (fun _ _ _ h => h) rfl ?_ K0 ?_
    rotate_left
    ·
     intro W hW
     have f0 := (hW.cell (p := ⟨g1, o1 + n, none⟩) hg1).trans hc0
     have f1 := (hW.cell (p := ⟨g2, o2 + n, none⟩) hg2).trans hd0
     have l1 := Nat.lt_of_lt_of_le hg1 hW.size
     have l2 := Nat.lt_of_lt_of_le hg2 hW.size
     go_simp
     (try with_reducible rfl)
    simp only [pu, sa, sz0, ss1]
    refine fin_take 3 (v := ?_) rfl (by kernel_rfl) (by kernel_rfl) (by kernel_rfl) (by kernel_rfl) (fun _ _ _ h => h) rfl ?_ K0 ?_
    rotate_left
    ·
     intro W hW
     have f0 := (hW.cell (p := ⟨g1, o1 + n, none⟩) hg1).trans hc0
     have f1 := (hW.cell (p := ⟨g2, o2 + n, none⟩) hg2).trans hd0
     have l1 := Nat.lt_of_lt_of_le hg1 hW.size
     have l2 := Nat.lt_of_lt_of_le hg2 hW.size
     go_simp
     (try with_reducible rfl)
    simp only [pu, sa, sz0, ss1]
    refine fin_take 4 (v := ?_) rfl (by kernel_rfl) (by kernel_rfl) (by kernel_rfl) (by kernel_rfl) (fun _ _ _ h => h) rfl ?_ K0 ?_
    rotate_left
    ·
     intro W hW
     go_simp
     (try with_reducible rfl)
    simp only [pu, sa, sz0, ss1]
    refine fin_take 5 (v := ?_) rfl (by kernel_rfl) (by kernel_rfl) (by kernel_rfl) (by kernel_rfl) (fun _ _ _ h => h) rfl ?_ K0 ?_
    rotate_left
    ·
     intro W hW
     go_simp
     (try with_reducible rfl)
    simp only [pu, sa, sz0, ss1]
    refine fin_take 6 (v := ?_) rfl (by kernel_rfl) (by kernel_rfl) (by kernel_rfl) (by kernel_rfl) (fun _ _ _ h => h) rfl ?_ K0 ?_
    rotate_left
    ·
     intro W hW
     have f0 := (hW.cell (p := ⟨g1, o1 + n, none⟩) hg1).trans hc0
     have f1 := (hW.cell (p := ⟨g2, o2 + n, none⟩) hg2).trans hd0
     have l1 := Nat.lt_of_lt_of_le hg1 hW.size
     have l2 := Nat.lt_of_lt_of_le hg2 hW.size
     go_simp
     (try with_reducible rfl)
    simp only [pu, sa, sz0, ss1]
    refine fin_take 7 (v := ?_) rfl (by kernel_rfl) (by kernel_rfl) (by kernel_rfl) (by kernel_rfl) (fun _ _ _ h => h) rfl ?_ K0 ?_
    rotate_left
    ·
     intro W hW
     have f0 := (hW.cell (p := ⟨g1, o1 + n, none⟩) hg1).trans hc0
     have f1 := (hW.cell (p := ⟨g2, o2 + n, none⟩) hg2).trans hd0
     have l1 := Nat.lt_of_lt_of_le hg1 hW.size
     have l2 := Nat.lt_of_lt_of_le hg2 hW.size
     go_simp
     (try with_reducible rfl)
    simp only [pu, sa, sz0, ss1]
    refine fin_one 8 rfl rfl (by kernel_rfl) (fun K hK => ?_)
    go_simp
    refine (hC _).mono ?_
    rintro _ x1 ⟨rfl, kx1⟩
    have Sx1 := hon _ _ K0 kx1
    have Kx1 := K0.trans kx1
    refine hK.out _ _ (fun _ => Sx1) ?_
    clear hK
    refine fin_take 9 (v := ?_) rfl (by kernel_rfl) (by kernel_rfl) (by kernel_rfl) (by kernel_rfl) (fun _ _ _ h => h) rfl ?_ Sx1 ?_
    rotate_left
    ·
     intro W hW
     go_simp
     (try with_reducible rfl)
    simp only [pu, sa, sz0, ss1]
    refine fin_done (by kernel_rfl) (NoPanic.normal ?_)
    have K1 := HO.out.trans Kx1
    go_wp2
    go_roundg (L.length - (n + 1))
    case measure => omega
    case rel => exact ⟨n + 1, by omega, by omega, rfl, by go_num, K1, HR2⟩
   ·
    rw [if_neg h0] at hr
    have hb : ((z : Int) != 0) = true := by simpa using h0
    subst hr
    clear hx hy HR hc hd h0
    go_upto_region 4 with fail
    have K0 : On wr wr.drew := On.drew (On.refl wr)
    have hon : ∀ W W', On wr W → On W W' → On wr W' := fun W W' h k => h.trans k
    refine region_fin (fun W => On wr W) 99 10 (by kernel_rfl) rfl ?_
    refine fin_take 0 (v := ?_) rfl (by kernel_rfl) (by kernel_rfl) (by kernel_rfl) (by kernel_rfl) (fun _ _ _ h => h) rfl ?_ K0 ?_
    rotate_left
    ·
     intro W hW
     go_simp
     (try with_reducible rfl)
    simp only [pu, sa, sz0, ss1]
    refine fin_take 1 (v := ?_) rfl (by kernel_rfl) (by kernel_rfl) (by kernel_rfl) (by kernel_rfl) (fun _ _ _ h => h) rfl ?_ K0 ?_
    rotate_left
    ·
     intro W hW
     go_simp
     (try with_reducible rfl)
    simp only [pu, sa, sz0, ss1]
    refine fin_take 2 (v := ?_) rfl (by kernel_rfl) (by kernel_rfl) (by kernel_rfl) (by kernel_rfl) (fun _ _ _ h => h) rfl ?_ K0 ?_
    rotate_left
    ·
     intro W hW
     have f0 := (hW.cell (p := ⟨g1, o1 + n, none⟩) hg1).trans hc0
     have f1 := (hW.cell (p := ⟨g2, o2 + n, none⟩) hg2).trans hd0
     have l1 := Nat.lt_of_lt_of_le hg1 hW.size
     have l2 := Nat.lt_of_lt_of_le hg2 hW.size
     go_simp
     (try with_reducible rfl)
    simp only [pu, sa, sz0, ss1]
    refine fin_take 3 (v := ?_) rfl (by kernel_rfl) (by kernel_rfl) (by kernel_rfl) (by kernel_rfl) (fun _ _ _ h => h) rfl ?_ K0 ?_
    rotate_left
    ·
     intro W hW
     have f0 := (hW.cell (p := ⟨g1, o1 + n, none⟩) hg1).trans hc0
     have f1 := (hW.cell (p := ⟨g2, o2 + n, none⟩) hg2).trans hd0
     have l1 := Nat.lt_of_lt_of_le hg1 hW.size
     have l2 := Nat.lt_of_lt_of_le hg2 hW.size
     go_simp
     (try with_reducible rfl)
    simp only [pu, sa, sz0, ss1]
    refine fin_take 4 (v := ?_) rfl (by kernel_rfl) (by kernel_rfl) (by kernel_rfl) (by kernel_rfl) (fun _ _ _ h => h) rfl ?_ K0 ?_
    rotate_left
    ·
     intro W hW
     go_simp
     (try with_reducible rfl)
    simp only [pu, sa, sz0, ss1]
    refine fin_take 5 (v := ?_) rfl (by kernel_rfl) (by kernel_rfl) (by kernel_rfl) (by kernel_rfl) (fun _ _ _ h => h) rfl ?_ K0 ?_
    rotate_left
    ·
     intro W hW
     go_simp
     (try with_reducible rfl)
    simp only [pu, sa, sz0, ss1]
    refine fin_take 6 (v := ?_) rfl (by kernel_rfl) (by kernel_rfl) (by kernel_rfl) (by kernel_rfl) (fun _ _ _ h => h) rfl ?_ K0 ?_
    rotate_left
    ·
     intro W hW
     have f0 := (hW.cell (p := ⟨g1, o1 + n, none⟩) hg1).trans hc0
     have f1 := (hW.cell (p := ⟨g2, o2 + n, none⟩) hg2).trans hd0
     have l1 := Nat.lt_of_lt_of_le hg1 hW.size
     have l2 := Nat.lt_of_lt_of_le hg2 hW.size
     go_simp
     (try with_reducible rfl)
    simp only [pu, sa, sz0, ss1]
    refine fin_take 7 (v := ?_) rfl (by kernel_rfl) (by kernel_rfl) (by kernel_rfl) (by kernel_rfl) (fun _ _ _ h => h) rfl ?_ K0 ?_
    rotate_left
    ·
     intro W hW
     have f0 := (hW.cell (p := ⟨g1, o1 + n, none⟩) hg1).trans hc0
     have f1 := (hW.cell (p := ⟨g2, o2 + n, none⟩) hg2).trans hd0
     have l1 := Nat.lt_of_lt_of_le hg1 hW.size
     have l2 := Nat.lt_of_lt_of_le hg2 hW.size
     go_simp
     (try with_reducible rfl)
    simp only [pu, sa, sz0, ss1]
    refine fin_one 8 rfl rfl (by kernel_rfl) (fun K hK => ?_)
    go_simp
    refine (hC _).mono ?_
    rintro _ x1 ⟨rfl, kx1⟩
    have Sx1 := hon _ _ K0 kx1
    have Kx1 := K0.trans kx1
    refine hK.out _ _ (fun _ => Sx1) ?_
    clear hK
    refine fin_take 9 (v := ?_) rfl (by kernel_rfl) (by kernel_rfl) (by kernel_rfl) (by kernel_rfl) (fun _ _ _ h => h) rfl ?_ Sx1 ?_
    rotate_left
    ·
     intro W hW
     go_simp
     (try with_reducible rfl)
    simp only [pu, sa, sz0, ss1]
    refine fin_done (by kernel_rfl) (NoPanic.normal ?_)
    have K1 := HO.out.trans Kx1
    go_wp2
    go_ret
    exact ⟨rfl, K1⟩
  ·
   have hr := HR.out
   rw [lex_end cmpI L M n hn hnM hgo] at hr
   subst hr
   clear HR
   rcases Nat.lt_or_ge n L.length with hl | hl
   ·
    have dl : decide (n < L.length) = true := decide_eq_true hl
    have dm : decide (n < M.length) = false := decide_eq_false (by omega)
    clear hgo
    go_wp2_with fail
    refine (hBf _).mono ?_
    rintro _ w1 ⟨rfl, k1⟩
    go_wp2
    go_ret
    exact ⟨rfl, HO.out.trans k1⟩
   ·
    have dl : decide (n < L.length) = false := decide_eq_false (by omega)
    clear hgo
    go_wp2_with fail
    refine (hBf _).mono ?_
    rintro _ w1 ⟨rfl, k1⟩
    go_wp2
    go_ret
    exact ⟨rfl, HO.out.trans k1⟩
set_option maxHeartbeats 8000000 in
set_option maxRecDepth 8000 in
theorem rcmp_is (hEvs : ∀ (L M : List EvT) (a b : Option Addr) (c d : Nat) (w : World), Rd evC 6 w (.slice a L.length c) L → Rd evC 6 w (.slice b M.length d) M → Calls Tryz.prog 95 #[.slice a L.length c, .slice b M.length d] w fun e w' => e = .returned (.int .i64 (lexC evCmp L M)) ∧ On w w')
  (x y : ExT) (vx vy : Value) (w : World) (hx : ExRd w vx x) (hy : ExRd w vy y) :
  Calls Tryz.prog 78 #[vx, vy] w fun e w' => e = .returned (.int .i64 (exCmp x y)) ∧ On w w' := by
 obtain ⟨a1, c1, a2, c2, a3, c3, rfl, r1, r2, r3⟩ := hx.ex
 obtain ⟨b1, d1, b2, d2, b3, d3, rfl, s1, s2, s3⟩ := hy.ex
 obtain ⟨WX, hWX⟩ : ∃ WX, WX = (w.alloc (.cells (eA x a1 c1 a2 c2 a3 c3) 41)).alloc (.cells (eA y b1 d1 b2 d2 b3 d3) 41) := ⟨_, rfl⟩
 have KX : On w WX := by rw [hWX]; exact ((On.refl w).alloc _).alloc _
 have AX : Bk WX w.heap.size (eA x a1 c1 a2 c2 a3 c3) := by rw [hWX]; exact (Bk.new w _ _).alloc _
 have BX : Bk WX (w.heap.size + 1) (eA y b1 d1 b2 d2 b3 d3) := by
  rw [hWX]
  have := Bk.new (w.alloc (.cells (eA x a1 c1 a2 c2 a3 c3) 41)) (eA y b1 d1 b2 d2 b3 d3) 41
  rwa [World.size_alloc] at this
 have hE := fun W (k : On WX W) => hEvs x.evs y.evs a1 b1 c1 d1 W (r1.on (KX.trans k)) (s1.on (KX.trans k))
 have hF := fun W (k : On WX W) => rrows_is x.rf y.rf a2 b2 c2 d2 W (r2.on (KX.trans k)) (s2.on (KX.trans k))
 have HA : Hid (Rd2 intC 1 WX (.slice a3 x.co.length c3) x.co) := r3.on KX
 have HB : Hid (Rd2 intC 1 WX (.slice b3 y.co.length d3) y.co) := s3.on KX
 obtain ⟨_, _, _, _, hm⟩ := r3.slice
 obtain ⟨_, _, _, _, hm'⟩ := s3.slice
 obtain ⟨R, hR⟩ : ∃ R, R = exCmp x y := ⟨_, rfl⟩
 rw [← hR]
 unfold exCmp at hR
 have hBf := fun W => bef_is (x.co.length : Int) (y.co.length : Int) W
 generalize lexC evCmp x.evs y.evs = z1 at *
 generalize lexC cmpI x.rf y.rf = z2 at *
 have HR : Hid (R = if z1 = 0 then (if z2 = 0 then lexC (lexC cmpI) x.co y.co else z2) else z1) := hR
 clear r1 r2 r3 s1 s2 s3 hx hy hR hEvs
 go_enter Tryz.func78, Tryz.ntmps78
 go_upto_region 1 with fail
 rw [← hWX]
 clear hWX
 have x0 := AX.at (i := 0) rfl
 have x1 := AX.at (i := 1) rfl
 have x2 := AX.at (i := 2) rfl
 have xl := AX.lt
 have y0 := BX.at (i := 0) rfl
 have y1 := BX.at (i := 1) rfl
 have y2 := BX.at (i := 2) rfl
 have yl := BX.lt
 go_wp2_with fail
 refine (hE _ (On.refl WX)).mono ?_
 rintro _ w1 ⟨rfl, k1⟩
 clear x0 x1 x2 xl y0 y1 y2 yl
 by_cases h1 : z1 = 0
 ·
  have b1' : ((z1 : Int) != 0) = false := by rw [h1]; rfl
  have AX1 := AX.on k1
  have BX1 := BX.on k1
  have x0 := AX1.at (i := 0) rfl
  have x1 := AX1.at (i := 1) rfl
  have x2 := AX1.at (i := 2) rfl
  have xl := AX1.lt
  have y0 := BX1.at (i := 0) rfl
  have y1 := BX1.at (i := 1) rfl
  have y2 := BX1.at (i := 2) rfl
  have yl := BX1.lt
  go_wp2_with fail
  refine (hF _ k1).mono ?_
  rintro _ w2 ⟨rfl, k2⟩
  have K2 := k1.trans k2
  clear x0 x1 x2 xl y0 y1 y2 yl AX1 BX1
  by_cases h2 : z2 = 0
  ·
   have b2' : ((z2 : Int) != 0) = false := by rw [h2]; rfl
   have HR0 : Hid (R = lexC (lexC cmpI) (x.co.drop 0) (y.co.drop 0)) := by show R = _; rw [HR.out, if_pos h1, if_pos h2]; rfl
   clear HR h1 h2
   go_wp2
   go_loopg [7] x.co.length (fun gg s7 wq => ∃ n : Nat, n ≤ x.co.length ∧ n ≤ y.co.length ∧ gg = x.co.length - n ∧ s7 = .int .i64 n ∧ Hid (On WX wq) ∧ Hid (R = lexC (lexC cmpI) (x.co.drop n) (y.co.drop n)))
   case atStart => exact ⟨0, Nat.zero_le _, Nat.zero_le _, rfl, rfl, K2, HR0⟩
   case round =>
    clear HR0
    obtain ⟨n, hn, hnM, hk, rfl, HO, HR⟩ := hrel
    have AXr := AX.on HO.out
    have BXr := BX.on HO.out
    have x2 := AXr.at (i := 2) rfl
    have xl := AXr.lt
    have y2 := BXr.at (i := 2) rfl
    have yl := BXr.lt
    by_cases hgo : n < x.co.length ∧ n < y.co.length
    ·
     obtain ⟨hlt, hltM⟩ := hgo
     obtain ⟨u, hu⟩ : ∃ u, x.co[n]? = some u := ⟨_, List.getElem?_eq_getElem hlt⟩
     obtain ⟨v, hv⟩ : ∃ v, y.co[n]? = some v := ⟨_, List.getElem?_eq_getElem hltM⟩
     obtain ⟨g1, o1, rfl, hg1, ax, cx, hcx, _, rx⟩ := (HA.out.on HO.out).row hu
     obtain ⟨g2, o2, rfl, hg2, ay, cy, hcy, _, ry⟩ := (HB.out.on HO.out).row hv
     have bn0 : (0 : Int) ≤ (n : Int) := by omega
     have bn1 : (n : Int) < (x.co.length : Int) := by omega
     have bn2 : (n : Int) < (y.co.length : Int) := by omega
     have dl : decide (n < x.co.length) = true := decide_eq_true hlt
     have dm : decide (n < y.co.length) = true := decide_eq_true hltM
     have hr := HR.out
     rw [drop_at hu, drop_at hv, lexC] at hr
     have hC := fun W (k : On wr W) => rrows_is u v ax ay cx cy W (rx.on k) (ry.on k)
     generalize lexC cmpI u v = z at *
     by_cases h0 : z = 0
     ·
      rw [if_pos h0] at hr
      have hb : ((z : Int) != 0) = false := by rw [h0]; rfl
      have HR2 : Hid (R = lexC (lexC cmpI) (x.co.drop (n + 1)) (y.co.drop (n + 1))) := hr
      clear hu hv hr HR h0 rx ry
      go_upto_region 10 with fail
      have K0 : On wr wr.drew := On.drew (On.refl wr)
      have hon : ∀ W W', On wr W → On W W' → On wr W' := fun W W' h k => h.trans k
      refine region_fin (fun W => On wr W) 99 12 (by kernel_rfl) rfl ?_
      refine fin_take 0 (v := ?_) rfl (by kernel_rfl) (by kernel_rfl) (by kernel_rfl) (by kernel_rfl) (fun _ _ _ h => h) rfl ?_ K0 ?_
      rotate_left
      ·
       intro W hW
       have f0 := (AXr.on hW).at (i := 2) rfl
       have f1 := (BXr.on hW).at (i := 2) rfl
       have l1 := (AXr.on hW).lt
       have l2 := (BXr.on hW).lt
       have f2 := (hW.cell (p := ⟨g1, o1 + n, none⟩) hg1).trans hcx
       have f3 := (hW.cell (p := ⟨g2, o2 + n, none⟩) hg2).trans hcy
       have l3 := Nat.lt_of_lt_of_le hg1 hW.size
       have l4 := Nat.lt_of_lt_of_le hg2 hW.size
       go_simp
       (try with_reducible rfl)
      simp only [pu, sa, sz0, ss1]
      refine fin_take 1 (v := ?_) rfl (by kernel_rfl) (by kernel_rfl) (by kernel_rfl) (by kernel_rfl) (fun _ _ _ h => h) rfl ?_ K0 ?_
      rotate_left
      ·
       intro W hW
       have f0 := (AXr.on hW).at (i := 2) rfl
       have f1 := (BXr.on hW).at (i := 2) rfl
       have l1 := (AXr.on hW).lt
       have l2 := (BXr.on hW).lt
       have f2 := (hW.cell (p := ⟨g1, o1 + n, none⟩) hg1).trans hcx
       have f3 := (hW.cell (p := ⟨g2, o2 + n, none⟩) hg2).trans hcy
       have l3 := Nat.lt_of_lt_of_le hg1 hW.size
       have l4 := Nat.lt_of_lt_of_le hg2 hW.size
       go_simp
       (try with_reducible rfl)
      simp only [pu, sa, sz0, ss1]
      refine fin_take 2 (v := ?_) rfl (by kernel_rfl) (by kernel_rfl) (by kernel_rfl) (by kernel_rfl) (fun _ _ _ h => h) rfl ?_ K0 ?_
      rotate_left
      ·
       intro W hW
       go_simp
       (try with_reducible rfl)
      simp only [pu, sa, sz0, ss1]
      refine fin_take 3 (v := ?_) rfl (by kernel_rfl) (by kernel_rfl) (by kernel_rfl) (by kernel_rfl) (fun _ _ _ h => h) rfl ?_ K0 ?_
      rotate_left
      ·
       intro W hW
       have f0 := (AXr.on hW).at (i := 2) rfl
       have f1 := (BXr.on hW).at (i := 2) rfl
       have l1 := (AXr.on hW).lt
       have l2 := (BXr.on hW).lt
       have f2 := (hW.cell (p := ⟨g1, o1 + n, none⟩) hg1).trans hcx
       have f3 := (hW.cell (p := ⟨g2, o2 + n, none⟩) hg2).trans hcy
       have l3 := Nat.lt_of_lt_of_le hg1 hW.size
       have l4 := Nat.lt_of_lt_of_le hg2 hW.size
       go_simp
       (try with_reducible rfl)
      simp only [pu, sa, sz0, ss1]
      refine fin_take 4 (v := ?_) rfl (by kernel_rfl) (by kernel_rfl) (by kernel_rfl) (by kernel_rfl) (fun _ _ _ h => h) rfl ?_ K0 ?_
      rotate_left
      ·
       intro W hW
       have f0 := (AXr.on hW).at (i := 2) rfl
       have f1 := (BXr.on hW).at (i := 2) rfl
       have l1 := (AXr.on hW).lt
       have l2 := (BXr.on hW).lt
       have f2 := (hW.cell (p := ⟨g1, o1 + n, none⟩) hg1).trans hcx
       have f3 := (hW.cell (p := ⟨g2, o2 + n, none⟩) hg2).trans hcy
       have l3 := Nat.lt_of_lt_of_le hg1 hW.size
       have l4 := Nat.lt_of_lt_of_le hg2 hW.size
       go_simp
       (try with_reducible rfl)
      simp only [pu, sa, sz0, ss1]
      refine fin_take 5 (v := ?_) rfl (by kernel_rfl) (by kernel_rfl) (by kernel_rfl) (by kernel_rfl) (fun _ _ _ h => h) rfl ?_ K0 ?_
      rotate_left
      ·
       intro W hW
       have f0 := (AXr.on hW).at (i := 2) rfl
       have f1 := (BXr.on hW).at (i := 2) rfl
       have l1 := (AXr.on hW).lt
       have l2 := (BXr.on hW).lt
       have f2 := (hW.cell (p := ⟨g1, o1 + n, none⟩) hg1).trans hcx
       have f3 := (hW.cell (p := ⟨g2, o2 + n, none⟩) hg2).trans hcy
       have l3 := Nat.lt_of_lt_of_le hg1 hW.size
       have l4 := Nat.lt_of_lt_of_le hg2 hW.size
       go_simp
       (try with_reducible rfl)
      simp only [pu, sa, sz0, ss1]
      refine fin_take 6 (v := ?_) rfl (by kernel_rfl) (by kernel_rfl) (by kernel_rfl) (by kernel_rfl) (fun _ _ _ h => h) rfl ?_ K0 ?_
      rotate_left
      ·
       intro W hW
       have f0 := (AXr.on hW).at (i := 2) rfl
       have f1 := (BXr.on hW).at (i := 2) rfl
       have l1 := (AXr.on hW).lt
       have l2 := (BXr.on hW).lt
       have f2 := (hW.cell (p := ⟨g1, o1 + n, none⟩) hg1).trans hcx
       have f3 := (hW.cell (p := ⟨g2, o2 + n, none⟩) hg2).trans hcy
       have l3 := Nat.lt_of_lt_of_le hg1 hW.size
       have l4 := Nat.lt_of_lt_of_le hg2 hW.size
       go_simp
       (try with_reducible rfl)
      simp only [pu, sa, sz0, ss1]
      refine fin_take 7 (v := ?_) rfl (by kernel_rfl) (by kernel_rfl) (by kernel_rfl) (by kernel_rfl) (fun _ _ _ h => h) rfl ?_ K0 ?_
      rotate_left
      ·
       intro W hW
       go_simp
       (try with_reducible rfl)
      simp only [pu, sa, sz0, ss1]
      refine fin_take 8 (v := ?_) rfl (by kernel_rfl) (by kernel_rfl) (by kernel_rfl) (by kernel_rfl) (fun _ _ _ h => h) rfl ?_ K0 ?_
      rotate_left
      ·
       intro W hW
       have f0 := (AXr.on hW).at (i := 2) rfl
       have f1 := (BXr.on hW).at (i := 2) rfl
       have l1 := (AXr.on hW).lt
       have l2 := (BXr.on hW).lt
       have f2 := (hW.cell (p := ⟨g1, o1 + n, none⟩) hg1).trans hcx
       have f3 := (hW.cell (p := ⟨g2, o2 + n, none⟩) hg2).trans hcy
       have l3 := Nat.lt_of_lt_of_le hg1 hW.size
       have l4 := Nat.lt_of_lt_of_le hg2 hW.size
       go_simp
       (try with_reducible rfl)
      simp only [pu, sa, sz0, ss1]
      refine fin_take 9 (v := ?_) rfl (by kernel_rfl) (by kernel_rfl) (by kernel_rfl) (by kernel_rfl) (fun _ _ _ h => h) rfl ?_ K0 ?_
      rotate_left
      ·
       intro W hW
       have f0 := (AXr.on hW).at (i := 2) rfl
       have f1 := (BXr.on hW).at (i := 2) rfl
       have l1 := (AXr.on hW).lt
       have l2 := (BXr.on hW).lt
       have f2 := (hW.cell (p := ⟨g1, o1 + n, none⟩) hg1).trans hcx
       have f3 := (hW.cell (p := ⟨g2, o2 + n, none⟩) hg2).trans hcy
       have l3 := Nat.lt_of_lt_of_le hg1 hW.size
       have l4 := Nat.lt_of_lt_of_le hg2 hW.size
       go_simp
       (try with_reducible rfl)
      simp only [pu, sa, sz0, ss1]
      refine fin_one 10 rfl rfl (by kernel_rfl) (fun K hK => ?_)
      go_simp
      refine (hC _ K0).mono ?_
      rintro _ x1 ⟨rfl, kx1⟩
      have Sx1 := hon _ _ K0 kx1
      have Kx1 := K0.trans kx1
      refine hK.out _ _ (fun _ => Sx1) ?_
      clear hK
      refine fin_take 11 (v := ?_) rfl (by kernel_rfl) (by kernel_rfl) (by kernel_rfl) (by kernel_rfl) (fun _ _ _ h => h) rfl ?_ Sx1 ?_
      rotate_left
      ·
       intro W hW
       go_simp
       (try with_reducible rfl)
      simp only [pu, sa, sz0, ss1]
      refine fin_done (by kernel_rfl) (NoPanic.normal ?_)
      have K1 := HO.out.trans Kx1
      go_wp2
      go_roundg (x.co.length - (n + 1))
      case measure => omega
      case rel => exact ⟨n + 1, by omega, by omega, rfl, by go_num, K1, HR2⟩
     ·
      rw [if_neg h0] at hr
      have hb : ((z : Int) != 0) = true := by simpa using h0
      subst hr
      clear hu hv HR h0 rx ry
      go_upto_region 10 with fail
      have K0 : On wr wr.drew := On.drew (On.refl wr)
      have hon : ∀ W W', On wr W → On W W' → On wr W' := fun W W' h k => h.trans k
      refine region_fin (fun W => On wr W) 99 12 (by kernel_rfl) rfl ?_
      refine fin_take 0 (v := ?_) rfl (by kernel_rfl) (by kernel_rfl) (by kernel_rfl) (by kernel_rfl) (fun _ _ _ h => h) rfl ?_ K0 ?_
      rotate_left
      ·
       intro W hW
       have f0 := (AXr.on hW).at (i := 2) rfl
       have f1 := (BXr.on hW).at (i := 2) rfl
       have l1 := (AXr.on hW).lt
       have l2 := (BXr.on hW).lt
       have f2 := (hW.cell (p := ⟨g1, o1 + n, none⟩) hg1).trans hcx
       have f3 := (hW.cell (p := ⟨g2, o2 + n, none⟩) hg2).trans hcy
       have l3 := Nat.lt_of_lt_of_le hg1 hW.size
       have l4 := Nat.lt_of_lt_of_le hg2 hW.size
       go_simp
       (try with_reducible rfl)
      simp only [pu, sa, sz0, ss1]
      refine fin_take 1 (v := ?_) rfl (by kernel_rfl) (by kernel_rfl) (by kernel_rfl) (by kernel_rfl) (fun _ _ _ h => h) rfl ?_ K0 ?_
      rotate_left
      ·
       intro W hW
       have f0 := (AXr.on hW).at (i := 2) rfl
       have f1 := (BXr.on hW).at (i := 2) rfl
       have l1 := (AXr.on hW).lt
       have l2 := (BXr.on hW).lt
       have f2 := (hW.cell (p := ⟨g1, o1 + n, none⟩) hg1).trans hcx
       have f3 := (hW.cell (p := ⟨g2, o2 + n, none⟩) hg2).trans hcy
       have l3 := Nat.lt_of_lt_of_le hg1 hW.size
       have l4 := Nat.lt_of_lt_of_le hg2 hW.size
       go_simp
       (try with_reducible rfl)
      simp only [pu, sa, sz0, ss1]
      refine fin_take 2 (v := ?_) rfl (by kernel_rfl) (by kernel_rfl) (by kernel_rfl) (by kernel_rfl) (fun _ _ _ h => h) rfl ?_ K0 ?_
      rotate_left
      ·
       intro W hW
       go_simp
       (try with_reducible rfl)
      simp only [pu, sa, sz0, ss1]
      refine fin_take 3 (v := ?_) rfl (by kernel_rfl) (by kernel_rfl) (by kernel_rfl) (by kernel_rfl) (fun _ _ _ h => h) rfl ?_ K0 ?_
      rotate_left
      ·
       intro W hW
       have f0 := (AXr.on hW).at (i := 2) rfl
       have f1 := (BXr.on hW).at (i := 2) rfl
       have l1 := (AXr.on hW).lt
       have l2 := (BXr.on hW).lt
       have f2 := (hW.cell (p := ⟨g1, o1 + n, none⟩) hg1).trans hcx
       have f3 := (hW.cell (p := ⟨g2, o2 + n, none⟩) hg2).trans hcy
       have l3 := Nat.lt_of_lt_of_le hg1 hW.size
       have l4 := Nat.lt_of_lt_of_le hg2 hW.size
       go_simp
       (try with_reducible rfl)
      simp only [pu, sa, sz0, ss1]
      refine fin_take 4 (v := ?_) rfl (by kernel_rfl) (by kernel_rfl) (by kernel_rfl) (by kernel_rfl) (fun _ _ _ h => h) rfl ?_ K0 ?_
      rotate_left
      ·
       intro W hW
       have f0 := (AXr.on hW).at (i := 2) rfl
       have f1 := (BXr.on hW).at (i := 2) rfl
       have l1 := (AXr.on hW).lt
       have l2 := (BXr.on hW).lt
       have f2 := (hW.cell (p := ⟨g1, o1 + n, none⟩) hg1).trans hcx
       have f3 := (hW.cell (p := ⟨g2, o2 + n, none⟩) hg2).trans hcy
       have l3 := Nat.lt_of_lt_of_le hg1 hW.size
       have l4 := Nat.lt_of_lt_of_le hg2 hW.size
       go_simp
       (try with_reducible rfl)
      simp only [pu, sa, sz0, ss1]
      refine fin_take 5 (v := ?_) rfl (by kernel_rfl) (by kernel_rfl) (by kernel_rfl) (by kernel_rfl) (fun _ _ _ h => h) rfl ?_ K0 ?_
      rotate_left
      ·
       intro W hW
       have f0 := (AXr.on hW).at (i := 2) rfl
       have f1 := (BXr.on hW).at (i := 2) rfl
       have l1 := (AXr.on hW).lt
       have l2 := (BXr.on hW).lt
       have f2 := (hW.cell (p := ⟨g1, o1 + n, none⟩) hg1).trans hcx
       have f3 := (hW.cell (p := ⟨g2, o2 + n, none⟩) hg2).trans hcy
       have l3 := Nat.lt_of_lt_of_le hg1 hW.size
       have l4 := Nat.lt_of_lt_of_le hg2 hW.size
       go_simp
       (try with_reducible rfl)
      simp only [pu, sa, sz0, ss1]
      refine fin_take 6 (v := ?_) rfl (by kernel_rfl) (by kernel_rfl) (by kernel_rfl) (by kernel_rfl) (fun _ _ _ h => h) rfl ?_ K0 ?_
      rotate_left
      ·
       intro W hW
       have f0 := (AXr.on hW).at (i := 2) rfl
       have f1 := (BXr.on hW).at (i := 2) rfl
       have l1 := (AXr.on hW).lt
       have l2 := (BXr.on hW).lt
       have f2 := (hW.cell (p := ⟨g1, o1 + n, none⟩) hg1).trans hcx
       have f3 := (hW.cell (p := ⟨g2, o2 + n, none⟩) hg2).trans hcy
       have l3 := Nat.lt_of_lt_of_le hg1 hW.size
       have l4 := Nat.lt_of_lt_of_le hg2 hW.size
       go_simp
       (try with_reducible rfl)
      simp only [pu, sa, sz0, ss1]
      refine fin_take 7 (v := ?_) rfl (by kernel_rfl) (by kernel_rfl) (by kernel_rfl) (by kernel_rfl) (fun _ _ _ h => h) rfl ?_ K0 ?_
      rotate_left
      ·
       intro W hW
       go_simp
       (try with_reducible rfl)
      simp only [pu, sa, sz0, ss1]
      refine fin_take 8 (v := ?_) rfl (by kernel_rfl) (by kernel_rfl) (by kernel_rfl) (by kernel_rfl) (fun _ _ _ h => h) rfl ?_ K0 ?_
      rotate_left
      ·
       intro W hW
       have f0 := (AXr.on hW).at (i := 2) rfl
       have f1 := (BXr.on hW).at (i := 2) rfl
       have l1 := (AXr.on hW).lt
       have l2 := (BXr.on hW).lt
       have f2 := (hW.cell (p := ⟨g1, o1 + n, none⟩) hg1).trans hcx
       have f3 := (hW.cell (p := ⟨g2, o2 + n, none⟩) hg2).trans hcy
       have l3 := Nat.lt_of_lt_of_le hg1 hW.size
       have l4 := Nat.lt_of_lt_of_le hg2 hW.size
       go_simp
       (try with_reducible rfl)
      simp only [pu, sa, sz0, ss1]
      refine fin_take 9 (v := ?_) rfl (by kernel_rfl) (by kernel_rfl) (by kernel_rfl) (by kernel_rfl) (fun _ _ _ h => h) rfl ?_ K0 ?_
      rotate_left
      ·
       intro W hW
       have f0 := (AXr.on hW).at (i := 2) rfl
       have f1 := (BXr.on hW).at (i := 2) rfl
       have l1 := (AXr.on hW).lt
       have l2 := (BXr.on hW).lt
       have f2 := (hW.cell (p := ⟨g1, o1 + n, none⟩) hg1).trans hcx
       have f3 := (hW.cell (p := ⟨g2, o2 + n, none⟩) hg2).trans hcy
       have l3 := Nat.lt_of_lt_of_le hg1 hW.size
       have l4 := Nat.lt_of_lt_of_le hg2 hW.size
       go_simp
       (try with_reducible rfl)
      simp only [pu, sa, sz0, ss1]
      refine fin_one 10 rfl rfl (by kernel_rfl) (fun K hK => ?_)
      go_simp
      refine (hC _ K0).mono ?_
      rintro _ x1 ⟨rfl, kx1⟩
      have Sx1 := hon _ _ K0 kx1
      have Kx1 := K0.trans kx1
      refine hK.out _ _ (fun _ => Sx1) ?_
      clear hK
      refine fin_take 11 (v := ?_) rfl (by kernel_rfl) (by kernel_rfl) (by kernel_rfl) (by kernel_rfl) (fun _ _ _ h => h) rfl ?_ Sx1 ?_
      rotate_left
      ·
       intro W hW
       go_simp
       (try with_reducible rfl)
      simp only [pu, sa, sz0, ss1]
      refine fin_done (by kernel_rfl) (NoPanic.normal ?_)
      have K1 := HO.out.trans Kx1
      go_wp2
      go_ret
      exact ⟨rfl, KX.trans K1⟩
    ·
     have hr := HR.out
     rw [lex_end (lexC cmpI) x.co y.co n hn hnM hgo] at hr
     subst hr
     clear HR
     rcases Nat.lt_or_ge n x.co.length with hl | hl
     ·
      have dl : decide (n < x.co.length) = true := decide_eq_true hl
      have dm : decide (n < y.co.length) = false := decide_eq_false (by omega)
      clear hgo
      go_wp2_with fail
      refine (hBf _).mono ?_
      rintro _ w3 ⟨rfl, k3⟩
      go_wp2
      go_ret
      exact ⟨rfl, KX.trans (HO.out.trans k3)⟩
     ·
      have dl : decide (n < x.co.length) = false := decide_eq_false (by omega)
      clear hgo
      go_wp2_with fail
      refine (hBf _).mono ?_
      rintro _ w3 ⟨rfl, k3⟩
      go_wp2
      go_ret
      exact ⟨rfl, KX.trans (HO.out.trans k3)⟩
  ·
   have b2' : ((z2 : Int) != 0) = true := by simpa using h2
   obtain rfl : R = z2 := by rw [HR.out, if_pos h1, if_neg h2]
   go_wp2
   go_ret
   exact ⟨rfl, KX.trans K2⟩
 ·
  have b1' : ((z1 : Int) != 0) = true := by simpa using h1
  obtain rfl : R = z1 := by rw [HR.out, if_neg h1]
  go_wp2
  go_ret
  exact ⟨rfl, KX.trans k1⟩
end Go.Proofs.YtcfohakgokiedaaGreatDoor
