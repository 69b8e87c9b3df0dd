/- The document's own order of executions: before, rows, evs, Cmp. -/
import Derived.Test.YtioiabfheeglgaaGreatDoorJ22ExD
import Derived.Test.YtioiabfheeglgaaGreatDoorJ03RegGrow
namespace Go.Proofs.YtioiabfheeglgaaGreatDoor
open Go.RowKit

theorem lex_end {α : Type} (f : α → α → Int) (L M : List α) (n : Nat) (h1 : n ≤ L.length) (h2 : n ≤ M.length) (h : ¬ (n < L.length ∧ n < M.length)) : lexC f (L.drop n) (M.drop n) = cmpI L.length M.length := by
 unfold cmpI
 rcases Nat.lt_or_ge n L.length with hl | hl
 ·
  have hm : n = M.length := by omega
  rw [List.drop_eq_nil_of_le (by omega : M.length ≤ n), if_neg (by omega), if_pos (by omega)]
  rw [List.drop_eq_getElem_cons hl]
  rfl
 ·
  rw [List.drop_eq_nil_of_le hl]
  rcases Nat.lt_or_ge n M.length with hm | hm
  ·
   rw [List.drop_eq_getElem_cons hm, if_pos (by omega)]
   rfl
  ·
   rw [List.drop_eq_nil_of_le hm, if_neg (by omega), if_neg (by omega)]
   rfl
set_option maxHeartbeats 1000000 in
theorem bef_is (x y : Int) (w : World) : Calls Tryz.prog 97 #[.int .i64 x, .int .i64 y] w fun e w' => e = .returned (.int .i64 (cmpI x y)) ∧ On w w' := by
 unfold cmpI
 by_cases a : x < y
 ·
  have da : decide (x < y) = true := decide_eq_true a
  rw [if_pos a]
  go_enter Tryz.func97, Tryz.ntmps97
  go_wp2
  go_ret
  exact ⟨rfl, On.refl w⟩
 ·
  have da : decide (x < y) = false := decide_eq_false a
  rw [if_neg a]
  by_cases b : y < x
  ·
   have db : decide (y < x) = true := decide_eq_true b
   rw [if_pos b]
   go_enter Tryz.func97, Tryz.ntmps97
   go_wp2
   go_ret
   exact ⟨rfl, On.refl w⟩
  ·
   have db : decide (y < x) = false := decide_eq_false b
   rw [if_neg b]
   go_enter Tryz.func97, Tryz.ntmps97
   go_wp2
   go_ret
   exact ⟨rfl, On.refl w⟩
set_option maxHeartbeats 4000000 in
set_option maxRecDepth 8000 in
theorem rrows_is (L M : List Int) (a b : Option Addr) (c d : Nat) (w : World) (h : Rd intC 1 w (.slice a L.length c) L) (h' : Rd intC 1 w (.slice b M.length d) M) :
  Calls Tryz.prog 96 #[.slice a L.length c, .slice b M.length d] w fun e w' => e = .returned (.int .i64 (lexC cmpI L M)) ∧ On w w' := by
 obtain ⟨_, _, _, _, hm⟩ := h.slice
 obtain ⟨_, _, _, _, hm'⟩ := h'.slice
 have HA : Hid (Rd intC 1 w (.slice a L.length c) L) := h
 have HB : Hid (Rd intC 1 w (.slice b M.length d) M) := h'
 obtain ⟨R, hR⟩ : ∃ R, R = lexC cmpI L M := ⟨_, rfl⟩
 rw [← hR]
 have HR : Hid (R = lexC cmpI (L.drop 0) (M.drop 0)) := hR
 have hBf := fun W => bef_is (L.length : Int) (M.length : Int) W
 clear h h' hR
 go_enter Tryz.func96, Tryz.ntmps96
 go_wp2
 go_loopg [5] L.length (fun gg s5 wq => ∃ n : Nat, n ≤ L.length ∧ n ≤ M.length ∧ gg = L.length - n ∧ s5 = .int .i64 n ∧ Hid (On w wq) ∧ Hid (R = lexC cmpI (L.drop n) (M.drop n)))
 case atStart => exact ⟨0, Nat.zero_le _, Nat.zero_le _, rfl, rfl, On.refl w, HR⟩
 case round =>
  clear HR
  obtain ⟨n, hn, hnM, hk, rfl, HO, HR⟩ := hrel
  by_cases hgo : n < L.length ∧ n < M.length
  ·
   obtain ⟨hlt, hltM⟩ := hgo
   obtain ⟨x, hx⟩ : ∃ x, L[n]? = some x := ⟨_, List.getElem?_eq_getElem hlt⟩
   obtain ⟨g1, o1, rfl, hg1, hc⟩ := (HA.out.on HO.out).at hx
   have hc0 := hc 0 _ rfl
   rw [Nat.mul_one, Nat.add_zero] at hc0
   have hr := HR.out
   have bn0 : (0 : Int) ≤ (n : Int) := by omega
   have bn1 : (n : Int) < (L.length : Int) := by omega
   obtain ⟨y, hy⟩ : ∃ y, M[n]? = some y := ⟨_, List.getElem?_eq_getElem hltM⟩
   obtain ⟨g2, o2, rfl, hg2, hd⟩ := (HB.out.on HO.out).at hy
   have hd0 := hd 0 _ rfl
   rw [Nat.mul_one, Nat.add_zero] at hd0
   have bn2 : (n : Int) < (M.length : Int) := by omega
   have dl : decide (n < L.length) = true := decide_eq_true hlt
   have dm : decide (n < M.length) = true := decide_eq_true hltM
   rw [drop_at hx, drop_at hy, lexC] at hr
   have hC := bef_is x y
   generalize cmpI x y = z at *
   by_cases h0 : z = 0
   ·
    rw [if_pos h0] at hr
    have hb : ((z : Int) != 0) = false := by rw [h0]; rfl
    have HR2 : Hid (R = lexC cmpI (L.drop (n + 1)) (M.drop (n + 1))) := hr
    clear hx hy hr HR hc hd h0
    go_upto_region 4 with fail
    have K0 : On wr wr.drew := On.drew (On.refl wr)
    have hon : ∀ W W', On wr W → On W W' → On wr W' := fun W W' h k => h.trans k
    refine region_fin (fun W => On wr W) 99 10 (by kernel_rfl) rfl ?_
    refine fin_take 0 (v := ?_) rfl (by kernel_rfl) (by kernel_rfl) (by kernel_rfl) (by kernel_rfl) (fun _ _ _ h => h) rfl ?_ K0 ?_
    rotate_left
    ·
     intro W hW
     go_simp
     (try with_reducible rfl)
    simp only [zpu, zsa, zsz, zss]
    refine fin_take 1 (v := ?_) rfl (by kernel_rfl) (by kernel_rfl) (by kernel_rfl) (by kernel_rfl) (fun _ _ _ h => h) rfl ?_ K0 ?_
    rotate_left
    ·
     intro W hW
     go_simp
     (try with_reducible rfl)
    simp only [zpu, zsa, zsz, zss]
    refine fin_take 2 (v := ?_) rfl (by kernel_rfl) (by kernel_rfl) (by kernel_rfl) (by kernel_rfl) (fun _ _ _ h => h) rfl ?_ K0 ?_
    rotate_left
    ·
     intro W hW
     have f0 := (hW.cell (p := ⟨g1, o1 + n, none⟩) hg1).trans hc0
     have f1 := (hW.cell (p := ⟨g2, o2 + n, none⟩) hg2).trans hd0
     have l1 := Nat.lt_of_lt_of_le hg1 hW.size
     have l2 := Nat.lt_of_lt_of_le hg2 hW.size
     go_simp
     (try with_reducible rfl)
    simp only [zpu, zsa, zsz, zss]
    refine fin_take 3 (v := ?_) rfl (by kernel_rfl) (by kernel_rfl) (by kernel_rfl) (by kernel_rfl) (fun _ _ _ h => h) rfl ?_ K0 ?_
    rotate_left
    ·
     intro W hW
     have f0 := (hW.cell (p := ⟨g1, o1 + n, none⟩) hg1).trans hc0
     have f1 := (hW.cell (p := ⟨g2, o2 + n, none⟩) hg2).trans hd0
     have l1 := Nat.lt_of_lt_of_le hg1 hW.size
     have l2 := Nat.lt_of_lt_of_le hg2 hW.size
     go_simp
     (try with_reducible rfl)
    simp only [zpu, zsa, zsz, zss]
    refine fin_take 4 (v := ?_) rfl (by kernel_rfl) (by kernel_rfl) (by kernel_rfl) (by kernel_rfl) (fun _ _ _ h => h) rfl ?_ K0 ?_
    rotate_left
    ·
     intro W hW
     go_simp
     (try with_reducible rfl)
    simp only [zpu, zsa, zsz, zss]
    refine fin_take 5 (v := ?_) rfl (by kernel_rfl) (by kernel_rfl) (by kernel_rfl) (by kernel_rfl) (fun _ _ _ h => h) rfl ?_ K0 ?_
    rotate_left
    ·
     intro W hW
     go_simp
     (try with_reducible rfl)
    simp only [zpu, zsa, zsz, zss]
    refine fin_take 6 (v := ?_) rfl (by kernel_rfl) (by kernel_rfl) (by kernel_rfl) (by kernel_rfl) (fun _ _ _ h => h) rfl ?_ K0 ?_
    rotate_left
    ·
     intro W hW
     have f0 := (hW.cell (p := ⟨g1, o1 + n, none⟩) hg1).trans hc0
     have f1 := (hW.cell (p := ⟨g2, o2 + n, none⟩) hg2).trans hd0
     have l1 := Nat.lt_of_lt_of_le hg1 hW.size
     have l2 := Nat.lt_of_lt_of_le hg2 hW.size
     go_simp
     (try with_reducible rfl)
    simp only [zpu, zsa, zsz, zss]
    refine fin_take 7 (v := ?_) rfl (by kernel_rfl) (by kernel_rfl) (by kernel_rfl) (by kernel_rfl) (fun _ _ _ h => h) rfl ?_ K0 ?_
    rotate_left
    ·
     intro W hW
     have f0 := (hW.cell (p := ⟨g1, o1 + n, none⟩) hg1).trans hc0
     have f1 := (hW.cell (p := ⟨g2, o2 + n, none⟩) hg2).trans hd0
     have l1 := Nat.lt_of_lt_of_le hg1 hW.size
     have l2 := Nat.lt_of_lt_of_le hg2 hW.size
     go_simp
     (try with_reducible rfl)
    simp only [zpu, zsa, zsz, zss]
    refine fin_one 8 rfl rfl (by kernel_rfl) (fun K hK => ?_)
    go_simp
    refine (hC _).mono ?_
    rintro _ x1 ⟨rfl, kx1⟩
    have Sx1 := hon _ _ K0 kx1
    have Kx1 := K0.trans kx1
    refine hK.out _ _ (fun _ => Sx1) ?_
    clear hK
    refine fin_take 9 (v := ?_) rfl (by kernel_rfl) (by kernel_rfl) (by kernel_rfl) (by kernel_rfl) (fun _ _ _ h => h) rfl ?_ Sx1 ?_
    rotate_left
    ·
     intro W hW
     go_simp
     (try with_reducible rfl)
    simp only [zpu, zsa, zsz, zss]
    refine fin_done (by kernel_rfl) (NoPanic.normal ?_)
    have K1 := HO.out.trans Kx1
    go_wp2
    go_roundg (L.length - (n + 1))
    case measure => omega
    case rel => exact ⟨n + 1, by omega, by omega, rfl, by go_num, K1, HR2⟩
   ·
    rw [if_neg h0] at hr
    have hb : ((z : Int) != 0) = true := by simpa using h0
    subst hr
    clear hx hy HR hc hd h0
    go_upto_region 4 with fail
    have K0 : On wr wr.drew := On.drew (On.refl wr)
    have hon : ∀ W W', On wr W → On W W' → On wr W' := fun W W' h k => h.trans k
    refine region_fin (fun W => On wr W) 99 10 (by kernel_rfl) rfl ?_
    refine fin_take 0 (v := ?_) rfl (by kernel_rfl) (by kernel_rfl) (by kernel_rfl) (by kernel_rfl) (fun _ _ _ h => h) rfl ?_ K0 ?_
    rotate_left
    ·
     intro W hW
     go_simp
     (try with_reducible rfl)
    simp only [zpu, zsa, zsz, zss]
    refine fin_take 1 (v := ?_) rfl (by kernel_rfl) (by kernel_rfl) (by kernel_rfl) (by kernel_rfl) (fun _ _ _ h => h) rfl ?_ K0 ?_
    rotate_left
    ·
     intro W hW
     go_simp
     (try with_reducible rfl)
    simp only [zpu, zsa, zsz, zss]
    refine fin_take 2 (v := ?_) rfl (by kernel_rfl) (by kernel_rfl) (by kernel_rfl) (by kernel_rfl) (fun _ _ _ h => h) rfl ?_ K0 ?_
    rotate_left
    ·
     intro W hW
     have f0 := (hW.cell (p := ⟨g1, o1 + n, none⟩) hg1).trans hc0
     have f1 := (hW.cell (p := ⟨g2, o2 + n, none⟩) hg2).trans hd0
     have l1 := Nat.lt_of_lt_of_le hg1 hW.size
     have l2 := Nat.lt_of_lt_of_le hg2 hW.size
     go_simp
     (try with_reducible rfl)
    simp only [zpu, zsa, zsz, zss]
    refine fin_take 3 (v := ?_) rfl (by kernel_rfl) (by kernel_rfl) (by kernel_rfl) (by kernel_rfl) (fun _ _ _ h => h) rfl ?_ K0 ?_
    rotate_left
    ·
     intro W hW
     have f0 := (hW.cell (p := ⟨g1, o1 + n, none⟩) hg1).trans hc0
     have f1 := (hW.cell (p := ⟨g2, o2 + n, none⟩) hg2).trans hd0
     have l1 := Nat.lt_of_lt_of_le hg1 hW.size
     have l2 := Nat.lt_of_lt_of_le hg2 hW.size
     go_simp
     (try with_reducible rfl)
    simp only [zpu, zsa, zsz, zss]
    refine fin_take 4 (v := ?_) rfl (by kernel_rfl) (by kernel_rfl) (by kernel_rfl) (by kernel_rfl) (fun _ _ _ h => h) rfl ?_ K0 ?_
    rotate_left
    ·
     intro W hW
     go_simp
     (try with_reducible rfl)
    simp only [zpu, zsa, zsz, zss]
    refine fin_take 5 (v := ?_) rfl (by kernel_rfl) (by kernel_rfl) (by kernel_rfl) (by kernel_rfl) (fun _ _ _ h => h) rfl ?_ K0 ?_
    rotate_left
    ·
     intro W hW
     go_simp
     (try with_reducible rfl)
    simp only [zpu, zsa, zsz, zss]
    refine fin_take 6 (v := ?_) rfl (by kernel_rfl) (by kernel_rfl) (by kernel_rfl) (by kernel_rfl) (fun _ _ _ h => h) rfl ?_ K0 ?_
    rotate_left
    ·
     intro W hW
     have f0 := (hW.cell (p := ⟨g1, o1 + n, none⟩) hg1).trans hc0
     have f1 := (hW.cell (p := ⟨g2, o2 + n, none⟩) hg2).trans hd0
     have l1 := Nat.lt_of_lt_of_le hg1 hW.size
     have l2 := Nat.lt_of_lt_of_le hg2 hW.size
     go_simp
     (try with_reducible rfl)
    simp only [zpu, zsa, zsz, zss]
    refine fin_take 7 (v := ?_) rfl (by kernel_rfl) (by kernel_rfl) (by kernel_rfl) (by kernel_rfl) (fun _ _ _ h => h) rfl ?_ K0 ?_
    rotate_left
    ·
     intro W hW
     have f0 := (hW.cell (p := ⟨g1, o1 + n, none⟩) hg1).trans hc0
     have f1 := (hW.cell (p := ⟨g2, o2 + n, none⟩) hg2).trans hd0
     have l1 := Nat.lt_of_lt_of_le hg1 hW.size
     have l2 := Nat.lt_of_lt_of_le hg2 hW.size
     go_simp
     (try with_reducible rfl)
    simp only [zpu, zsa, zsz, zss]
    refine fin_one 8 rfl rfl (by kernel_rfl) (fun K hK => ?_)
    go_simp
    refine (hC _).mono ?_
    rintro _ x1 ⟨rfl, kx1⟩
    have Sx1 := hon _ _ K0 kx1
    have Kx1 := K0.trans kx1
    refine hK.out _ _ (fun _ => Sx1) ?_
    clear hK
    refine fin_take 9 (v := ?_) rfl (by kernel_rfl) (by kernel_rfl) (by kernel_rfl) (by kernel_rfl) (fun _ _ _ h => h) rfl ?_ Sx1 ?_
    rotate_left
    ·
     intro W hW
     go_simp
     (try with_reducible rfl)
    simp only [zpu, zsa, zsz, zss]
    refine fin_done (by kernel_rfl) (NoPanic.normal ?_)
    have K1 := HO.out.trans Kx1
    go_wp2
    go_ret
    exact ⟨rfl, K1⟩
  ·
   have hr := HR.out
   rw [lex_end cmpI L M n hn hnM hgo] at hr
   subst hr
   clear HR
   rcases Nat.lt_or_ge n L.length with hl | hl
   ·
    have dl : decide (n < L.length) = true := decide_eq_true hl
    have dm : decide (n < M.length) = false := decide_eq_false (by omega)
    clear hgo
    go_wp2_with fail
    refine (hBf _).mono ?_
    rintro _ w1 ⟨rfl, k1⟩
    go_wp2
    go_ret
    exact ⟨rfl, HO.out.trans k1⟩
   ·
    have dl : decide (n < L.length) = false := decide_eq_false (by omega)
    clear hgo
    go_wp2_with fail
    refine (hBf _).mono ?_
    rintro _ w1 ⟨rfl, k1⟩
    go_wp2
    go_ret
    exact ⟨rfl, HO.out.trans k1⟩
set_option maxHeartbeats 8000000 in
set_option maxRecDepth 8000 in
theorem rcmp_is (hEvs : ∀ (L M : List EvT) (a b : Option Addr) (c d : Nat) (w : World), Rd evC 6 w (.slice a L.length c) L → Rd evC 6 w (.slice b M.length d) M → Calls Tryz.prog 95 #[.slice a L.length c, .slice b M.length d] w fun e w' => e = .returned (.int .i64 (lexC evCmp L M)) ∧ On w w')
  (x y : ExT) (vx vy : Value) (w : World) (hx : ExRd w vx x) (hy : ExRd w vy y) :
  Calls Tryz.prog 78 #[vx, vy] w fun e w' => e = .returned (.int .i64 (exCmp x y)) ∧ On w w' := by
 obtain ⟨a1, c1, a2, c2, a3, c3, rfl, r1, r2, r3⟩ := hx.ex
 obtain ⟨b1, d1, b2, d2, b3, d3, rfl, s1, s2, s3⟩ := hy.ex
 obtain ⟨WX, hWX⟩ : ∃ WX, WX = (w.alloc (.cells (eA x a1 c1 a2 c2 a3 c3) 41)).alloc (.cells (eA y b1 d1 b2 d2 b3 d3) 41) := ⟨_, rfl⟩
 have KX : On w WX := by rw [hWX]; exact ((On.refl w).alloc _).alloc _
 have AX : Bk WX w.heap.size (eA x a1 c1 a2 c2 a3 c3) := by rw [hWX]; exact (Bk.new w _ _).alloc _
 have BX : Bk WX (w.heap.size + 1) (eA y b1 d1 b2 d2 b3 d3) := by
  rw [hWX]
  have := Bk.new (w.alloc (.cells (eA x a1 c1 a2 c2 a3 c3) 41)) (eA y b1 d1 b2 d2 b3 d3) 41
  rwa [World.size_alloc] at this
 have hE := fun W (k : On WX W) => hEvs x.evs y.evs a1 b1 c1 d1 W (r1.on (KX.trans k)) (s1.on (KX.trans k))
 have hF := fun W (k : On WX W) => rrows_is x.rf y.rf a2 b2 c2 d2 W (r2.on (KX.trans k)) (s2.on (KX.trans k))
 have HA : Hid (Rd2 intC 1 WX (.slice a3 x.co.length c3) x.co) := r3.on KX
 have HB : Hid (Rd2 intC 1 WX (.slice b3 y.co.length d3) y.co) := s3.on KX
 obtain ⟨_, _, _, _, hm⟩ := r3.slice
 obtain ⟨_, _, _, _, hm'⟩ := s3.slice
 obtain ⟨R, hR⟩ : ∃ R, R = exCmp x y := ⟨_, rfl⟩
 rw [← hR]
 unfold exCmp at hR
 have hBf := fun W => bef_is (x.co.length : Int) (y.co.length : Int) W
 generalize lexC evCmp x.evs y.evs = z1 at *
 generalize lexC cmpI x.rf y.rf = z2 at *
 have HR : Hid (R = if z1 = 0 then (if z2 = 0 then lexC (lexC cmpI) x.co y.co else z2) else z1) := hR
 clear r1 r2 r3 s1 s2 s3 hx hy hR hEvs
 go_enter Tryz.func78, Tryz.ntmps78
 go_upto_region 1 with fail
 rw [← hWX]
 clear hWX
 have x0 := AX.at (i := 0) rfl
 have x1 := AX.at (i := 1) rfl
 have x2 := AX.at (i := 2) rfl
 have xl := AX.lt
 have y0 := BX.at (i := 0) rfl
 have y1 := BX.at (i := 1) rfl
 have y2 := BX.at (i := 2) rfl
 have yl := BX.lt
 go_wp2_with fail
 refine (hE _ (On.refl WX)).mono ?_
 rintro _ w1 ⟨rfl, k1⟩
 clear x0 x1 x2 xl y0 y1 y2 yl
 by_cases h1 : z1 = 0
 ·
  have b1' : ((z1 : Int) != 0) = false := by rw [h1]; rfl
  have AX1 := AX.on k1
  have BX1 := BX.on k1
  have x0 := AX1.at (i := 0) rfl
  have x1 := AX1.at (i := 1) rfl
  have x2 := AX1.at (i := 2) rfl
  have xl := AX1.lt
  have y0 := BX1.at (i := 0) rfl
  have y1 := BX1.at (i := 1) rfl
  have y2 := BX1.at (i := 2) rfl
  have yl := BX1.lt
  go_wp2_with fail
  refine (hF _ k1).mono ?_
  rintro _ w2 ⟨rfl, k2⟩
  have K2 := k1.trans k2
  clear x0 x1 x2 xl y0 y1 y2 yl AX1 BX1
  by_cases h2 : z2 = 0
  ·
   have b2' : ((z2 : Int) != 0) = false := by rw [h2]; rfl
   have HR0 : Hid (R = lexC (lexC cmpI) (x.co.drop 0) (y.co.drop 0)) := by show R = _; rw [HR.out, if_pos h1, if_pos h2]; rfl
   clear HR h1 h2
   go_wp2
   go_loopg [7] x.co.length (fun gg s7 wq => ∃ n : Nat, n ≤ x.co.length ∧ n ≤ y.co.length ∧ gg = x.co.length - n ∧ s7 = .int .i64 n ∧ Hid (On WX wq) ∧ Hid (R = lexC (lexC cmpI) (x.co.drop n) (y.co.drop n)))
   case atStart => exact ⟨0, Nat.zero_le _, Nat.zero_le _, rfl, rfl, K2, HR0⟩
   case round =>
    clear HR0
    obtain ⟨n, hn, hnM, hk, rfl, HO, HR⟩ := hrel
    have AXr := AX.on HO.out
    have BXr := BX.on HO.out
    have x2 := AXr.at (i := 2) rfl
    have xl := AXr.lt
    have y2 := BXr.at (i := 2) rfl
    have yl := BXr.lt
    by_cases hgo : n < x.co.length ∧ n < y.co.length
    ·
     obtain ⟨hlt, hltM⟩ := hgo
     obtain ⟨u, hu⟩ : ∃ u, x.co[n]? = some u := ⟨_, List.getElem?_eq_getElem hlt⟩
     obtain ⟨v, hv⟩ : ∃ v, y.co[n]? = some v := ⟨_, List.getElem?_eq_getElem hltM⟩
     obtain ⟨g1, o1, rfl, hg1, ax, cx, hcx, _, rx⟩ := (HA.out.on HO.out).row hu
     obtain ⟨g2, o2, rfl, hg2, ay, cy, hcy, _, ry⟩ := (HB.out.on HO.out).row hv
     have bn0 : (0 : Int) ≤ (n : Int) := by omega
     have bn1 : (n : Int) < (x.co.length : Int) := by omega
     have bn2 : (n : Int) < (y.co.length : Int) := by omega
     have dl : decide (n < x.co.length) = true := decide_eq_true hlt
     have dm : decide (n < y.co.length) = true := decide_eq_true hltM
     have hr := HR.out
     rw [drop_at hu, drop_at hv, lexC] at hr
     have hC := fun W (k : On wr W) => rrows_is u v ax ay cx cy W (rx.on k) (ry.on k)
     generalize lexC cmpI u v = z at *
     by_cases h0 : z = 0
     ·
      rw [if_pos h0] at hr
      have hb : ((z : Int) != 0) = false := by rw [h0]; rfl
      have HR2 : Hid (R = lexC (lexC cmpI) (x.co.drop (n + 1)) (y.co.drop (n + 1))) := hr
      clear hu hv hr HR h0 rx ry
      go_upto_region 10 with fail
      have K0 : On wr wr.drew := On.drew (On.refl wr)
      have hon : ∀ W W', On wr W → On W W' → On wr W' := fun W W' h k => h.trans k
      refine region_fin (fun W => On wr W) 99 12 (by kernel_rfl) rfl ?_
      refine fin_take 0 (v := ?_) rfl (by kernel_rfl) (by kernel_rfl) (by kernel_rfl) (by kernel_rfl) (fun _ _ _ h => h) rfl ?_ K0 ?_
      rotate_left
      ·
       intro W hW
       have f0 := (AXr.on hW).at (i := 2) rfl
       have f1 := (BXr.on hW).at (i := 2) rfl
       have l1 := (AXr.on hW).lt
       have l2 := (BXr.on hW).lt
       have f2 := (hW.cell (p := ⟨g1, o1 + n, none⟩) hg1).trans hcx
       have f3 := (hW.cell (p := ⟨g2, o2 + n, none⟩) hg2).trans hcy
       have l3 := Nat.lt_of_lt_of_le hg1 hW.size
       have l4 := Nat.lt_of_lt_of_le hg2 hW.size
       go_simp
       (try with_reducible rfl)
      simp only [zpu, zsa, zsz, zss]
      refine fin_take 1 (v := ?_) rfl (by kernel_rfl) (by kernel_rfl) (by kernel_rfl) (by kernel_rfl) (fun _ _ _ h => h) rfl ?_ K0 ?_
      rotate_left
      ·
       intro W hW
       have f0 := (AXr.on hW).at (i := 2) rfl
       have f1 := (BXr.on hW).at (i := 2) rfl
       have l1 := (AXr.on hW).lt
       have l2 := (BXr.on hW).lt
       have f2 := (hW.cell (p := ⟨g1, o1 + n, none⟩) hg1).trans hcx
       have f3 := (hW.cell (p := ⟨g2, o2 + n, none⟩) hg2).trans hcy
       have l3 := Nat.lt_of_lt_of_le hg1 hW.size
       have l4 := Nat.lt_of_lt_of_le hg2 hW.size
       go_simp
       (try with_reducible rfl)
      simp only [zpu, zsa, zsz, zss]
      refine fin_take 2 (v := ?_) rfl (by kernel_rfl) (by kernel_rfl) (by kernel_rfl) (by kernel_rfl) (fun _ _ _ h => h) rfl ?_ K0 ?_
      rotate_left
      ·
       intro W hW
       go_simp
       (try with_reducible rfl)
      simp only [zpu, zsa, zsz, zss]
      refine fin_take 3 (v := ?_) rfl (by kernel_rfl) (by kernel_rfl) (by kernel_rfl) (by kernel_rfl) (fun _ _ _ h => h) rfl ?_ K0 ?_
      rotate_left
      ·
       intro W hW
       have f0 := (AXr.on hW).at (i := 2) rfl
       have f1 := (BXr.on hW).at (i := 2) rfl
       have l1 := (AXr.on hW).lt
       have l2 := (BXr.on hW).lt
       have f2 := (hW.cell (p := ⟨g1, o1 + n, none⟩) hg1).trans hcx
       have f3 := (hW.cell (p := ⟨g2, o2 + n, none⟩) hg2).trans hcy
       have l3 := Nat.lt_of_lt_of_le hg1 hW.size
       have l4 := Nat.lt_of_lt_of_le hg2 hW.size
       go_simp
       (try with_reducible rfl)
      simp only [zpu, zsa, zsz, zss]
      refine fin_take 4 (v := ?_) rfl (by kernel_rfl) (by kernel_rfl) (by kernel_rfl) (by kernel_rfl) (fun _ _ _ h => h) rfl ?_ K0 ?_
      rotate_left
      ·
       intro W hW
       have f0 := (AXr.on hW).at (i := 2) rfl
       have f1 := (BXr.on hW).at (i := 2) rfl
       have l1 := (AXr.on hW).lt
       have l2 := (BXr.on hW).lt
       have f2 := (hW.cell (p := ⟨g1, o1 + n, none⟩) hg1).trans hcx
       have f3 := (hW.cell (p := ⟨g2, o2 + n, none⟩) hg2).trans hcy
       have l3 := Nat.lt_of_lt_of_le hg1 hW.size
       have l4 := Nat.lt_of_lt_of_le hg2 hW.size
       go_simp
       (try with_reducible rfl)
      simp only [zpu, zsa, zsz, zss]
      refine fin_take 5 (v := ?_) rfl (by kernel_rfl) (by kernel_rfl) (by kernel_rfl) (by kernel_rfl) (fun _ _ _ h => h) rfl ?_ K0 ?_
      rotate_left
      ·
       intro W hW
       have f0 := (AXr.on hW).at (i := 2) rfl
       have f1 := (BXr.on hW).at (i := 2) rfl
       have l1 := (AXr.on hW).lt
       have l2 := (BXr.on hW).lt
       have f2 := (hW.cell (p := ⟨g1, o1 + n, none⟩) hg1).trans hcx
       have f3 := (hW.cell (p := ⟨g2, o2 + n, none⟩) hg2).trans hcy
       have l3 := Nat.lt_of_lt_of_le hg1 hW.size
       have l4 := Nat.lt_of_lt_of_le hg2 hW.size
       go_simp
       (try with_reducible rfl)
      simp only [zpu, zsa, zsz, zss]
      refine fin_take 6 (v := ?_) rfl (by kernel_rfl) (by kernel_rfl) (by kernel_rfl) (by kernel_rfl) (fun _ _ _ h => h) rfl ?_ K0 ?_
      rotate_left
      ·
       intro W hW
       have f0 := (AXr.on hW).at (i := 2) rfl
       have f1 := (BXr.on hW).at (i := 2) rfl
       have l1 := (AXr.on hW).lt
       have l2 := (BXr.on hW).lt
       have f2 := (hW.cell (p := ⟨g1, o1 + n, none⟩) hg1).trans hcx
       have f3 := (hW.cell (p := ⟨g2, o2 + n, none⟩) hg2).trans hcy
       have l3 := Nat.lt_of_lt_of_le hg1 hW.size
       have l4 := Nat.lt_of_lt_of_le hg2 hW.size
       go_simp
       (try with_reducible rfl)
      simp only [zpu, zsa, zsz, zss]
      refine fin_take 7 (v := ?_) rfl (by kernel_rfl) (by kernel_rfl) (by kernel_rfl) (by kernel_rfl) (fun _ _ _ h => h) rfl ?_ K0 ?_
      rotate_left
      ·
       intro W hW
       go_simp
       (try with_reducible rfl)
      simp only [zpu, zsa, zsz, zss]
      refine fin_take 8 (v := ?_) rfl (by kernel_rfl) (by kernel_rfl) (by kernel_rfl) (by kernel_rfl) (fun _ _ _ h => h) rfl ?_ K0 ?_
      rotate_left
      ·
       intro W hW
       have f0 := (AXr.on hW).at (i := 2) rfl
       have f1 := (BXr.on hW).at (i := 2) rfl
       have l1 := (AXr.on hW).lt
       have l2 := (BXr.on hW).lt
       have f2 := (hW.cell (p := ⟨g1, o1 + n, none⟩) hg1).trans hcx
       have f3 := (hW.cell (p := ⟨g2, o2 + n, none⟩) hg2).trans hcy
       have l3 := Nat.lt_of_lt_of_le hg1 hW.size
       have l4 := Nat.lt_of_lt_of_le hg2 hW.size
       go_simp
       (try with_reducible rfl)
      simp only [zpu, zsa, zsz, zss]
      refine fin_take 9 (v := ?_) rfl (by kernel_rfl) (by kernel_rfl) (by kernel_rfl) (by kernel_rfl) (fun _ _ _ h => h) rfl ?_ K0 ?_
      rotate_left
      ·
       intro W hW
       have f0 := (AXr.on hW).at (i := 2) rfl
       have f1 := (BXr.on hW).at (i := 2) rfl
       have l1 := (AXr.on hW).lt
       have l2 := (BXr.on hW).lt
       have f2 := (hW.cell (p := ⟨g1, o1 + n, none⟩) hg1).trans hcx
       have f3 := (hW.cell (p := ⟨g2, o2 + n, none⟩) hg2).trans hcy
       have l3 := Nat.lt_of_lt_of_le hg1 hW.size
       have l4 := Nat.lt_of_lt_of_le hg2 hW.size
       go_simp
       (try with_reducible rfl)
      simp only [zpu, zsa, zsz, zss]
      refine fin_one 10 rfl rfl (by kernel_rfl) (fun K hK => ?_)
      go_simp
      refine (hC _ K0).mono ?_
      rintro _ x1 ⟨rfl, kx1⟩
      have Sx1 := hon _ _ K0 kx1
      have Kx1 := K0.trans kx1
      refine hK.out _ _ (fun _ => Sx1) ?_
      clear hK
      refine fin_take 11 (v := ?_) rfl (by kernel_rfl) (by kernel_rfl) (by kernel_rfl) (by kernel_rfl) (fun _ _ _ h => h) rfl ?_ Sx1 ?_
      rotate_left
      ·
       intro W hW
       go_simp
       (try with_reducible rfl)
      simp only [zpu, zsa, zsz, zss]
      refine fin_done (by kernel_rfl) (NoPanic.normal ?_)
      have K1 := HO.out.trans Kx1
      go_wp2
      go_roundg (x.co.length - (n + 1))
      case measure => omega
      case rel => exact ⟨n + 1, by omega, by omega, rfl, by go_num, K1, HR2⟩
     ·
      rw [if_neg h0] at hr
      have hb : ((z : Int) != 0) = true := by simpa using h0
      subst hr
      clear hu hv HR h0 rx ry
      go_upto_region 10 with fail
      have K0 : On wr wr.drew := On.drew (On.refl wr)
      have hon : ∀ W W', On wr W → On W W' → On wr W' := fun W W' h k => h.trans k
      refine region_fin (fun W => On wr W) 99 12 (by kernel_rfl) rfl ?_
      refine fin_take 0 (v := ?_) rfl (by kernel_rfl) (by kernel_rfl) (by kernel_rfl) (by kernel_rfl) (fun _ _ _ h => h) rfl ?_ K0 ?_
      rotate_left
      ·
       intro W hW
       have f0 := (AXr.on hW).at (i := 2) rfl
       have f1 := (BXr.on hW).at (i := 2) rfl
       have l1 := (AXr.on hW).lt
       have l2 := (BXr.on hW).lt
       have f2 := (hW.cell (p := ⟨g1, o1 + n, none⟩) hg1).trans hcx
       have f3 := (hW.cell (p := ⟨g2, o2 + n, none⟩) hg2).trans hcy
       have l3 := Nat.lt_of_lt_of_le hg1 hW.size
       have l4 := Nat.lt_of_lt_of_le hg2 hW.size
       go_simp
       (try with_reducible rfl)
      simp only [zpu, zsa, zsz, zss]
      refine fin_take 1 (v := ?_) rfl (by kernel_rfl) (by kernel_rfl) (by kernel_rfl) (by kernel_rfl) (fun _ _ _ h => h) rfl ?_ K0 ?_
      rotate_left
      ·
       intro W hW
       have f0 := (AXr.on hW).at (i := 2) rfl
       have f1 := (BXr.on hW).at (i := 2) rfl
       have l1 := (AXr.on hW).lt
       have l2 := (BXr.on hW).lt
       have f2 := (hW.cell (p := ⟨g1, o1 + n, none⟩) hg1).trans hcx
       have f3 := (hW.cell (p := ⟨g2, o2 + n, none⟩) hg2).trans hcy
       have l3 := Nat.lt_of_lt_of_le hg1 hW.size
       have l4 := Nat.lt_of_lt_of_le hg2 hW.size
       go_simp
       (try with_reducible rfl)
      simp only [zpu, zsa, zsz, zss]
      refine fin_take 2 (v := ?_) rfl (by kernel_rfl) (by kernel_rfl) (by kernel_rfl) (by kernel_rfl) (fun _ _ _ h => h) rfl ?_ K0 ?_
      rotate_left
      ·
       intro W hW
       go_simp
       (try with_reducible rfl)
      simp only [zpu, zsa, zsz, zss]
      refine fin_take 3 (v := ?_) rfl (by kernel_rfl) (by kernel_rfl) (by kernel_rfl) (by kernel_rfl) (fun _ _ _ h => h) rfl ?_ K0 ?_
      rotate_left
      ·
       intro W hW
       have f0 := (AXr.on hW).at (i := 2) rfl
       have f1 := (BXr.on hW).at (i := 2) rfl
       have l1 := (AXr.on hW).lt
       have l2 := (BXr.on hW).lt
       have f2 := (hW.cell (p := ⟨g1, o1 + n, none⟩) hg1).trans hcx
       have f3 := (hW.cell (p := ⟨g2, o2 + n, none⟩) hg2).trans hcy
       have l3 := Nat.lt_of_lt_of_le hg1 hW.size
       have l4 := Nat.lt_of_lt_of_le hg2 hW.size
       go_simp
       (try with_reducible rfl)
      simp only [zpu, zsa, zsz, zss]
      refine fin_take 4 (v := ?_) rfl (by kernel_rfl) (by kernel_rfl) (by kernel_rfl) (by kernel_rfl) (fun _ _ _ h => h) rfl ?_ K0 ?_
      rotate_left
      ·
       intro W hW
       have f0 := (AXr.on hW).at (i := 2) rfl
       have f1 := (BXr.on hW).at (i := 2) rfl
       have l1 := (AXr.on hW).lt
       have l2 := (BXr.on hW).lt
       have f2 := (hW.cell (p := ⟨g1, o1 + n, none⟩) hg1).trans hcx
       have f3 := (hW.cell (p := ⟨g2, o2 + n, none⟩) hg2).trans hcy
       have l3 := Nat.lt_of_lt_of_le hg1 hW.size
       have l4 := Nat.lt_of_lt_of_le hg2 hW.size
       go_simp
       (try with_reducible rfl)
      simp only [zpu, zsa, zsz, zss]
      refine fin_take 5 (v := ?_) rfl (by kernel_rfl) (by kernel_rfl) (by kernel_rfl) (by kernel_rfl) (fun _ _ _ h => h) rfl ?_ K0 ?_
      rotate_left
      ·
       intro W hW
       have f0 := (AXr.on hW).at (i := 2) rfl
       have f1 := (BXr.on hW).at (i := 2) rfl
       have l1 := (AXr.on hW).lt
       have l2 := (BXr.on hW).lt
       have f2 := (hW.cell (p := ⟨g1, o1 + n, none⟩) hg1).trans hcx
       have f3 := (hW.cell (p := ⟨g2, o2 + n, none⟩) hg2).trans hcy
       have l3 := Nat.lt_of_lt_of_le hg1 hW.size
       have l4 := Nat.lt_of_lt_of_le hg2 hW.size
       go_simp
       (try with_reducible rfl)
      simp only [zpu, zsa, zsz, zss]
      refine fin_take 6 (v := ?_) rfl (by kernel_rfl) (by kernel_rfl) (by kernel_rfl) (by kernel_rfl) (fun _ _ _ h => h) rfl ?_ K0 ?_
      rotate_left
      ·
       intro W hW
       have f0 := (AXr.on hW).at (i := 2) rfl
       have f1 := (BXr.on hW).at (i := 2) rfl
       have l1 := (AXr.on hW).lt
       have l2 := (BXr.on hW).lt
       have f2 := (hW.cell (p := ⟨g1, o1 + n, none⟩) hg1).trans hcx
       have f3 := (hW.cell (p := ⟨g2, o2 + n, none⟩) hg2).trans hcy
       have l3 := Nat.lt_of_lt_of_le hg1 hW.size
       have l4 := Nat.lt_of_lt_of_le hg2 hW.size
       go_simp
       (try with_reducible rfl)
      simp only [zpu, zsa, zsz, zss]
      refine fin_take 7 (v := ?_) rfl (by kernel_rfl) (by kernel_rfl) (by kernel_rfl) (by kernel_rfl) (fun _ _ _ h => h) rfl ?_ K0 ?_
      rotate_left
      ·
       intro W hW
       go_simp
       (try with_reducible rfl)
      simp only [zpu, zsa, zsz, zss]
      refine fin_take 8 (v := ?_) rfl (by kernel_rfl) (by kernel_rfl) (by kernel_rfl) (by kernel_rfl) (fun _ _ _ h => h) rfl ?_ K0 ?_
      rotate_left
      ·
       intro W hW
       have f0 := (AXr.on hW).at (i := 2) rfl
       have f1 := (BXr.on hW).at (i := 2) rfl
       have l1 := (AXr.on hW).lt
       have l2 := (BXr.on hW).lt
       have f2 := (hW.cell (p := ⟨g1, o1 + n, none⟩) hg1).trans hcx
       have f3 := (hW.cell (p := ⟨g2, o2 + n, none⟩) hg2).trans hcy
       have l3 := Nat.lt_of_lt_of_le hg1 hW.size
       have l4 := Nat.lt_of_lt_of_le hg2 hW.size
       go_simp
       (try with_reducible rfl)
      simp only [zpu, zsa, zsz, zss]
      refine fin_take 9 (v := ?_) rfl (by kernel_rfl) (by kernel_rfl) (by kernel_rfl) (by kernel_rfl) (fun _ _ _ h => h) rfl ?_ K0 ?_
      rotate_left
      ·
       intro W hW
       have f0 := (AXr.on hW).at (i := 2) rfl
       have f1 := (BXr.on hW).at (i := 2) rfl
       have l1 := (AXr.on hW).lt
       have l2 := (BXr.on hW).lt
       have f2 := (hW.cell (p := ⟨g1, o1 + n, none⟩) hg1).trans hcx
       have f3 := (hW.cell (p := ⟨g2, o2 + n, none⟩) hg2).trans hcy
       have l3 := Nat.lt_of_lt_of_le hg1 hW.size
       have l4 := Nat.lt_of_lt_of_le hg2 hW.size
       go_simp
       (try with_reducible rfl)
      simp only [zpu, zsa, zsz, zss]
      refine fin_one 10 rfl rfl (by kernel_rfl) (fun K hK => ?_)
      go_simp
      refine (hC _ K0).mono ?_
      rintro _ x1 ⟨rfl, kx1⟩
      have Sx1 := hon _ _ K0 kx1
      have Kx1 := K0.trans kx1
      refine hK.out _ _ (fun _ => Sx1) ?_
      clear hK
      refine fin_take 11 (v := ?_) rfl (by kernel_rfl) (by kernel_rfl) (by kernel_rfl) (by kernel_rfl) (fun _ _ _ h => h) rfl ?_ Sx1 ?_
      rotate_left
      ·
       intro W hW
       go_simp
       (try with_reducible rfl)
      simp only [zpu, zsa, zsz, zss]
      refine fin_done (by kernel_rfl) (NoPanic.normal ?_)
      have K1 := HO.out.trans Kx1
      go_wp2
      go_ret
      exact ⟨rfl, KX.trans K1⟩
    ·
     have hr := HR.out
     rw [lex_end (lexC cmpI) x.co y.co n hn hnM hgo] at hr
     subst hr
     clear HR
     rcases Nat.lt_or_ge n x.co.length with hl | hl
     ·
      have dl : decide (n < x.co.length) = true := decide_eq_true hl
      have dm : decide (n < y.co.length) = false := decide_eq_false (by omega)
      clear hgo
      go_wp2_with fail
      refine (hBf _).mono ?_
      rintro _ w3 ⟨rfl, k3⟩
      go_wp2
      go_ret
      exact ⟨rfl, KX.trans (HO.out.trans k3)⟩
     ·
      have dl : decide (n < x.co.length) = false := decide_eq_false (by omega)
      clear hgo
      go_wp2_with fail
      refine (hBf _).mono ?_
      rintro _ w3 ⟨rfl, k3⟩
      go_wp2
      go_ret
      exact ⟨rfl, KX.trans (HO.out.trans k3)⟩
  ·
   have b2' : ((z2 : Int) != 0) = true := by simpa using h2
   obtain rfl : R = z2 := by rw [HR.out, if_pos h1, if_neg h2]
   go_wp2
   go_ret
   exact ⟨rfl, KX.trans K2⟩
 ·
  have b1' : ((z1 : Int) != 0) = true := by simpa using h1
  obtain rfl : R = z1 := by rw [HR.out, if_neg h1]
  go_wp2
  go_ret
  exact ⟨rfl, KX.trans k1⟩
end Go.Proofs.YtioiabfheeglgaaGreatDoor

namespace Go.Proofs.YtioiabfheeglgaaGreatDoor
open Go.RowKit

set_option maxHeartbeats 8000000 in
set_option maxRecDepth 8000 in
theorem revs_is (L M : List EvT) (a b : Option Addr) (c d : Nat) (w : World) (h : Rd evC 6 w (.slice a L.length c) L) (h' : Rd evC 6 w (.slice b M.length d) M) :
  Calls Tryz.prog 95 #[.slice a L.length c, .slice b M.length d] w fun e w' => e = .returned (.int .i64 (lexC evCmp L M)) ∧ On w w' := by
 obtain ⟨_, _, _, _, hm⟩ := h.slice
 obtain ⟨_, _, _, _, hm'⟩ := h'.slice
 have HA : Hid (Rd evC 6 w (.slice a L.length c) L) := h
 have HB : Hid (Rd evC 6 w (.slice b M.length d) M) := h'
 obtain ⟨R, hR⟩ : ∃ R, R = lexC evCmp L M := ⟨_, rfl⟩
 rw [← hR]
 have HR : Hid (R = lexC evCmp (L.drop 0) (M.drop 0)) := hR
 have hBf := fun W => bef_is (L.length : Int) (M.length : Int) W
 have hzE : ∀ w, (zeroValue 58).run Tryz.prog w = .ok (.agg #[.int .i64 0, .int .i64 0, .int .i64 0, .int .i64 0, .int .i64 0, .int .i64 0]) w := fun w => by go_simp
 have hzA : ∀ w, (zeroValue 165).run Tryz.prog w = .ok (.agg #[.int .i64 0, .int .i64 0, .int .i64 0, .int .i64 0, .int .i64 0, .int .i64 0]) w := fun w => by go_simp
 clear h h' hR
 go_enter Tryz.func95, Tryz.ntmps95
 go_wp2
 go_loopg [5] L.length (fun gg s5 wq => ∃ n : Nat, n ≤ L.length ∧ n ≤ M.length ∧ gg = L.length - n ∧ s5 = .int .i64 n ∧ Hid (On w wq) ∧ Hid (R = lexC evCmp (L.drop n) (M.drop n)))
 case atStart => exact ⟨0, Nat.zero_le _, Nat.zero_le _, rfl, rfl, On.refl w, HR⟩
 case round =>
  clear HR
  obtain ⟨n, hn, hnM, hk, rfl, HO, HR⟩ := hrel
  by_cases hgo : n < L.length ∧ n < M.length
  ·
   obtain ⟨hlt, hltM⟩ := hgo
   obtain ⟨x, hx⟩ : ∃ x, L[n]? = some x := ⟨_, List.getElem?_eq_getElem hlt⟩
   obtain ⟨g1, o1, rfl, hg1, p0, p1, p2, p3, p4, p5⟩ := rd_ev (HA.out.on HO.out) hx
   obtain ⟨y, hy⟩ : ∃ y, M[n]? = some y := ⟨_, List.getElem?_eq_getElem hltM⟩
   obtain ⟨g2, o2, rfl, hg2, q0, q1, q2, q3, q4, q5⟩ := rd_ev (HB.out.on HO.out) hy
   have hr := HR.out
   rw [drop_at hx, drop_at hy, lexC] at hr
   have bn0 : (0 : Int) ≤ (n : Int) := by omega
   have bn1 : (n : Int) < (L.length : Int) := by omega
   have bn2 : (n : Int) < (M.length : Int) := by omega
   have dl : decide (n < L.length) = true := decide_eq_true hlt
   have dm : decide (n < M.length) = true := decide_eq_true hltM
   have HRR : Hid (R = if evCmp x y = 0 then lexC evCmp (List.drop (n + 1) L) (List.drop (n + 1) M) else evCmp x y) := hr
   clear hx hy hr HR
   go_upto_region 4 with fail
   have K0 : On wr wr.drew := On.drew (On.refl wr)
   have hon : ∀ W W', On wr W → On W W' → On wr W' := fun W W' h k => h.trans k
   refine region_fz (fun W => On wr W) [] 12 (by kernel_rfl) rfl ?_
   refine fz_take 0 (v := ?_) rfl (by kernel_rfl) (by kernel_rfl) (by kernel_rfl) (by kernel_rfl) (fun _ _ _ h => h) rfl ?_ K0 ?_
   rotate_left
   ·
    intro W hW
    go_simp
    (try with_reducible rfl)
   simp only [zpu, zsa, zsz, zss]
   refine fz_take 1 (v := ?_) rfl (by kernel_rfl) (by kernel_rfl) (by kernel_rfl) (by kernel_rfl) (fun _ _ _ h => h) rfl ?_ K0 ?_
   rotate_left
   ·
    intro W hW
    go_simp
    (try with_reducible rfl)
   simp only [zpu, zsa, zsz, zss]
   refine fz_take 2 (v := ?_) rfl (by kernel_rfl) (by kernel_rfl) (by kernel_rfl) (by kernel_rfl) (fun _ _ _ h => h) rfl ?_ K0 ?_
   rotate_left
   ·
    intro W hW
    have f0 := (hW.cell (p := ⟨g1, o1 + n * 6, none⟩) hg1).trans p0
    have f1 := (hW.cell (p := ⟨g1, o1 + n * 6 + 1, none⟩) hg1).trans p1
    have f2 := (hW.cell (p := ⟨g1, o1 + n * 6 + 2, none⟩) hg1).trans p2
    have f3 := (hW.cell (p := ⟨g1, o1 + n * 6 + 3, none⟩) hg1).trans p3
    have f4 := (hW.cell (p := ⟨g1, o1 + n * 6 + 4, none⟩) hg1).trans p4
    have f5 := (hW.cell (p := ⟨g1, o1 + n * 6 + 5, none⟩) hg1).trans p5
    have e0 := (hW.cell (p := ⟨g2, o2 + n * 6, none⟩) hg2).trans q0
    have e1 := (hW.cell (p := ⟨g2, o2 + n * 6 + 1, none⟩) hg2).trans q1
    have e2 := (hW.cell (p := ⟨g2, o2 + n * 6 + 2, none⟩) hg2).trans q2
    have e3 := (hW.cell (p := ⟨g2, o2 + n * 6 + 3, none⟩) hg2).trans q3
    have e4 := (hW.cell (p := ⟨g2, o2 + n * 6 + 4, none⟩) hg2).trans q4
    have e5 := (hW.cell (p := ⟨g2, o2 + n * 6 + 5, none⟩) hg2).trans q5
    have l1 := Nat.lt_of_lt_of_le hg1 hW.size
    have l2 := Nat.lt_of_lt_of_le hg2 hW.size
    go_simp
    (try with_reducible rfl)
   simp only [zpu, zsa, zsz, zss]
   refine fz_take 3 (v := ?_) rfl (by kernel_rfl) (by kernel_rfl) (by kernel_rfl) (by kernel_rfl) (fun _ _ _ h => h) rfl ?_ K0 ?_
   rotate_left
   ·
    intro W hW
    have f0 := (hW.cell (p := ⟨g1, o1 + n * 6, none⟩) hg1).trans p0
    have f1 := (hW.cell (p := ⟨g1, o1 + n * 6 + 1, none⟩) hg1).trans p1
    have f2 := (hW.cell (p := ⟨g1, o1 + n * 6 + 2, none⟩) hg1).trans p2
    have f3 := (hW.cell (p := ⟨g1, o1 + n * 6 + 3, none⟩) hg1).trans p3
    have f4 := (hW.cell (p := ⟨g1, o1 + n * 6 + 4, none⟩) hg1).trans p4
    have f5 := (hW.cell (p := ⟨g1, o1 + n * 6 + 5, none⟩) hg1).trans p5
    have e0 := (hW.cell (p := ⟨g2, o2 + n * 6, none⟩) hg2).trans q0
    have e1 := (hW.cell (p := ⟨g2, o2 + n * 6 + 1, none⟩) hg2).trans q1
    have e2 := (hW.cell (p := ⟨g2, o2 + n * 6 + 2, none⟩) hg2).trans q2
    have e3 := (hW.cell (p := ⟨g2, o2 + n * 6 + 3, none⟩) hg2).trans q3
    have e4 := (hW.cell (p := ⟨g2, o2 + n * 6 + 4, none⟩) hg2).trans q4
    have e5 := (hW.cell (p := ⟨g2, o2 + n * 6 + 5, none⟩) hg2).trans q5
    have l1 := Nat.lt_of_lt_of_le hg1 hW.size
    have l2 := Nat.lt_of_lt_of_le hg2 hW.size
    go_simp
    (try with_reducible rfl)
   simp only [zpu, zsa, zsz, zss]
   refine fz_take 4 (v := ?_) rfl (by kernel_rfl) (by kernel_rfl) (by kernel_rfl) (by kernel_rfl) (fun _ _ _ h => h) rfl ?_ K0 ?_
   rotate_left
   ·
    intro W hW
    go_simp
    (try with_reducible rfl)
   simp only [zpu, zsa, zsz, zss]
   refine fz_take 5 (v := ?_) rfl (by kernel_rfl) (by kernel_rfl) (by kernel_rfl) (by kernel_rfl) (fun _ _ _ h => h) rfl ?_ K0 ?_
   rotate_left
   ·
    intro W hW
    go_simp
    (try with_reducible rfl)
   simp only [zpu, zsa, zsz, zss]
   refine fz_take 6 (v := ?_) rfl (by kernel_rfl) (by kernel_rfl) (by kernel_rfl) (by kernel_rfl) (fun _ _ _ h => h) rfl ?_ K0 ?_
   rotate_left
   ·
    intro W hW
    have f0 := (hW.cell (p := ⟨g1, o1 + n * 6, none⟩) hg1).trans p0
    have f1 := (hW.cell (p := ⟨g1, o1 + n * 6 + 1, none⟩) hg1).trans p1
    have f2 := (hW.cell (p := ⟨g1, o1 + n * 6 + 2, none⟩) hg1).trans p2
    have f3 := (hW.cell (p := ⟨g1, o1 + n * 6 + 3, none⟩) hg1).trans p3
    have f4 := (hW.cell (p := ⟨g1, o1 + n * 6 + 4, none⟩) hg1).trans p4
    have f5 := (hW.cell (p := ⟨g1, o1 + n * 6 + 5, none⟩) hg1).trans p5
    have e0 := (hW.cell (p := ⟨g2, o2 + n * 6, none⟩) hg2).trans q0
    have e1 := (hW.cell (p := ⟨g2, o2 + n * 6 + 1, none⟩) hg2).trans q1
    have e2 := (hW.cell (p := ⟨g2, o2 + n * 6 + 2, none⟩) hg2).trans q2
    have e3 := (hW.cell (p := ⟨g2, o2 + n * 6 + 3, none⟩) hg2).trans q3
    have e4 := (hW.cell (p := ⟨g2, o2 + n * 6 + 4, none⟩) hg2).trans q4
    have e5 := (hW.cell (p := ⟨g2, o2 + n * 6 + 5, none⟩) hg2).trans q5
    have l1 := Nat.lt_of_lt_of_le hg1 hW.size
    have l2 := Nat.lt_of_lt_of_le hg2 hW.size
    go_simp
    (try with_reducible rfl)
   simp only [zpu, zsa, zsz, zss]
   refine fz_take 7 (v := ?_) rfl (by kernel_rfl) (by kernel_rfl) (by kernel_rfl) (by kernel_rfl) (fun _ _ _ h => h) rfl ?_ K0 ?_
   rotate_left
   ·
    intro W hW
    have f0 := (hW.cell (p := ⟨g1, o1 + n * 6, none⟩) hg1).trans p0
    have f1 := (hW.cell (p := ⟨g1, o1 + n * 6 + 1, none⟩) hg1).trans p1
    have f2 := (hW.cell (p := ⟨g1, o1 + n * 6 + 2, none⟩) hg1).trans p2
    have f3 := (hW.cell (p := ⟨g1, o1 + n * 6 + 3, none⟩) hg1).trans p3
    have f4 := (hW.cell (p := ⟨g1, o1 + n * 6 + 4, none⟩) hg1).trans p4
    have f5 := (hW.cell (p := ⟨g1, o1 + n * 6 + 5, none⟩) hg1).trans p5
    have e0 := (hW.cell (p := ⟨g2, o2 + n * 6, none⟩) hg2).trans q0
    have e1 := (hW.cell (p := ⟨g2, o2 + n * 6 + 1, none⟩) hg2).trans q1
    have e2 := (hW.cell (p := ⟨g2, o2 + n * 6 + 2, none⟩) hg2).trans q2
    have e3 := (hW.cell (p := ⟨g2, o2 + n * 6 + 3, none⟩) hg2).trans q3
    have e4 := (hW.cell (p := ⟨g2, o2 + n * 6 + 4, none⟩) hg2).trans q4
    have e5 := (hW.cell (p := ⟨g2, o2 + n * 6 + 5, none⟩) hg2).trans q5
    have l1 := Nat.lt_of_lt_of_le hg1 hW.size
    have l2 := Nat.lt_of_lt_of_le hg2 hW.size
    go_simp
    (try with_reducible rfl)
   simp only [zpu, zsa, zsz, zss]
   refine fz_mix [(8, 6, none), (9, 7, none)] #[true, true, true, true, true, true, true, true, true, true, false, false] 58 #[.int .i64 0, .int .i64 0, .int .i64 0, .int .i64 0, .int .i64 0, .int .i64 0] 2 2 hzE (by simp) (by simp) ?_ ?_ rfl hon K0 (by kernel_rfl) (by kernel_rfl) ?_ ?_
   ·
    intro i d hi
    simp only [List.mem_cons, Prod.mk.injEq, List.not_mem_nil, or_false, and_true] at hi
    rcases hi with ⟨rfl, rfl⟩ | ⟨rfl, rfl⟩ <;> exact ⟨_, rfl, rfl, rfl, rfl⟩
   ·
    intro x hx
    simp only [List.mem_cons, List.not_mem_nil, or_false] at hx
    rcases hx with rfl | rfl <;> rfl
   ·
    intro i d v hi
    simp only [List.mem_cons, Prod.mk.injEq, List.not_mem_nil, or_false, reduceCtorEq, and_false] at hi
   intro p WE hm hSE
   obtain ⟨u8, hu8⟩ := Option.isSome_iff_exists.1 (hm.done (8, 6, none) (by simp) rfl)
   obtain ⟨N6, rfl, b6, g6⟩ := hm.blk 8 6 u8 (by simp) hu8
   obtain ⟨u9, hu9⟩ := Option.isSome_iff_exists.1 (hm.done (9, 7, none) (by simp) rfl)
   obtain ⟨N7, rfl, b7, g7⟩ := hm.blk 9 7 u9 (by simp) hu9
   have n7_6 : N7 ≠ N6 := fun e => absurd (hm.apart 9 7 8 6 _ (by simp) (by simp) hu9 (by rw [hu8, e])) (by decide)
   have kM := hm.on
   simp only [putsA, putsD, List.foldl_cons, List.foldl_nil, hu8, hu9, Option.getD_some, Act.put, List.setIfInBounds_toArray, List.set_cons_zero, List.set_cons_succ]
   clear hm hu8 hu9
   have G6 : wr.heap.size ≤ N6 := g6
   have G7 : wr.heap.size ≤ N7 := g7
   have wlc := b6.lt
   have c0 := b6.at (i := 0) rfl
   have c1 := b6.at (i := 1) rfl
   have c2 := b6.at (i := 2) rfl
   have c3 := b6.at (i := 3) rfl
   have c4 := b6.at (i := 4) rfl
   have c5 := b6.at (i := 5) rfl
   have cf := fun i => b6.fr i
   refine fz_one 10 rfl rfl (by kernel_rfl) (fun K hK => ?_)
   go_simp
   obtain ⟨W6, hW6⟩ : ∃ W6, W6 = putCells WE N6 0 [.int .i64 x.t, .int .i64 x.i, .int .i64 x.k, .int .i64 x.l, .int .i64 x.r, .int .i64 x.w] := ⟨_, rfl⟩
   have e6 : Bk W6 N6 #[.int .i64 x.t, .int .i64 x.i, .int .i64 x.k, .int .i64 x.l, .int .i64 x.r, .int .i64 x.w] := by rw [hW6]; exact Bk.puts [.int .i64 x.t, .int .i64 x.i, .int .i64 x.k, .int .i64 x.l, .int .i64 x.r, .int .i64 x.w] WE [.int .i64 0, .int .i64 0, .int .i64 0, .int .i64 0, .int .i64 0, .int .i64 0] 0 b6
   have e7 : Bk W6 N7 #[.int .i64 0, .int .i64 0, .int .i64 0, .int .i64 0, .int .i64 0, .int .i64 0] := by rw [hW6]; exact Bk.fars (Ne.symm n7_6) [.int .i64 x.t, .int .i64 x.i, .int .i64 x.k, .int .i64 x.l, .int .i64 x.r, .int .i64 x.w] WE _ 0 b7
   have k6 : On wr W6 := by rw [hW6]; exact On.puts G6 [.int .i64 x.t, .int .i64 x.i, .int .i64 x.k, .int .i64 x.l, .int .i64 x.r, .int .i64 x.w] WE 0 hSE
   refine hK.out _ _ (fun _ => (show On wr (putCells WE N6 0 [.int .i64 x.t, .int .i64 x.i, .int .i64 x.k, .int .i64 x.l, .int .i64 x.r, .int .i64 x.w]) from hW6 ▸ k6)) ?_
   clear hK c0 c1 c2 c3 c4 c5 cf wlc b6 b7 kM
   rw [show (((((((WE.setCell ⟨N6, 0, none⟩ (.int .i64 x.t)).setCell ⟨N6, 1, none⟩ (.int .i64 x.i)).setCell ⟨N6, 2, none⟩ (.int .i64 x.k)).setCell ⟨N6, 3, none⟩ (.int .i64 x.l)).setCell ⟨N6, 4, none⟩ (.int .i64 x.r)).setCell ⟨N6, 5, none⟩ (.int .i64 x.w))) = W6 from hW6.symm]
   clear hW6
   have wlc := e7.lt
   have c0 := e7.at (i := 0) rfl
   have c1 := e7.at (i := 1) rfl
   have c2 := e7.at (i := 2) rfl
   have c3 := e7.at (i := 3) rfl
   have c4 := e7.at (i := 4) rfl
   have c5 := e7.at (i := 5) rfl
   have cf := fun i => e7.fr i
   refine fz_one 11 rfl rfl (by kernel_rfl) (fun K hK => ?_)
   go_simp
   obtain ⟨W7, hW7⟩ : ∃ W7, W7 = putCells W6 N7 0 [.int .i64 y.t, .int .i64 y.i, .int .i64 y.k, .int .i64 y.l, .int .i64 y.r, .int .i64 y.w] := ⟨_, rfl⟩
   have d7 : Bk W7 N7 #[.int .i64 y.t, .int .i64 y.i, .int .i64 y.k, .int .i64 y.l, .int .i64 y.r, .int .i64 y.w] := by rw [hW7]; exact Bk.puts [.int .i64 y.t, .int .i64 y.i, .int .i64 y.k, .int .i64 y.l, .int .i64 y.r, .int .i64 y.w] W6 [.int .i64 0, .int .i64 0, .int .i64 0, .int .i64 0, .int .i64 0, .int .i64 0] 0 e7
   have d6 : Bk W7 N6 #[.int .i64 x.t, .int .i64 x.i, .int .i64 x.k, .int .i64 x.l, .int .i64 x.r, .int .i64 x.w] := by rw [hW7]; exact Bk.fars n7_6 [.int .i64 y.t, .int .i64 y.i, .int .i64 y.k, .int .i64 y.l, .int .i64 y.r, .int .i64 y.w] W6 _ 0 e6
   have k7 : On wr W7 := by rw [hW7]; exact On.puts G7 [.int .i64 y.t, .int .i64 y.i, .int .i64 y.k, .int .i64 y.l, .int .i64 y.r, .int .i64 y.w] W6 0 k6
   refine hK.out _ _ (fun _ => (show On wr (putCells W6 N7 0 [.int .i64 y.t, .int .i64 y.i, .int .i64 y.k, .int .i64 y.l, .int .i64 y.r, .int .i64 y.w]) from hW7 ▸ k7)) ?_
   clear hK c0 c1 c2 c3 c4 c5 cf wlc e6 e7 hSE
   rw [show (((((((W6.setCell ⟨N7, 0, none⟩ (.int .i64 y.t)).setCell ⟨N7, 1, none⟩ (.int .i64 y.i)).setCell ⟨N7, 2, none⟩ (.int .i64 y.k)).setCell ⟨N7, 3, none⟩ (.int .i64 y.l)).setCell ⟨N7, 4, none⟩ (.int .i64 y.r)).setCell ⟨N7, 5, none⟩ (.int .i64 y.w))) = W7 from hW7.symm]
   clear hW7
   refine fz_done (by kernel_rfl) (NoPanic.normal ?_)
   go_upto_region 5 with fail
   clear K0 hon
   have K0 : Bk W7.drew N6 #[.int .i64 x.t, .int .i64 x.i, .int .i64 x.k, .int .i64 x.l, .int .i64 x.r, .int .i64 x.w] ∧ Bk W7.drew N7 #[.int .i64 y.t, .int .i64 y.i, .int .i64 y.k, .int .i64 y.l, .int .i64 y.r, .int .i64 y.w] := ⟨d6.on (On.drew (On.refl _)), d7.on (On.drew (On.refl _))⟩
   have hon : ∀ W W', (Bk W N6 #[.int .i64 x.t, .int .i64 x.i, .int .i64 x.k, .int .i64 x.l, .int .i64 x.r, .int .i64 x.w] ∧ Bk W N7 #[.int .i64 y.t, .int .i64 y.i, .int .i64 y.k, .int .i64 y.l, .int .i64 y.r, .int .i64 y.w]) → On W W' → (Bk W' N6 #[.int .i64 x.t, .int .i64 x.i, .int .i64 x.k, .int .i64 x.l, .int .i64 x.r, .int .i64 x.w] ∧ Bk W' N7 #[.int .i64 y.t, .int .i64 y.i, .int .i64 y.k, .int .i64 y.l, .int .i64 y.r, .int .i64 y.w]) := fun W W' h k => ⟨h.1.on k, h.2.on k⟩
   refine region_fz (fun W => Bk W N6 #[.int .i64 x.t, .int .i64 x.i, .int .i64 x.k, .int .i64 x.l, .int .i64 x.r, .int .i64 x.w] ∧ Bk W N7 #[.int .i64 y.t, .int .i64 y.i, .int .i64 y.k, .int .i64 y.l, .int .i64 y.r, .int .i64 y.w]) [] 33 (by kernel_rfl) rfl ?_
   refine fz_take 0 (v := ?_) rfl (by kernel_rfl) (by kernel_rfl) (by kernel_rfl) (by kernel_rfl) (fun _ _ _ h => h) rfl ?_ K0 ?_
   rotate_left
   ·
    intro W hW
    have f0 := hW.1.at (i := 0) rfl
    have e0 := hW.2.at (i := 0) rfl
    have f1 := hW.1.at (i := 1) rfl
    have e1 := hW.2.at (i := 1) rfl
    have f2 := hW.1.at (i := 2) rfl
    have e2 := hW.2.at (i := 2) rfl
    have f3 := hW.1.at (i := 3) rfl
    have e3 := hW.2.at (i := 3) rfl
    have f4 := hW.1.at (i := 4) rfl
    have e4 := hW.2.at (i := 4) rfl
    have f5 := hW.1.at (i := 5) rfl
    have e5 := hW.2.at (i := 5) rfl
    have l1 := hW.1.lt
    have l2 := hW.2.lt
    go_simp
    (try with_reducible rfl)
   simp only [zpu, zsa, zsz, zss]
   refine fz_take 1 (v := ?_) rfl (by kernel_rfl) (by kernel_rfl) (by kernel_rfl) (by kernel_rfl) (fun _ _ _ h => h) rfl ?_ K0 ?_
   rotate_left
   ·
    intro W hW
    have f0 := hW.1.at (i := 0) rfl
    have e0 := hW.2.at (i := 0) rfl
    have f1 := hW.1.at (i := 1) rfl
    have e1 := hW.2.at (i := 1) rfl
    have f2 := hW.1.at (i := 2) rfl
    have e2 := hW.2.at (i := 2) rfl
    have f3 := hW.1.at (i := 3) rfl
    have e3 := hW.2.at (i := 3) rfl
    have f4 := hW.1.at (i := 4) rfl
    have e4 := hW.2.at (i := 4) rfl
    have f5 := hW.1.at (i := 5) rfl
    have e5 := hW.2.at (i := 5) rfl
    have l1 := hW.1.lt
    have l2 := hW.2.lt
    go_simp
    (try with_reducible rfl)
   simp only [zpu, zsa, zsz, zss]
   refine fz_take 2 (v := ?_) rfl (by kernel_rfl) (by kernel_rfl) (by kernel_rfl) (by kernel_rfl) (fun _ _ _ h => h) rfl ?_ K0 ?_
   rotate_left
   ·
    intro W hW
    have f0 := hW.1.at (i := 0) rfl
    have e0 := hW.2.at (i := 0) rfl
    have f1 := hW.1.at (i := 1) rfl
    have e1 := hW.2.at (i := 1) rfl
    have f2 := hW.1.at (i := 2) rfl
    have e2 := hW.2.at (i := 2) rfl
    have f3 := hW.1.at (i := 3) rfl
    have e3 := hW.2.at (i := 3) rfl
    have f4 := hW.1.at (i := 4) rfl
    have e4 := hW.2.at (i := 4) rfl
    have f5 := hW.1.at (i := 5) rfl
    have e5 := hW.2.at (i := 5) rfl
    have l1 := hW.1.lt
    have l2 := hW.2.lt
    go_simp
    (try with_reducible rfl)
   simp only [zpu, zsa, zsz, zss]
   refine fz_take 3 (v := ?_) rfl (by kernel_rfl) (by kernel_rfl) (by kernel_rfl) (by kernel_rfl) (fun _ _ _ h => h) rfl ?_ K0 ?_
   rotate_left
   ·
    intro W hW
    have f0 := hW.1.at (i := 0) rfl
    have e0 := hW.2.at (i := 0) rfl
    have f1 := hW.1.at (i := 1) rfl
    have e1 := hW.2.at (i := 1) rfl
    have f2 := hW.1.at (i := 2) rfl
    have e2 := hW.2.at (i := 2) rfl
    have f3 := hW.1.at (i := 3) rfl
    have e3 := hW.2.at (i := 3) rfl
    have f4 := hW.1.at (i := 4) rfl
    have e4 := hW.2.at (i := 4) rfl
    have f5 := hW.1.at (i := 5) rfl
    have e5 := hW.2.at (i := 5) rfl
    have l1 := hW.1.lt
    have l2 := hW.2.lt
    go_simp
    (try with_reducible rfl)
   simp only [zpu, zsa, zsz, zss]
   refine fz_take 5 (v := ?_) rfl (by kernel_rfl) (by kernel_rfl) (by kernel_rfl) (by kernel_rfl) (fun _ _ _ h => h) rfl ?_ K0 ?_
   rotate_left
   ·
    intro W hW
    have f0 := hW.1.at (i := 0) rfl
    have e0 := hW.2.at (i := 0) rfl
    have f1 := hW.1.at (i := 1) rfl
    have e1 := hW.2.at (i := 1) rfl
    have f2 := hW.1.at (i := 2) rfl
    have e2 := hW.2.at (i := 2) rfl
    have f3 := hW.1.at (i := 3) rfl
    have e3 := hW.2.at (i := 3) rfl
    have f4 := hW.1.at (i := 4) rfl
    have e4 := hW.2.at (i := 4) rfl
    have f5 := hW.1.at (i := 5) rfl
    have e5 := hW.2.at (i := 5) rfl
    have l1 := hW.1.lt
    have l2 := hW.2.lt
    go_simp
    (try with_reducible rfl)
   simp only [zpu, zsa, zsz, zss]
   refine fz_take 6 (v := ?_) rfl (by kernel_rfl) (by kernel_rfl) (by kernel_rfl) (by kernel_rfl) (fun _ _ _ h => h) rfl ?_ K0 ?_
   rotate_left
   ·
    intro W hW
    have f0 := hW.1.at (i := 0) rfl
    have e0 := hW.2.at (i := 0) rfl
    have f1 := hW.1.at (i := 1) rfl
    have e1 := hW.2.at (i := 1) rfl
    have f2 := hW.1.at (i := 2) rfl
    have e2 := hW.2.at (i := 2) rfl
    have f3 := hW.1.at (i := 3) rfl
    have e3 := hW.2.at (i := 3) rfl
    have f4 := hW.1.at (i := 4) rfl
    have e4 := hW.2.at (i := 4) rfl
    have f5 := hW.1.at (i := 5) rfl
    have e5 := hW.2.at (i := 5) rfl
    have l1 := hW.1.lt
    have l2 := hW.2.lt
    go_simp
    (try with_reducible rfl)
   simp only [zpu, zsa, zsz, zss]
   refine fz_take 7 (v := ?_) rfl (by kernel_rfl) (by kernel_rfl) (by kernel_rfl) (by kernel_rfl) (fun _ _ _ h => h) rfl ?_ K0 ?_
   rotate_left
   ·
    intro W hW
    have f0 := hW.1.at (i := 0) rfl
    have e0 := hW.2.at (i := 0) rfl
    have f1 := hW.1.at (i := 1) rfl
    have e1 := hW.2.at (i := 1) rfl
    have f2 := hW.1.at (i := 2) rfl
    have e2 := hW.2.at (i := 2) rfl
    have f3 := hW.1.at (i := 3) rfl
    have e3 := hW.2.at (i := 3) rfl
    have f4 := hW.1.at (i := 4) rfl
    have e4 := hW.2.at (i := 4) rfl
    have f5 := hW.1.at (i := 5) rfl
    have e5 := hW.2.at (i := 5) rfl
    have l1 := hW.1.lt
    have l2 := hW.2.lt
    go_simp
    (try with_reducible rfl)
   simp only [zpu, zsa, zsz, zss]
   refine fz_take 8 (v := ?_) rfl (by kernel_rfl) (by kernel_rfl) (by kernel_rfl) (by kernel_rfl) (fun _ _ _ h => h) rfl ?_ K0 ?_
   rotate_left
   ·
    intro W hW
    have f0 := hW.1.at (i := 0) rfl
    have e0 := hW.2.at (i := 0) rfl
    have f1 := hW.1.at (i := 1) rfl
    have e1 := hW.2.at (i := 1) rfl
    have f2 := hW.1.at (i := 2) rfl
    have e2 := hW.2.at (i := 2) rfl
    have f3 := hW.1.at (i := 3) rfl
    have e3 := hW.2.at (i := 3) rfl
    have f4 := hW.1.at (i := 4) rfl
    have e4 := hW.2.at (i := 4) rfl
    have f5 := hW.1.at (i := 5) rfl
    have e5 := hW.2.at (i := 5) rfl
    have l1 := hW.1.lt
    have l2 := hW.2.lt
    go_simp
    (try with_reducible rfl)
   simp only [zpu, zsa, zsz, zss]
   refine fz_take 10 (v := ?_) rfl (by kernel_rfl) (by kernel_rfl) (by kernel_rfl) (by kernel_rfl) (fun _ _ _ h => h) rfl ?_ K0 ?_
   rotate_left
   ·
    intro W hW
    have f0 := hW.1.at (i := 0) rfl
    have e0 := hW.2.at (i := 0) rfl
    have f1 := hW.1.at (i := 1) rfl
    have e1 := hW.2.at (i := 1) rfl
    have f2 := hW.1.at (i := 2) rfl
    have e2 := hW.2.at (i := 2) rfl
    have f3 := hW.1.at (i := 3) rfl
    have e3 := hW.2.at (i := 3) rfl
    have f4 := hW.1.at (i := 4) rfl
    have e4 := hW.2.at (i := 4) rfl
    have f5 := hW.1.at (i := 5) rfl
    have e5 := hW.2.at (i := 5) rfl
    have l1 := hW.1.lt
    have l2 := hW.2.lt
    go_simp
    (try with_reducible rfl)
   simp only [zpu, zsa, zsz, zss]
   refine fz_take 11 (v := ?_) rfl (by kernel_rfl) (by kernel_rfl) (by kernel_rfl) (by kernel_rfl) (fun _ _ _ h => h) rfl ?_ K0 ?_
   rotate_left
   ·
    intro W hW
    have f0 := hW.1.at (i := 0) rfl
    have e0 := hW.2.at (i := 0) rfl
    have f1 := hW.1.at (i := 1) rfl
    have e1 := hW.2.at (i := 1) rfl
    have f2 := hW.1.at (i := 2) rfl
    have e2 := hW.2.at (i := 2) rfl
    have f3 := hW.1.at (i := 3) rfl
    have e3 := hW.2.at (i := 3) rfl
    have f4 := hW.1.at (i := 4) rfl
    have e4 := hW.2.at (i := 4) rfl
    have f5 := hW.1.at (i := 5) rfl
    have e5 := hW.2.at (i := 5) rfl
    have l1 := hW.1.lt
    have l2 := hW.2.lt
    go_simp
    (try with_reducible rfl)
   simp only [zpu, zsa, zsz, zss]
   refine fz_take 12 (v := ?_) rfl (by kernel_rfl) (by kernel_rfl) (by kernel_rfl) (by kernel_rfl) (fun _ _ _ h => h) rfl ?_ K0 ?_
   rotate_left
   ·
    intro W hW
    have f0 := hW.1.at (i := 0) rfl
    have e0 := hW.2.at (i := 0) rfl
    have f1 := hW.1.at (i := 1) rfl
    have e1 := hW.2.at (i := 1) rfl
    have f2 := hW.1.at (i := 2) rfl
    have e2 := hW.2.at (i := 2) rfl
    have f3 := hW.1.at (i := 3) rfl
    have e3 := hW.2.at (i := 3) rfl
    have f4 := hW.1.at (i := 4) rfl
    have e4 := hW.2.at (i := 4) rfl
    have f5 := hW.1.at (i := 5) rfl
    have e5 := hW.2.at (i := 5) rfl
    have l1 := hW.1.lt
    have l2 := hW.2.lt
    go_simp
    (try with_reducible rfl)
   simp only [zpu, zsa, zsz, zss]
   refine fz_take 13 (v := ?_) rfl (by kernel_rfl) (by kernel_rfl) (by kernel_rfl) (by kernel_rfl) (fun _ _ _ h => h) rfl ?_ K0 ?_
   rotate_left
   ·
    intro W hW
    have f0 := hW.1.at (i := 0) rfl
    have e0 := hW.2.at (i := 0) rfl
    have f1 := hW.1.at (i := 1) rfl
    have e1 := hW.2.at (i := 1) rfl
    have f2 := hW.1.at (i := 2) rfl
    have e2 := hW.2.at (i := 2) rfl
    have f3 := hW.1.at (i := 3) rfl
    have e3 := hW.2.at (i := 3) rfl
    have f4 := hW.1.at (i := 4) rfl
    have e4 := hW.2.at (i := 4) rfl
    have f5 := hW.1.at (i := 5) rfl
    have e5 := hW.2.at (i := 5) rfl
    have l1 := hW.1.lt
    have l2 := hW.2.lt
    go_simp
    (try with_reducible rfl)
   simp only [zpu, zsa, zsz, zss]
   refine fz_take 15 (v := ?_) rfl (by kernel_rfl) (by kernel_rfl) (by kernel_rfl) (by kernel_rfl) (fun _ _ _ h => h) rfl ?_ K0 ?_
   rotate_left
   ·
    intro W hW
    have f0 := hW.1.at (i := 0) rfl
    have e0 := hW.2.at (i := 0) rfl
    have f1 := hW.1.at (i := 1) rfl
    have e1 := hW.2.at (i := 1) rfl
    have f2 := hW.1.at (i := 2) rfl
    have e2 := hW.2.at (i := 2) rfl
    have f3 := hW.1.at (i := 3) rfl
    have e3 := hW.2.at (i := 3) rfl
    have f4 := hW.1.at (i := 4) rfl
    have e4 := hW.2.at (i := 4) rfl
    have f5 := hW.1.at (i := 5) rfl
    have e5 := hW.2.at (i := 5) rfl
    have l1 := hW.1.lt
    have l2 := hW.2.lt
    go_simp
    (try with_reducible rfl)
   simp only [zpu, zsa, zsz, zss]
   refine fz_take 16 (v := ?_) rfl (by kernel_rfl) (by kernel_rfl) (by kernel_rfl) (by kernel_rfl) (fun _ _ _ h => h) rfl ?_ K0 ?_
   rotate_left
   ·
    intro W hW
    have f0 := hW.1.at (i := 0) rfl
    have e0 := hW.2.at (i := 0) rfl
    have f1 := hW.1.at (i := 1) rfl
    have e1 := hW.2.at (i := 1) rfl
    have f2 := hW.1.at (i := 2) rfl
    have e2 := hW.2.at (i := 2) rfl
    have f3 := hW.1.at (i := 3) rfl
    have e3 := hW.2.at (i := 3) rfl
    have f4 := hW.1.at (i := 4) rfl
    have e4 := hW.2.at (i := 4) rfl
    have f5 := hW.1.at (i := 5) rfl
    have e5 := hW.2.at (i := 5) rfl
    have l1 := hW.1.lt
    have l2 := hW.2.lt
    go_simp
    (try with_reducible rfl)
   simp only [zpu, zsa, zsz, zss]
   refine fz_take 17 (v := ?_) rfl (by kernel_rfl) (by kernel_rfl) (by kernel_rfl) (by kernel_rfl) (fun _ _ _ h => h) rfl ?_ K0 ?_
   rotate_left
   ·
    intro W hW
    have f0 := hW.1.at (i := 0) rfl
    have e0 := hW.2.at (i := 0) rfl
    have f1 := hW.1.at (i := 1) rfl
    have e1 := hW.2.at (i := 1) rfl
    have f2 := hW.1.at (i := 2) rfl
    have e2 := hW.2.at (i := 2) rfl
    have f3 := hW.1.at (i := 3) rfl
    have e3 := hW.2.at (i := 3) rfl
    have f4 := hW.1.at (i := 4) rfl
    have e4 := hW.2.at (i := 4) rfl
    have f5 := hW.1.at (i := 5) rfl
    have e5 := hW.2.at (i := 5) rfl
    have l1 := hW.1.lt
    have l2 := hW.2.lt
    go_simp
    (try with_reducible rfl)
   simp only [zpu, zsa, zsz, zss]
   refine fz_take 18 (v := ?_) rfl (by kernel_rfl) (by kernel_rfl) (by kernel_rfl) (by kernel_rfl) (fun _ _ _ h => h) rfl ?_ K0 ?_
   rotate_left
   ·
    intro W hW
    have f0 := hW.1.at (i := 0) rfl
    have e0 := hW.2.at (i := 0) rfl
    have f1 := hW.1.at (i := 1) rfl
    have e1 := hW.2.at (i := 1) rfl
    have f2 := hW.1.at (i := 2) rfl
    have e2 := hW.2.at (i := 2) rfl
    have f3 := hW.1.at (i := 3) rfl
    have e3 := hW.2.at (i := 3) rfl
    have f4 := hW.1.at (i := 4) rfl
    have e4 := hW.2.at (i := 4) rfl
    have f5 := hW.1.at (i := 5) rfl
    have e5 := hW.2.at (i := 5) rfl
    have l1 := hW.1.lt
    have l2 := hW.2.lt
    go_simp
    (try with_reducible rfl)
   simp only [zpu, zsa, zsz, zss]
   refine fz_take 20 (v := ?_) rfl (by kernel_rfl) (by kernel_rfl) (by kernel_rfl) (by kernel_rfl) (fun _ _ _ h => h) rfl ?_ K0 ?_
   rotate_left
   ·
    intro W hW
    have f0 := hW.1.at (i := 0) rfl
    have e0 := hW.2.at (i := 0) rfl
    have f1 := hW.1.at (i := 1) rfl
    have e1 := hW.2.at (i := 1) rfl
    have f2 := hW.1.at (i := 2) rfl
    have e2 := hW.2.at (i := 2) rfl
    have f3 := hW.1.at (i := 3) rfl
    have e3 := hW.2.at (i := 3) rfl
    have f4 := hW.1.at (i := 4) rfl
    have e4 := hW.2.at (i := 4) rfl
    have f5 := hW.1.at (i := 5) rfl
    have e5 := hW.2.at (i := 5) rfl
    have l1 := hW.1.lt
    have l2 := hW.2.lt
    go_simp
    (try with_reducible rfl)
   simp only [zpu, zsa, zsz, zss]
   refine fz_take 21 (v := ?_) rfl (by kernel_rfl) (by kernel_rfl) (by kernel_rfl) (by kernel_rfl) (fun _ _ _ h => h) rfl ?_ K0 ?_
   rotate_left
   ·
    intro W hW
    have f0 := hW.1.at (i := 0) rfl
    have e0 := hW.2.at (i := 0) rfl
    have f1 := hW.1.at (i := 1) rfl
    have e1 := hW.2.at (i := 1) rfl
    have f2 := hW.1.at (i := 2) rfl
    have e2 := hW.2.at (i := 2) rfl
    have f3 := hW.1.at (i := 3) rfl
    have e3 := hW.2.at (i := 3) rfl
    have f4 := hW.1.at (i := 4) rfl
    have e4 := hW.2.at (i := 4) rfl
    have f5 := hW.1.at (i := 5) rfl
    have e5 := hW.2.at (i := 5) rfl
    have l1 := hW.1.lt
    have l2 := hW.2.lt
    go_simp
    (try with_reducible rfl)
   simp only [zpu, zsa, zsz, zss]
   refine fz_take 22 (v := ?_) rfl (by kernel_rfl) (by kernel_rfl) (by kernel_rfl) (by kernel_rfl) (fun _ _ _ h => h) rfl ?_ K0 ?_
   rotate_left
   ·
    intro W hW
    have f0 := hW.1.at (i := 0) rfl
    have e0 := hW.2.at (i := 0) rfl
    have f1 := hW.1.at (i := 1) rfl
    have e1 := hW.2.at (i := 1) rfl
    have f2 := hW.1.at (i := 2) rfl
    have e2 := hW.2.at (i := 2) rfl
    have f3 := hW.1.at (i := 3) rfl
    have e3 := hW.2.at (i := 3) rfl
    have f4 := hW.1.at (i := 4) rfl
    have e4 := hW.2.at (i := 4) rfl
    have f5 := hW.1.at (i := 5) rfl
    have e5 := hW.2.at (i := 5) rfl
    have l1 := hW.1.lt
    have l2 := hW.2.lt
    go_simp
    (try with_reducible rfl)
   simp only [zpu, zsa, zsz, zss]
   refine fz_take 23 (v := ?_) rfl (by kernel_rfl) (by kernel_rfl) (by kernel_rfl) (by kernel_rfl) (fun _ _ _ h => h) rfl ?_ K0 ?_
   rotate_left
   ·
    intro W hW
    have f0 := hW.1.at (i := 0) rfl
    have e0 := hW.2.at (i := 0) rfl
    have f1 := hW.1.at (i := 1) rfl
    have e1 := hW.2.at (i := 1) rfl
    have f2 := hW.1.at (i := 2) rfl
    have e2 := hW.2.at (i := 2) rfl
    have f3 := hW.1.at (i := 3) rfl
    have e3 := hW.2.at (i := 3) rfl
    have f4 := hW.1.at (i := 4) rfl
    have e4 := hW.2.at (i := 4) rfl
    have f5 := hW.1.at (i := 5) rfl
    have e5 := hW.2.at (i := 5) rfl
    have l1 := hW.1.lt
    have l2 := hW.2.lt
    go_simp
    (try with_reducible rfl)
   simp only [zpu, zsa, zsz, zss]
   refine fz_take 25 (v := ?_) rfl (by kernel_rfl) (by kernel_rfl) (by kernel_rfl) (by kernel_rfl) (fun _ _ _ h => h) rfl ?_ K0 ?_
   rotate_left
   ·
    intro W hW
    have f0 := hW.1.at (i := 0) rfl
    have e0 := hW.2.at (i := 0) rfl
    have f1 := hW.1.at (i := 1) rfl
    have e1 := hW.2.at (i := 1) rfl
    have f2 := hW.1.at (i := 2) rfl
    have e2 := hW.2.at (i := 2) rfl
    have f3 := hW.1.at (i := 3) rfl
    have e3 := hW.2.at (i := 3) rfl
    have f4 := hW.1.at (i := 4) rfl
    have e4 := hW.2.at (i := 4) rfl
    have f5 := hW.1.at (i := 5) rfl
    have e5 := hW.2.at (i := 5) rfl
    have l1 := hW.1.lt
    have l2 := hW.2.lt
    go_simp
    (try with_reducible rfl)
   simp only [zpu, zsa, zsz, zss]
   refine fz_take 26 (v := ?_) rfl (by kernel_rfl) (by kernel_rfl) (by kernel_rfl) (by kernel_rfl) (fun _ _ _ h => h) rfl ?_ K0 ?_
   rotate_left
   ·
    intro W hW
    have f0 := hW.1.at (i := 0) rfl
    have e0 := hW.2.at (i := 0) rfl
    have f1 := hW.1.at (i := 1) rfl
    have e1 := hW.2.at (i := 1) rfl
    have f2 := hW.1.at (i := 2) rfl
    have e2 := hW.2.at (i := 2) rfl
    have f3 := hW.1.at (i := 3) rfl
    have e3 := hW.2.at (i := 3) rfl
    have f4 := hW.1.at (i := 4) rfl
    have e4 := hW.2.at (i := 4) rfl
    have f5 := hW.1.at (i := 5) rfl
    have e5 := hW.2.at (i := 5) rfl
    have l1 := hW.1.lt
    have l2 := hW.2.lt
    go_simp
    (try with_reducible rfl)
   simp only [zpu, zsa, zsz, zss]
   refine fz_take 27 (v := ?_) rfl (by kernel_rfl) (by kernel_rfl) (by kernel_rfl) (by kernel_rfl) (fun _ _ _ h => h) rfl ?_ K0 ?_
   rotate_left
   ·
    intro W hW
    have f0 := hW.1.at (i := 0) rfl
    have e0 := hW.2.at (i := 0) rfl
    have f1 := hW.1.at (i := 1) rfl
    have e1 := hW.2.at (i := 1) rfl
    have f2 := hW.1.at (i := 2) rfl
    have e2 := hW.2.at (i := 2) rfl
    have f3 := hW.1.at (i := 3) rfl
    have e3 := hW.2.at (i := 3) rfl
    have f4 := hW.1.at (i := 4) rfl
    have e4 := hW.2.at (i := 4) rfl
    have f5 := hW.1.at (i := 5) rfl
    have e5 := hW.2.at (i := 5) rfl
    have l1 := hW.1.lt
    have l2 := hW.2.lt
    go_simp
    (try with_reducible rfl)
   simp only [zpu, zsa, zsz, zss]
   refine fz_take 28 (v := ?_) rfl (by kernel_rfl) (by kernel_rfl) (by kernel_rfl) (by kernel_rfl) (fun _ _ _ h => h) rfl ?_ K0 ?_
   rotate_left
   ·
    intro W hW
    have f0 := hW.1.at (i := 0) rfl
    have e0 := hW.2.at (i := 0) rfl
    have f1 := hW.1.at (i := 1) rfl
    have e1 := hW.2.at (i := 1) rfl
    have f2 := hW.1.at (i := 2) rfl
    have e2 := hW.2.at (i := 2) rfl
    have f3 := hW.1.at (i := 3) rfl
    have e3 := hW.2.at (i := 3) rfl
    have f4 := hW.1.at (i := 4) rfl
    have e4 := hW.2.at (i := 4) rfl
    have f5 := hW.1.at (i := 5) rfl
    have e5 := hW.2.at (i := 5) rfl
    have l1 := hW.1.lt
    have l2 := hW.2.lt
    go_simp
    (try with_reducible rfl)
   simp only [zpu, zsa, zsz, zss]
   refine fz_mixR [(4, 34, some (.int .i64 (cmpI x.t y.t))), (9, 39, some (.int .i64 (cmpI x.i y.i))), (14, 44, some (.int .i64 (cmpI x.k y.k))), (19, 49, some (.int .i64 (cmpI x.l y.l))), (24, 54, some (.int .i64 (cmpI x.r y.r))), (29, 59, some (.int .i64 (cmpI x.w y.w))), (30, 60, some (.agg #[.int .i64 (cmpI x.t y.t), .int .i64 (cmpI x.i y.i), .int .i64 (cmpI x.k y.k), .int .i64 (cmpI x.l y.l), .int .i64 (cmpI x.r y.r), .int .i64 (cmpI x.w y.w)])), (31, 8, none)] #[true, true, true, true, true, true, true, true, true, true, true, true, true, true, true, true, true, true, true, true, true, true, true, true, true, true, true, true, true, true, true, true, false] 165 #[.int .i64 0, .int .i64 0, .int .i64 0, .int .i64 0, .int .i64 0, .int .i64 0] 8 1 hzA (by simp) (by simp) ?_ ?_ rfl hon K0 (by kernel_rfl) (by kernel_rfl) ?_ ?_
   ·
    intro i d hi
    simp only [List.mem_cons, Prod.mk.injEq, List.not_mem_nil, or_false, reduceCtorEq, and_false, false_or, and_true] at hi
    rcases hi with ⟨rfl, rfl⟩ <;> exact ⟨_, rfl, rfl, rfl, rfl⟩
   ·
    intro x hx
    simp only [List.mem_cons, List.not_mem_nil, or_false] at hx
    rcases hx with rfl | rfl | rfl | rfl | rfl | rfl | rfl | rfl <;> rfl
   ·
    intro i d v hi
    simp only [List.mem_cons, Prod.mk.injEq, List.not_mem_nil, or_false, reduceCtorEq, and_false, Option.some.injEq] at hi
    rcases hi with ⟨rfl, rfl, rfl⟩ | ⟨rfl, rfl, rfl⟩ | ⟨rfl, rfl, rfl⟩ | ⟨rfl, rfl, rfl⟩ | ⟨rfl, rfl, rfl⟩ | ⟨rfl, rfl, rfl⟩ | ⟨rfl, rfl, rfl⟩
    ·
     refine ⟨_, rfl, rfl, fun p W' l' K _ _ hS hO hK => ?_⟩
     simp only [putsA, putsD, List.foldl_cons, List.foldl_nil, Act.put, List.setIfInBounds_toArray, List.set_cons_zero, List.set_cons_succ] at hK ⊢
     go_simp
     refine (bef_is x.t y.t _).mono ?_
     rintro _ W'' ⟨rfl, kk⟩
     exact hK W'' kk
    ·
     refine ⟨_, rfl, rfl, fun p W' l' K _ _ hS hO hK => ?_⟩
     simp only [putsA, putsD, List.foldl_cons, List.foldl_nil, Act.put, List.setIfInBounds_toArray, List.set_cons_zero, List.set_cons_succ] at hK ⊢
     go_simp
     refine (bef_is x.i y.i _).mono ?_
     rintro _ W'' ⟨rfl, kk⟩
     exact hK W'' kk
    ·
     refine ⟨_, rfl, rfl, fun p W' l' K _ _ hS hO hK => ?_⟩
     simp only [putsA, putsD, List.foldl_cons, List.foldl_nil, Act.put, List.setIfInBounds_toArray, List.set_cons_zero, List.set_cons_succ] at hK ⊢
     go_simp
     refine (bef_is x.k y.k _).mono ?_
     rintro _ W'' ⟨rfl, kk⟩
     exact hK W'' kk
    ·
     refine ⟨_, rfl, rfl, fun p W' l' K _ _ hS hO hK => ?_⟩
     simp only [putsA, putsD, List.foldl_cons, List.foldl_nil, Act.put, List.setIfInBounds_toArray, List.set_cons_zero, List.set_cons_succ] at hK ⊢
     go_simp
     refine (bef_is x.l y.l _).mono ?_
     rintro _ W'' ⟨rfl, kk⟩
     exact hK W'' kk
    ·
     refine ⟨_, rfl, rfl, fun p W' l' K _ _ hS hO hK => ?_⟩
     simp only [putsA, putsD, List.foldl_cons, List.foldl_nil, Act.put, List.setIfInBounds_toArray, List.set_cons_zero, List.set_cons_succ] at hK ⊢
     go_simp
     refine (bef_is x.r y.r _).mono ?_
     rintro _ W'' ⟨rfl, kk⟩
     exact hK W'' kk
    ·
     refine ⟨_, rfl, rfl, fun p W' l' K _ _ hS hO hK => ?_⟩
     simp only [putsA, putsD, List.foldl_cons, List.foldl_nil, Act.put, List.setIfInBounds_toArray, List.set_cons_zero, List.set_cons_succ] at hK ⊢
     go_simp
     refine (bef_is x.w y.w _).mono ?_
     rintro _ W'' ⟨rfl, kk⟩
     exact hK W'' kk
    ·
     refine ⟨_, rfl, rfl, fun p W' l' K hr hm hS hO hK => ?_⟩
     obtain ⟨u4, hu4⟩ := Option.isSome_iff_exists.1 (hm.done (4, 34, some (.int .i64 (cmpI x.t y.t))) (by simp) (ready_dep hr rfl (e := ⟨4, .data⟩) (by simp) rfl))
     obtain rfl := hm.val 4 34 (.int .i64 (cmpI x.t y.t)) u4 (by simp) hu4
     obtain ⟨u9, hu9⟩ := Option.isSome_iff_exists.1 (hm.done (9, 39, some (.int .i64 (cmpI x.i y.i))) (by simp) (ready_dep hr rfl (e := ⟨9, .data⟩) (by simp) rfl))
     obtain rfl := hm.val 9 39 (.int .i64 (cmpI x.i y.i)) u9 (by simp) hu9
     obtain ⟨u14, hu14⟩ := Option.isSome_iff_exists.1 (hm.done (14, 44, some (.int .i64 (cmpI x.k y.k))) (by simp) (ready_dep hr rfl (e := ⟨14, .data⟩) (by simp) rfl))
     obtain rfl := hm.val 14 44 (.int .i64 (cmpI x.k y.k)) u14 (by simp) hu14
     obtain ⟨u19, hu19⟩ := Option.isSome_iff_exists.1 (hm.done (19, 49, some (.int .i64 (cmpI x.l y.l))) (by simp) (ready_dep hr rfl (e := ⟨19, .data⟩) (by simp) rfl))
     obtain rfl := hm.val 19 49 (.int .i64 (cmpI x.l y.l)) u19 (by simp) hu19
     obtain ⟨u24, hu24⟩ := Option.isSome_iff_exists.1 (hm.done (24, 54, some (.int .i64 (cmpI x.r y.r))) (by simp) (ready_dep hr rfl (e := ⟨24, .data⟩) (by simp) rfl))
     obtain rfl := hm.val 24 54 (.int .i64 (cmpI x.r y.r)) u24 (by simp) hu24
     obtain ⟨u29, hu29⟩ := Option.isSome_iff_exists.1 (hm.done (29, 59, some (.int .i64 (cmpI x.w y.w))) (by simp) (ready_dep hr rfl (e := ⟨29, .data⟩) (by simp) rfl))
     obtain rfl := hm.val 29 59 (.int .i64 (cmpI x.w y.w)) u29 (by simp) hu29
     simp only [putsA, putsD, List.foldl_cons, List.foldl_nil, hu4, hu9, hu14, hu19, hu24, hu29, Option.getD_some, Act.put, List.setIfInBounds_toArray, List.set_cons_zero, List.set_cons_succ] at hK ⊢
     go_simp
     exact hK W' (On.refl _)
   intro p WE hm hSE
   obtain ⟨u4, hu4⟩ := Option.isSome_iff_exists.1 (hm.done (4, 34, some (.int .i64 (cmpI x.t y.t))) (by simp) rfl)
   obtain rfl := hm.val 4 34 (.int .i64 (cmpI x.t y.t)) u4 (by simp) hu4
   obtain ⟨u9, hu9⟩ := Option.isSome_iff_exists.1 (hm.done (9, 39, some (.int .i64 (cmpI x.i y.i))) (by simp) rfl)
   obtain rfl := hm.val 9 39 (.int .i64 (cmpI x.i y.i)) u9 (by simp) hu9
   obtain ⟨u14, hu14⟩ := Option.isSome_iff_exists.1 (hm.done (14, 44, some (.int .i64 (cmpI x.k y.k))) (by simp) rfl)
   obtain rfl := hm.val 14 44 (.int .i64 (cmpI x.k y.k)) u14 (by simp) hu14
   obtain ⟨u19, hu19⟩ := Option.isSome_iff_exists.1 (hm.done (19, 49, some (.int .i64 (cmpI x.l y.l))) (by simp) rfl)
   obtain rfl := hm.val 19 49 (.int .i64 (cmpI x.l y.l)) u19 (by simp) hu19
   obtain ⟨u24, hu24⟩ := Option.isSome_iff_exists.1 (hm.done (24, 54, some (.int .i64 (cmpI x.r y.r))) (by simp) rfl)
   obtain rfl := hm.val 24 54 (.int .i64 (cmpI x.r y.r)) u24 (by simp) hu24
   obtain ⟨u29, hu29⟩ := Option.isSome_iff_exists.1 (hm.done (29, 59, some (.int .i64 (cmpI x.w y.w))) (by simp) rfl)
   obtain rfl := hm.val 29 59 (.int .i64 (cmpI x.w y.w)) u29 (by simp) hu29
   obtain ⟨u30, hu30⟩ := Option.isSome_iff_exists.1 (hm.done (30, 60, some (.agg #[.int .i64 (cmpI x.t y.t), .int .i64 (cmpI x.i y.i), .int .i64 (cmpI x.k y.k), .int .i64 (cmpI x.l y.l), .int .i64 (cmpI x.r y.r), .int .i64 (cmpI x.w y.w)])) (by simp) rfl)
   obtain rfl := hm.val 30 60 (.agg #[.int .i64 (cmpI x.t y.t), .int .i64 (cmpI x.i y.i), .int .i64 (cmpI x.k y.k), .int .i64 (cmpI x.l y.l), .int .i64 (cmpI x.r y.r), .int .i64 (cmpI x.w y.w)]) u30 (by simp) hu30
   obtain ⟨u31, hu31⟩ := Option.isSome_iff_exists.1 (hm.done (31, 8, none) (by simp) rfl)
   obtain ⟨N8, rfl, b8, g8⟩ := hm.blk 31 8 u31 (by simp) hu31
   have kM := hm.on
   simp only [putsA, putsD, List.foldl_cons, List.foldl_nil, hu4, hu9, hu14, hu19, hu24, hu29, hu30, hu31, Option.getD_some, Act.put, List.setIfInBounds_toArray, List.set_cons_zero, List.set_cons_succ]
   clear hm hu4 hu9 hu14 hu19 hu24 hu29 hu30 hu31
   have G8 : W7.heap.size ≤ N8 := g8
   have G8r : wr.heap.size ≤ N8 := Nat.le_trans k7.size G8
   have wlc := b8.lt
   have c0 := b8.at (i := 0) rfl
   have c1 := b8.at (i := 1) rfl
   have c2 := b8.at (i := 2) rfl
   have c3 := b8.at (i := 3) rfl
   have c4 := b8.at (i := 4) rfl
   have c5 := b8.at (i := 5) rfl
   have cf := fun i => b8.fr i
   refine fz_one 32 rfl rfl (by kernel_rfl) (fun K hK => ?_)
   go_simp
   obtain ⟨W8, hW8⟩ : ∃ W8, W8 = putCells WE N8 0 [.int .i64 (cmpI x.t y.t), .int .i64 (cmpI x.i y.i), .int .i64 (cmpI x.k y.k), .int .i64 (cmpI x.l y.l), .int .i64 (cmpI x.r y.r), .int .i64 (cmpI x.w y.w)] := ⟨_, rfl⟩
   have d8 : Bk W8 N8 (((evCs x y).flatMap intC).toArray) := by rw [hW8]; exact Bk.puts [.int .i64 (cmpI x.t y.t), .int .i64 (cmpI x.i y.i), .int .i64 (cmpI x.k y.k), .int .i64 (cmpI x.l y.l), .int .i64 (cmpI x.r y.r), .int .i64 (cmpI x.w y.w)] WE [.int .i64 0, .int .i64 0, .int .i64 0, .int .i64 0, .int .i64 0, .int .i64 0] 0 b8
   have k8 : On wr W8 := by rw [hW8]; exact On.puts G8r [.int .i64 (cmpI x.t y.t), .int .i64 (cmpI x.i y.i), .int .i64 (cmpI x.k y.k), .int .i64 (cmpI x.l y.l), .int .i64 (cmpI x.r y.r), .int .i64 (cmpI x.w y.w)] WE 0 ((k7.trans (On.drew (On.refl _))).trans kM)
   have n6 : N8 ≠ N6 := by have := d6.lt; omega
   have n7 : N8 ≠ N7 := by have := d7.lt; omega
   refine hK.out _ _ (fun _ => (show (Bk (putCells WE N8 0 [.int .i64 (cmpI x.t y.t), .int .i64 (cmpI x.i y.i), .int .i64 (cmpI x.k y.k), .int .i64 (cmpI x.l y.l), .int .i64 (cmpI x.r y.r), .int .i64 (cmpI x.w y.w)]) N6 #[.int .i64 x.t, .int .i64 x.i, .int .i64 x.k, .int .i64 x.l, .int .i64 x.r, .int .i64 x.w] ∧ Bk (putCells WE N8 0 [.int .i64 (cmpI x.t y.t), .int .i64 (cmpI x.i y.i), .int .i64 (cmpI x.k y.k), .int .i64 (cmpI x.l y.l), .int .i64 (cmpI x.r y.r), .int .i64 (cmpI x.w y.w)]) N7 #[.int .i64 y.t, .int .i64 y.i, .int .i64 y.k, .int .i64 y.l, .int .i64 y.r, .int .i64 y.w]) from ⟨Bk.fars n6 [.int .i64 (cmpI x.t y.t), .int .i64 (cmpI x.i y.i), .int .i64 (cmpI x.k y.k), .int .i64 (cmpI x.l y.l), .int .i64 (cmpI x.r y.r), .int .i64 (cmpI x.w y.w)] WE _ 0 hSE.1, Bk.fars n7 [.int .i64 (cmpI x.t y.t), .int .i64 (cmpI x.i y.i), .int .i64 (cmpI x.k y.k), .int .i64 (cmpI x.l y.l), .int .i64 (cmpI x.r y.r), .int .i64 (cmpI x.w y.w)] WE _ 0 hSE.2⟩)) ?_
   clear hK c0 c1 c2 c3 c4 c5 cf wlc b8 d6 d7 hSE
   rw [show (((((((WE.setCell ⟨N8, 0, none⟩ (.int .i64 (cmpI x.t y.t))).setCell ⟨N8, 1, none⟩ (.int .i64 (cmpI x.i y.i))).setCell ⟨N8, 2, none⟩ (.int .i64 (cmpI x.k y.k))).setCell ⟨N8, 3, none⟩ (.int .i64 (cmpI x.l y.l))).setCell ⟨N8, 4, none⟩ (.int .i64 (cmpI x.r y.r))).setCell ⟨N8, 5, none⟩ (.int .i64 (cmpI x.w y.w)))) = W8 from hW8.symm]
   clear hW8 kM
   refine fz_done (by kernel_rfl) (NoPanic.normal ?_)
   have hE6 : (evCs x y).length = 6 := rfl
   obtain ⟨z, hz⟩ : ∃ z, z = evCmp x y := ⟨_, rfl⟩
   rw [← hz] at HRR
   have HZ : Hid (z = orN ((evCs x y).drop 0)) := hz
   have R8 : Hid (Rd intC 1 W8 (.slice (some ⟨N8, 0, none⟩) (evCs x y).length 6) (evCs x y)) := Rd.bk (C := intC) (k := 1) (fun _ => rfl) (L := evCs x y) d8 6 (by show 6 ≤ 6; decide) (by show 6 ≤ 9223372036854775807; decide)
   clear hz d8
   generalize evCs x y = E at *
   go_wp2
   go_loopg [9] 6 (fun gg s9 wq => ∃ m : Nat, m ≤ 6 ∧ gg = 6 - m ∧ s9 = .int .i64 m ∧ wq = W8 ∧ Hid (z = orN (E.drop m)))
   case atStart => exact ⟨0, by omega, rfl, rfl, rfl, HZ⟩
   case round =>
    clear HZ
    obtain ⟨m, hm6, hk6, rfl, rfl, HZ⟩ := hrel
    rcases Nat.lt_or_ge m 6 with hlt6 | hge6
    ·
     obtain ⟨e, he⟩ : ∃ e, E[m]? = some e := ⟨_, List.getElem?_eq_getElem (by omega)⟩
     obtain ⟨g3, o3, hgo3, hg3, hc⟩ := R8.out.at he
     simp only [Option.some.injEq, Addr.mk.injEq] at hgo3
     obtain ⟨rfl, rfl, _⟩ := hgo3
     have hc0 := hc 0 _ rfl
     rw [Nat.mul_one, Nat.add_zero, Nat.zero_add] at hc0
     have hq := HZ.out
     rw [drop_at he, orN] at hq
     have bm0 : (0 : Int) ≤ (m : Int) := by omega
     have bm1 : (m : Int) < 6 := by omega
     by_cases h0 : e = 0
     ·
      rw [if_pos h0] at hq
      have hb : ((e : Int) != 0) = false := by rw [h0]; rfl
      have HZ2 : Hid (z = orN (E.drop (m + 1))) := hq
      clear he hq HZ hc h0
      go_wp2
      go_roundg (6 - (m + 1))
      case measure => omega
      case rel => exact ⟨m + 1, by omega, rfl, by go_num, rfl, HZ2⟩
     ·
      rw [if_neg h0] at hq
      have hb : ((e : Int) != 0) = true := by simpa using h0
      have hrr := HRR.out
      rw [hq, if_neg h0] at hrr
      subst hrr
      clear he hq HZ hc h0 HRR
      go_wp2
      go_ret
      exact ⟨rfl, HO.out.trans k8⟩
    ·
     obtain rfl : m = 6 := by omega
     have hq := HZ.out
     rw [List.drop_eq_nil_of_le (by omega), orN] at hq
     have hrr := HRR.out
     rw [if_pos hq] at hrr
     have HR2 : Hid (R = lexC evCmp (L.drop (n + 1)) (M.drop (n + 1))) := hrr
     clear hq hrr HRR HZ
     go_wp2
     go_roundg (L.length - (n + 1))
     case measure => omega
     case rel => exact ⟨n + 1, by omega, by omega, rfl, by go_num, HO.out.trans k8, HR2⟩
  ·
   have hr := HR.out
   rw [lex_end evCmp L M n hn hnM hgo] at hr
   subst hr
   clear HR
   rcases Nat.lt_or_ge n L.length with hl | hl
   ·
    have dl : decide (n < L.length) = true := decide_eq_true hl
    have dm : decide (n < M.length) = false := decide_eq_false (by omega)
    clear hgo
    go_wp2_with fail
    refine (hBf _).mono ?_
    rintro _ w1 ⟨rfl, k1⟩
    go_wp2
    go_ret
    exact ⟨rfl, HO.out.trans k1⟩
   ·
    have dl : decide (n < L.length) = false := decide_eq_false (by omega)
    clear hgo
    go_wp2_with fail
    refine (hBf _).mono ?_
    rintro _ w1 ⟨rfl, k1⟩
    go_wp2
    go_ret
    exact ⟨rfl, HO.out.trans k1⟩
theorem rcmp_all (x y : ExT) (vx vy : Value) (w : World) (hx : ExRd w vx x) (hy : ExRd w vy y) :
  Calls Tryz.prog 78 #[vx, vy] w fun e w' => e = .returned (.int .i64 (exCmp x y)) ∧ On w w' := rcmp_is revs_is x y vx vy w hx hy
end Go.Proofs.YtioiabfheeglgaaGreatDoor
