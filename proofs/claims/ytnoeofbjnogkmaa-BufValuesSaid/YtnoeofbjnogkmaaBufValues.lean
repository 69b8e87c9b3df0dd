/- The law BufValues, walked. -/
import Derived.Test.YtnoeofbjnogkmaaBufG
import Derived.Test.YtnoeofbjnogkmaaRegDeep
namespace Go.Proofs.Ytnoeofbjnogkmaa
open Go.RowKit

/-- The law's Buf behind i rounds. -/
def VaP (i : Nat) (x : BufT) : Prop := (x.m = 2 ∨ x.m = 3) ∧ x.l.length ≤ i
theorem VaP.put {i : Nat} {x : BufT} (h : VaP i x) (hi : i < 20) {e : EnT} (he : EnIn e) (h0 : 0 ≤ e.1) (h4 : e.1 < 4) : VaP (i + 1) (putB x e he) ∧ (putB x e he).l.length = x.l.length + 1 := by
  obtain ⟨h1, h2⟩ := h
  have hm0 : x.m ≠ 0 := fun e => by rcases h1 with q | q <;> rw [e] at q <;> cases q
  obtain ⟨q1, q2⟩ := putB_len he hm0 (Nat.lt_of_le_of_lt h2 (Nat.lt_trans hi (by decide))) h0 h4
  exact ⟨⟨by rw [q2]; exact h1, by omega⟩, q1⟩
theorem VaP.drop {i : Nat} {x : BufT} (h : VaP i x) (c : Int) : VaP i (dropB x c) := by
  obtain ⟨q1, q2⟩ := dropB_len x c
  exact ⟨by rw [q2]; exact h.1, Nat.le_trans q1 h.2⟩
theorem VaP.new {m : Int} (hm : InR m) (h : m = 2 ∨ m = 3) : VaP 0 (newB m hm) := by
  unfold newB
  rw [if_pos h]
  exact ⟨h, Nat.le_refl _⟩
set_option maxHeartbeats 8000000 in
set_option maxRecDepth 8000 in
theorem bufValues_walk (m0 : Int) (a : Option Addr) (L : List OpT) (cap : Nat) (w : World) (hr : Rd opC 3 w (.slice a L.length cap) L) : Calls Try.prog 3 #[.int .i64 m0, .slice a L.length cap] w fun e w' => e = .returned (.bool true) ∧ On w w' := by
  obtain ⟨m, hm, hm2⟩ := and_cut (fun n => bits .and .i64 n 1) m0 2 (and_1 m0) (by decide)
  replace hm : bits .and .i64 m0 1 = (m : Int) := hm
  obtain ⟨m2, hm2'⟩ : ∃ m2, m2 = m + 2 := ⟨_, rfl⟩
  have hov0 : wrap64 ((m : Int) + 2) = (m2 : Int) := by rw [wrapS (by omega) (by omega)]; omega
  have hov1 : IntKind.i64.wrap ((m : Int) + 2) = (m2 : Int) := by rw [wrapT (by omega) (by omega)]; omega
  have rm : InR (m2 : Int) := inr_nat (by omega)
  have hz : ∀ w, (zeroValue 27).run Try.prog w = .ok (.agg (bufA bufZ)) w := fun w => (zero_of_info buf_info).1 w
  have h1 : ∀ W, Calls Try.prog 7 #[.int .i64 (wrap64 ((m : Int) + 2))] W fun e w' => e = .returned (.agg (bufA (newB m2 rm))) ∧ On W w' := fun W => by rw [hov0]; exact new_is m2 rm W
  have HP0 : Hid (VaP 0 (newB m2 rm)) := VaP.new rm (by omega)
  have HR : Hid (Rd opC 3 w (.slice a L.length cap) L) := hr
  have HA := fun W => awake15_is W
  generalize newB (m2 : Int) rm = x at *
  clear hr hm2 hm2' rm hov0 hov1
  go_enter Try.func3, Try.ntmps3
  go_wp2_with fail
  refine (h1 _).mono ?_
  rintro _ w1 ⟨rfl, k1⟩
  go_wp2_with fail
  refine (h1 _).mono ?_
  rintro _ w2 ⟨rfl, k2⟩
  clear h1
  have K2 : Hid (On w w2) := k1.trans k2
  obtain ⟨W4, hW4⟩ : ∃ W4, W4 = (w2.alloc (.cells (bufA bufZ) 27)).alloc (.cells (bufA bufZ) 27) := ⟨_, rfl⟩
  have HW4 : Hid (W4 = (w2.alloc (.cells (bufA bufZ) 27)).alloc (.cells (bufA bufZ) 27)) := hW4
  have M4 : Hid (OrM w W4 w2.heap.size bufZ bufZ) := by
    show OrM _ _ _ _ _
    have z1 : (w2.alloc (.cells (bufA bufZ) 27)).heap.size = w2.heap.size + 1 := by simp
    rw [hW4]
    refine ⟨(K2.out.alloc _).alloc _, K2.out.size, (Bk.new w2 _ _).alloc _, ?_⟩
    rw [← z1]
    exact Bk.new _ _ _
  have M5 : Hid (OrM w (W4.setRow w2.heap.size (bufA x)) w2.heap.size x bufZ) := M4.out.set3 x
  have M6 : Hid (OrM w ((W4.setRow w2.heap.size (bufA x)).setRow (w2.heap.size + 1) (bufA x)) w2.heap.size x x) := M5.out.set4 x
  clear k1 k2 hW4
  go_wp2_with (first
    | (rw [← HW4.out]; refine wpList_bst rfl rfl rfl (by exact rfl) M4.out.b3 ?_)
    | (refine wpList_bst rfl rfl rfl (by exact rfl) M5.out.b4 ?_))
  clear M4 M5 HW4 K2 hm
  generalize w2.heap.size = N at *
  go_loopg [7] 20 (fun gg s7 wr => ∃ i x, i ≤ 20 ∧ gg = 20 - i ∧ s7 = .int .i64 (i : Nat) ∧ Hid (VaP i x) ∧ Hid (OrM w wr N x x))
  case atStart => exact ⟨0, x, by decide, rfl, rfl, HP0, M6⟩
  case round =>
    obtain ⟨i, x, hin, hg, rfl, HP, HM⟩ := hrel
    have HI : Hid (i ≤ 20) := hin
    have HG : Hid (gk = 20 - i) := hg
    clear HP0 M6 hg hin
    by_cases hgo : i < L.length ∧ i < 20
    · obtain ⟨hiL, hi20⟩ := hgo
      obtain ⟨o, ho⟩ : ∃ o, L[i]? = some o := ⟨_, List.getElem?_eq_getElem hiL⟩
      obtain ⟨g, off, hae, hoa⟩ := rd_ops HR.out (Nat.lt_of_le_of_lt (Nat.zero_le _) hiL)
      subst hae
      have HO0 : Hid (OpAt w g (off + i * 3) o) := hoa i o ho
      have HOA : Hid (OpAt wr g (off + i * 3) o) := (hoa i o ho).on HM.out.on
      have he := op_in o (i := i) (Nat.le_trans (Nat.le_of_lt hi20) (by decide))
      have hq4 := loc3_lt o.l
      have hput := HP.out.put hi20 he (Int.natCast_nonneg _) (nat_lt hq4)
      have HP2 : Hid (VaP (i + 1) (putB x _ he)) := hput.1
      have HP3 : Hid (VaP (i + 1) (dropB (putB x _ he) (loc3 o.l))) := hput.1.drop _
      obtain ⟨lx, hlx⟩ : ∃ lx, lx = x.l.length := ⟨_, rfl⟩
      obtain ⟨lX, hlX⟩ : ∃ lX, lX = (putB x _ he).l.length := ⟨_, rfl⟩
      obtain ⟨lY, hlY⟩ : ∃ lY, lY = (dropB x (loc3 o.l)).l.length := ⟨_, rfl⟩
      have hd := (dropB_len x (loc3 o.l)).1
      have hne : putB x _ he ≠ x := fun e => by have := hput.2; rw [e] at this; omega
      have HNE : Hid (putB x _ he ≠ x) := hne
      have cL := fun W => len_is x W
      have cLX := fun W => len_is (putB x _ he) W
      have cLY := fun W => len_is (dropB x (loc3 o.l)) W
      rw [← hlx] at cL
      rw [← hlX] at cLX
      rw [← hlY] at cLY
      have cP := fun W => put_is x (loc3 o.l) o.v i he W
      have cD := fun W => drop_is x (loc3 o.l) W
      have cE := fun W => drop_is (putB x _ he) (loc3 o.l) W
      have hXe : lX = lx + 1 := by rw [hlX, hlx]; exact hput.2
      have hYe : ¬ lx < lY := by rw [hlx, hlY]; exact Nat.not_lt.2 hd
      have hlx24 : lx ≤ 900 := by rw [hlx]; exact Nat.le_trans x.len (by decide)
      have e1 : wrap64 ((lx : Int) + 1) = (lX : Int) := wrapM hlx24 hXe
      have e2 : ((lX : Int) != wrap64 ((lx : Int) + 1)) = false := by rw [e1]; simp
      have e3 : decide (lx < lY) = false := decide_eq_false hYe
      have e4 : decide ((lx : Int) < (lY : Int)) = false := decide_eq_false (fun h => hYe (Int.ofNat_lt.1 h))
      have had := loc3_is o.l
      have hov : wrap64 ((i : Int) + 1) = ((i + 1 : Nat) : Int) := wrapN (Nat.le_trans (Nat.le_of_lt hi20) (by decide))
      have d1 : (i : Int) < (L.length : Int) := nat_lt hiL
      have d2 : decide ((i : Int) < 0) = false := nat_nn i
      have d4 : (0 : Int) ≤ (i : Int) := nat_0 i
      have d5 : (i : Int) < 20 := nat_lt hi20
      have HL : Hid (i < 20) := hi20
      clear e1
      generalize dropB (putB x _ he) (loc3 o.l) = zz at *
      generalize putB x _ he = xx at *
      generalize dropB x (loc3 o.l) = yy at *
      generalize loc3 o.l = q at *
      clear he hiL hi20 HP hoa ho hput hq4 hne hlx hlX hlY hd hXe hYe hlx24
      go_wp2
      have S0 : On wr wr.drew := (On.refl wr).drew
      refine region_fz (fun W => On wr W) [] 6 (by kernel_rfl) rfl ?_
      refine fz_take 0 (v := .agg (bufA x)) rfl (by kernel_rfl) (by kernel_rfl) (by kernel_rfl) (by kernel_rfl) (fun _ _ _ h => h) rfl (fun W hW => exec_bld rfl rfl (HM.out.b3.on hW)) S0 ?_
      simp only [Act.put, List.setIfInBounds_toArray, List.set_cons_zero, List.set_cons_succ]
      refine fz_take 1 (v := .agg (bufA x)) rfl (by kernel_rfl) (by kernel_rfl) (by kernel_rfl) (by kernel_rfl) (fun _ _ _ h => h) rfl (fun W hW => exec_bld rfl rfl (HM.out.b3.on hW)) S0 ?_
      simp only [Act.put, List.setIfInBounds_toArray, List.set_cons_zero, List.set_cons_succ]
      refine fz_grow [(2, 31, none), (3, 8, none)] (fun i v W => (i = 2 → v = .int .i64 lx) ∧ (i = 3 → ∃ g, v = .pointer (some ⟨g, 0, none⟩) ∧ Bk W g (bufA bufZ) ∧ wr.heap.size ≤ g)) #[true, true, true, true, false, false] 2 2 (by simp) (by simp) ?_ rfl (fun _ _ h k => h.trans k) S0 ?_ (by kernel_rfl) (by kernel_rfl) ?_ ?_
      · intro x hx
        simp only [List.mem_cons, List.not_mem_nil, or_false] at hx
        rcases hx with rfl | rfl <;> rfl
      · intro i v w w' h k
        exact ⟨fun e => (fun h => h) (h.1 e), fun e => (fun h => by obtain ⟨g, h1, h2, h3⟩ := h; exact ⟨g, h1, h2.on k, h3⟩) (h.2 e)⟩
      · intro i d c hi
        simp only [List.mem_cons, Prod.mk.injEq, List.not_mem_nil, or_false] at hi
        rcases hi with ⟨rfl, rfl, rfl⟩ | ⟨rfl, rfl, rfl⟩
        · refine ⟨_, rfl, rfl, fun p W' l' K hr hm hS hK => ?_⟩
          have kW := hm.on
          clear hm hr
          simp only [putsA, putsD, List.foldl_cons, List.foldl_nil, Act.put, List.setIfInBounds_toArray, List.set_cons_zero, List.set_cons_succ] at hK ⊢
          go_simp
          refine (cL _).mono ?_
          rintro _ W'' ⟨rfl, kk⟩
          exact hK _ W'' kk ⟨fun _ => rfl, fun e => absurd e (by decide)⟩
        · refine ⟨_, rfl, rfl, fun p W' l' K hr hm hS hK => ?_⟩
          have kW := hm.on
          clear hm hr
          simp only [putsA, putsD, List.foldl_cons, List.foldl_nil, Act.put, List.setIfInBounds_toArray, List.set_cons_zero, List.set_cons_succ] at hK ⊢
          go_simp
          exact hK _ _ ((On.refl W').alloc _) ⟨fun e => absurd e (by decide), fun _ => ⟨_, rfl, Bk.new W' _ _, show wr.heap.size ≤ _ from kW.size⟩⟩
      intro p WE hm hSE
      obtain ⟨u2, hu2, f2⟩ := hm.get (x := (2, 31, none)) (by simp) rfl
      have g2 := f2.1 rfl
      obtain ⟨u3, hu3, f3⟩ := hm.get (x := (3, 8, none)) (by simp) rfl
      have g3 := f3.2 rfl
      have kM := hm.on
      simp only [putsA, putsD, List.foldl_cons, List.foldl_nil, hu2, hu3, Option.getD_some, Act.put, List.setIfInBounds_toArray, List.set_cons_zero, List.set_cons_succ]
      clear hm hu2 f2 hu3 f3
      obtain rfl := g2
      obtain ⟨N6, rfl, BZ, LN⟩ := g3
      have SE : On wr WE := S0.trans kM
      refine fz_one 4 rfl rfl (by kernel_rfl) (fun K hK => ?_)
      refine wp_bst rfl rfl rfl BZ ?_
      have SF : On wr (WE.setRow N6 (bufA x)) := SE.row LN _
      refine hK.out _ _ (fun _ => SF) ?_
      clear hK
      have K6 : Hid (On wr (WE.setRow N6 (bufA x))) := SF
      have B6 : Hid (Bk (WE.setRow N6 (bufA x)) N6 (bufA x)) := BZ.row _
      have L6 : Hid (wr.heap.size ≤ N6) := LN
      clear SE S0 BZ LN kM hSE
      generalize WE.setRow N6 (bufA x) = w6 at *
      have S0 : On wr w6 := K6.out
      refine fz_take 5 (v := ?_) rfl (by kernel_rfl) (by kernel_rfl) (by kernel_rfl) (by kernel_rfl) (fun _ _ _ h => h) rfl ?_ S0 ?_
      rotate_left
      · intro W hW
        go_simp
        (try with_reducible rfl)
      simp only [Act.put, List.setIfInBounds_toArray, List.set_cons_zero, List.set_cons_succ]
      clear S0
      refine fz_done (by kernel_rfl) (NoPanic.normal ?_)
      go_wp2
      have S0 : On w6 w6.drew := (On.refl w6).drew
      refine region_fz (fun W => On w6 W) [] 16 (by kernel_rfl) rfl ?_
      refine fz_take 0 (v := .agg (bufA x)) rfl (by kernel_rfl) (by kernel_rfl) (by kernel_rfl) (by kernel_rfl) (fun _ _ _ h => h) rfl (fun W hW => exec_bld rfl rfl ((HM.out.b3.on K6.out).on hW)) S0 ?_
      simp only [Act.put, List.setIfInBounds_toArray, List.set_cons_zero, List.set_cons_succ]
      refine fz_take 1 (v := ?_) rfl (by kernel_rfl) (by kernel_rfl) (by kernel_rfl) (by kernel_rfl) (fun _ _ _ h => h) rfl ?_ S0 ?_
      rotate_left
      · intro W hW
        have fo := (HOA.out.on K6.out).on hW
        have f1 := fo.l
        have f2 := fo.v
        have fl := fo.lt
        go_simp
        (try with_reducible rfl)
      simp only [Act.put, List.setIfInBounds_toArray, List.set_cons_zero, List.set_cons_succ]
      refine fz_take 2 (v := ?_) rfl (by kernel_rfl) (by kernel_rfl) (by kernel_rfl) (by kernel_rfl) (fun _ _ _ h => h) rfl ?_ S0 ?_
      rotate_left
      · intro W hW
        have fo := (HOA.out.on K6.out).on hW
        have f1 := fo.l
        have f2 := fo.v
        have fl := fo.lt
        go_simp
        (try with_reducible rfl)
      simp only [Act.put, List.setIfInBounds_toArray, List.set_cons_zero, List.set_cons_succ]
      refine fz_take 3 (v := ?_) rfl (by kernel_rfl) (by kernel_rfl) (by kernel_rfl) (by kernel_rfl) (fun _ _ _ h => h) rfl ?_ S0 ?_
      rotate_left
      · intro W hW
        have fo := (HOA.out.on K6.out).on hW
        have f1 := fo.l
        have f2 := fo.v
        have fl := fo.lt
        go_simp
        (try with_reducible rfl)
      simp only [Act.put, List.setIfInBounds_toArray, List.set_cons_zero, List.set_cons_succ]
      refine fz_take 4 (v := ?_) rfl (by kernel_rfl) (by kernel_rfl) (by kernel_rfl) (by kernel_rfl) (fun _ _ _ h => h) rfl ?_ S0 ?_
      rotate_left
      · intro W hW
        have fo := (HOA.out.on K6.out).on hW
        have f1 := fo.l
        have f2 := fo.v
        have fl := fo.lt
        go_simp
        (try with_reducible rfl)
      simp only [Act.put, List.setIfInBounds_toArray, List.set_cons_zero, List.set_cons_succ]
      refine fz_take 5 (v := ?_) rfl (by kernel_rfl) (by kernel_rfl) (by kernel_rfl) (by kernel_rfl) (fun _ _ _ h => h) rfl ?_ S0 ?_
      rotate_left
      · intro W hW
        have fo := (HOA.out.on K6.out).on hW
        have f1 := fo.l
        have f2 := fo.v
        have fl := fo.lt
        go_simp
        (try with_reducible rfl)
      simp only [Act.put, List.setIfInBounds_toArray, List.set_cons_zero, List.set_cons_succ]
      refine fz_take 6 (v := ?_) rfl (by kernel_rfl) (by kernel_rfl) (by kernel_rfl) (by kernel_rfl) (fun _ _ _ h => h) rfl ?_ S0 ?_
      rotate_left
      · intro W hW
        have fo := (HOA.out.on K6.out).on hW
        have f1 := fo.l
        have f2 := fo.v
        have fl := fo.lt
        go_simp
        (try with_reducible rfl)
      simp only [Act.put, List.setIfInBounds_toArray, List.set_cons_zero, List.set_cons_succ]
      refine fz_take 7 (v := ?_) rfl (by kernel_rfl) (by kernel_rfl) (by kernel_rfl) (by kernel_rfl) (fun _ _ _ h => h) rfl ?_ S0 ?_
      rotate_left
      · intro W hW
        have fo := (HOA.out.on K6.out).on hW
        have f1 := fo.l
        have f2 := fo.v
        have fl := fo.lt
        go_simp
        (try with_reducible rfl)
      simp only [Act.put, List.setIfInBounds_toArray, List.set_cons_zero, List.set_cons_succ]
      refine fz_take 8 (v := ?_) rfl (by kernel_rfl) (by kernel_rfl) (by kernel_rfl) (by kernel_rfl) (fun _ _ _ h => h) rfl ?_ S0 ?_
      rotate_left
      · intro W hW
        have fo := (HOA.out.on K6.out).on hW
        have f1 := fo.l
        have f2 := fo.v
        have fl := fo.lt
        go_simp
        (try with_reducible rfl)
      simp only [Act.put, List.setIfInBounds_toArray, List.set_cons_zero, List.set_cons_succ]
      refine fz_take 9 (v := ?_) rfl (by kernel_rfl) (by kernel_rfl) (by kernel_rfl) (by kernel_rfl) (fun _ _ _ h => h) rfl ?_ S0 ?_
      rotate_left
      · intro W hW
        have fo := (HOA.out.on K6.out).on hW
        have f1 := fo.l
        have f2 := fo.v
        have fl := fo.lt
        go_simp
        (try with_reducible rfl)
      simp only [Act.put, List.setIfInBounds_toArray, List.set_cons_zero, List.set_cons_succ]
      refine fz_take 10 (v := ?_) rfl (by kernel_rfl) (by kernel_rfl) (by kernel_rfl) (by kernel_rfl) (fun _ _ _ h => h) rfl ?_ S0 ?_
      rotate_left
      · intro W hW
        have fo := (HOA.out.on K6.out).on hW
        have f1 := fo.l
        have f2 := fo.v
        have fl := fo.lt
        go_simp
        (try with_reducible rfl)
      simp only [Act.put, List.setIfInBounds_toArray, List.set_cons_zero, List.set_cons_succ]
      refine fz_take 11 (v := ?_) rfl (by kernel_rfl) (by kernel_rfl) (by kernel_rfl) (by kernel_rfl) (fun _ _ _ h => h) rfl ?_ S0 ?_
      rotate_left
      · intro W hW
        have fo := (HOA.out.on K6.out).on hW
        have f1 := fo.l
        have f2 := fo.v
        have fl := fo.lt
        go_simp
        (try with_reducible rfl)
      simp only [Act.put, List.setIfInBounds_toArray, List.set_cons_zero, List.set_cons_succ]
      refine fz_take 12 (v := ?_) rfl (by kernel_rfl) (by kernel_rfl) (by kernel_rfl) (by kernel_rfl) (fun _ _ _ h => h) rfl ?_ S0 ?_
      rotate_left
      · intro W hW
        have fo := (HOA.out.on K6.out).on hW
        have f1 := fo.l
        have f2 := fo.v
        have fl := fo.lt
        go_simp
        (try with_reducible rfl)
      simp only [Act.put, List.setIfInBounds_toArray, List.set_cons_zero, List.set_cons_succ]
      refine fz_grow [(13, 45, none), (14, 10, none)] (fun i v W => (i = 13 → v = .agg (bufA xx)) ∧ (i = 14 → ∃ g, v = .pointer (some ⟨g, 0, none⟩) ∧ Bk W g (bufA bufZ) ∧ w6.heap.size ≤ g)) #[true, true, true, true, true, true, true, true, true, true, true, true, true, true, true, false] 2 1 (by simp) (by simp) ?_ rfl (fun _ _ h k => h.trans k) S0 ?_ (by kernel_rfl) (by kernel_rfl) ?_ ?_
      · intro x hx
        simp only [List.mem_cons, List.not_mem_nil, or_false] at hx
        rcases hx with rfl | rfl <;> rfl
      · intro i v w w' h k
        exact ⟨fun e => (fun h => h) (h.1 e), fun e => (fun h => by obtain ⟨g, h1, h2, h3⟩ := h; exact ⟨g, h1, h2.on k, h3⟩) (h.2 e)⟩
      · intro i d c hi
        simp only [List.mem_cons, Prod.mk.injEq, List.not_mem_nil, or_false] at hi
        rcases hi with ⟨rfl, rfl, rfl⟩ | ⟨rfl, rfl, rfl⟩
        · refine ⟨_, rfl, rfl, fun p W' l' K hr hm hS hK => ?_⟩
          have kW := hm.on
          clear hm hr
          simp only [putsA, putsD, List.foldl_cons, List.foldl_nil, Act.put, List.setIfInBounds_toArray, List.set_cons_zero, List.set_cons_succ] at hK ⊢
          go_simp
          refine (cP _).mono ?_
          rintro _ W'' ⟨rfl, kk⟩
          exact hK _ W'' kk ⟨fun _ => rfl, fun e => absurd e (by decide)⟩
        · refine ⟨_, rfl, rfl, fun p W' l' K hr hm hS hK => ?_⟩
          have kW := hm.on
          clear hm hr
          simp only [putsA, putsD, List.foldl_cons, List.foldl_nil, Act.put, List.setIfInBounds_toArray, List.set_cons_zero, List.set_cons_succ] at hK ⊢
          go_simp
          exact hK _ _ ((On.refl W').alloc _) ⟨fun e => absurd e (by decide), fun _ => ⟨_, rfl, Bk.new W' _ _, show w6.heap.size ≤ _ from kW.size⟩⟩
      intro p WE hm hSE
      obtain ⟨u13, hu13, f13⟩ := hm.get (x := (13, 45, none)) (by simp) rfl
      have g13 := f13.1 rfl
      obtain ⟨u14, hu14, f14⟩ := hm.get (x := (14, 10, none)) (by simp) rfl
      have g14 := f14.2 rfl
      have kM := hm.on
      simp only [putsA, putsD, List.foldl_cons, List.foldl_nil, hu13, hu14, Option.getD_some, Act.put, List.setIfInBounds_toArray, List.set_cons_zero, List.set_cons_succ]
      clear hm hu13 f13 hu14 f14
      obtain rfl := g13
      obtain ⟨N7, rfl, BZ, LN⟩ := g14
      have SE : On w6 WE := S0.trans kM
      refine fz_one 15 rfl rfl (by kernel_rfl) (fun K hK => ?_)
      refine wp_bst rfl rfl rfl BZ ?_
      have SF : On w6 (WE.setRow N7 (bufA xx)) := SE.row LN _
      refine hK.out _ _ (fun _ => SF) ?_
      clear hK
      have K7 : Hid (On w6 (WE.setRow N7 (bufA xx))) := SF
      have B7 : Hid (Bk (WE.setRow N7 (bufA xx)) N7 (bufA xx)) := BZ.row _
      have L7 : Hid (w6.heap.size ≤ N7) := LN
      clear SE S0 BZ LN kM hSE
      generalize WE.setRow N7 (bufA xx) = w7 at *
      refine fz_done (by kernel_rfl) (NoPanic.normal ?_)
      go_wp2
      have S0 : On w7 w7.drew := (On.refl w7).drew
      refine region_fz (fun W => On w7 W) [] 10 (by kernel_rfl) rfl ?_
      refine fz_take 0 (v := .agg (bufA x)) rfl (by kernel_rfl) (by kernel_rfl) (by kernel_rfl) (by kernel_rfl) (fun _ _ _ h => h) rfl (fun W hW => exec_bld rfl rfl (((HM.out.b3.on K6.out).on K7.out).on hW)) S0 ?_
      simp only [Act.put, List.setIfInBounds_toArray, List.set_cons_zero, List.set_cons_succ]
      refine fz_take 1 (v := ?_) rfl (by kernel_rfl) (by kernel_rfl) (by kernel_rfl) (by kernel_rfl) (fun _ _ _ h => h) rfl ?_ S0 ?_
      rotate_left
      · intro W hW
        have fo := ((HOA.out.on K6.out).on K7.out).on hW
        have f1 := fo.l
        have f2 := fo.v
        have fl := fo.lt
        go_simp
        (try with_reducible rfl)
      simp only [Act.put, List.setIfInBounds_toArray, List.set_cons_zero, List.set_cons_succ]
      refine fz_take 2 (v := ?_) rfl (by kernel_rfl) (by kernel_rfl) (by kernel_rfl) (by kernel_rfl) (fun _ _ _ h => h) rfl ?_ S0 ?_
      rotate_left
      · intro W hW
        have fo := ((HOA.out.on K6.out).on K7.out).on hW
        have f1 := fo.l
        have f2 := fo.v
        have fl := fo.lt
        go_simp
        (try with_reducible rfl)
      simp only [Act.put, List.setIfInBounds_toArray, List.set_cons_zero, List.set_cons_succ]
      refine fz_take 3 (v := ?_) rfl (by kernel_rfl) (by kernel_rfl) (by kernel_rfl) (by kernel_rfl) (fun _ _ _ h => h) rfl ?_ S0 ?_
      rotate_left
      · intro W hW
        have fo := ((HOA.out.on K6.out).on K7.out).on hW
        have f1 := fo.l
        have f2 := fo.v
        have fl := fo.lt
        go_simp
        (try with_reducible rfl)
      simp only [Act.put, List.setIfInBounds_toArray, List.set_cons_zero, List.set_cons_succ]
      refine fz_take 4 (v := ?_) rfl (by kernel_rfl) (by kernel_rfl) (by kernel_rfl) (by kernel_rfl) (fun _ _ _ h => h) rfl ?_ S0 ?_
      rotate_left
      · intro W hW
        have fo := ((HOA.out.on K6.out).on K7.out).on hW
        have f1 := fo.l
        have f2 := fo.v
        have fl := fo.lt
        go_simp
        (try with_reducible rfl)
      simp only [Act.put, List.setIfInBounds_toArray, List.set_cons_zero, List.set_cons_succ]
      refine fz_take 5 (v := ?_) rfl (by kernel_rfl) (by kernel_rfl) (by kernel_rfl) (by kernel_rfl) (fun _ _ _ h => h) rfl ?_ S0 ?_
      rotate_left
      · intro W hW
        have fo := ((HOA.out.on K6.out).on K7.out).on hW
        have f1 := fo.l
        have f2 := fo.v
        have fl := fo.lt
        go_simp
        (try with_reducible rfl)
      simp only [Act.put, List.setIfInBounds_toArray, List.set_cons_zero, List.set_cons_succ]
      refine fz_take 6 (v := ?_) rfl (by kernel_rfl) (by kernel_rfl) (by kernel_rfl) (by kernel_rfl) (fun _ _ _ h => h) rfl ?_ S0 ?_
      rotate_left
      · intro W hW
        have fo := ((HOA.out.on K6.out).on K7.out).on hW
        have f1 := fo.l
        have f2 := fo.v
        have fl := fo.lt
        go_simp
        (try with_reducible rfl)
      simp only [Act.put, List.setIfInBounds_toArray, List.set_cons_zero, List.set_cons_succ]
      refine fz_grow [(7, 53, none), (8, 11, none)] (fun i v W => (i = 7 → v = .agg (bufA yy)) ∧ (i = 8 → ∃ g, v = .pointer (some ⟨g, 0, none⟩) ∧ Bk W g (bufA bufZ) ∧ w7.heap.size ≤ g)) #[true, true, true, true, true, true, true, true, true, false] 2 1 (by simp) (by simp) ?_ rfl (fun _ _ h k => h.trans k) S0 ?_ (by kernel_rfl) (by kernel_rfl) ?_ ?_
      · intro x hx
        simp only [List.mem_cons, List.not_mem_nil, or_false] at hx
        rcases hx with rfl | rfl <;> rfl
      · intro i v w w' h k
        exact ⟨fun e => (fun h => h) (h.1 e), fun e => (fun h => by obtain ⟨g, h1, h2, h3⟩ := h; exact ⟨g, h1, h2.on k, h3⟩) (h.2 e)⟩
      · intro i d c hi
        simp only [List.mem_cons, Prod.mk.injEq, List.not_mem_nil, or_false] at hi
        rcases hi with ⟨rfl, rfl, rfl⟩ | ⟨rfl, rfl, rfl⟩
        · refine ⟨_, rfl, rfl, fun p W' l' K hr hm hS hK => ?_⟩
          have kW := hm.on
          clear hm hr
          simp only [putsA, putsD, List.foldl_cons, List.foldl_nil, Act.put, List.setIfInBounds_toArray, List.set_cons_zero, List.set_cons_succ] at hK ⊢
          go_simp
          refine (cD _).mono ?_
          rintro _ W'' ⟨rfl, kk⟩
          exact hK _ W'' kk ⟨fun _ => rfl, fun e => absurd e (by decide)⟩
        · refine ⟨_, rfl, rfl, fun p W' l' K hr hm hS hK => ?_⟩
          have kW := hm.on
          clear hm hr
          simp only [putsA, putsD, List.foldl_cons, List.foldl_nil, Act.put, List.setIfInBounds_toArray, List.set_cons_zero, List.set_cons_succ] at hK ⊢
          go_simp
          exact hK _ _ ((On.refl W').alloc _) ⟨fun e => absurd e (by decide), fun _ => ⟨_, rfl, Bk.new W' _ _, show w7.heap.size ≤ _ from kW.size⟩⟩
      intro p WE hm hSE
      obtain ⟨u7, hu7, f7⟩ := hm.get (x := (7, 53, none)) (by simp) rfl
      have g7 := f7.1 rfl
      obtain ⟨u8, hu8, f8⟩ := hm.get (x := (8, 11, none)) (by simp) rfl
      have g8 := f8.2 rfl
      have kM := hm.on
      simp only [putsA, putsD, List.foldl_cons, List.foldl_nil, hu7, hu8, Option.getD_some, Act.put, List.setIfInBounds_toArray, List.set_cons_zero, List.set_cons_succ]
      clear hm hu7 f7 hu8 f8
      obtain rfl := g7
      obtain ⟨N8, rfl, BZ, LN⟩ := g8
      have SE : On w7 WE := S0.trans kM
      refine fz_one 9 rfl rfl (by kernel_rfl) (fun K hK => ?_)
      refine wp_bst rfl rfl rfl BZ ?_
      have SF : On w7 (WE.setRow N8 (bufA yy)) := SE.row LN _
      refine hK.out _ _ (fun _ => SF) ?_
      clear hK
      have K8 : Hid (On w7 (WE.setRow N8 (bufA yy))) := SF
      have B8 : Hid (Bk (WE.setRow N8 (bufA yy)) N8 (bufA yy)) := BZ.row _
      have L8 : Hid (w7.heap.size ≤ N8) := LN
      clear SE S0 BZ LN kM hSE
      generalize WE.setRow N8 (bufA yy) = w8 at *
      refine fz_done (by kernel_rfl) (NoPanic.normal ?_)
      clear hz cD
      have A5 : Hid (Bk w8 N (bufA x)) := ((HM.out.b3.on K6.out).on K7.out).on K8.out
      have A8 : Hid (Bk w8 N6 (bufA x)) := (B6.out.on K7.out).on K8.out
      have A10 : Hid (Bk w8 N7 (bufA xx)) := B7.out.on K8.out
      have A11 : Hid (Bk w8 N8 (bufA yy)) := B8.out
      have KW : Hid (On wr w8) := (K6.out.trans K7.out).trans K8.out
      have M8 : Hid (OrM w w8 N x x) := HM.out.go KW.out
      clear B6 B7 B8 L6 L7 L8 K6 K7 K8 HM KW
      go_wp2_with (first
        | (refine wpList_bld rfl rfl rfl A5.out ?_)
        | (refine wpList_bld rfl rfl rfl A8.out ?_)
        | (refine wpList_yield rfl (exec_bne_same rfl rfl rfl) ?_))
      refine (cL _).mono ?_
      rintro _ w9 ⟨rfl, k9⟩
      have C5 : Hid (Bk w9 N (bufA x)) := A5.out.on k9
      have C10 : Hid (Bk w9 N7 (bufA xx)) := A10.out.on k9
      have C11 : Hid (Bk w9 N8 (bufA yy)) := A11.out.on k9
      have M9 : Hid (OrM w w9 N x x) := M8.out.go k9
      clear k9 A5 A8 A10 A11 M8 cL
      go_wp2_with (refine wpList_bld rfl rfl rfl C10.out ?_)
      refine (cLX _).mono ?_
      rintro _ w10 ⟨rfl, k10⟩
      have D5 : Hid (Bk w10 N (bufA x)) := C5.out.on k10
      have D10 : Hid (Bk w10 N7 (bufA xx)) := C10.out.on k10
      have D11 : Hid (Bk w10 N8 (bufA yy)) := C11.out.on k10
      have M10 : Hid (OrM w w10 N x x) := M9.out.go k10
      clear k10 C5 C10 C11 M9 cLX
      go_wp2_with (refine wpList_bld rfl rfl rfl D11.out ?_)
      refine (cLY _).mono ?_
      rintro _ w11 ⟨rfl, k11⟩
      have E5 : Hid (Bk w11 N (bufA x)) := D5.out.on k11
      have E10 : Hid (Bk w11 N7 (bufA xx)) := D10.out.on k11
      have M11 : Hid (OrM w w11 N x x) := M10.out.go k11
      clear k11 D5 D10 D11 M10 cLY
      go_wp2_with (first
        | (refine wpList_bld rfl rfl rfl E5.out ?_)
        | (refine wpList_bld rfl rfl rfl E10.out ?_)
        | (refine wpList_yield rfl (exec_beq_not rfl rfl rfl HNE.out) ?_)
        | (refine wpList_bst rfl rfl rfl (by exact rfl) M11.out.b3 ?_))
      have MA : Hid (OrM w (w11.setRow N (bufA xx)) N xx x) := M11.out.set3 xx
      clear E5 E10 M11 e2 e3 e4
      generalize w11.setRow N (bufA xx) = wa at *
      have OA : Hid (OpAt wa g (off + i * 3) o) := HO0.out.on MA.out.on
      have S0 : On wa wa.drew := (On.refl wa).drew
      refine region_fz (fun W => On wa W) [14] 15 (by kernel_rfl) rfl ?_
      refine fz_take 0 (v := .agg (bufA x)) rfl (by kernel_rfl) (by kernel_rfl) (by kernel_rfl) (by kernel_rfl) (fun _ _ _ h => h) rfl (fun W hW => exec_bld rfl rfl (MA.out.b4.on hW)) S0 ?_
      simp only [Act.put, List.setIfInBounds_toArray, List.set_cons_zero, List.set_cons_succ]
      refine fz_take 1 (v := ?_) rfl (by kernel_rfl) (by kernel_rfl) (by kernel_rfl) (by kernel_rfl) (fun _ _ _ h => h) rfl ?_ S0 ?_
      rotate_left
      · intro W hW
        have fo := OA.out.on hW
        have f1 := fo.l
        have f2 := fo.v
        have fl := fo.lt
        go_simp
        (try with_reducible rfl)
      simp only [Act.put, List.setIfInBounds_toArray, List.set_cons_zero, List.set_cons_succ]
      refine fz_take 2 (v := ?_) rfl (by kernel_rfl) (by kernel_rfl) (by kernel_rfl) (by kernel_rfl) (fun _ _ _ h => h) rfl ?_ S0 ?_
      rotate_left
      · intro W hW
        have fo := OA.out.on hW
        have f1 := fo.l
        have f2 := fo.v
        have fl := fo.lt
        go_simp
        (try with_reducible rfl)
      simp only [Act.put, List.setIfInBounds_toArray, List.set_cons_zero, List.set_cons_succ]
      refine fz_take 3 (v := ?_) rfl (by kernel_rfl) (by kernel_rfl) (by kernel_rfl) (by kernel_rfl) (fun _ _ _ h => h) rfl ?_ S0 ?_
      rotate_left
      · intro W hW
        have fo := OA.out.on hW
        have f1 := fo.l
        have f2 := fo.v
        have fl := fo.lt
        go_simp
        (try with_reducible rfl)
      simp only [Act.put, List.setIfInBounds_toArray, List.set_cons_zero, List.set_cons_succ]
      refine fz_take 4 (v := ?_) rfl (by kernel_rfl) (by kernel_rfl) (by kernel_rfl) (by kernel_rfl) (fun _ _ _ h => h) rfl ?_ S0 ?_
      rotate_left
      · intro W hW
        have fo := OA.out.on hW
        have f1 := fo.l
        have f2 := fo.v
        have fl := fo.lt
        go_simp
        (try with_reducible rfl)
      simp only [Act.put, List.setIfInBounds_toArray, List.set_cons_zero, List.set_cons_succ]
      refine fz_take 5 (v := ?_) rfl (by kernel_rfl) (by kernel_rfl) (by kernel_rfl) (by kernel_rfl) (fun _ _ _ h => h) rfl ?_ S0 ?_
      rotate_left
      · intro W hW
        have fo := OA.out.on hW
        have f1 := fo.l
        have f2 := fo.v
        have fl := fo.lt
        go_simp
        (try with_reducible rfl)
      simp only [Act.put, List.setIfInBounds_toArray, List.set_cons_zero, List.set_cons_succ]
      refine fz_take 6 (v := ?_) rfl (by kernel_rfl) (by kernel_rfl) (by kernel_rfl) (by kernel_rfl) (fun _ _ _ h => h) rfl ?_ S0 ?_
      rotate_left
      · intro W hW
        have fo := OA.out.on hW
        have f1 := fo.l
        have f2 := fo.v
        have fl := fo.lt
        go_simp
        (try with_reducible rfl)
      simp only [Act.put, List.setIfInBounds_toArray, List.set_cons_zero, List.set_cons_succ]
      refine fz_take 7 (v := ?_) rfl (by kernel_rfl) (by kernel_rfl) (by kernel_rfl) (by kernel_rfl) (fun _ _ _ h => h) rfl ?_ S0 ?_
      rotate_left
      · intro W hW
        have fo := OA.out.on hW
        have f1 := fo.l
        have f2 := fo.v
        have fl := fo.lt
        go_simp
        (try with_reducible rfl)
      simp only [Act.put, List.setIfInBounds_toArray, List.set_cons_zero, List.set_cons_succ]
      refine fz_take 8 (v := ?_) rfl (by kernel_rfl) (by kernel_rfl) (by kernel_rfl) (by kernel_rfl) (fun _ _ _ h => h) rfl ?_ S0 ?_
      rotate_left
      · intro W hW
        have fo := OA.out.on hW
        have f1 := fo.l
        have f2 := fo.v
        have fl := fo.lt
        go_simp
        (try with_reducible rfl)
      simp only [Act.put, List.setIfInBounds_toArray, List.set_cons_zero, List.set_cons_succ]
      refine fz_take 9 (v := ?_) rfl (by kernel_rfl) (by kernel_rfl) (by kernel_rfl) (by kernel_rfl) (fun _ _ _ h => h) rfl ?_ S0 ?_
      rotate_left
      · intro W hW
        have fo := OA.out.on hW
        have f1 := fo.l
        have f2 := fo.v
        have fl := fo.lt
        go_simp
        (try with_reducible rfl)
      simp only [Act.put, List.setIfInBounds_toArray, List.set_cons_zero, List.set_cons_succ]
      refine fz_take 10 (v := ?_) rfl (by kernel_rfl) (by kernel_rfl) (by kernel_rfl) (by kernel_rfl) (fun _ _ _ h => h) rfl ?_ S0 ?_
      rotate_left
      · intro W hW
        have fo := OA.out.on hW
        have f1 := fo.l
        have f2 := fo.v
        have fl := fo.lt
        go_simp
        (try with_reducible rfl)
      simp only [Act.put, List.setIfInBounds_toArray, List.set_cons_zero, List.set_cons_succ]
      refine fz_take 11 (v := ?_) rfl (by kernel_rfl) (by kernel_rfl) (by kernel_rfl) (by kernel_rfl) (fun _ _ _ h => h) rfl ?_ S0 ?_
      rotate_left
      · intro W hW
        have fo := OA.out.on hW
        have f1 := fo.l
        have f2 := fo.v
        have fl := fo.lt
        go_simp
        (try with_reducible rfl)
      simp only [Act.put, List.setIfInBounds_toArray, List.set_cons_zero, List.set_cons_succ]
      refine fz_take 12 (v := ?_) rfl (by kernel_rfl) (by kernel_rfl) (by kernel_rfl) (by kernel_rfl) (fun _ _ _ h => h) rfl ?_ S0 ?_
      rotate_left
      · intro W hW
        have fo := OA.out.on hW
        have f1 := fo.l
        have f2 := fo.v
        have fl := fo.lt
        go_simp
        (try with_reducible rfl)
      simp only [Act.put, List.setIfInBounds_toArray, List.set_cons_zero, List.set_cons_succ]
      refine fz_one 13 rfl rfl (by kernel_rfl) (fun K hK => ?_)
      go_simp
      refine (cP _).mono ?_
      rintro _ wb ⟨rfl, kb⟩
      have S5 : On wa wb := S0.trans kb
      refine hK.out _ _ (fun _ => S5) ?_
      clear hK kb
      refine fz_one 14 rfl rfl (by kernel_rfl) (fun K hK => ?_)
      refine wp_bst rfl rfl rfl (MA.out.b4.on S5) ?_
      refine hK.out _ _ (fun hq => (hq (by simp)).elim) ?_
      clear hK
      have MB : Hid (OrM w (wb.setRow (N + 1) (bufA xx)) N xx xx) := (MA.out.go S5).set4 xx
      clear S5 S0
      generalize wb.setRow (N + 1) (bufA xx) = wc at *
      refine fz_done (by kernel_rfl) (NoPanic.normal ?_)
      have OC : Hid (OpAt wc g (off + i * 3) o) := HO0.out.on MB.out.on
      have f0 := OC.out.k
      have flc := OC.out.lt
      clear MA OA HOA
      by_cases hk : o.k = 0
      · have hkb : (o.k != 0) = false := by simp [hk]
        clear hk
        generalize o.k = ok at *
        go_wp2_with (first
          | (refine wpList_bld rfl rfl rfl MB.out.b3 ?_)
          | (refine wpList_bld rfl rfl rfl MB.out.b4 ?_)
          | (refine wpList_yield rfl (exec_bne_same rfl rfl rfl) ?_))
        go_roundg (20 - (i + 1))
        case measure => have := HL.out; have := HG.out; omega
        case rel => exact ⟨i + 1, xx, HL.out, rfl, by go_num, HP2, MB⟩
      · have hkb : (o.k != 0) = true := by simp [hk]
        clear hk
        generalize o.k = ok at *
        go_wp2_with (first
          | (refine wpList_bld rfl rfl rfl MB.out.b3 ?_)
          | (refine wpList_bld rfl rfl rfl MB.out.b4 ?_)
          | (refine wpList_yield rfl (exec_bne_same rfl rfl rfl) ?_))
        clear f0 flc
        have S0 : On wc wc.drew := (On.refl wc).drew
        refine region_fz (fun W => On wc W) [16, 17] 18 (by kernel_rfl) rfl ?_
        refine fzd_take 8 0 (v := .agg (bufA xx)) rfl (by kernel_rfl) (by kernel_rfl) (by kernel_rfl) (by kernel_rfl) (fun _ _ _ h => h) rfl (fun W hW => exec_bld rfl rfl (MB.out.b3.on hW)) S0 ?_
        simp only [Act.put, List.setIfInBounds_toArray, List.set_cons_zero, List.set_cons_succ]
        refine fzd_take 8 1 (v := ?_) rfl (by kernel_rfl) (by kernel_rfl) (by kernel_rfl) (by kernel_rfl) (fun _ _ _ h => h) rfl ?_ S0 ?_
        rotate_left
        · intro W hW
          have fo := OC.out.on hW
          have f1 := fo.l
          have f2 := fo.v
          have fl := fo.lt
          go_simp
          (try with_reducible rfl)
        simp only [Act.put, List.setIfInBounds_toArray, List.set_cons_zero, List.set_cons_succ]
        refine fzd_take 8 2 (v := ?_) rfl (by kernel_rfl) (by kernel_rfl) (by kernel_rfl) (by kernel_rfl) (fun _ _ _ h => h) rfl ?_ S0 ?_
        rotate_left
        · intro W hW
          have fo := OC.out.on hW
          have f1 := fo.l
          have f2 := fo.v
          have fl := fo.lt
          go_simp
          (try with_reducible rfl)
        simp only [Act.put, List.setIfInBounds_toArray, List.set_cons_zero, List.set_cons_succ]
        refine fzd_take 8 3 (v := ?_) rfl (by kernel_rfl) (by kernel_rfl) (by kernel_rfl) (by kernel_rfl) (fun _ _ _ h => h) rfl ?_ S0 ?_
        rotate_left
        · intro W hW
          have fo := OC.out.on hW
          have f1 := fo.l
          have f2 := fo.v
          have fl := fo.lt
          go_simp
          (try with_reducible rfl)
        simp only [Act.put, List.setIfInBounds_toArray, List.set_cons_zero, List.set_cons_succ]
        refine fzd_take 8 4 (v := ?_) rfl (by kernel_rfl) (by kernel_rfl) (by kernel_rfl) (by kernel_rfl) (fun _ _ _ h => h) rfl ?_ S0 ?_
        rotate_left
        · intro W hW
          have fo := OC.out.on hW
          have f1 := fo.l
          have f2 := fo.v
          have fl := fo.lt
          go_simp
          (try with_reducible rfl)
        simp only [Act.put, List.setIfInBounds_toArray, List.set_cons_zero, List.set_cons_succ]
        refine fzd_take 8 5 (v := ?_) rfl (by kernel_rfl) (by kernel_rfl) (by kernel_rfl) (by kernel_rfl) (fun _ _ _ h => h) rfl ?_ S0 ?_
        rotate_left
        · intro W hW
          have fo := OC.out.on hW
          have f1 := fo.l
          have f2 := fo.v
          have fl := fo.lt
          go_simp
          (try with_reducible rfl)
        simp only [Act.put, List.setIfInBounds_toArray, List.set_cons_zero, List.set_cons_succ]
        refine fzd_take 8 6 (v := ?_) rfl (by kernel_rfl) (by kernel_rfl) (by kernel_rfl) (by kernel_rfl) (fun _ _ _ h => h) rfl ?_ S0 ?_
        rotate_left
        · intro W hW
          have fo := OC.out.on hW
          have f1 := fo.l
          have f2 := fo.v
          have fl := fo.lt
          go_simp
          (try with_reducible rfl)
        simp only [Act.put, List.setIfInBounds_toArray, List.set_cons_zero, List.set_cons_succ]
        refine fzd_take 8 8 (v := .agg (bufA xx)) rfl (by kernel_rfl) (by kernel_rfl) (by kernel_rfl) (by kernel_rfl) (fun _ _ _ h => h) rfl (fun W hW => exec_bld rfl rfl (MB.out.b4.on hW)) S0 ?_
        simp only [Act.put, List.setIfInBounds_toArray, List.set_cons_zero, List.set_cons_succ]
        refine fzd_take 8 9 (v := ?_) rfl (by kernel_rfl) (by kernel_rfl) (by kernel_rfl) (by kernel_rfl) (fun _ _ _ h => h) rfl ?_ S0 ?_
        rotate_left
        · intro W hW
          have fo := OC.out.on hW
          have f1 := fo.l
          have f2 := fo.v
          have fl := fo.lt
          go_simp
          (try with_reducible rfl)
        simp only [Act.put, List.setIfInBounds_toArray, List.set_cons_zero, List.set_cons_succ]
        refine fzd_take 8 10 (v := ?_) rfl (by kernel_rfl) (by kernel_rfl) (by kernel_rfl) (by kernel_rfl) (fun _ _ _ h => h) rfl ?_ S0 ?_
        rotate_left
        · intro W hW
          have fo := OC.out.on hW
          have f1 := fo.l
          have f2 := fo.v
          have fl := fo.lt
          go_simp
          (try with_reducible rfl)
        simp only [Act.put, List.setIfInBounds_toArray, List.set_cons_zero, List.set_cons_succ]
        refine fzd_take 8 11 (v := ?_) rfl (by kernel_rfl) (by kernel_rfl) (by kernel_rfl) (by kernel_rfl) (fun _ _ _ h => h) rfl ?_ S0 ?_
        rotate_left
        · intro W hW
          have fo := OC.out.on hW
          have f1 := fo.l
          have f2 := fo.v
          have fl := fo.lt
          go_simp
          (try with_reducible rfl)
        simp only [Act.put, List.setIfInBounds_toArray, List.set_cons_zero, List.set_cons_succ]
        refine fzd_take 8 12 (v := ?_) rfl (by kernel_rfl) (by kernel_rfl) (by kernel_rfl) (by kernel_rfl) (fun _ _ _ h => h) rfl ?_ S0 ?_
        rotate_left
        · intro W hW
          have fo := OC.out.on hW
          have f1 := fo.l
          have f2 := fo.v
          have fl := fo.lt
          go_simp
          (try with_reducible rfl)
        simp only [Act.put, List.setIfInBounds_toArray, List.set_cons_zero, List.set_cons_succ]
        refine fzd_take 8 13 (v := ?_) rfl (by kernel_rfl) (by kernel_rfl) (by kernel_rfl) (by kernel_rfl) (fun _ _ _ h => h) rfl ?_ S0 ?_
        rotate_left
        · intro W hW
          have fo := OC.out.on hW
          have f1 := fo.l
          have f2 := fo.v
          have fl := fo.lt
          go_simp
          (try with_reducible rfl)
        simp only [Act.put, List.setIfInBounds_toArray, List.set_cons_zero, List.set_cons_succ]
        refine fzd_take 8 14 (v := ?_) rfl (by kernel_rfl) (by kernel_rfl) (by kernel_rfl) (by kernel_rfl) (fun _ _ _ h => h) rfl ?_ S0 ?_
        rotate_left
        · intro W hW
          have fo := OC.out.on hW
          have f1 := fo.l
          have f2 := fo.v
          have fl := fo.lt
          go_simp
          (try with_reducible rfl)
        simp only [Act.put, List.setIfInBounds_toArray, List.set_cons_zero, List.set_cons_succ]
        refine fz_one 7 rfl rfl (by kernel_rfl) (fun K hK => ?_)
        go_simp
        refine (cE _).mono ?_
        rintro _ wd ⟨rfl, kd⟩
        have S5 : On wc wd := S0.trans kd
        refine hK.out _ _ (fun _ => S5) ?_
        clear hK kd
        refine fz_one 15 rfl rfl (by kernel_rfl) (fun K hK => ?_)
        go_simp
        refine (cE _).mono ?_
        rintro _ we ⟨rfl, ke⟩
        have S6 : On wc we := S5.trans ke
        refine hK.out _ _ (fun _ => S6) ?_
        clear hK ke
        have MD : Hid (OrM w we N xx xx) := MB.out.go S6
        have ME : Hid (OrM w (we.setRow N (bufA zz)) N zz xx) := MD.out.set3 zz
        have MF : Hid (OrM w ((we.setRow N (bufA zz)).setRow (N + 1) (bufA zz)) N zz zz) := ME.out.set4 zz
        refine fz_one 16 rfl rfl (by kernel_rfl) (fun K hK => ?_)
        refine wp_bst rfl rfl rfl MD.out.b3 ?_
        refine hK.out _ _ (fun hq => (hq (by simp)).elim) ?_
        clear hK
        refine fz_one 17 rfl rfl (by kernel_rfl) (fun K hK => ?_)
        refine wp_bst rfl rfl rfl ME.out.b4 ?_
        refine hK.out _ _ (fun hq => (hq (by simp)).elim) ?_
        clear hK S0 S5 S6
        refine fz_done (by kernel_rfl) (NoPanic.normal ?_)
        go_wp2
        go_roundg (20 - (i + 1))
        case measure => have := HL.out; have := HG.out; omega
        case rel => exact ⟨i + 1, zz, HL.out, rfl, by go_num, HP3, MF⟩
    · have hd : decide (i < L.length) = false ∨ ((i : Int) < (L.length : Int) ∧ decide ((i : Int) < 20) = false) := by
        by_cases hji : i < L.length
        · exact Or.inr ⟨nat_lt hji, decide_eq_false (by omega)⟩
        · exact Or.inl (decide_eq_false hji)
      clear HI HG hgo hz HP
      rcases hd with hd | ⟨hd, hd2⟩
      all_goals
        go_wp2_with (first
          | (refine wpList_bld rfl rfl rfl HM.out.b3 ?_)
          | (refine wpList_bld rfl rfl rfl HM.out.b4 ?_)
          | (refine wpList_yield rfl (exec_beq_same rfl rfl rfl) ?_))
        refine (HA _).mono ?_
        rintro _ w9 ⟨rfl, k9⟩
        have K9 : Hid (On w w9) := HM.out.on.trans k9
        clear k9
        go_wp2
        go_ret
        exact ⟨rfl, K9.out⟩
end Go.Proofs.Ytnoeofbjnogkmaa
