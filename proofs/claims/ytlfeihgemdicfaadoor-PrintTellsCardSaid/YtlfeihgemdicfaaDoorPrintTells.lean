/- PrintTells, walked. -/
import Derived.Test.YtlfeihgemdicfaaDoorPTb
import Derived.Test.YtlfeihgemdicfaaDoorRSame
import Derived.Test.YtlfeihgemdicfaaDoorPSameT
import Derived.Test.YtlfeihgemdicfaaDoorROkE
import Derived.Test.YtlfeihgemdicfaaDoorAwake4
import Derived.Test.YtlfeihgemdicfaaDoorPsP
namespace Go.Proofs.YtlfeihgemdicfaaDoor
open Go.RowKit

set_option maxHeartbeats 16000000 in
set_option maxRecDepth 8000 in
theorem printTells_walk (t : TestT) (vt : Value) (u : TestT) (vu : Value) (y : InsT) (c : CondT) (ac : Option Addr) (cc : Nat) (w : World) (ht : TestRd w vt t) (hti : testI t) (hu : TestRd w vu u) (_hui : testI u) (hy : insI y) (hr : Rd2 atomC 4 w (.slice ac c.any.length cc) c.any) (hi : ∀ L ∈ c.any, ∀ y ∈ L, atmI y) (lw : Lw w) :
    Calls Tryd.prog 4 #[vt, vu, .agg #[.int .i64 y.k, .int .i64 y.r, .int .i64 y.l, .int .i64 y.a.r, .int .i64 y.a.v, .int .i64 y.o, .int .i64 y.b.r, .int .i64 y.b.v, .int .i64 y.n], .agg #[.int .i64 c.k, .slice ac c.any.length cc]] w fun e w' => e = .returned (.bool true) ∧ On w w' := by
  obtain ⟨a1, c1, a2, c2, a3, c3, rfl, ha0, r1, r2, r3⟩ := ht.ex
  obtain ⟨b1, d1, b2, d2, b3, d3, rfl, hb0, s1, s2, s3⟩ := hu.ex
  clear ht hu
  obtain ⟨WX, hWX⟩ : ∃ WX, WX = (((w.alloc (.cells #[.string t.name, .slice a1 t.ini.length c1, .slice a2 t.thr.length c2, .int .i64 t.cond.k, .slice a3 t.cond.any.length c3] 29)).alloc (.cells #[.string u.name, .slice b1 u.ini.length d1, .slice b2 u.thr.length d2, .int .i64 u.cond.k, .slice b3 u.cond.any.length d3] 29)).alloc (.cells #[.int .i64 y.k, .int .i64 y.r, .int .i64 y.l, .int .i64 y.a.r, .int .i64 y.a.v, .int .i64 y.o, .int .i64 y.b.r, .int .i64 y.b.v, .int .i64 y.n] 43)).alloc (.cells #[.int .i64 c.k, .slice ac c.any.length cc] 27) := ⟨_, rfl⟩
  have KX : On w WX := by rw [hWX]; exact ((((On.refl w).alloc _).alloc _).alloc _).alloc _
  have TX : Bk WX w.heap.size #[.string t.name, .slice a1 t.ini.length c1, .slice a2 t.thr.length c2, .int .i64 t.cond.k, .slice a3 t.cond.any.length c3] := by rw [hWX]; exact (((Bk.new w _ _).alloc _).alloc _).alloc _
  have UX : Bk WX (w.heap.size + 1) #[.string u.name, .slice b1 u.ini.length d1, .slice b2 u.thr.length d2, .int .i64 u.cond.k, .slice b3 u.cond.any.length d3] := by
    rw [hWX]
    refine Bk.alloc (Bk.alloc ?_ _) _
    have := Bk.new (w.alloc (.cells #[.string t.name, .slice a1 t.ini.length c1, .slice a2 t.thr.length c2, .int .i64 t.cond.k, .slice a3 t.cond.any.length c3] 29)) #[.string u.name, .slice b1 u.ini.length d1, .slice b2 u.thr.length d2, .int .i64 u.cond.k, .slice b3 u.cond.any.length d3] 29
    rwa [World.size_alloc] at this
  have IX : Bk WX (w.heap.size + 1 + 1) #[.int .i64 y.k, .int .i64 y.r, .int .i64 y.l, .int .i64 y.a.r, .int .i64 y.a.v, .int .i64 y.o, .int .i64 y.b.r, .int .i64 y.b.v, .int .i64 y.n] := by
    rw [hWX]
    refine Bk.alloc ?_ _
    have := Bk.new ((w.alloc (.cells #[.string t.name, .slice a1 t.ini.length c1, .slice a2 t.thr.length c2, .int .i64 t.cond.k, .slice a3 t.cond.any.length c3] 29)).alloc (.cells #[.string u.name, .slice b1 u.ini.length d1, .slice b2 u.thr.length d2, .int .i64 u.cond.k, .slice b3 u.cond.any.length d3] 29)) #[.int .i64 y.k, .int .i64 y.r, .int .i64 y.l, .int .i64 y.a.r, .int .i64 y.a.v, .int .i64 y.o, .int .i64 y.b.r, .int .i64 y.b.v, .int .i64 y.n] 43
    rwa [World.size_alloc, World.size_alloc] at this
  have CX : Bk WX (w.heap.size + 1 + 1 + 1) #[.int .i64 c.k, .slice ac c.any.length cc] := by
    rw [hWX]
    have := Bk.new (((w.alloc (.cells #[.string t.name, .slice a1 t.ini.length c1, .slice a2 t.thr.length c2, .int .i64 t.cond.k, .slice a3 t.cond.any.length c3] 29)).alloc (.cells #[.string u.name, .slice b1 u.ini.length d1, .slice b2 u.thr.length d2, .int .i64 u.cond.k, .slice b3 u.cond.any.length d3] 29)).alloc (.cells #[.int .i64 y.k, .int .i64 y.r, .int .i64 y.l, .int .i64 y.a.r, .int .i64 y.a.v, .int .i64 y.o, .int .i64 y.b.r, .int .i64 y.b.v, .int .i64 y.n] 43)) #[.int .i64 c.k, .slice ac c.any.length cc] 27
    rwa [World.size_alloc, World.size_alloc, World.size_alloc] at this
  have RT : TestRd WX (.agg #[.string t.name, .slice a1 t.ini.length c1, .slice a2 t.thr.length c2, .int .i64 t.cond.k, .slice a3 t.cond.any.length c3]) t := ⟨a1, c1, a2, c2, a3, c3, rfl, ha0, r1.on KX, r2.on KX, r3.on KX⟩
  have RU : TestRd WX (.agg #[.string u.name, .slice b1 u.ini.length d1, .slice b2 u.thr.length d2, .int .i64 u.cond.k, .slice b3 u.cond.any.length d3]) u := ⟨b1, d1, b2, d2, b3, d3, rfl, hb0, s1.on KX, s2.on KX, s3.on KX⟩
  have RQ := hr.on KX
  have RC : TestRd WX (.agg #[.string ⟨#[]⟩, .slice none 0 0, .slice none 0 0, .int .i64 c.k, .slice ac c.any.length cc]) ⟨⟨#[]⟩, [], [], c⟩ := ⟨none, 0, none, 0, ac, cc, rfl, by show 0 ≤ _; decide, Rd.nil _ _ _, Rd2.nil _ _ _, RQ⟩
  have LWx : Lw WX := lw.on KX
  have hF1 := fun W (k : On WX W) => fewB_is t _ W (RT.on k)
  have hF2 := fun W (k : On WX W) => fewB_is u _ W (RU.on k)
  have hF3 := fun W (k : On WX W) => fewB_is ⟨⟨#[]⟩, [], [], c⟩ _ W (RC.on k)
  have hA := fun W (k : On WX W) => awake4_is W (LWx.on k)
  have hO1 := fun W (k : On WX W) => ok_is t _ W (LWx.on k) (RT.on k)
  have hO2 := fun W (k : On WX W) => rtestOk_is t _ W (RT.on k)
  have hS1 := fun W (k : On WX W) => psame_is t u _ _ W (RT.on k) (RU.on k)
  have hS2 := fun W (k : On WX W) => rsame_is t u _ _ W (RT.on k) (RU.on k)
  have hS3 := fun W (k : On WX W) => psame_is t t _ _ W (RT.on k) (RT.on k)
  rw [sames t] at hS3
  have HP : FewT t → _ := fun hf => test_both t _ WX LWx RT hf hti
  have HI := ins_both y WX LWx hy
  have HC : FewT ⟨⟨#[]⟩, [], [], c⟩ → _ := fun hf => cond_both c ac cc WX RQ hf.l4 hf.l5 hi
  obtain ⟨bo, hbo⟩ : ∃ b, b = testOk t := ⟨_, rfl⟩
  rw [← hbo] at hO1 hO2
  obtain ⟨bs, hbs⟩ : ∃ b, b = sameT t u := ⟨_, rfl⟩
  rw [← hbs] at hS1 hS2
  clear hbo hbs lw r1 r2 r3 s1 s2 s3 hr RQ RC RT RU LWx ha0 hb0 hti _hui hy hi
  go_enter Tryd.func4, Tryd.ntmps4
  go_upto_region 1 with fail
  rw [← hWX]
  clear hWX
  have x0 := (TX.on (On.refl WX)).at (i := 0) rfl
  have x1 := (TX.on (On.refl WX)).at (i := 1) rfl
  have x2 := (TX.on (On.refl WX)).at (i := 2) rfl
  have x3 := (TX.on (On.refl WX)).at (i := 3) rfl
  have x4 := (TX.on (On.refl WX)).at (i := 4) rfl
  have xl := (TX.on (On.refl WX)).lt
  go_wp2_with fail
  refine (hF1 _ (On.refl WX)).mono ?_
  rintro _ w1 ⟨q1, rfl, hq1, k1⟩
  clear hF1
  clear x0 x1 x2 x3 x4 xl
  cases q1 with
  | false =>
    go_wp2_with fail
    refine (hA _ k1).mono ?_
    rintro _ wz ⟨rfl, kz⟩
    go_wp2
    go_ret
    exact ⟨rfl, KX.trans (k1.trans kz)⟩
  | true =>
    have hf1 := hq1 rfl
    have x0 := (UX.on k1).at (i := 0) rfl
    have x1 := (UX.on k1).at (i := 1) rfl
    have x2 := (UX.on k1).at (i := 2) rfl
    have x3 := (UX.on k1).at (i := 3) rfl
    have x4 := (UX.on k1).at (i := 4) rfl
    have xl := (UX.on k1).lt
    go_wp2_with fail
    refine (hF2 _ k1).mono ?_
    rintro _ w2 ⟨q2, rfl, _, k2⟩
    have K2 := k1.trans k2
    clear hF2 hq1
    clear x0 x1 x2 x3 x4 xl
    cases q2 with
    | false =>
      go_wp2_with fail
      refine (hA _ K2).mono ?_
      rintro _ wz ⟨rfl, kz⟩
      go_wp2
      go_ret
      exact ⟨rfl, KX.trans (K2.trans kz)⟩
    | true =>
      have x0 := (CX.on K2).at (i := 0) rfl
      have x1 := (CX.on K2).at (i := 1) rfl
      have xl := (CX.on K2).lt
      go_wp2_with fail
      refine (hF3 _ K2).mono ?_
      rintro _ w3 ⟨q3, rfl, hq3, k3⟩
      have K3 := K2.trans k3
      clear hF3
      clear x0 x1 xl
      cases q3 with
      | false =>
        go_wp2_with fail
        refine (hA _ K3).mono ?_
        rintro _ wz ⟨rfl, kz⟩
        go_wp2
        go_ret
        exact ⟨rfl, KX.trans (K3.trans kz)⟩
      | true =>
        obtain ⟨S1, hP1, hP2⟩ := HP hf1
        obtain ⟨S2, hI1, hI2⟩ := HI
        obtain ⟨S3, hC1, hC2⟩ := HC (hq3 rfl)
        clear HP HC hf1 hq3
        have hon : ∀ W W', On WX W → On W W' → On WX W' := fun W W' h k => h.trans k
        have K0 : On WX w3.drew := On.drew K3
        go_upto_region 3 with fail
        refine region_fin (fun W => On WX W) 99 44 (by kernel_rfl) rfl ?_
        refine fin_take 0 (v := ?_) rfl (by kernel_rfl) (by kernel_rfl) (by kernel_rfl) (by kernel_rfl) (fun _ _ _ h => h) rfl ?_ K0 ?_
        rotate_left
        · intro W hW
          have f0 := (TX.on hW).at (i := 0) rfl
          have f1 := (TX.on hW).at (i := 1) rfl
          have f2 := (TX.on hW).at (i := 2) rfl
          have f3 := (TX.on hW).at (i := 3) rfl
          have f4 := (TX.on hW).at (i := 4) rfl
          have fl := (TX.on hW).lt
          go_simp
          (try with_reducible rfl)
        simp only [Act.put, List.setIfInBounds_toArray, List.set_cons_zero, List.set_cons_succ]
        refine fin_take 2 (v := ?_) rfl (by kernel_rfl) (by kernel_rfl) (by kernel_rfl) (by kernel_rfl) (fun _ _ _ h => h) rfl ?_ K0 ?_
        rotate_left
        · intro W hW
          have f0 := (TX.on hW).at (i := 0) rfl
          have f1 := (TX.on hW).at (i := 1) rfl
          have f2 := (TX.on hW).at (i := 2) rfl
          have f3 := (TX.on hW).at (i := 3) rfl
          have f4 := (TX.on hW).at (i := 4) rfl
          have fl := (TX.on hW).lt
          go_simp
          (try with_reducible rfl)
        simp only [Act.put, List.setIfInBounds_toArray, List.set_cons_zero, List.set_cons_succ]
        refine fin_one 1 rfl rfl (by kernel_rfl) (fun K hK => ?_)
        go_simp
        refine (hO1 _ K0).mono ?_
        rintro _ w1 ⟨rfl, kw1⟩
        have Sw1 := hon _ _ K0 kw1
        have Kw1 := K0.trans kw1
        refine hK.out _ _ (fun _ => Sw1) ?_
        clear hK
        refine fin_one 3 rfl rfl (by kernel_rfl) (fun K hK => ?_)
        go_simp
        refine (hO2 _ Kw1).mono ?_
        rintro _ w2 ⟨rfl, kw2⟩
        have Sw2 := hon _ _ Sw1 kw2
        have Kw2 := Kw1.trans kw2
        refine hK.out _ _ (fun _ => Sw2) ?_
        clear hK
        refine fin_take 4 (v := ?_) rfl (by kernel_rfl) (by kernel_rfl) (by kernel_rfl) (by kernel_rfl) (fun _ _ _ h => h) rfl ?_ Sw2 ?_
        rotate_left
        · intro W hW
          go_simp
          (try with_reducible rfl)
        simp only [Act.put, List.setIfInBounds_toArray, List.set_cons_zero, List.set_cons_succ]
        refine fin_take 5 (v := ?_) rfl (by kernel_rfl) (by kernel_rfl) (by kernel_rfl) (by kernel_rfl) (fun _ _ _ h => h) rfl ?_ Sw2 ?_
        rotate_left
        · intro W hW
          go_simp
          (try with_reducible rfl)
        simp only [Act.put, List.setIfInBounds_toArray, List.set_cons_zero, List.set_cons_succ]
        refine fin_takeG 6 (v := ?_) rfl (by kernel_rfl) (by kernel_rfl) (by kernel_rfl) (by kernel_rfl) (fun _ _ _ h => h) (by rfl) ?_ Sw2 ?_
        rotate_left
        · intro W hW
          have f0 := (TX.on hW).at (i := 0) rfl
          have f1 := (TX.on hW).at (i := 1) rfl
          have f2 := (TX.on hW).at (i := 2) rfl
          have f3 := (TX.on hW).at (i := 3) rfl
          have f4 := (TX.on hW).at (i := 4) rfl
          have fl := (TX.on hW).lt
          go_simp
          (try with_reducible rfl)
        simp only [Act.put, List.setIfInBounds_toArray, List.set_cons_zero, List.set_cons_succ]
        refine fin_takeG 8 (v := ?_) rfl (by kernel_rfl) (by kernel_rfl) (by kernel_rfl) (by kernel_rfl) (fun _ _ _ h => h) (by rfl) ?_ Sw2 ?_
        rotate_left
        · intro W hW
          have f0 := (TX.on hW).at (i := 0) rfl
          have f1 := (TX.on hW).at (i := 1) rfl
          have f2 := (TX.on hW).at (i := 2) rfl
          have f3 := (TX.on hW).at (i := 3) rfl
          have f4 := (TX.on hW).at (i := 4) rfl
          have fl := (TX.on hW).lt
          go_simp
          (try with_reducible rfl)
        simp only [Act.put, List.setIfInBounds_toArray, List.set_cons_zero, List.set_cons_succ]
        refine fin_oneG 7 rfl (by rfl) (by kernel_rfl) (fun K hK => ?_)
        go_simp
        refine (hP1 _ Kw2).mono ?_
        rintro _ w3 ⟨rfl, kw3⟩
        have Sw3 := hon _ _ Sw2 kw3
        have Kw3 := Kw2.trans kw3
        refine hK.out _ _ (fun _ => Sw3) ?_
        clear hK
        refine fin_oneG 9 rfl (by rfl) (by kernel_rfl) (fun K hK => ?_)
        go_simp
        refine (hP2 _ Kw3).mono ?_
        rintro _ w4 ⟨rfl, kw4⟩
        have Sw4 := hon _ _ Sw3 kw4
        have Kw4 := Kw3.trans kw4
        refine hK.out _ _ (fun _ => Sw4) ?_
        clear hK
        refine fin_takeG 10 (v := ?_) rfl (by kernel_rfl) (by kernel_rfl) (by kernel_rfl) (by kernel_rfl) (fun _ _ _ h => h) (by rfl) ?_ Sw4 ?_
        rotate_left
        · intro W hW
          go_simp
          (try with_reducible rfl)
        simp only [Act.put, List.setIfInBounds_toArray, List.set_cons_zero, List.set_cons_succ]
        refine fin_take 11 (v := ?_) rfl (by kernel_rfl) (by kernel_rfl) (by kernel_rfl) (by kernel_rfl) (fun _ _ _ h => h) rfl ?_ Sw4 ?_
        rotate_left
        · intro W hW
          go_simp
          (try with_reducible rfl)
        simp only [Act.put, List.setIfInBounds_toArray, List.set_cons_zero, List.set_cons_succ]
        refine fin_take 12 (v := ?_) rfl (by kernel_rfl) (by kernel_rfl) (by kernel_rfl) (by kernel_rfl) (fun _ _ _ h => h) rfl ?_ Sw4 ?_
        rotate_left
        · intro W hW
          go_simp
          (try with_reducible rfl)
        simp only [Act.put, List.setIfInBounds_toArray, List.set_cons_zero, List.set_cons_succ]
        refine fin_takeG 13 (v := ?_) rfl (by kernel_rfl) (by kernel_rfl) (by kernel_rfl) (by kernel_rfl) (fun _ _ _ h => h) (by rfl) ?_ Sw4 ?_
        rotate_left
        · intro W hW
          have f0 := (IX.on hW).at (i := 0) rfl
          have f1 := (IX.on hW).at (i := 1) rfl
          have f2 := (IX.on hW).at (i := 2) rfl
          have f3 := (IX.on hW).at (i := 3) rfl
          have f4 := (IX.on hW).at (i := 4) rfl
          have f5 := (IX.on hW).at (i := 5) rfl
          have f6 := (IX.on hW).at (i := 6) rfl
          have f7 := (IX.on hW).at (i := 7) rfl
          have f8 := (IX.on hW).at (i := 8) rfl
          have fl := (IX.on hW).lt
          go_simp
          (try with_reducible rfl)
        simp only [Act.put, List.setIfInBounds_toArray, List.set_cons_zero, List.set_cons_succ]
        refine fin_takeG 15 (v := ?_) rfl (by kernel_rfl) (by kernel_rfl) (by kernel_rfl) (by kernel_rfl) (fun _ _ _ h => h) (by rfl) ?_ Sw4 ?_
        rotate_left
        · intro W hW
          have f0 := (IX.on hW).at (i := 0) rfl
          have f1 := (IX.on hW).at (i := 1) rfl
          have f2 := (IX.on hW).at (i := 2) rfl
          have f3 := (IX.on hW).at (i := 3) rfl
          have f4 := (IX.on hW).at (i := 4) rfl
          have f5 := (IX.on hW).at (i := 5) rfl
          have f6 := (IX.on hW).at (i := 6) rfl
          have f7 := (IX.on hW).at (i := 7) rfl
          have f8 := (IX.on hW).at (i := 8) rfl
          have fl := (IX.on hW).lt
          go_simp
          (try with_reducible rfl)
        simp only [Act.put, List.setIfInBounds_toArray, List.set_cons_zero, List.set_cons_succ]
        refine fin_oneG 14 rfl (by rfl) (by kernel_rfl) (fun K hK => ?_)
        go_simp
        refine (hI1 _ Kw4).mono ?_
        rintro _ w5 ⟨rfl, kw5⟩
        have Sw5 := hon _ _ Sw4 kw5
        have Kw5 := Kw4.trans kw5
        refine hK.out _ _ (fun _ => Sw5) ?_
        clear hK
        refine fin_oneG 16 rfl (by rfl) (by kernel_rfl) (fun K hK => ?_)
        go_simp
        refine (hI2 _ Kw5).mono ?_
        rintro _ w6 ⟨rfl, kw6⟩
        have Sw6 := hon _ _ Sw5 kw6
        have Kw6 := Kw5.trans kw6
        refine hK.out _ _ (fun _ => Sw6) ?_
        clear hK
        refine fin_takeG 17 (v := ?_) rfl (by kernel_rfl) (by kernel_rfl) (by kernel_rfl) (by kernel_rfl) (fun _ _ _ h => h) (by rfl) ?_ Sw6 ?_
        rotate_left
        · intro W hW
          go_simp
          (try with_reducible rfl)
        simp only [Act.put, List.setIfInBounds_toArray, List.set_cons_zero, List.set_cons_succ]
        refine fin_take 18 (v := ?_) rfl (by kernel_rfl) (by kernel_rfl) (by kernel_rfl) (by kernel_rfl) (fun _ _ _ h => h) rfl ?_ Sw6 ?_
        rotate_left
        · intro W hW
          go_simp
          (try with_reducible rfl)
        simp only [Act.put, List.setIfInBounds_toArray, List.set_cons_zero, List.set_cons_succ]
        refine fin_take 19 (v := ?_) rfl (by kernel_rfl) (by kernel_rfl) (by kernel_rfl) (by kernel_rfl) (fun _ _ _ h => h) rfl ?_ Sw6 ?_
        rotate_left
        · intro W hW
          go_simp
          (try with_reducible rfl)
        simp only [Act.put, List.setIfInBounds_toArray, List.set_cons_zero, List.set_cons_succ]
        refine fin_takeG 20 (v := ?_) rfl (by kernel_rfl) (by kernel_rfl) (by kernel_rfl) (by kernel_rfl) (fun _ _ _ h => h) (by rfl) ?_ Sw6 ?_
        rotate_left
        · intro W hW
          have f0 := (CX.on hW).at (i := 0) rfl
          have f1 := (CX.on hW).at (i := 1) rfl
          have fl := (CX.on hW).lt
          go_simp
          (try with_reducible rfl)
        simp only [Act.put, List.setIfInBounds_toArray, List.set_cons_zero, List.set_cons_succ]
        refine fin_takeG 22 (v := ?_) rfl (by kernel_rfl) (by kernel_rfl) (by kernel_rfl) (by kernel_rfl) (fun _ _ _ h => h) (by rfl) ?_ Sw6 ?_
        rotate_left
        · intro W hW
          have f0 := (CX.on hW).at (i := 0) rfl
          have f1 := (CX.on hW).at (i := 1) rfl
          have fl := (CX.on hW).lt
          go_simp
          (try with_reducible rfl)
        simp only [Act.put, List.setIfInBounds_toArray, List.set_cons_zero, List.set_cons_succ]
        refine fin_oneG 21 rfl (by rfl) (by kernel_rfl) (fun K hK => ?_)
        go_simp
        refine (hC1 _ Kw6).mono ?_
        rintro _ w7 ⟨rfl, kw7⟩
        have Sw7 := hon _ _ Sw6 kw7
        have Kw7 := Kw6.trans kw7
        refine hK.out _ _ (fun _ => Sw7) ?_
        clear hK
        refine fin_oneG 23 rfl (by rfl) (by kernel_rfl) (fun K hK => ?_)
        go_simp
        refine (hC2 _ Kw7).mono ?_
        rintro _ w8 ⟨rfl, kw8⟩
        have Sw8 := hon _ _ Sw7 kw8
        have Kw8 := Kw7.trans kw8
        refine hK.out _ _ (fun _ => Sw8) ?_
        clear hK
        refine fin_takeG 24 (v := ?_) rfl (by kernel_rfl) (by kernel_rfl) (by kernel_rfl) (by kernel_rfl) (fun _ _ _ h => h) (by rfl) ?_ Sw8 ?_
        rotate_left
        · intro W hW
          go_simp
          (try with_reducible rfl)
        simp only [Act.put, List.setIfInBounds_toArray, List.set_cons_zero, List.set_cons_succ]
        refine fin_take 25 (v := ?_) rfl (by kernel_rfl) (by kernel_rfl) (by kernel_rfl) (by kernel_rfl) (fun _ _ _ h => h) rfl ?_ Sw8 ?_
        rotate_left
        · intro W hW
          go_simp
          (try with_reducible rfl)
        simp only [Act.put, List.setIfInBounds_toArray, List.set_cons_zero, List.set_cons_succ]
        refine fin_take 26 (v := ?_) rfl (by kernel_rfl) (by kernel_rfl) (by kernel_rfl) (by kernel_rfl) (fun _ _ _ h => h) rfl ?_ Sw8 ?_
        rotate_left
        · intro W hW
          go_simp
          (try with_reducible rfl)
        simp only [Act.put, List.setIfInBounds_toArray, List.set_cons_zero, List.set_cons_succ]
        refine fin_takeG 27 (v := ?_) rfl (by kernel_rfl) (by kernel_rfl) (by kernel_rfl) (by kernel_rfl) (fun _ _ _ h => h) (by rfl) ?_ Sw8 ?_
        rotate_left
        · intro W hW
          have f0 := (TX.on hW).at (i := 0) rfl
          have f1 := (TX.on hW).at (i := 1) rfl
          have f2 := (TX.on hW).at (i := 2) rfl
          have f3 := (TX.on hW).at (i := 3) rfl
          have f4 := (TX.on hW).at (i := 4) rfl
          have fl := (TX.on hW).lt
          go_simp
          (try with_reducible rfl)
        simp only [Act.put, List.setIfInBounds_toArray, List.set_cons_zero, List.set_cons_succ]
        refine fin_takeG 28 (v := ?_) rfl (by kernel_rfl) (by kernel_rfl) (by kernel_rfl) (by kernel_rfl) (fun _ _ _ h => h) (by rfl) ?_ Sw8 ?_
        rotate_left
        · intro W hW
          have f0 := (UX.on hW).at (i := 0) rfl
          have f1 := (UX.on hW).at (i := 1) rfl
          have f2 := (UX.on hW).at (i := 2) rfl
          have f3 := (UX.on hW).at (i := 3) rfl
          have f4 := (UX.on hW).at (i := 4) rfl
          have fl := (UX.on hW).lt
          go_simp
          (try with_reducible rfl)
        simp only [Act.put, List.setIfInBounds_toArray, List.set_cons_zero, List.set_cons_succ]
        refine fin_takeG 30 (v := ?_) rfl (by kernel_rfl) (by kernel_rfl) (by kernel_rfl) (by kernel_rfl) (fun _ _ _ h => h) (by rfl) ?_ Sw8 ?_
        rotate_left
        · intro W hW
          have f0 := (TX.on hW).at (i := 0) rfl
          have f1 := (TX.on hW).at (i := 1) rfl
          have f2 := (TX.on hW).at (i := 2) rfl
          have f3 := (TX.on hW).at (i := 3) rfl
          have f4 := (TX.on hW).at (i := 4) rfl
          have fl := (TX.on hW).lt
          go_simp
          (try with_reducible rfl)
        simp only [Act.put, List.setIfInBounds_toArray, List.set_cons_zero, List.set_cons_succ]
        refine fin_takeG 31 (v := ?_) rfl (by kernel_rfl) (by kernel_rfl) (by kernel_rfl) (by kernel_rfl) (fun _ _ _ h => h) (by rfl) ?_ Sw8 ?_
        rotate_left
        · intro W hW
          have f0 := (UX.on hW).at (i := 0) rfl
          have f1 := (UX.on hW).at (i := 1) rfl
          have f2 := (UX.on hW).at (i := 2) rfl
          have f3 := (UX.on hW).at (i := 3) rfl
          have f4 := (UX.on hW).at (i := 4) rfl
          have fl := (UX.on hW).lt
          go_simp
          (try with_reducible rfl)
        simp only [Act.put, List.setIfInBounds_toArray, List.set_cons_zero, List.set_cons_succ]
        refine fin_oneG 29 rfl (by rfl) (by kernel_rfl) (fun K hK => ?_)
        go_simp
        refine (hS1 _ Kw8).mono ?_
        rintro _ w9 ⟨rfl, kw9⟩
        have Sw9 := hon _ _ Sw8 kw9
        have Kw9 := Kw8.trans kw9
        refine hK.out _ _ (fun _ => Sw9) ?_
        clear hK
        refine fin_oneG 32 rfl (by rfl) (by kernel_rfl) (fun K hK => ?_)
        go_simp
        refine (hS2 _ Kw9).mono ?_
        rintro _ w10 ⟨rfl, kw10⟩
        have Sw10 := hon _ _ Sw9 kw10
        have Kw10 := Kw9.trans kw10
        refine hK.out _ _ (fun _ => Sw10) ?_
        clear hK
        refine fin_takeG 33 (v := ?_) rfl (by kernel_rfl) (by kernel_rfl) (by kernel_rfl) (by kernel_rfl) (fun _ _ _ h => h) (by rfl) ?_ Sw10 ?_
        rotate_left
        · intro W hW
          go_simp
          (try with_reducible rfl)
        simp only [Act.put, List.setIfInBounds_toArray, List.set_cons_zero, List.set_cons_succ]
        refine fin_take 34 (v := ?_) rfl (by kernel_rfl) (by kernel_rfl) (by kernel_rfl) (by kernel_rfl) (fun _ _ _ h => h) rfl ?_ Sw10 ?_
        rotate_left
        · intro W hW
          go_simp
          (try with_reducible rfl)
        simp only [Act.put, List.setIfInBounds_toArray, List.set_cons_zero, List.set_cons_succ]
        refine fin_take 35 (v := ?_) rfl (by kernel_rfl) (by kernel_rfl) (by kernel_rfl) (by kernel_rfl) (fun _ _ _ h => h) rfl ?_ Sw10 ?_
        rotate_left
        · intro W hW
          go_simp
          (try with_reducible rfl)
        simp only [Act.put, List.setIfInBounds_toArray, List.set_cons_zero, List.set_cons_succ]
        refine fin_takeG 36 (v := ?_) rfl (by kernel_rfl) (by kernel_rfl) (by kernel_rfl) (by kernel_rfl) (fun _ _ _ h => h) (by rfl) ?_ Sw10 ?_
        rotate_left
        · intro W hW
          have f0 := (TX.on hW).at (i := 0) rfl
          have f1 := (TX.on hW).at (i := 1) rfl
          have f2 := (TX.on hW).at (i := 2) rfl
          have f3 := (TX.on hW).at (i := 3) rfl
          have f4 := (TX.on hW).at (i := 4) rfl
          have fl := (TX.on hW).lt
          go_simp
          (try with_reducible rfl)
        simp only [Act.put, List.setIfInBounds_toArray, List.set_cons_zero, List.set_cons_succ]
        refine fin_takeG 37 (v := ?_) rfl (by kernel_rfl) (by kernel_rfl) (by kernel_rfl) (by kernel_rfl) (fun _ _ _ h => h) (by rfl) ?_ Sw10 ?_
        rotate_left
        · intro W hW
          have f0 := (TX.on hW).at (i := 0) rfl
          have f1 := (TX.on hW).at (i := 1) rfl
          have f2 := (TX.on hW).at (i := 2) rfl
          have f3 := (TX.on hW).at (i := 3) rfl
          have f4 := (TX.on hW).at (i := 4) rfl
          have fl := (TX.on hW).lt
          go_simp
          (try with_reducible rfl)
        simp only [Act.put, List.setIfInBounds_toArray, List.set_cons_zero, List.set_cons_succ]
        refine fin_oneG 38 rfl (by rfl) (by kernel_rfl) (fun K hK => ?_)
        go_simp
        refine (hS3 _ Kw10).mono ?_
        rintro _ w11 ⟨rfl, kw11⟩
        have Sw11 := hon _ _ Sw10 kw11
        have Kw11 := Kw10.trans kw11
        refine hK.out _ _ (fun _ => Sw11) ?_
        clear hK
        refine fin_take 39 (v := ?_) rfl (by kernel_rfl) (by kernel_rfl) (by kernel_rfl) (by kernel_rfl) (fun _ _ _ h => h) rfl ?_ Sw11 ?_
        rotate_left
        · intro W hW
          go_simp
          (try with_reducible rfl)
        simp only [Act.put, List.setIfInBounds_toArray, List.set_cons_zero, List.set_cons_succ]
        refine fin_take 40 (v := ?_) rfl (by kernel_rfl) (by kernel_rfl) (by kernel_rfl) (by kernel_rfl) (fun _ _ _ h => h) rfl ?_ Sw11 ?_
        rotate_left
        · intro W hW
          go_simp
          (try with_reducible rfl)
        simp only [Act.put, List.setIfInBounds_toArray, List.set_cons_zero, List.set_cons_succ]
        refine fin_oneG 41 rfl (by rfl) (by kernel_rfl) (fun K hK => ?_)
        go_simp
        refine (hA _ Kw11).mono ?_
        rintro _ w12 ⟨rfl, kw12⟩
        have Sw12 := hon _ _ Sw11 kw12
        have Kw12 := Kw11.trans kw12
        refine hK.out _ _ (fun _ => Sw12) ?_
        clear hK
        refine fin_take 42 (v := ?_) rfl (by kernel_rfl) (by kernel_rfl) (by kernel_rfl) (by kernel_rfl) (fun _ _ _ h => h) rfl ?_ Sw12 ?_
        rotate_left
        · intro W hW
          go_simp
          (try with_reducible rfl)
        simp only [Act.put, List.setIfInBounds_toArray, List.set_cons_zero, List.set_cons_succ]
        refine fin_take 43 (v := ?_) rfl (by kernel_rfl) (by kernel_rfl) (by kernel_rfl) (by kernel_rfl) (fun _ _ _ h => h) rfl ?_ Sw12 ?_
        rotate_left
        · intro W hW
          go_simp
          (try with_reducible rfl)
        simp only [Act.put, List.setIfInBounds_toArray, List.set_cons_zero, List.set_cons_succ]
        refine fin_done (by kernel_rfl) (NoPanic.normal ?_)
        go_wp2
        go_ret
        exact ⟨rfl, KX.trans Kw12⟩
end Go.Proofs.YtlfeihgemdicfaaDoor
