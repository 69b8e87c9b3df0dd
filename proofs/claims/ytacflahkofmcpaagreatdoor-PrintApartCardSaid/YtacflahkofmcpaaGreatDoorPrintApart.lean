/- PrintApart, walked: unlike tests have unlike texts; a text that parses is printed to a text of the same test. -/
import Derived.Test.YtacflahkofmcpaaGreatDoorApartP
import Derived.Test.YtacflahkofmcpaaGreatDoorPrintBack
import Derived.Test.YtacflahkofmcpaaGreatDoorJ14WlRegFin3
namespace Go.Proofs.YtacflahkofmcpaaGreatDoor.Wl
open Go.RowKit

set_option maxHeartbeats 16000000 in
set_option maxRecDepth 8000 in
theorem printApart_walk (t : TestT) (vt : Value) (u : TestT) (vu : Value) (s : ByteArray) (w : World) (ht : TestRd w vt t) (hti : testI t) (hu : TestRd w vu u) (hui : testI u) (hs : s.size ≤ reachBytes) (lw : Go.Proofs.YtacflahkofmcpaaGreatDoor.Lw w) :
    Calls Tryz.prog 6 #[vt, vu, .string s] w fun e w' => e = .returned (.bool true) ∧ On w w' := by
  obtain ⟨a1, c1, a2, c2, a3, c3, rfl, _⟩ := id ht.ex
  obtain ⟨b1, d1, b2, d2, b3, d3, rfl, _⟩ := id hu.ex
  obtain ⟨WX, hWX⟩ : ∃ WX, WX = (w.alloc (.cells (tA t a1 c1 a2 c2 a3 c3) 28)).alloc (.cells (tA u b1 d1 b2 d2 b3 d3) 28) := ⟨_, rfl⟩
  have KX : On w WX := by rw [hWX]; exact ((On.refl w).alloc _).alloc _
  have TX : Bk WX w.heap.size (tA t a1 c1 a2 c2 a3 c3) := by rw [hWX]; exact (Bk.new w _ _).alloc _
  have UX : Bk WX (w.heap.size + 1) (tA u b1 d1 b2 d2 b3 d3) := by
    rw [hWX]
    have := Bk.new (w.alloc (.cells (tA t a1 c1 a2 c2 a3 c3) 28)) (tA u b1 d1 b2 d2 b3 d3) 28
    rwa [World.size_alloc] at this
  have RT := ht.on KX
  have RU := hu.on KX
  have lx := lw.on KX
  have ll := lw_of lx
  have hF1 := fun W (k : On WX W) => fewB_is t _ W (RT.on k)
  have hF2 := fun W (k : On WX W) => fewB_is u _ W (RU.on k)
  have hA := fun W (k : On WX W) => awake4_is W (ll.on k)
  have hO1 := fun W (k : On WX W) => ok_is t _ W (ll.on k) (RT.on k)
  have hO2 := fun W (k : On WX W) => ok_is u _ W (ll.on k) (RU.on k)
  have hS1 := fun W (k : On WX W) => psame_is t u _ _ W (RT.on k) (RU.on k)
  have hPa := fun W (k : On WX W) => parse_any s (by unfold reachBytes at hs; omega) W (lx.on k)
  have HM : Hid ((parseP s).2.1 = 0 → ∃ P, Told (cT (parseP s).1) P ∧ ¬ P.size = 0 ∧ P.size ≤ 140737488351232) := told_may
  generalize cT (parseP s).1 = V at *
  generalize (parseP s).2.1 = c at *
  generalize (parseP s).2.2 = p at *
  have HTd : Hid (FewT t → ∃ P, Told t P) := fun hf => told_few hf hti
  have HUd : Hid (FewT u → ∃ P, Told u P) := fun hf => told_few hf hui
  have hT1 : ∀ {P}, Told t P → ∀ W (_ : On WX W), _ := fun {P} hP W k => told_test hP _ W (ll.on k) (RT.on k)
  have hT2 : ∀ {P}, Told u P → ∀ W (_ : On WX W), _ := fun {P} hP W k => told_test hP _ W (ll.on k) (RU.on k)
  clear ht hu hti hui hs lw RT RU
  go_enter Tryz.func6, Tryz.ntmps6
  go_upto_region 1 with fail
  rw [← hWX]
  clear hWX
  have x0 := TX.at (i := 0) rfl
  have x1 := TX.at (i := 1) rfl
  have x2 := TX.at (i := 2) rfl
  have x3 := TX.at (i := 3) rfl
  have x4 := TX.at (i := 4) rfl
  have xl := TX.lt
  go_wp2_with fail
  refine (hF1 _ (On.refl WX)).mono ?_
  rintro _ w1 ⟨q1, rfl, hq1, k1⟩
  clear hF1 x0 x1 x2 x3 x4 xl
  cases q1 with
  | false =>
    go_wp2_with fail
    refine (hA _ k1).mono ?_
    rintro _ wz ⟨rfl, kz⟩
    go_wp2
    go_ret
    exact ⟨rfl, KX.trans (k1.trans kz)⟩
  | true =>
    obtain ⟨P1, HP1⟩ : ∃ P1, Hid (Told t P1) := HTd.out (hq1 rfl)
    have hT1' := fun W (k : On WX W) => hT1 HP1.out W k
    clear hq1 HTd hT1
    have UX1 := UX.on k1
    have x0 := UX1.at (i := 0) rfl
    have x1 := UX1.at (i := 1) rfl
    have x2 := UX1.at (i := 2) rfl
    have x3 := UX1.at (i := 3) rfl
    have x4 := UX1.at (i := 4) rfl
    have xl := UX1.lt
    go_wp2_with fail
    refine (hF2 _ k1).mono ?_
    rintro _ w2 ⟨q2, rfl, hq2, k2⟩
    have K2 := k1.trans k2
    clear hF2 x0 x1 x2 x3 x4 xl
    cases q2 with
    | false =>
      go_wp2_with fail
      refine (hA _ K2).mono ?_
      rintro _ wz ⟨rfl, kz⟩
      go_wp2
      go_ret
      exact ⟨rfl, KX.trans (K2.trans kz)⟩
    | true =>
      obtain ⟨P2, HP2⟩ : ∃ P2, Hid (Told u P2) := HUd.out (hq2 rfl)
      have hT2' := fun W (k : On WX W) => hT2 HP2.out W k
      clear hq2 HUd hT2 UX1
      have hon : ∀ W W', On WX W → On W W' → On WX W' := fun W W' h k => h.trans k
      have K0 : On WX w2.drew := On.drew K2
      have HOO : Hid (testOk t = true → testOk u = true → (P1.toList == P2.toList) = sameT t u) := fun h1 h2 => texts_same h1 h2 HP1.out HP2.out
      generalize testOk t = bo at *
      generalize testOk u = bu at *
      generalize sameT t u = bs at *
      go_upto_region 3 with fail
      cases bo with
      | false =>
        refine region_fin (fun W => On WX W) 99 17 (by kernel_rfl) rfl ?_
        refine fin_take 0 (v := ?_) rfl (by kernel_rfl) (by kernel_rfl) (by kernel_rfl) (by kernel_rfl) (fun _ _ _ h => h) rfl ?_ K0 ?_
        rotate_left
        · intro W hW
          have f0 := (TX.on hW).at (i := 0) rfl
          have f1 := (TX.on hW).at (i := 1) rfl
          have f2 := (TX.on hW).at (i := 2) rfl
          have f3 := (TX.on hW).at (i := 3) rfl
          have f4 := (TX.on hW).at (i := 4) rfl
          have fl := (TX.on hW).lt
          go_simp
          (try with_reducible rfl)
        simp only [Act.put, List.setIfInBounds_toArray, List.set_cons_zero, List.set_cons_succ]
        refine fin_one 1 rfl rfl (by kernel_rfl) (fun K hK => ?_)
        go_simp
        refine (hO1 _ K0).mono ?_
        rintro _ x1 ⟨rfl, kx1⟩
        have Sx1 := hon _ _ K0 kx1
        have Kx1 := K0.trans kx1
        refine hK.out _ _ (fun _ => Sx1) ?_
        clear hK
        refine fin_take 2 (v := ?_) rfl (by kernel_rfl) (by kernel_rfl) (by kernel_rfl) (by kernel_rfl) (fun _ _ _ h => h) rfl ?_ Sx1 ?_
        rotate_left
        · intro W hW
          go_simp
          (try with_reducible rfl)
        simp only [Act.put, List.setIfInBounds_toArray, List.set_cons_zero, List.set_cons_succ]
        refine fin_takeN 3 rfl (by kernel_rfl) (by kernel_rfl) (by kernel_rfl) (by kernel_rfl) (fun _ _ _ h => h) (by rfl) Sx1 ?_
        simp only [Act.put, List.setIfInBounds_toArray, List.set_cons_zero, List.set_cons_succ]
        refine fin_takeN 4 rfl (by kernel_rfl) (by kernel_rfl) (by kernel_rfl) (by kernel_rfl) (fun _ _ _ h => h) (by rfl) Sx1 ?_
        simp only [Act.put, List.setIfInBounds_toArray, List.set_cons_zero, List.set_cons_succ]
        refine fin_take 5 (v := ?_) rfl (by kernel_rfl) (by kernel_rfl) (by kernel_rfl) (by kernel_rfl) (fun _ _ _ h => h) rfl ?_ Sx1 ?_
        rotate_left
        · intro W hW
          go_simp
          (try with_reducible rfl)
        simp only [Act.put, List.setIfInBounds_toArray, List.set_cons_zero, List.set_cons_succ]
        refine fin_take 6 (v := ?_) rfl (by kernel_rfl) (by kernel_rfl) (by kernel_rfl) (by kernel_rfl) (fun _ _ _ h => h) rfl ?_ Sx1 ?_
        rotate_left
        · intro W hW
          go_simp
          (try with_reducible rfl)
        simp only [Act.put, List.setIfInBounds_toArray, List.set_cons_zero, List.set_cons_succ]
        refine fin_takeN 7 rfl (by kernel_rfl) (by kernel_rfl) (by kernel_rfl) (by kernel_rfl) (fun _ _ _ h => h) (by rfl) Sx1 ?_
        simp only [Act.put, List.setIfInBounds_toArray, List.set_cons_zero, List.set_cons_succ]
        refine fin_takeN 8 rfl (by kernel_rfl) (by kernel_rfl) (by kernel_rfl) (by kernel_rfl) (fun _ _ _ h => h) (by rfl) Sx1 ?_
        simp only [Act.put, List.setIfInBounds_toArray, List.set_cons_zero, List.set_cons_succ]
        refine fin_takeN 9 rfl (by kernel_rfl) (by kernel_rfl) (by kernel_rfl) (by kernel_rfl) (fun _ _ _ h => h) (by rfl) Sx1 ?_
        simp only [Act.put, List.setIfInBounds_toArray, List.set_cons_zero, List.set_cons_succ]
        refine fin_takeN 10 rfl (by kernel_rfl) (by kernel_rfl) (by kernel_rfl) (by kernel_rfl) (fun _ _ _ h => h) (by rfl) Sx1 ?_
        simp only [Act.put, List.setIfInBounds_toArray, List.set_cons_zero, List.set_cons_succ]
        refine fin_takeN 11 rfl (by kernel_rfl) (by kernel_rfl) (by kernel_rfl) (by kernel_rfl) (fun _ _ _ h => h) (by rfl) Sx1 ?_
        simp only [Act.put, List.setIfInBounds_toArray, List.set_cons_zero, List.set_cons_succ]
        refine fin_takeN 12 rfl (by kernel_rfl) (by kernel_rfl) (by kernel_rfl) (by kernel_rfl) (fun _ _ _ h => h) (by rfl) Sx1 ?_
        simp only [Act.put, List.setIfInBounds_toArray, List.set_cons_zero, List.set_cons_succ]
        refine fin_takeN 13 rfl (by kernel_rfl) (by kernel_rfl) (by kernel_rfl) (by kernel_rfl) (fun _ _ _ h => h) (by rfl) Sx1 ?_
        simp only [Act.put, List.setIfInBounds_toArray, List.set_cons_zero, List.set_cons_succ]
        refine fin_takeN 14 rfl (by kernel_rfl) (by kernel_rfl) (by kernel_rfl) (by kernel_rfl) (fun _ _ _ h => h) (by rfl) Sx1 ?_
        simp only [Act.put, List.setIfInBounds_toArray, List.set_cons_zero, List.set_cons_succ]
        refine fin_takeN 15 rfl (by kernel_rfl) (by kernel_rfl) (by kernel_rfl) (by kernel_rfl) (fun _ _ _ h => h) (by rfl) Sx1 ?_
        simp only [Act.put, List.setIfInBounds_toArray, List.set_cons_zero, List.set_cons_succ]
        refine fin_take 16 (v := ?_) rfl (by kernel_rfl) (by kernel_rfl) (by kernel_rfl) (by kernel_rfl) (fun _ _ _ h => h) rfl ?_ Sx1 ?_
        rotate_left
        · intro W hW
          go_simp
          (try with_reducible rfl)
        simp only [Act.put, List.setIfInBounds_toArray, List.set_cons_zero, List.set_cons_succ]
        refine fin_done (by kernel_rfl) (NoPanic.normal ?_)
        go_wp2_with fail
        refine (hPa _ Kx1).mono ?_
        rintro _ w5 ⟨u1, v1, u2, v2, u3, v3, rfl, RV5, k5⟩
        have K5 := Kx1.trans k5
        obtain ⟨WZ, hWZ⟩ : ∃ WZ, WZ = (w5.alloc (.cells (tA V u1 v1 u2 v2 u3 v3) 28)).alloc (.cells #[.int .i64 c, .int .i64 p] 36) := ⟨_, rfl⟩
        go_upto_region 6 with fail
        rw [← hWZ]
        have kZ : On w5 WZ := by rw [hWZ]; exact ((On.refl w5).alloc _).alloc _
        have VZ : Bk WZ w5.heap.size (tA V u1 v1 u2 v2 u3 v3) := by rw [hWZ]; exact (Bk.new w5 _ _).alloc _
        have EZ : Bk WZ (w5.heap.size + 1) #[.int .i64 c, .int .i64 p] := by
          rw [hWZ]
          have := Bk.new (w5.alloc (.cells (tA V u1 v1 u2 v2 u3 v3) 28)) #[.int .i64 c, .int .i64 p] 36
          rwa [World.size_alloc] at this
        have RVZ := RV5.on kZ
        have KZ := K5.trans kZ
        clear hWZ kZ
        have z0 := EZ.at (i := 0) rfl
        have z1 := EZ.at (i := 1) rfl
        have zl := EZ.lt
        by_cases hc : c = 0
        · have hcb : ((c : Int) != 0) = false := by rw [hc]; rfl
          have hcc : (c : Int) = 0 := by rw [hc]; rfl
          obtain ⟨P, hP', hPn, hPl⟩ := HM.out hc
          have HP : Hid (Told V P) := hP'
          clear hP'
          have y0 := VZ.at (i := 0) rfl
          have y1 := VZ.at (i := 1) rfl
          have y2 := VZ.at (i := 2) rfl
          have y3 := VZ.at (i := 3) rfl
          have y4 := VZ.at (i := 4) rfl
          have yl := VZ.lt
          go_wp2_with fail
          refine (told_test HP.out _ WZ (ll.on KZ) RVZ).mono ?_
          rintro _ w6 ⟨rfl, k6⟩
          clear y0 y1 y2 y3 y4 yl z0 z1 zl
          have K6 := KZ.trans k6
          have e0 := str_some hPn
          have e1 := str_some1 hPn
          have e2 := str_some2 hPn
          by_cases hz4 : 4000 < P.size
          · have e4 : decide (4000 < P.size) = true := decide_eq_true hz4
            go_wp2_with fail
            refine (parse_any P hPl w6 (lx.on K6)).mono ?_
            rintro _ w7 ⟨m1, n1, m2, n2, m3, n3, rfl, _, k7⟩
            have K7 := K6.trans k7
            go_wp2_with fail
            refine (hA _ ((K7.alloc _).alloc _)).mono ?_
            rintro _ wz ⟨rfl, kz⟩
            go_wp2
            go_ret
            exact ⟨rfl, KX.trans (((K7.alloc _).alloc _).trans kz)⟩
          · have e4 : decide (4000 < P.size) = false := decide_eq_false hz4
            go_wp2_with fail
            refine (told_parse HP.out hPn (Nat.le_of_not_lt hz4) w6 (lx.on K6)).mono ?_
            rintro _ w7 ⟨m1, n1, m2, n2, m3, n3, rfl, RW7, k7⟩
            have K7 := K6.trans k7
            obtain ⟨WQ, hWQ⟩ : ∃ WQ, WQ = (w7.alloc (.cells (tA V m1 n1 m2 n2 m3 n3) 28)).alloc (.cells #[.int .i64 0, .int .i64 0] 36) := ⟨_, rfl⟩
            go_upto_region 10 with fail
            rw [← hWQ]
            have kQ : On w7 WQ := by rw [hWQ]; exact ((On.refl w7).alloc _).alloc _
            have WB : Bk WQ w7.heap.size (tA V m1 n1 m2 n2 m3 n3) := by rw [hWQ]; exact (Bk.new w7 _ _).alloc _
            have EQ : Bk WQ (w7.heap.size + 1) #[.int .i64 0, .int .i64 0] := by
              rw [hWQ]
              have := Bk.new (w7.alloc (.cells (tA V m1 n1 m2 n2 m3 n3) 28)) #[.int .i64 0, .int .i64 0] 36
              rwa [World.size_alloc] at this
            have kzq := (k6.trans k7).trans kQ
            have VQ := VZ.on kzq
            have RVQ := RVZ.on kzq
            have RWQ := RW7.on kQ
            have KQ := K7.trans kQ
            clear hWQ kQ
            have x0 := VQ.at (i := 0) rfl
            have x1 := VQ.at (i := 1) rfl
            have x2 := VQ.at (i := 2) rfl
            have x3 := VQ.at (i := 3) rfl
            have x4 := VQ.at (i := 4) rfl
            have xl := VQ.lt
            have y0 := WB.at (i := 0) rfl
            have y1 := WB.at (i := 1) rfl
            have y2 := WB.at (i := 2) rfl
            have y3 := WB.at (i := 3) rfl
            have y4 := WB.at (i := 4) rfl
            have yl := WB.lt
            have z0 := EQ.at (i := 0) rfl
            have z1 := EQ.at (i := 1) rfl
            have zl := EQ.lt
            have hsm := psame_is V V _ _ WQ RVQ RWQ
            rw [sames V] at hsm
            go_wp2_with fail
            refine hsm.mono ?_
            rintro _ w8 ⟨rfl, k8⟩
            clear x0 x1 x2 x3 x4 xl y0 y1 y2 y3 y4 yl z0 z1 zl
            have K8 := KQ.trans k8
            go_wp2_with fail
            refine (hA _ K8).mono ?_
            rintro _ wz ⟨rfl, kz⟩
            go_wp2
            go_ret
            exact ⟨rfl, KX.trans (K8.trans kz)⟩
        · have hcb : ((c : Int) != 0) = true := by rw [bne_iff_ne]; omega
          have hcc : ¬ (c : Int) = 0 := by omega
          go_wp2_with fail
          refine (hA _ KZ).mono ?_
          rintro _ wz ⟨rfl, kz⟩
          go_wp2
          go_ret
          exact ⟨rfl, KX.trans (KZ.trans kz)⟩
      | true =>
        cases bu with
        | false =>
          refine region_fin (fun W => On WX W) 99 17 (by kernel_rfl) rfl ?_
          refine fin_take 0 (v := ?_) rfl (by kernel_rfl) (by kernel_rfl) (by kernel_rfl) (by kernel_rfl) (fun _ _ _ h => h) rfl ?_ K0 ?_
          rotate_left
          · intro W hW
            have f0 := (TX.on hW).at (i := 0) rfl
            have f1 := (TX.on hW).at (i := 1) rfl
            have f2 := (TX.on hW).at (i := 2) rfl
            have f3 := (TX.on hW).at (i := 3) rfl
            have f4 := (TX.on hW).at (i := 4) rfl
            have fl := (TX.on hW).lt
            go_simp
            (try with_reducible rfl)
          simp only [Act.put, List.setIfInBounds_toArray, List.set_cons_zero, List.set_cons_succ]
          refine fin_one 1 rfl rfl (by kernel_rfl) (fun K hK => ?_)
          go_simp
          refine (hO1 _ K0).mono ?_
          rintro _ x1 ⟨rfl, kx1⟩
          have Sx1 := hon _ _ K0 kx1
          have Kx1 := K0.trans kx1
          refine hK.out _ _ (fun _ => Sx1) ?_
          clear hK
          refine fin_take 2 (v := ?_) rfl (by kernel_rfl) (by kernel_rfl) (by kernel_rfl) (by kernel_rfl) (fun _ _ _ h => h) rfl ?_ Sx1 ?_
          rotate_left
          · intro W hW
            go_simp
            (try with_reducible rfl)
          simp only [Act.put, List.setIfInBounds_toArray, List.set_cons_zero, List.set_cons_succ]
          refine fin_takeG 3 (v := ?_) rfl (by kernel_rfl) (by kernel_rfl) (by kernel_rfl) (by kernel_rfl) (fun _ _ _ h => h) (by rfl) ?_ Sx1 ?_
          rotate_left
          · intro W hW
            have f0 := (UX.on hW).at (i := 0) rfl
            have f1 := (UX.on hW).at (i := 1) rfl
            have f2 := (UX.on hW).at (i := 2) rfl
            have f3 := (UX.on hW).at (i := 3) rfl
            have f4 := (UX.on hW).at (i := 4) rfl
            have fl := (UX.on hW).lt
            go_simp
            (try with_reducible rfl)
          simp only [Act.put, List.setIfInBounds_toArray, List.set_cons_zero, List.set_cons_succ]
          refine fin_oneG 4 rfl (by rfl) (by kernel_rfl) (fun K hK => ?_)
          go_simp
          refine (hO2 _ Kx1).mono ?_
          rintro _ x2 ⟨rfl, kx2⟩
          have Sx2 := hon _ _ Sx1 kx2
          have Kx2 := Kx1.trans kx2
          refine hK.out _ _ (fun _ => Sx2) ?_
          clear hK
          refine fin_take 5 (v := ?_) rfl (by kernel_rfl) (by kernel_rfl) (by kernel_rfl) (by kernel_rfl) (fun _ _ _ h => h) rfl ?_ Sx2 ?_
          rotate_left
          · intro W hW
            go_simp
            (try with_reducible rfl)
          simp only [Act.put, List.setIfInBounds_toArray, List.set_cons_zero, List.set_cons_succ]
          refine fin_take 6 (v := ?_) rfl (by kernel_rfl) (by kernel_rfl) (by kernel_rfl) (by kernel_rfl) (fun _ _ _ h => h) rfl ?_ Sx2 ?_
          rotate_left
          · intro W hW
            go_simp
            (try with_reducible rfl)
          simp only [Act.put, List.setIfInBounds_toArray, List.set_cons_zero, List.set_cons_succ]
          refine fin_takeN 7 rfl (by kernel_rfl) (by kernel_rfl) (by kernel_rfl) (by kernel_rfl) (fun _ _ _ h => h) (by rfl) Sx2 ?_
          simp only [Act.put, List.setIfInBounds_toArray, List.set_cons_zero, List.set_cons_succ]
          refine fin_takeN 8 rfl (by kernel_rfl) (by kernel_rfl) (by kernel_rfl) (by kernel_rfl) (fun _ _ _ h => h) (by rfl) Sx2 ?_
          simp only [Act.put, List.setIfInBounds_toArray, List.set_cons_zero, List.set_cons_succ]
          refine fin_takeN 9 rfl (by kernel_rfl) (by kernel_rfl) (by kernel_rfl) (by kernel_rfl) (fun _ _ _ h => h) (by rfl) Sx2 ?_
          simp only [Act.put, List.setIfInBounds_toArray, List.set_cons_zero, List.set_cons_succ]
          refine fin_takeN 10 rfl (by kernel_rfl) (by kernel_rfl) (by kernel_rfl) (by kernel_rfl) (fun _ _ _ h => h) (by rfl) Sx2 ?_
          simp only [Act.put, List.setIfInBounds_toArray, List.set_cons_zero, List.set_cons_succ]
          refine fin_takeN 11 rfl (by kernel_rfl) (by kernel_rfl) (by kernel_rfl) (by kernel_rfl) (fun _ _ _ h => h) (by rfl) Sx2 ?_
          simp only [Act.put, List.setIfInBounds_toArray, List.set_cons_zero, List.set_cons_succ]
          refine fin_takeN 12 rfl (by kernel_rfl) (by kernel_rfl) (by kernel_rfl) (by kernel_rfl) (fun _ _ _ h => h) (by rfl) Sx2 ?_
          simp only [Act.put, List.setIfInBounds_toArray, List.set_cons_zero, List.set_cons_succ]
          refine fin_takeN 13 rfl (by kernel_rfl) (by kernel_rfl) (by kernel_rfl) (by kernel_rfl) (fun _ _ _ h => h) (by rfl) Sx2 ?_
          simp only [Act.put, List.setIfInBounds_toArray, List.set_cons_zero, List.set_cons_succ]
          refine fin_takeN 14 rfl (by kernel_rfl) (by kernel_rfl) (by kernel_rfl) (by kernel_rfl) (fun _ _ _ h => h) (by rfl) Sx2 ?_
          simp only [Act.put, List.setIfInBounds_toArray, List.set_cons_zero, List.set_cons_succ]
          refine fin_takeN 15 rfl (by kernel_rfl) (by kernel_rfl) (by kernel_rfl) (by kernel_rfl) (fun _ _ _ h => h) (by rfl) Sx2 ?_
          simp only [Act.put, List.setIfInBounds_toArray, List.set_cons_zero, List.set_cons_succ]
          refine fin_take 16 (v := ?_) rfl (by kernel_rfl) (by kernel_rfl) (by kernel_rfl) (by kernel_rfl) (fun _ _ _ h => h) rfl ?_ Sx2 ?_
          rotate_left
          · intro W hW
            go_simp
            (try with_reducible rfl)
          simp only [Act.put, List.setIfInBounds_toArray, List.set_cons_zero, List.set_cons_succ]
          refine fin_done (by kernel_rfl) (NoPanic.normal ?_)
          go_wp2_with fail
          refine (hPa _ Kx2).mono ?_
          rintro _ w5 ⟨u1, v1, u2, v2, u3, v3, rfl, RV5, k5⟩
          have K5 := Kx2.trans k5
          obtain ⟨WZ, hWZ⟩ : ∃ WZ, WZ = (w5.alloc (.cells (tA V u1 v1 u2 v2 u3 v3) 28)).alloc (.cells #[.int .i64 c, .int .i64 p] 36) := ⟨_, rfl⟩
          go_upto_region 6 with fail
          rw [← hWZ]
          have kZ : On w5 WZ := by rw [hWZ]; exact ((On.refl w5).alloc _).alloc _
          have VZ : Bk WZ w5.heap.size (tA V u1 v1 u2 v2 u3 v3) := by rw [hWZ]; exact (Bk.new w5 _ _).alloc _
          have EZ : Bk WZ (w5.heap.size + 1) #[.int .i64 c, .int .i64 p] := by
            rw [hWZ]
            have := Bk.new (w5.alloc (.cells (tA V u1 v1 u2 v2 u3 v3) 28)) #[.int .i64 c, .int .i64 p] 36
            rwa [World.size_alloc] at this
          have RVZ := RV5.on kZ
          have KZ := K5.trans kZ
          clear hWZ kZ
          have z0 := EZ.at (i := 0) rfl
          have z1 := EZ.at (i := 1) rfl
          have zl := EZ.lt
          by_cases hc : c = 0
          · have hcb : ((c : Int) != 0) = false := by rw [hc]; rfl
            have hcc : (c : Int) = 0 := by rw [hc]; rfl
            obtain ⟨P, hP', hPn, hPl⟩ := HM.out hc
            have HP : Hid (Told V P) := hP'
            clear hP'
            have y0 := VZ.at (i := 0) rfl
            have y1 := VZ.at (i := 1) rfl
            have y2 := VZ.at (i := 2) rfl
            have y3 := VZ.at (i := 3) rfl
            have y4 := VZ.at (i := 4) rfl
            have yl := VZ.lt
            go_wp2_with fail
            refine (told_test HP.out _ WZ (ll.on KZ) RVZ).mono ?_
            rintro _ w6 ⟨rfl, k6⟩
            clear y0 y1 y2 y3 y4 yl z0 z1 zl
            have K6 := KZ.trans k6
            have e0 := str_some hPn
            have e1 := str_some1 hPn
            have e2 := str_some2 hPn
            by_cases hz4 : 4000 < P.size
            · have e4 : decide (4000 < P.size) = true := decide_eq_true hz4
              go_wp2_with fail
              refine (parse_any P hPl w6 (lx.on K6)).mono ?_
              rintro _ w7 ⟨m1, n1, m2, n2, m3, n3, rfl, _, k7⟩
              have K7 := K6.trans k7
              go_wp2_with fail
              refine (hA _ ((K7.alloc _).alloc _)).mono ?_
              rintro _ wz ⟨rfl, kz⟩
              go_wp2
              go_ret
              exact ⟨rfl, KX.trans (((K7.alloc _).alloc _).trans kz)⟩
            · have e4 : decide (4000 < P.size) = false := decide_eq_false hz4
              go_wp2_with fail
              refine (told_parse HP.out hPn (Nat.le_of_not_lt hz4) w6 (lx.on K6)).mono ?_
              rintro _ w7 ⟨m1, n1, m2, n2, m3, n3, rfl, RW7, k7⟩
              have K7 := K6.trans k7
              obtain ⟨WQ, hWQ⟩ : ∃ WQ, WQ = (w7.alloc (.cells (tA V m1 n1 m2 n2 m3 n3) 28)).alloc (.cells #[.int .i64 0, .int .i64 0] 36) := ⟨_, rfl⟩
              go_upto_region 10 with fail
              rw [← hWQ]
              have kQ : On w7 WQ := by rw [hWQ]; exact ((On.refl w7).alloc _).alloc _
              have WB : Bk WQ w7.heap.size (tA V m1 n1 m2 n2 m3 n3) := by rw [hWQ]; exact (Bk.new w7 _ _).alloc _
              have EQ : Bk WQ (w7.heap.size + 1) #[.int .i64 0, .int .i64 0] := by
                rw [hWQ]
                have := Bk.new (w7.alloc (.cells (tA V m1 n1 m2 n2 m3 n3) 28)) #[.int .i64 0, .int .i64 0] 36
                rwa [World.size_alloc] at this
              have kzq := (k6.trans k7).trans kQ
              have VQ := VZ.on kzq
              have RVQ := RVZ.on kzq
              have RWQ := RW7.on kQ
              have KQ := K7.trans kQ
              clear hWQ kQ
              have x0 := VQ.at (i := 0) rfl
              have x1 := VQ.at (i := 1) rfl
              have x2 := VQ.at (i := 2) rfl
              have x3 := VQ.at (i := 3) rfl
              have x4 := VQ.at (i := 4) rfl
              have xl := VQ.lt
              have y0 := WB.at (i := 0) rfl
              have y1 := WB.at (i := 1) rfl
              have y2 := WB.at (i := 2) rfl
              have y3 := WB.at (i := 3) rfl
              have y4 := WB.at (i := 4) rfl
              have yl := WB.lt
              have z0 := EQ.at (i := 0) rfl
              have z1 := EQ.at (i := 1) rfl
              have zl := EQ.lt
              have hsm := psame_is V V _ _ WQ RVQ RWQ
              rw [sames V] at hsm
              go_wp2_with fail
              refine hsm.mono ?_
              rintro _ w8 ⟨rfl, k8⟩
              clear x0 x1 x2 x3 x4 xl y0 y1 y2 y3 y4 yl z0 z1 zl
              have K8 := KQ.trans k8
              go_wp2_with fail
              refine (hA _ K8).mono ?_
              rintro _ wz ⟨rfl, kz⟩
              go_wp2
              go_ret
              exact ⟨rfl, KX.trans (K8.trans kz)⟩
          · have hcb : ((c : Int) != 0) = true := by rw [bne_iff_ne]; omega
            have hcc : ¬ (c : Int) = 0 := by omega
            go_wp2_with fail
            refine (hA _ KZ).mono ?_
            rintro _ wz ⟨rfl, kz⟩
            go_wp2
            go_ret
            exact ⟨rfl, KX.trans (KZ.trans kz)⟩
        | true =>
          have hbs := HOO.out rfl rfl
          have hbn : ((P1.toList == P2.toList) != bs) = false := by rw [hbs]; cases bs <;> rfl
          refine region_fin (fun W => On WX W) 99 17 (by kernel_rfl) rfl ?_
          refine fin_take 0 (v := ?_) rfl (by kernel_rfl) (by kernel_rfl) (by kernel_rfl) (by kernel_rfl) (fun _ _ _ h => h) rfl ?_ K0 ?_
          rotate_left
          · intro W hW
            have f0 := (TX.on hW).at (i := 0) rfl
            have f1 := (TX.on hW).at (i := 1) rfl
            have f2 := (TX.on hW).at (i := 2) rfl
            have f3 := (TX.on hW).at (i := 3) rfl
            have f4 := (TX.on hW).at (i := 4) rfl
            have fl := (TX.on hW).lt
            go_simp
            (try with_reducible rfl)
          simp only [Act.put, List.setIfInBounds_toArray, List.set_cons_zero, List.set_cons_succ]
          refine fin_one 1 rfl rfl (by kernel_rfl) (fun K hK => ?_)
          go_simp
          refine (hO1 _ K0).mono ?_
          rintro _ x1 ⟨rfl, kx1⟩
          have Sx1 := hon _ _ K0 kx1
          have Kx1 := K0.trans kx1
          refine hK.out _ _ (fun _ => Sx1) ?_
          clear hK
          refine fin_take 2 (v := ?_) rfl (by kernel_rfl) (by kernel_rfl) (by kernel_rfl) (by kernel_rfl) (fun _ _ _ h => h) rfl ?_ Sx1 ?_
          rotate_left
          · intro W hW
            go_simp
            (try with_reducible rfl)
          simp only [Act.put, List.setIfInBounds_toArray, List.set_cons_zero, List.set_cons_succ]
          refine fin_takeG 3 (v := ?_) rfl (by kernel_rfl) (by kernel_rfl) (by kernel_rfl) (by kernel_rfl) (fun _ _ _ h => h) (by rfl) ?_ Sx1 ?_
          rotate_left
          · intro W hW
            have f0 := (UX.on hW).at (i := 0) rfl
            have f1 := (UX.on hW).at (i := 1) rfl
            have f2 := (UX.on hW).at (i := 2) rfl
            have f3 := (UX.on hW).at (i := 3) rfl
            have f4 := (UX.on hW).at (i := 4) rfl
            have fl := (UX.on hW).lt
            go_simp
            (try with_reducible rfl)
          simp only [Act.put, List.setIfInBounds_toArray, List.set_cons_zero, List.set_cons_succ]
          refine fin_oneG 4 rfl (by rfl) (by kernel_rfl) (fun K hK => ?_)
          go_simp
          refine (hO2 _ Kx1).mono ?_
          rintro _ x2 ⟨rfl, kx2⟩
          have Sx2 := hon _ _ Sx1 kx2
          have Kx2 := Kx1.trans kx2
          refine hK.out _ _ (fun _ => Sx2) ?_
          clear hK
          refine fin_take 5 (v := ?_) rfl (by kernel_rfl) (by kernel_rfl) (by kernel_rfl) (by kernel_rfl) (fun _ _ _ h => h) rfl ?_ Sx2 ?_
          rotate_left
          · intro W hW
            go_simp
            (try with_reducible rfl)
          simp only [Act.put, List.setIfInBounds_toArray, List.set_cons_zero, List.set_cons_succ]
          refine fin_take 6 (v := ?_) rfl (by kernel_rfl) (by kernel_rfl) (by kernel_rfl) (by kernel_rfl) (fun _ _ _ h => h) rfl ?_ Sx2 ?_
          rotate_left
          · intro W hW
            go_simp
            (try with_reducible rfl)
          simp only [Act.put, List.setIfInBounds_toArray, List.set_cons_zero, List.set_cons_succ]
          refine fin_takeG 7 (v := ?_) rfl (by kernel_rfl) (by kernel_rfl) (by kernel_rfl) (by kernel_rfl) (fun _ _ _ h => h) (by rfl) ?_ Sx2 ?_
          rotate_left
          · intro W hW
            have f0 := (TX.on hW).at (i := 0) rfl
            have f1 := (TX.on hW).at (i := 1) rfl
            have f2 := (TX.on hW).at (i := 2) rfl
            have f3 := (TX.on hW).at (i := 3) rfl
            have f4 := (TX.on hW).at (i := 4) rfl
            have fl := (TX.on hW).lt
            go_simp
            (try with_reducible rfl)
          simp only [Act.put, List.setIfInBounds_toArray, List.set_cons_zero, List.set_cons_succ]
          refine fin_takeG 9 (v := ?_) rfl (by kernel_rfl) (by kernel_rfl) (by kernel_rfl) (by kernel_rfl) (fun _ _ _ h => h) (by rfl) ?_ Sx2 ?_
          rotate_left
          · intro W hW
            have f0 := (UX.on hW).at (i := 0) rfl
            have f1 := (UX.on hW).at (i := 1) rfl
            have f2 := (UX.on hW).at (i := 2) rfl
            have f3 := (UX.on hW).at (i := 3) rfl
            have f4 := (UX.on hW).at (i := 4) rfl
            have fl := (UX.on hW).lt
            go_simp
            (try with_reducible rfl)
          simp only [Act.put, List.setIfInBounds_toArray, List.set_cons_zero, List.set_cons_succ]
          refine fin_takeG 12 (v := ?_) rfl (by kernel_rfl) (by kernel_rfl) (by kernel_rfl) (by kernel_rfl) (fun _ _ _ h => h) (by rfl) ?_ Sx2 ?_
          rotate_left
          · intro W hW
            have f0 := (TX.on hW).at (i := 0) rfl
            have f1 := (TX.on hW).at (i := 1) rfl
            have f2 := (TX.on hW).at (i := 2) rfl
            have f3 := (TX.on hW).at (i := 3) rfl
            have f4 := (TX.on hW).at (i := 4) rfl
            have fl := (TX.on hW).lt
            go_simp
            (try with_reducible rfl)
          simp only [Act.put, List.setIfInBounds_toArray, List.set_cons_zero, List.set_cons_succ]
          refine fin_takeG 13 (v := ?_) rfl (by kernel_rfl) (by kernel_rfl) (by kernel_rfl) (by kernel_rfl) (fun _ _ _ h => h) (by rfl) ?_ Sx2 ?_
          rotate_left
          · intro W hW
            have f0 := (UX.on hW).at (i := 0) rfl
            have f1 := (UX.on hW).at (i := 1) rfl
            have f2 := (UX.on hW).at (i := 2) rfl
            have f3 := (UX.on hW).at (i := 3) rfl
            have f4 := (UX.on hW).at (i := 4) rfl
            have fl := (UX.on hW).lt
            go_simp
            (try with_reducible rfl)
          simp only [Act.put, List.setIfInBounds_toArray, List.set_cons_zero, List.set_cons_succ]
          refine fin_oneG 8 rfl (by rfl) (by kernel_rfl) (fun K hK => ?_)
          go_simp
          refine (hT1' _ Kx2).mono ?_
          rintro _ x3 ⟨rfl, kx3⟩
          have Sx3 := hon _ _ Sx2 kx3
          have Kx3 := Kx2.trans kx3
          refine hK.out _ _ (fun _ => Sx3) ?_
          clear hK
          refine fin_oneG 10 rfl (by rfl) (by kernel_rfl) (fun K hK => ?_)
          go_simp
          refine (hT2' _ Kx3).mono ?_
          rintro _ x4 ⟨rfl, kx4⟩
          have Sx4 := hon _ _ Sx3 kx4
          have Kx4 := Kx3.trans kx4
          refine hK.out _ _ (fun _ => Sx4) ?_
          clear hK
          refine fin_takeG 11 (v := ?_) rfl (by kernel_rfl) (by kernel_rfl) (by kernel_rfl) (by kernel_rfl) (fun _ _ _ h => h) (by rfl) ?_ Sx4 ?_
          rotate_left
          · intro W hW
            go_simp
            (try with_reducible rfl)
          simp only [Act.put, List.setIfInBounds_toArray, List.set_cons_zero, List.set_cons_succ]
          refine fin_oneG 14 rfl (by rfl) (by kernel_rfl) (fun K hK => ?_)
          go_simp
          refine (hS1 _ Kx4).mono ?_
          rintro _ x5 ⟨rfl, kx5⟩
          have Sx5 := hon _ _ Sx4 kx5
          have Kx5 := Kx4.trans kx5
          refine hK.out _ _ (fun _ => Sx5) ?_
          clear hK
          refine fin_takeG 15 (v := ?_) rfl (by kernel_rfl) (by kernel_rfl) (by kernel_rfl) (by kernel_rfl) (fun _ _ _ h => h) (by rfl) ?_ Sx5 ?_
          rotate_left
          · intro W hW
            go_simp
            (try with_reducible rfl)
          simp only [Act.put, List.setIfInBounds_toArray, List.set_cons_zero, List.set_cons_succ]
          refine fin_take 16 (v := ?_) rfl (by kernel_rfl) (by kernel_rfl) (by kernel_rfl) (by kernel_rfl) (fun _ _ _ h => h) rfl ?_ Sx5 ?_
          rotate_left
          · intro W hW
            go_simp
            (try with_reducible rfl)
          simp only [Act.put, List.setIfInBounds_toArray, List.set_cons_zero, List.set_cons_succ]
          refine fin_done (by kernel_rfl) (NoPanic.normal ?_)
          go_wp2_with fail
          refine (hPa _ Kx5).mono ?_
          rintro _ w5 ⟨u1, v1, u2, v2, u3, v3, rfl, RV5, k5⟩
          have K5 := Kx5.trans k5
          obtain ⟨WZ, hWZ⟩ : ∃ WZ, WZ = (w5.alloc (.cells (tA V u1 v1 u2 v2 u3 v3) 28)).alloc (.cells #[.int .i64 c, .int .i64 p] 36) := ⟨_, rfl⟩
          go_upto_region 6 with fail
          rw [← hWZ]
          have kZ : On w5 WZ := by rw [hWZ]; exact ((On.refl w5).alloc _).alloc _
          have VZ : Bk WZ w5.heap.size (tA V u1 v1 u2 v2 u3 v3) := by rw [hWZ]; exact (Bk.new w5 _ _).alloc _
          have EZ : Bk WZ (w5.heap.size + 1) #[.int .i64 c, .int .i64 p] := by
            rw [hWZ]
            have := Bk.new (w5.alloc (.cells (tA V u1 v1 u2 v2 u3 v3) 28)) #[.int .i64 c, .int .i64 p] 36
            rwa [World.size_alloc] at this
          have RVZ := RV5.on kZ
          have KZ := K5.trans kZ
          clear hWZ kZ
          have z0 := EZ.at (i := 0) rfl
          have z1 := EZ.at (i := 1) rfl
          have zl := EZ.lt
          by_cases hc : c = 0
          · have hcb : ((c : Int) != 0) = false := by rw [hc]; rfl
            have hcc : (c : Int) = 0 := by rw [hc]; rfl
            obtain ⟨P, hP', hPn, hPl⟩ := HM.out hc
            have HP : Hid (Told V P) := hP'
            clear hP'
            have y0 := VZ.at (i := 0) rfl
            have y1 := VZ.at (i := 1) rfl
            have y2 := VZ.at (i := 2) rfl
            have y3 := VZ.at (i := 3) rfl
            have y4 := VZ.at (i := 4) rfl
            have yl := VZ.lt
            go_wp2_with fail
            refine (told_test HP.out _ WZ (ll.on KZ) RVZ).mono ?_
            rintro _ w6 ⟨rfl, k6⟩
            clear y0 y1 y2 y3 y4 yl z0 z1 zl
            have K6 := KZ.trans k6
            have e0 := str_some hPn
            have e1 := str_some1 hPn
            have e2 := str_some2 hPn
            by_cases hz4 : 4000 < P.size
            · have e4 : decide (4000 < P.size) = true := decide_eq_true hz4
              go_wp2_with fail
              refine (parse_any P hPl w6 (lx.on K6)).mono ?_
              rintro _ w7 ⟨m1, n1, m2, n2, m3, n3, rfl, _, k7⟩
              have K7 := K6.trans k7
              go_wp2_with fail
              refine (hA _ ((K7.alloc _).alloc _)).mono ?_
              rintro _ wz ⟨rfl, kz⟩
              go_wp2
              go_ret
              exact ⟨rfl, KX.trans (((K7.alloc _).alloc _).trans kz)⟩
            · have e4 : decide (4000 < P.size) = false := decide_eq_false hz4
              go_wp2_with fail
              refine (told_parse HP.out hPn (Nat.le_of_not_lt hz4) w6 (lx.on K6)).mono ?_
              rintro _ w7 ⟨m1, n1, m2, n2, m3, n3, rfl, RW7, k7⟩
              have K7 := K6.trans k7
              obtain ⟨WQ, hWQ⟩ : ∃ WQ, WQ = (w7.alloc (.cells (tA V m1 n1 m2 n2 m3 n3) 28)).alloc (.cells #[.int .i64 0, .int .i64 0] 36) := ⟨_, rfl⟩
              go_upto_region 10 with fail
              rw [← hWQ]
              have kQ : On w7 WQ := by rw [hWQ]; exact ((On.refl w7).alloc _).alloc _
              have WB : Bk WQ w7.heap.size (tA V m1 n1 m2 n2 m3 n3) := by rw [hWQ]; exact (Bk.new w7 _ _).alloc _
              have EQ : Bk WQ (w7.heap.size + 1) #[.int .i64 0, .int .i64 0] := by
                rw [hWQ]
                have := Bk.new (w7.alloc (.cells (tA V m1 n1 m2 n2 m3 n3) 28)) #[.int .i64 0, .int .i64 0] 36
                rwa [World.size_alloc] at this
              have kzq := (k6.trans k7).trans kQ
              have VQ := VZ.on kzq
              have RVQ := RVZ.on kzq
              have RWQ := RW7.on kQ
              have KQ := K7.trans kQ
              clear hWQ kQ
              have x0 := VQ.at (i := 0) rfl
              have x1 := VQ.at (i := 1) rfl
              have x2 := VQ.at (i := 2) rfl
              have x3 := VQ.at (i := 3) rfl
              have x4 := VQ.at (i := 4) rfl
              have xl := VQ.lt
              have y0 := WB.at (i := 0) rfl
              have y1 := WB.at (i := 1) rfl
              have y2 := WB.at (i := 2) rfl
              have y3 := WB.at (i := 3) rfl
              have y4 := WB.at (i := 4) rfl
              have yl := WB.lt
              have z0 := EQ.at (i := 0) rfl
              have z1 := EQ.at (i := 1) rfl
              have zl := EQ.lt
              have hsm := psame_is V V _ _ WQ RVQ RWQ
              rw [sames V] at hsm
              go_wp2_with fail
              refine hsm.mono ?_
              rintro _ w8 ⟨rfl, k8⟩
              clear x0 x1 x2 x3 x4 xl y0 y1 y2 y3 y4 yl z0 z1 zl
              have K8 := KQ.trans k8
              go_wp2_with fail
              refine (hA _ K8).mono ?_
              rintro _ wz ⟨rfl, kz⟩
              go_wp2
              go_ret
              exact ⟨rfl, KX.trans (K8.trans kz)⟩
          · have hcb : ((c : Int) != 0) = true := by rw [bne_iff_ne]; omega
            have hcc : ¬ (c : Int) = 0 := by omega
            go_wp2_with fail
            refine (hA _ KZ).mono ?_
            rintro _ wz ⟨rfl, kz⟩
            go_wp2
            go_ret
            exact ⟨rfl, KX.trans (KZ.trans kz)⟩
end Go.Proofs.YtacflahkofmcpaaGreatDoor.Wl
