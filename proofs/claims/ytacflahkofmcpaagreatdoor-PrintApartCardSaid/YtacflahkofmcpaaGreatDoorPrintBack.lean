/- PrintBack, walked: what is printed is parsed to the same test, and printed again it is the same text. -/
import Derived.Test.YtacflahkofmcpaaGreatDoorToldW
import Derived.Deep.DeepCutAuto
namespace Go.Proofs.YtacflahkofmcpaaGreatDoor.Wl
open Go.RowKit

theorem str_nil {P : ByteArray} (h : P.size = 0) : (P.toList == (⟨#[]⟩ : ByteArray).toList) = true := by
  have e : P.data.toList = [] := List.eq_nil_of_length_eq_zero (by rw [← Go.Proofs.YtacflahkofmcpaaGreatDoor.size_list]; exact h)
  rw [ByteArray.toList_eq, ByteArray.toList_eq, e]
  rfl
theorem str_some {P : ByteArray} (h : ¬ P.size = 0) : (P.toList == (⟨#[]⟩ : ByteArray).toList) = false := by
  rw [beq_eq_false_iff_ne, ByteArray.toList_eq, ByteArray.toList_eq]
  intro e
  apply h
  rw [Go.Proofs.YtacflahkofmcpaaGreatDoor.size_list, e]
  rfl
theorem str_nil1 {P : ByteArray} (h : P.size = 0) : P.toList = [] := by
  rw [ByteArray.toList_eq]
  exact List.eq_nil_of_length_eq_zero (by rw [← Go.Proofs.YtacflahkofmcpaaGreatDoor.size_list]; exact h)
theorem str_some1 {P : ByteArray} (h : ¬ P.size = 0) : ¬ P.toList = [] := by
  rw [ByteArray.toList_eq]
  intro e
  apply h
  rw [Go.Proofs.YtacflahkofmcpaaGreatDoor.size_list, e]
  rfl
theorem str_some2 {P : ByteArray} (h : ¬ P.size = 0) : (P.toList == []) = false := by
  rw [beq_eq_false_iff_ne]
  exact str_some1 h
set_option maxHeartbeats 8000000 in
set_option maxRecDepth 8000 in
theorem printBack_walk (t : TestT) (vt : Value) (a : Option Addr) (zs : List Int) (cap : Nat) (w : World) (ht : TestRd w vt t) (hti : testI t) (hz : zs.length ≤ 9223372036854775807) (hr : Rd intC 1 w (.slice a zs.length cap) zs) (lw : Go.Proofs.YtacflahkofmcpaaGreatDoor.Lw w) :
    Calls Tryz.prog 5 #[vt, .slice a zs.length cap] w fun e w' => e = .returned (.bool true) ∧ On w w' := by
  obtain ⟨a1, c1, a2, c2, a3, c3, rfl, _⟩ := id ht.ex
  have ll := lw_of lw
  obtain ⟨WX, hWX⟩ : ∃ WX, WX = w.alloc (.cells (tA t a1 c1 a2 c2 a3 c3) 28) := ⟨_, rfl⟩
  have KX : On w WX := by rw [hWX]; exact (On.refl w).alloc _
  have TY0 : WX.heap[w.heap.size]? = some (.cells (tA t a1 c1 a2 c2 a3 c3) 28 (0, 0)) := by rw [hWX]; exact heap_alloc_new w _
  have TX : Bk WX w.heap.size (tA t a1 c1 a2 c2 a3 c3) := ⟨_, TY0⟩
  have RX := ht.on KX
  have hF := fewB_is t _ WX RX
  have hA := fun W (k : On w W) => awake4_is W (ll.on k)
  have hS := fun W (k : On w W) => small_is zs a cap 12 W hz (hr.on k)
  have HP1 : Hid (Told (smallP zs 12) ⟨(textL (smallP zs 12)).toArray⟩) := told_small zs 12
  have hne1 : (⟨(textL (smallP zs 12)).toArray⟩ : ByteArray).size ≠ 0 := Nat.ne_of_gt (text_pos (smallP zs 12))
  have hsn : (smallP zs 12).name.size ≤ 9223372036854775807 := by show 1 ≤ _; decide
  generalize smallP zs 12 = s at *
  generalize (⟨(textL s).toArray⟩ : ByteArray) = P1 at *
  go_enter Tryz.func5, Tryz.ntmps5
  go_upto_region 1 with fail
  rw [← hWX]
  clear hWX hr hz
  have x0 := TX.at (i := 0) rfl
  have x1 := TX.at (i := 1) rfl
  have x2 := TX.at (i := 2) rfl
  have x3 := TX.at (i := 3) rfl
  have x4 := TX.at (i := 4) rfl
  have xl := TX.lt
  go_wp2_with fail
  refine hF.mono ?_
  rintro _ w1 ⟨q1, rfl, hq1, k1⟩
  clear hF x0 x1 x2 x3 x4 xl
  have K1 := KX.trans k1
  cases q1 with
  | false =>
    go_wp2_with fail
    refine (hA _ K1).mono ?_
    rintro _ wz ⟨rfl, kz⟩
    go_wp2
    go_ret
    exact ⟨rfl, K1.trans kz⟩
  | true =>
    obtain ⟨P0, hP0'⟩ := told_few (hq1 rfl) hti
    have HP0 : Hid (Told t P0) := hP0'
    clear hq1 hti hP0'
    go_wp2_with fail
    refine (hS w1 K1).mono ?_
    rintro _ w2 ⟨v1, rfl, ho, k2⟩
    have RS := TOwn.rdW ho hsn
    obtain ⟨b1, d1, b2, d2, b3, d3, rfl, _⟩ := id RS.ex
    clear RS hS
    obtain ⟨WY, hWY⟩ : ∃ WY, WY = w2.alloc (.cells (tA s b1 d1 b2 d2 b3 d3) 28) := ⟨_, rfl⟩
    have kY : On w2 WY := by rw [hWY]; exact (On.refl w2).alloc _
    have SY : Bk WY w2.heap.size (tA s b1 d1 b2 d2 b3 d3) := by rw [hWY]; exact Bk.new w2 _ _
    have hB0 : w.heap.size < w2.heap.size := Nat.lt_of_lt_of_le (Nat.lt_of_lt_of_le TX.lt k1.size) k2.size
    have k1Y := (k1.trans k2).trans kY
    have TY := Ty.on TY0 k1Y
    have HO : Hid (TOwn WY w1.heap.size (.agg (tA s b1 d1 b2 d2 b3 d3)) s) := TOwn.onK ho kY
    have RTY := RX.on k1Y
    have KY := (K1.trans k2).trans kY
    clear TY0 TX ho kY k1Y RX
    go_upto_region 4 with fail
    rw [← hWY]
    clear hWY
    go_wp2
    go_loopg [6] 2 (fun gg s6 wr => ∃ i : Nat, i ≤ 2 ∧ gg = 2 - i ∧ s6 = .int .i64 i ∧ On w wr ∧ (i ≤ 1 → Hid (On WY wr)))
    case atStart => exact ⟨0, by omega, rfl, rfl, KY, fun _ => On.refl WY⟩
    case round =>
      obtain ⟨i, hi, hk, rfl, hKr, hYr⟩ := hrel
      rcases (by omega : i = 0 ∨ i = 1 ∨ i = 2) with rfl | rfl | rfl
      · have hY := (hYr (by omega)).out
        clear hYr
        have bk0 : Bk wr w.heap.size (tA t a1 c1 a2 c2 a3 c3) := ⟨_, Ty.on TY hY⟩
        have rd0 := RTY.on hY
        have x0 := bk0.at (i := 0) rfl
        have x1 := bk0.at (i := 1) rfl
        have x2 := bk0.at (i := 2) rfl
        have x3 := bk0.at (i := 3) rfl
        have x4 := bk0.at (i := 4) rfl
        have xl := bk0.lt
        go_wp2_with fail
        refine (told_test HP0.out _ wr (ll.on hKr) rd0).mono ?_
        rintro _ w4 ⟨rfl, k4⟩
        clear x0 x1 x2 x3 x4 xl
        have K4 := hKr.trans k4
        by_cases hz0 : P0.size = 0
        · have e0 := str_nil hz0
          have e1 := str_nil1 hz0
          go_wp2
          go_roundg 1
          case measure => omega
          case rel => exact ⟨1, by omega, by omega, rfl, K4, fun _ => hY.trans k4⟩
        have e0 := str_some hz0
        have e1 := str_some1 hz0
        have e2 := str_some2 hz0
        by_cases hz4 : 4000 < P0.size
        · have e4 : decide (4000 < P0.size) = true := decide_eq_true hz4
          go_wp2
          go_roundg 1
          case measure => omega
          case rel => exact ⟨1, by omega, by omega, rfl, K4, fun _ => hY.trans k4⟩
        have e4 : decide (4000 < P0.size) = false := decide_eq_false hz4
        go_wp2_with fail
        refine (told_parse HP0.out hz0 (Nat.le_of_not_lt hz4) w4 (lw.on K4)).mono ?_
        rintro _ w5 ⟨u1, v1, u2, v2, u3, v3, rfl, RU5, k5⟩
        have K5 := K4.trans k5
        obtain ⟨WZ, hWZ⟩ : ∃ WZ, WZ = (w5.alloc (.cells (tA t u1 v1 u2 v2 u3 v3) 28)).alloc (.cells #[.int .i64 0, .int .i64 0] 36) := ⟨_, rfl⟩
        go_upto_region 12 with fail
        rw [← hWZ]
        have kZ : On w5 WZ := by rw [hWZ]; exact ((On.refl w5).alloc _).alloc _
        have UZ : Bk WZ w5.heap.size (tA t u1 v1 u2 v2 u3 v3) := by rw [hWZ]; exact (Bk.new w5 _ _).alloc _
        have EZ : Bk WZ (w5.heap.size + 1) #[.int .i64 0, .int .i64 0] := by
          rw [hWZ]
          have := Bk.new (w5.alloc (.cells (tA t u1 v1 u2 v2 u3 v3) 28)) #[.int .i64 0, .int .i64 0] 36
          rwa [World.size_alloc] at this
        have kcZ := (k4.trans k5).trans kZ
        have BZ := bk0.on kcZ
        have RXZ := rd0.on kcZ
        have RUZ := RU5.on kZ
        have KZ := K5.trans kZ
        clear hWZ kZ
        have x0 := BZ.at (i := 0) rfl
        have x1 := BZ.at (i := 1) rfl
        have x2 := BZ.at (i := 2) rfl
        have x3 := BZ.at (i := 3) rfl
        have x4 := BZ.at (i := 4) rfl
        have xl := BZ.lt
        have y0 := UZ.at (i := 0) rfl
        have y1 := UZ.at (i := 1) rfl
        have y2 := UZ.at (i := 2) rfl
        have y3 := UZ.at (i := 3) rfl
        have y4 := UZ.at (i := 4) rfl
        have yl := UZ.lt
        have z0 := EZ.at (i := 0) rfl
        have z1 := EZ.at (i := 1) rfl
        have zl := EZ.lt
        have hsm := psame_is t t _ _ WZ RXZ RUZ
        rw [sames t] at hsm
        go_wp2_with fail
        refine hsm.mono ?_
        rintro _ w6 ⟨rfl, k6⟩
        clear x0 x1 x2 x3 x4 xl y0 y1 y2 y3 y4 yl z0 z1 zl
        have UZ6 := UZ.on k6
        have y0 := UZ6.at (i := 0) rfl
        have y1 := UZ6.at (i := 1) rfl
        have y2 := UZ6.at (i := 2) rfl
        have y3 := UZ6.at (i := 3) rfl
        have y4 := UZ6.at (i := 4) rfl
        have yl := UZ6.lt
        go_wp2_with fail
        refine (told_test HP0.out _ w6 (ll.on (KZ.trans k6)) (RUZ.on k6)).mono ?_
        rintro _ w7 ⟨rfl, k7⟩
        clear y0 y1 y2 y3 y4 yl
        have K7 := (KZ.trans k6).trans k7
        have k47 : On wr w7 := (kcZ.trans k6).trans k7
        have e9 : (P0.toList == P0.toList) = true := beq_self_eq_true _
        go_wp2
        go_roundg 1
        case measure => omega
        case rel => exact ⟨1, by omega, by omega, rfl, K7, fun _ => hY.trans k47⟩
      · have hY := (hYr (by omega)).out
        clear hYr
        have SYr := SY.on hY
        have TYr := Ty.on TY hY
        have HOr := TOwn.onK HO.out hY
        have hlt : w.heap.size < wr.heap.size := lt_of_block TYr
        obtain ⟨WS, hWS⟩ : ∃ WS, WS = ((((wr.setCell ⟨w.heap.size, 0, none⟩ (.string s.name)).setCell ⟨w.heap.size, 1, none⟩ (.slice b1 s.ini.length d1)).setCell ⟨w.heap.size, 2, none⟩ (.slice b2 s.thr.length d2)).setCell ⟨w.heap.size, 3, none⟩ (.int .i64 s.cond.k)).setCell ⟨w.heap.size, 4, none⟩ (.slice b3 s.cond.any.length d3) := ⟨_, rfl⟩
        have HS1 : Hid (WS.heap[w.heap.size]? = some (.cells (tA s b1 d1 b2 d2 b3 d3) 28 (0, 0)) ∧ TOwn WS w1.heap.size (.agg (tA s b1 d1 b2 d2 b3 d3)) s ∧ On w WS) := by
          rw [hWS]
          have s1 := heap_set (i := 0) (u := .string s.name) TYr
          have o1 := HOr.setT TYr 0 (.string s.name)
          have s2 := heap_set (i := 1) (u := .slice b1 s.ini.length d1) s1
          have o2 := o1.setT s1 1 (.slice b1 s.ini.length d1)
          have s3 := heap_set (i := 2) (u := .slice b2 s.thr.length d2) s2
          have o3 := o2.setT s2 2 (.slice b2 s.thr.length d2)
          have s4 := heap_set (i := 3) (u := .int .i64 s.cond.k) s3
          have o4 := o3.setT s3 3 (.int .i64 s.cond.k)
          have s5 := heap_set (i := 4) (u := .slice b3 s.cond.any.length d3) s4
          have o5 := o4.setT s4 4 (.slice b3 s.cond.any.length d3)
          exact ⟨s5, o5, ((((hKr.setNew (Nat.le_refl _) _).setNew (Nat.le_refl _) _).setNew (Nat.le_refl _) _).setNew (Nat.le_refl _) _).setNew (Nat.le_refl _) _⟩
        have bk1 : Bk WS w.heap.size (tA s b1 d1 b2 d2 b3 d3) := ⟨_, HS1.out.1⟩
        have rd1 := TOwn.rdW HS1.out.2.1 hsn
        have KS := HS1.out.2.2
        have tc : ∀ i, wr.frozen? ⟨w.heap.size, i, none⟩ = false := fun i => Bk.fr ⟨_, TYr⟩ i
        have t0 := Bk.at (i := 0) ⟨_, TYr⟩ rfl
        have t1 := Bk.at (i := 1) ⟨_, TYr⟩ rfl
        have t2 := Bk.at (i := 2) ⟨_, TYr⟩ rfl
        have t3 := Bk.at (i := 3) ⟨_, TYr⟩ rfl
        have t4 := Bk.at (i := 4) ⟨_, TYr⟩ rfl
        have y0 := SYr.at (i := 0) rfl
        have y1 := SYr.at (i := 1) rfl
        have y2 := SYr.at (i := 2) rfl
        have y3 := SYr.at (i := 3) rfl
        have y4 := SYr.at (i := 4) rfl
        have yl := SYr.lt
        go_upto_region 9 with fail
        rw [← hWS]
        clear hWS y0 y1 y2 y3 y4 yl tc t0 t1 t2 t3 t4 TYr SYr HOr HS1
        have x0 := bk1.at (i := 0) rfl
        have x1 := bk1.at (i := 1) rfl
        have x2 := bk1.at (i := 2) rfl
        have x3 := bk1.at (i := 3) rfl
        have x4 := bk1.at (i := 4) rfl
        have xl := bk1.lt
        go_wp2_with fail
        refine (told_test HP1.out _ WS (ll.on KS) rd1).mono ?_
        rintro _ w4 ⟨rfl, k4⟩
        clear x0 x1 x2 x3 x4 xl
        have K4 := KS.trans k4
        by_cases hz0 : P1.size = 0
        · exact absurd hz0 hne1
        have e0 := str_some hz0
        have e1 := str_some1 hz0
        have e2 := str_some2 hz0
        by_cases hz4 : 4000 < P1.size
        · have e4 : decide (4000 < P1.size) = true := decide_eq_true hz4
          go_wp2
          go_roundg 0
          case measure => omega
          case rel => exact ⟨2, by omega, by omega, rfl, K4, fun h => by omega⟩
        have e4 : decide (4000 < P1.size) = false := decide_eq_false hz4
        go_wp2_with fail
        refine (told_parse HP1.out hz0 (Nat.le_of_not_lt hz4) w4 (lw.on K4)).mono ?_
        rintro _ w5 ⟨u1, v1, u2, v2, u3, v3, rfl, RU5, k5⟩
        have K5 := K4.trans k5
        obtain ⟨WZ, hWZ⟩ : ∃ WZ, WZ = (w5.alloc (.cells (tA s u1 v1 u2 v2 u3 v3) 28)).alloc (.cells #[.int .i64 0, .int .i64 0] 36) := ⟨_, rfl⟩
        go_upto_region 12 with fail
        rw [← hWZ]
        have kZ : On w5 WZ := by rw [hWZ]; exact ((On.refl w5).alloc _).alloc _
        have UZ : Bk WZ w5.heap.size (tA s u1 v1 u2 v2 u3 v3) := by rw [hWZ]; exact (Bk.new w5 _ _).alloc _
        have EZ : Bk WZ (w5.heap.size + 1) #[.int .i64 0, .int .i64 0] := by
          rw [hWZ]
          have := Bk.new (w5.alloc (.cells (tA s u1 v1 u2 v2 u3 v3) 28)) #[.int .i64 0, .int .i64 0] 36
          rwa [World.size_alloc] at this
        have kcZ := (k4.trans k5).trans kZ
        have BZ := bk1.on kcZ
        have RXZ := rd1.on kcZ
        have RUZ := RU5.on kZ
        have KZ := K5.trans kZ
        clear hWZ kZ
        have x0 := BZ.at (i := 0) rfl
        have x1 := BZ.at (i := 1) rfl
        have x2 := BZ.at (i := 2) rfl
        have x3 := BZ.at (i := 3) rfl
        have x4 := BZ.at (i := 4) rfl
        have xl := BZ.lt
        have y0 := UZ.at (i := 0) rfl
        have y1 := UZ.at (i := 1) rfl
        have y2 := UZ.at (i := 2) rfl
        have y3 := UZ.at (i := 3) rfl
        have y4 := UZ.at (i := 4) rfl
        have yl := UZ.lt
        have z0 := EZ.at (i := 0) rfl
        have z1 := EZ.at (i := 1) rfl
        have zl := EZ.lt
        have hsm := psame_is s s _ _ WZ RXZ RUZ
        rw [sames s] at hsm
        go_wp2_with fail
        refine hsm.mono ?_
        rintro _ w6 ⟨rfl, k6⟩
        clear x0 x1 x2 x3 x4 xl y0 y1 y2 y3 y4 yl z0 z1 zl
        have UZ6 := UZ.on k6
        have y0 := UZ6.at (i := 0) rfl
        have y1 := UZ6.at (i := 1) rfl
        have y2 := UZ6.at (i := 2) rfl
        have y3 := UZ6.at (i := 3) rfl
        have y4 := UZ6.at (i := 4) rfl
        have yl := UZ6.lt
        go_wp2_with fail
        refine (told_test HP1.out _ w6 (ll.on (KZ.trans k6)) (RUZ.on k6)).mono ?_
        rintro _ w7 ⟨rfl, k7⟩
        clear y0 y1 y2 y3 y4 yl
        have K7 := (KZ.trans k6).trans k7
        have k47 : On WS w7 := (kcZ.trans k6).trans k7
        have e9 : (P1.toList == P1.toList) = true := beq_self_eq_true _
        go_wp2
        go_roundg 0
        case measure => omega
        case rel => exact ⟨2, by omega, by omega, rfl, K7, fun h => by omega⟩
      · go_wp2_with fail
        refine (hA _ hKr).mono ?_
        rintro _ wz ⟨rfl, kz⟩
        go_wp2
        go_ret
        exact ⟨rfl, hKr.trans kz⟩
end Go.Proofs.YtacflahkofmcpaaGreatDoor.Wl
