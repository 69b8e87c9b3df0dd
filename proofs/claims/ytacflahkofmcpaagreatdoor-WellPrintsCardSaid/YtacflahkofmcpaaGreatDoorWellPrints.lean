/- WellPrints, walked: a made test is read from its text as it is. -/
import Derived.Test.YtacflahkofmcpaaGreatDoorToldW
import Derived.Test.YtacflahkofmcpaaGreatDoorReadW
import Derived.Test.YtacflahkofmcpaaGreatDoorWlRSame
import Derived.Test.YtacflahkofmcpaaGreatDoorWlAwake5
import Derived.Deep.DeepCutAuto
namespace Go.Proofs.YtacflahkofmcpaaGreatDoor.Wl
open Go.RowKit

theorem read_back {T : TestT} (hok : testOk T = true) (hB : TestB T) (hc : checkT T = 0) (s : ByteArray) (hs : Sp (testTk T) s.data.toList) (hz : s.size ≤ 4000) (w : World) (hw : Go.Proofs.YtacflahkofmcpaaGreatDoor.Lw w) (hl : Lw w) :
    Calls Tryz.prog 19 #[.string s] w (Parsed w T 0 0) := by
  have h := back_parse (t := dT T) (g_of hok hB) (by rw [c_d]; exact hs) hz
  have hR : readR s = (dT T, 0, 0) := by
    unfold readR
    rw [h]
    simp only [c_d, hc, if_true]
  have hn := name_size' s
  rw [h] at hn
  refine (read_is s (by omega) w hw hl).mono ?_
  rw [hR]
  rintro e w' ⟨v, rfl, ht, k⟩
  have hR := rd_of_at ht (by omega)
  rw [c_d] at hR
  obtain ⟨a1, c1, a2, c2, a3, c3, rfl, _⟩ := id hR.ex
  exact ⟨a1, c1, a2, c2, a3, c3, rfl, hR, k⟩
set_option maxHeartbeats 8000000 in
set_option maxRecDepth 8000 in
theorem wellPrints_walk (a : Option Addr) (zs : List Int) (cap : Nat) (w : World) (hz : zs.length ≤ 9223372036854775807) (hr : Rd intC 1 w (.slice a zs.length cap) zs) (hh : Go.Proofs.YtacflahkofmcpaaGreatDoor.Lw w ∧ Lw w ∧ Db w) :
    Calls Tryz.prog 7 #[.slice a zs.length cap] w fun e w' => e = .returned (.bool true) ∧ On w w' := by
  obtain ⟨lw, ll, ld⟩ := hh
  have hS := small_is zs a cap 12 w hz hr
  have hok := small_ok zs 12
  have hB := small_B zs 12
  have hT := small_text zs 12
  have hZ := small_short zs 12
  have hC := small_check zs 12
  have hsp := text_sp (smallP zs 12)
  have hss := sames (smallP zs 12)
  have hnm : (smallP zs 12).name.size ≤ 9223372036854775807 := by show 1 ≤ _; decide
  generalize smallP zs 12 = T at *
  obtain ⟨P, hP⟩ : ∃ P : ByteArray, P = ⟨(textL T).toArray⟩ := ⟨_, rfl⟩
  have hPz : P.size ≤ 4000 := by rw [hP]; exact hZ
  have hpr := fun W v (h : TestRd W v T) => rprint_is T v W h hok hB hT
  rw [← hP] at hpr hsp
  have hrd := fun W (k : On w W) => read_back hok hB hC P hsp hPz W (lw.on k) (ll.on k)
  have hck := fun W v (k : On w W) (h : TestRd W v T) => check_is T v W (ll.on k) h
  rw [hC] at hck
  have hsm := fun W v v' (h : TestRd W v T) (h' : TestRd W v' T) => rsame_is T T v v' W h h'
  rw [hss] at hsm
  have hA := fun W (k : On w W) => awake5_is W (ll.on k) (ld.on k)
  clear hok hB hT hZ hC hsp hss hP hPz lw ll ld hr hz
  go_enter Tryz.func7, Tryz.ntmps7
  go_wp2_with fail
  refine hS.mono ?_
  rintro _ w1 ⟨v1, rfl, ho1, k1⟩
  have RT1 := TOwn.rdW ho1 hnm
  obtain ⟨a1, c1, a2, c2, a3, c3, rfl, _⟩ := id RT1.ex
  clear hS ho1
  obtain ⟨WX, hWX⟩ : ∃ WX, WX = w1.alloc (.cells (tA T a1 c1 a2 c2 a3 c3) 28) := ⟨_, rfl⟩
  have TX : Bk WX w1.heap.size (tA T a1 c1 a2 c2 a3 c3) := by rw [hWX]; exact Bk.new w1 _ _
  have kX : On w1 WX := by rw [hWX]; exact (On.refl w1).alloc _
  have RT := RT1.on kX
  have KX := k1.trans kX
  clear RT1 kX k1
  have x0 := TX.at (i := 0) rfl
  have x1 := TX.at (i := 1) rfl
  have x2 := TX.at (i := 2) rfl
  have x3 := TX.at (i := 3) rfl
  have x4 := TX.at (i := 4) rfl
  have xl := TX.lt
  go_wp2_with fail
  rw [← hWX]
  refine (hpr WX _ RT).mono ?_
  rintro _ w2 ⟨rfl, k2⟩
  clear x0 x1 x2 x3 x4 xl hWX
  have K2 := KX.trans k2
  go_wp2_with fail
  refine (hrd _ K2).mono ?_
  rintro _ w3 ⟨b1, d1, b2, d2, b3, d3, rfl, RU3, k3⟩
  have K3 := K2.trans k3
  have k23 := k2.trans k3
  clear hpr hrd
  obtain ⟨WY, hWY⟩ : ∃ WY, WY = (w3.alloc (.cells (tA T b1 d1 b2 d2 b3 d3) 28)).alloc (.cells #[.int .i64 0, .int .i64 0] 36) := ⟨_, rfl⟩
  go_upto_region 3 with fail
  rw [← hWY]
  have kY : On w3 WY := by rw [hWY]; exact ((On.refl w3).alloc _).alloc _
  have UY : Bk WY w3.heap.size (tA T b1 d1 b2 d2 b3 d3) := by rw [hWY]; exact (Bk.new w3 _ _).alloc _
  have EY : Bk WY (w3.heap.size + 1) #[.int .i64 0, .int .i64 0] := by
    rw [hWY]
    have := Bk.new (w3.alloc (.cells (tA T b1 d1 b2 d2 b3 d3) 28)) #[.int .i64 0, .int .i64 0] 36
    rwa [World.size_alloc] at this
  have TY := TX.on (k23.trans kY)
  have RTY := RT.on (k23.trans kY)
  have RUY := RU3.on kY
  have KY := K3.trans kY
  clear TX RT RU3
  have x0 := TY.at (i := 0) rfl
  have x1 := TY.at (i := 1) rfl
  have x2 := TY.at (i := 2) rfl
  have x3 := TY.at (i := 3) rfl
  have x4 := TY.at (i := 4) rfl
  have xl := TY.lt
  have y0 := UY.at (i := 0) rfl
  have y1 := UY.at (i := 1) rfl
  have y2 := UY.at (i := 2) rfl
  have y3 := UY.at (i := 3) rfl
  have y4 := UY.at (i := 4) rfl
  have yl := UY.lt
  have z0 := EY.at (i := 0) rfl
  have z1 := EY.at (i := 1) rfl
  have zl := EY.lt
  clear hWY kY
  go_wp2_with fail
  refine (hsm WY _ _ RTY RUY).mono ?_
  rintro _ w4 ⟨rfl, k4⟩
  clear x0 x1 x2 x3 x4 xl y0 y1 y2 y3 y4 yl z0 z1 zl
  have UY4 := UY.on k4
  have y0 := UY4.at (i := 0) rfl
  have y1 := UY4.at (i := 1) rfl
  have y2 := UY4.at (i := 2) rfl
  have y3 := UY4.at (i := 3) rfl
  have y4 := UY4.at (i := 4) rfl
  have yl := UY4.lt
  go_wp2_with fail
  refine (hck w4 _ (KY.trans k4) (RUY.on k4)).mono ?_
  rintro _ w5 ⟨rfl, k5⟩
  clear y0 y1 y2 y3 y4 yl
  have K5 := (KY.trans k4).trans k5
  go_wp2_with fail
  refine (hA w5 K5).mono ?_
  rintro _ w6 ⟨rfl, k6⟩
  go_wp2
  go_ret
  exact ⟨rfl, K5.trans k6⟩
end Go.Proofs.YtacflahkofmcpaaGreatDoor.Wl
