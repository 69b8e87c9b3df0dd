/- PrintSame, walked. -/
import Derived.Test.YtlfeihgemdicfaaDoorTestW
import Derived.Test.YtlfeihgemdicfaaDoorSmallC
import Derived.Test.YtlfeihgemdicfaaDoorAwake4
import Derived.Test.YtlfeihgemdicfaaDoorPSameT
import Derived.Test.YtlfeihgemdicfaaDoorPsP
import Derived.Test.YtlfeihgemdicfaaDoorRPrG
import Derived.Test.YtlfeihgemdicfaaDoorTys
import Derived.Test.YtlfeihgemdicfaaDoorRdBk
namespace Go.Proofs.YtlfeihgemdicfaaDoor
open Go.RowKit

section
variable {α : Type} {C : α → List Value} {k : Nat} {eo ei : TypeId} {w w' : World} {base : Nat} {v : Value} {LL : List (List α)}
theorem Own2.farT {b2 e2 k2 m : Nat} {v2 : Value} {ys : List Value} (h : Own2 C k eo ei w base v LL) (ho : w.ownsRow b2 e2 k2 v2 m ys) (h1 : e2 ≠ eo) (h2 : e2 ≠ ei) (hg : w.grownBy w' v2.ownBlock) : Own2 C k eo ei w' base v LL := by
  obtain ⟨vs, p1, p2, p3⟩ := h
  exact ⟨vs, p1, own_far p2 ho h1 hg, fun i u L a b => own_far (p3 i u L a b) ho h2 hg⟩
theorem Own2.setT {N : Nat} {cs : Array Value} {T : TypeId} (h : Own2 C k eo ei w base v LL) (ht : w.heap[N]? = some (.cells cs T (0, 0))) (h1 : eo ≠ T) (h2 : ei ≠ T) (i : Nat) (u : Value) : Own2 C k eo ei (w.setCell ⟨N, i, none⟩ u) base v LL := by
  obtain ⟨vs, p1, p2, p3⟩ := h
  exact ⟨vs, p1, own_setT p2 ht h1 i u, fun j x L a b => own_setT (p3 j x L a b) ht h2 i u⟩
end
theorem neInsTest : (43 : TypeId) ≠ 29 := by decide
theorem neRowTest : (36 : TypeId) ≠ 29 := by decide
theorem neAtmTest : (35 : TypeId) ≠ 29 := by decide
theorem neThrIni : (49 : TypeId) ≠ 33 := by decide
theorem neThrRow : (49 : TypeId) ≠ 36 := by decide
theorem neThrAtm : (49 : TypeId) ≠ 35 := by decide
theorem neThrIns : (49 : TypeId) ≠ 43 := by decide
theorem neIniThr : (33 : TypeId) ≠ 49 := by decide
theorem neIniIns : (33 : TypeId) ≠ 43 := by decide
theorem neIniRow : (33 : TypeId) ≠ 36 := by decide
theorem neIniAtm : (33 : TypeId) ≠ 35 := by decide
theorem neThrTest : (49 : TypeId) ≠ 29 := by decide
theorem neIniTest : (33 : TypeId) ≠ 29 := by decide
theorem cat_tx : ((⟨#[116]⟩ : ByteArray) ++ (⟨#[120]⟩ : ByteArray)) = ⟨#[116, 120]⟩ := by decide
set_option maxHeartbeats 16000000 in
set_option maxRecDepth 8000 in
theorem printSame_walk (a : Option Addr) (zs : List Int) (cap : Nat) (kind : Int) (w : World) (hz : zs.length ≤ 9223372036854775807) (hr : Rd intC 1 w (.slice a zs.length cap) zs) (lw : Lw w) :
    Calls Tryd.prog 3 #[.slice a zs.length cap, .int .i64 kind] w fun e w' => e = .returned (.bool true) ∧ On w w' := by
  obtain ⟨i0, hi0, hz0, hz1, hz2⟩ := info_parts infoThr
  obtain ⟨j0, hj0, jz0, jz1, jz2⟩ := info_parts infoInit
  have hS := fun W (k : On w W) => small_is zs a cap 8 W hz (hr.on k)
  have HTok : Hid (testOk (smallP zs 8) = true) := small_ok zs 8
  have HTb : Hid (TestB (smallP zs 8)) := small_B zs 8
  have HTl : Hid ((textL (smallP zs 8)).length ≤ 140737488355328) := small_text zs 8
  have hAw := fun W (k : On w W) => awake4_is W (lw.on k)
  have LWx : Hid (Lw w) := lw
  have H0 := turned0 zs 8
  have H1 := turned1 zs 8
  have H2 := turned2 zs 8
  have H3 := turned3 zs 8
  have hss := sames (smallP zs 8)
  have hnm : (smallP zs 8).name = ⟨#[116]⟩ := rfl
  have hl2 : (smallP zs 8).thr.length ≤ 1000 := HTb.out.l2
  have hl1 : (smallP zs 8).ini.length ≤ 1000 := HTb.out.l1
  generalize smallP zs 8 = T at *
  generalize zs.length = mz at *
  clear lw hr hz
  obtain ⟨kb, hkb, hbit⟩ := low2 kind
  go_enter Tryd.func3, Tryd.ntmps3
  go_wp2_with fail
  refine (hS _ (On.refl w)).mono ?_
  rintro _ w1 ⟨v1, rfl, ho1, k1⟩
  go_wp2_with fail
  refine (hS _ k1).mono ?_
  rintro _ w2 ⟨v2, rfl, ho2, k2⟩
  obtain ⟨a1, c1, a2, c2, a3, c3, rfl, r1, r2, r3⟩ := ho1.rd4
  obtain ⟨b1, d1, b2, d2, b3, d3, rfl, u1, u2, u3⟩ := ho2
  obtain ⟨nm, ini, thr, ⟨kk, any⟩⟩ := T
  simp only at hnm r1 r2 r3 u1 u2 u3 hl1 hl2 ⊢
  subst hnm
  clear ho1 hS
  obtain ⟨WX, hWX⟩ : ∃ WX, WX = (w2.alloc (.cells #[.string ⟨#[116]⟩, .slice a1 ini.length c1, .slice a2 thr.length c2, .int .i64 kk, .slice a3 any.length c3] 29)).alloc (.cells #[.string ⟨#[116]⟩, .slice b1 ini.length d1, .slice b2 thr.length d2, .int .i64 kk, .slice b3 any.length d3] 29) := ⟨_, rfl⟩
  have k2X : On w2 WX := by rw [hWX]; exact ((On.refl w2).alloc _).alloc _
  have TY : WX.heap[w2.heap.size]? = some (.cells #[.string ⟨#[116]⟩, .slice a1 ini.length c1, .slice a2 thr.length c2, .int .i64 kk, .slice a3 any.length c3] 29 (0, 0)) := by rw [hWX]; exact Ty.on (heap_alloc_new w2 _) ((On.refl _).alloc _)
  have UY : WX.heap[w2.heap.size + 1]? = some (.cells #[.string ⟨#[116]⟩, .slice b1 ini.length d1, .slice b2 thr.length d2, .int .i64 kk, .slice b3 any.length d3] 29 (0, 0)) := by rw [hWX]; exact heap_new_eq (by rw [World.size_alloc]) _
  have KX : On w WX := (k1.trans k2).trans k2X
  have k1X : On w1 WX := k2.trans k2X
  have RT : TestRd WX (.agg #[.string ⟨#[116]⟩, .slice a1 ini.length c1, .slice a2 thr.length c2, .int .i64 kk, .slice a3 any.length c3]) ⟨⟨#[116]⟩, ini, thr, ⟨kk, any⟩⟩ := ⟨a1, c1, a2, c2, a3, c3, rfl, by show 1 ≤ _; decide, r1.on k1X, r2.on k1X, r3.on k1X⟩
  have RU : TestRd WX (.agg #[.string ⟨#[116]⟩, .slice b1 ini.length d1, .slice b2 thr.length d2, .int .i64 kk, .slice b3 any.length d3]) ⟨⟨#[116]⟩, ini, thr, ⟨kk, any⟩⟩ := ⟨b1, d1, b2, d2, b3, d3, rfl, by show 1 ≤ _; decide, Rd.own (fun _ => rfl) (own_on u1 k2X), (u2.rd (C := insC) (k := 9) (fun _ => rfl)).on k2X, (u3.rd (C := atomC) (k := 4) (fun _ => rfl)).on k2X⟩
  have hSS := psame_is _ _ _ _ WX RT RU
  rw [hss] at hSS
  have TX : Bk WX w2.heap.size _ := ⟨_, TY⟩
  have UX : Bk WX (w2.heap.size + 1) _ := ⟨_, UY⟩
  have x0 := TX.at (i := 0) rfl
  have x1 := TX.at (i := 1) rfl
  have x2 := TX.at (i := 2) rfl
  have x3 := TX.at (i := 3) rfl
  have x4 := TX.at (i := 4) rfl
  have xl := TX.lt
  have y0 := UX.at (i := 0) rfl
  have y1 := UX.at (i := 1) rfl
  have y2 := UX.at (i := 2) rfl
  have y3 := UX.at (i := 3) rfl
  have y4 := UX.at (i := 4) rfl
  have yl := UX.lt
  go_wp2_with fail
  rw [← hWX]
  refine hSS.mono ?_
  rintro _ w3 ⟨rfl, k3⟩
  clear hWX x0 x1 x2 x3 x4 xl y0 y1 y2 y3 y4 yl TX UX hSS hss
  have TY3 := Ty.on TY k3
  have UY3 := Ty.on UY k3
  have K3 := KX.trans k3
  have RT3 := RT.on k3
  have RU3 := RU.on k3
  have k13 := k1X.trans k3
  have hsz : w1.heap.size ≤ w2.heap.size := k2.size
  have u13 := own_on u1 (k2X.trans k3)
  have u23 := u2.on (k2X.trans k3)
  have u33 := u3.on (k2X.trans k3)
  have k23 := k2X.trans k3
  clear RT RU TY UY KX k1X k2X k3
  have UX3 : Bk w3 (w2.heap.size + 1) #[.string ⟨#[116]⟩, .slice b1 ini.length d1, .slice b2 thr.length d2, .int .i64 kk, .slice b3 any.length d3] := ⟨_, UY3⟩
  have TX3 : Bk w3 w2.heap.size #[.string ⟨#[116]⟩, .slice a1 ini.length c1, .slice a2 thr.length c2, .int .i64 kk, .slice a3 any.length c3] := ⟨_, TY3⟩
  have y0 := UX3.at (i := 0) rfl
  have y1 := UX3.at (i := 1) rfl
  have y2 := UX3.at (i := 2) rfl
  have y3 := UX3.at (i := 3) rfl
  have y4 := UX3.at (i := 4) rfl
  have yl := UX3.lt
  have yf := fun i => UX3.fr i
  rcases (by omega : kb = 0 ∨ kb = 1 ∨ kb = 2 ∨ kb = 3) with rfl | rfl | rfl | rfl
  · have hcat := cat_tx
    clear H1 H2 H3
    go_upto_region 12 with fail
    obtain ⟨WX, hWX⟩ : ∃ WX, WX = w3.setCell ⟨w2.heap.size + 1, 0, none⟩ (.string ⟨#[116, 120]⟩) := ⟨_, rfl⟩
    rw [← hWX]
    have TX : Bk WX w2.heap.size #[.string ⟨#[116]⟩, .slice a1 ini.length c1, .slice a2 thr.length c2, .int .i64 kk, .slice a3 any.length c3] := by rw [hWX]; exact TX3.far (by omega) _ _
    have UX : Bk WX (w2.heap.size + 1) #[.string ⟨#[116, 120]⟩, .slice b1 ini.length d1, .slice b2 thr.length d2, .int .i64 kk, .slice b3 any.length d3] := by rw [hWX]; exact Bk.put (cs := [.string ⟨#[116]⟩, .slice b1 ini.length d1, .slice b2 thr.length d2, .int .i64 kk, .slice b3 any.length d3]) UX3 0 _
    have k1X : On w1 WX := by rw [hWX]; exact k13.setNew (by omega) _
    have k2X : On w2 WX := by rw [hWX]; exact k23.setNew (by omega) _
    have KX : On w WX := k1.trans k1X
    have RT : TestRd WX (.agg #[.string ⟨#[116]⟩, .slice a1 ini.length c1, .slice a2 thr.length c2, .int .i64 kk, .slice a3 any.length c3]) ⟨⟨#[116]⟩, ini, thr, ⟨kk, any⟩⟩ := ⟨a1, c1, a2, c2, a3, c3, rfl, by show 1 ≤ _; decide, r1.on k1X, r2.on k1X, r3.on k1X⟩
    have RU : TestRd WX (.agg #[.string ⟨#[116, 120]⟩, .slice b1 ini.length d1, .slice b2 thr.length d2, .int .i64 kk, .slice b3 any.length d3]) (turn0 ⟨⟨#[116]⟩, ini, thr, ⟨kk, any⟩⟩) := ⟨b1, d1, b2, d2, b3, d3, rfl, by show 2 ≤ _; decide, (Rd.own (C := iniC) (k := 2) (fun _ => rfl) u1).on k2X, (u2.rd (C := insC) (k := 9) (fun _ => rfl)).on k2X, (u3.rd (C := atomC) (k := 4) (fun _ => rfl)).on k2X⟩
    have HTU := H0
    clear hWX H0 hcat y0 y1 y2 y3 y4 yl yf TX3 UX3 TY3 UY3 RT3 RU3 K3 k13 u13 u23 u33 r1 r2 r3 u1 u2 u3 k1X k2X k23
    generalize turn0 ⟨⟨#[116]⟩, ini, thr, ⟨kk, any⟩⟩ = U at *
    have hS1 := fun W (k : On WX W) => psame_is ⟨⟨#[116]⟩, ini, thr, ⟨kk, any⟩⟩ U _ _ W (RT.on k) (RU.on k)
    have hS2 := fun W (k : On WX W) => psame_is U ⟨⟨#[116]⟩, ini, thr, ⟨kk, any⟩⟩ _ _ W (RU.on k) (RT.on k)
    have hT1 := fun W (k : On WX W) => ptest_is ⟨⟨#[116]⟩, ini, thr, ⟨kk, any⟩⟩ _ W (LWx.out.on (KX.trans k)) (RT.on k) HTok.out HTb.out HTl.out
    have hT2 := fun W (k : On WX W) => ptest_is U _ W (LWx.out.on (KX.trans k)) (RU.on k) HTU.ok HTU.b HTU.len
    have hP2 := fun W (k : On WX W) => rprint_is U _ W (RU.on k) HTU.ok HTU.b HTU.len
    have hA := fun W (k : On WX W) => hAw W (KX.trans k)
    rw [HTU.ne1] at hS1
    rw [HTU.ne2] at hS2
    have hXY := HTU.txt
    obtain ⟨X, hX⟩ : ∃ X : ByteArray, X = ⟨(textL ⟨⟨#[116]⟩, ini, thr, ⟨kk, any⟩⟩).toArray⟩ := ⟨_, rfl⟩
    obtain ⟨Y, hY⟩ : ∃ Y : ByteArray, Y = ⟨(textL U).toArray⟩ := ⟨_, rfl⟩
    rw [← hX] at hT1 hXY
    rw [← hY] at hT2 hP2 hXY
    have hXY2 : (X.toList == Y.toList) = false := by
      rw [bne] at hXY
      simpa using hXY
    have hXY3 : ¬ X.toList = Y.toList := by simpa using hXY2
    clear hX hY HTU RT RU hAw
    have hon : ∀ W W', On WX W → On W W' → On WX W' := fun W W' h k => h.trans k
    have K0 : On WX WX.drew := On.drew (On.refl WX)
    refine region_fin (fun W => On WX W) 99 28 (by kernel_rfl) rfl ?_
    refine fin_take 0 (v := ?_) rfl (by kernel_rfl) (by kernel_rfl) (by kernel_rfl) (by kernel_rfl) (fun _ _ _ h => h) rfl ?_ K0 ?_
    rotate_left
    · intro W hW
      have f0 := (TX.on hW).at (i := 0) rfl
      have f1 := (TX.on hW).at (i := 1) rfl
      have f2 := (TX.on hW).at (i := 2) rfl
      have f3 := (TX.on hW).at (i := 3) rfl
      have f4 := (TX.on hW).at (i := 4) rfl
      have fl := (TX.on hW).lt
      go_simp
      (try with_reducible rfl)
    simp only [Act.put, List.setIfInBounds_toArray, List.set_cons_zero, List.set_cons_succ]
    refine fin_take 1 (v := ?_) rfl (by kernel_rfl) (by kernel_rfl) (by kernel_rfl) (by kernel_rfl) (fun _ _ _ h => h) rfl ?_ K0 ?_
    rotate_left
    · intro W hW
      have f0 := (UX.on hW).at (i := 0) rfl
      have f1 := (UX.on hW).at (i := 1) rfl
      have f2 := (UX.on hW).at (i := 2) rfl
      have f3 := (UX.on hW).at (i := 3) rfl
      have f4 := (UX.on hW).at (i := 4) rfl
      have fl := (UX.on hW).lt
      go_simp
      (try with_reducible rfl)
    simp only [Act.put, List.setIfInBounds_toArray, List.set_cons_zero, List.set_cons_succ]
    refine fin_one 2 rfl rfl (by kernel_rfl) (fun K hK => ?_)
    go_simp
    refine (hS1 _ K0).mono ?_
    rintro _ w1 ⟨rfl, kw1⟩
    have Sw1 := hon _ _ K0 kw1
    have Kw1 := K0.trans kw1
    refine hK.out _ _ (fun _ => Sw1) ?_
    clear hK
    refine fin_take 3 (v := ?_) rfl (by kernel_rfl) (by kernel_rfl) (by kernel_rfl) (by kernel_rfl) (fun _ _ _ h => h) rfl ?_ Sw1 ?_
    rotate_left
    · intro W hW
      go_simp
      (try with_reducible rfl)
    simp only [Act.put, List.setIfInBounds_toArray, List.set_cons_zero, List.set_cons_succ]
    refine fin_take 4 (v := ?_) rfl (by kernel_rfl) (by kernel_rfl) (by kernel_rfl) (by kernel_rfl) (fun _ _ _ h => h) rfl ?_ Sw1 ?_
    rotate_left
    · intro W hW
      go_simp
      (try with_reducible rfl)
    simp only [Act.put, List.setIfInBounds_toArray, List.set_cons_zero, List.set_cons_succ]
    refine fin_takeG 5 (v := ?_) rfl (by kernel_rfl) (by kernel_rfl) (by kernel_rfl) (by kernel_rfl) (fun _ _ _ h => h) (by rfl) ?_ Sw1 ?_
    rotate_left
    · intro W hW
      have f0 := (UX.on hW).at (i := 0) rfl
      have f1 := (UX.on hW).at (i := 1) rfl
      have f2 := (UX.on hW).at (i := 2) rfl
      have f3 := (UX.on hW).at (i := 3) rfl
      have f4 := (UX.on hW).at (i := 4) rfl
      have fl := (UX.on hW).lt
      go_simp
      (try with_reducible rfl)
    simp only [Act.put, List.setIfInBounds_toArray, List.set_cons_zero, List.set_cons_succ]
    refine fin_takeG 6 (v := ?_) rfl (by kernel_rfl) (by kernel_rfl) (by kernel_rfl) (by kernel_rfl) (fun _ _ _ h => h) (by rfl) ?_ Sw1 ?_
    rotate_left
    · intro W hW
      have f0 := (TX.on hW).at (i := 0) rfl
      have f1 := (TX.on hW).at (i := 1) rfl
      have f2 := (TX.on hW).at (i := 2) rfl
      have f3 := (TX.on hW).at (i := 3) rfl
      have f4 := (TX.on hW).at (i := 4) rfl
      have fl := (TX.on hW).lt
      go_simp
      (try with_reducible rfl)
    simp only [Act.put, List.setIfInBounds_toArray, List.set_cons_zero, List.set_cons_succ]
    refine fin_oneG 7 rfl (by rfl) (by kernel_rfl) (fun K hK => ?_)
    go_simp
    refine (hS2 _ Kw1).mono ?_
    rintro _ w2 ⟨rfl, kw2⟩
    have Sw2 := hon _ _ Sw1 kw2
    have Kw2 := Kw1.trans kw2
    refine hK.out _ _ (fun _ => Sw2) ?_
    clear hK
    refine fin_takeG 8 (v := ?_) rfl (by kernel_rfl) (by kernel_rfl) (by kernel_rfl) (by kernel_rfl) (fun _ _ _ h => h) (by rfl) ?_ Sw2 ?_
    rotate_left
    · intro W hW
      go_simp
      (try with_reducible rfl)
    simp only [Act.put, List.setIfInBounds_toArray, List.set_cons_zero, List.set_cons_succ]
    refine fin_take 9 (v := ?_) rfl (by kernel_rfl) (by kernel_rfl) (by kernel_rfl) (by kernel_rfl) (fun _ _ _ h => h) rfl ?_ Sw2 ?_
    rotate_left
    · intro W hW
      go_simp
      (try with_reducible rfl)
    simp only [Act.put, List.setIfInBounds_toArray, List.set_cons_zero, List.set_cons_succ]
    refine fin_take 10 (v := ?_) rfl (by kernel_rfl) (by kernel_rfl) (by kernel_rfl) (by kernel_rfl) (fun _ _ _ h => h) rfl ?_ Sw2 ?_
    rotate_left
    · intro W hW
      go_simp
      (try with_reducible rfl)
    simp only [Act.put, List.setIfInBounds_toArray, List.set_cons_zero, List.set_cons_succ]
    refine fin_takeG 11 (v := ?_) rfl (by kernel_rfl) (by kernel_rfl) (by kernel_rfl) (by kernel_rfl) (fun _ _ _ h => h) (by rfl) ?_ Sw2 ?_
    rotate_left
    · intro W hW
      have f0 := (TX.on hW).at (i := 0) rfl
      have f1 := (TX.on hW).at (i := 1) rfl
      have f2 := (TX.on hW).at (i := 2) rfl
      have f3 := (TX.on hW).at (i := 3) rfl
      have f4 := (TX.on hW).at (i := 4) rfl
      have fl := (TX.on hW).lt
      go_simp
      (try with_reducible rfl)
    simp only [Act.put, List.setIfInBounds_toArray, List.set_cons_zero, List.set_cons_succ]
    refine fin_takeG 13 (v := ?_) rfl (by kernel_rfl) (by kernel_rfl) (by kernel_rfl) (by kernel_rfl) (fun _ _ _ h => h) (by rfl) ?_ Sw2 ?_
    rotate_left
    · intro W hW
      have f0 := (UX.on hW).at (i := 0) rfl
      have f1 := (UX.on hW).at (i := 1) rfl
      have f2 := (UX.on hW).at (i := 2) rfl
      have f3 := (UX.on hW).at (i := 3) rfl
      have f4 := (UX.on hW).at (i := 4) rfl
      have fl := (UX.on hW).lt
      go_simp
      (try with_reducible rfl)
    simp only [Act.put, List.setIfInBounds_toArray, List.set_cons_zero, List.set_cons_succ]
    refine fin_oneG 12 rfl (by rfl) (by kernel_rfl) (fun K hK => ?_)
    go_simp
    refine (hT1 _ Kw2).mono ?_
    rintro _ w3 ⟨rfl, kw3⟩
    have Sw3 := hon _ _ Sw2 kw3
    have Kw3 := Kw2.trans kw3
    refine hK.out _ _ (fun _ => Sw3) ?_
    clear hK
    refine fin_oneG 14 rfl (by rfl) (by kernel_rfl) (fun K hK => ?_)
    go_simp
    refine (hT2 _ Kw3).mono ?_
    rintro _ w4 ⟨rfl, kw4⟩
    have Sw4 := hon _ _ Sw3 kw4
    have Kw4 := Kw3.trans kw4
    refine hK.out _ _ (fun _ => Sw4) ?_
    clear hK
    refine fin_takeG 15 (v := ?_) rfl (by kernel_rfl) (by kernel_rfl) (by kernel_rfl) (by kernel_rfl) (fun _ _ _ h => h) (by rfl) ?_ Sw4 ?_
    rotate_left
    · intro W hW
      go_simp
      (try with_reducible rfl)
    simp only [Act.put, List.setIfInBounds_toArray, List.set_cons_zero, List.set_cons_succ]
    refine fin_take 16 (v := ?_) rfl (by kernel_rfl) (by kernel_rfl) (by kernel_rfl) (by kernel_rfl) (fun _ _ _ h => h) rfl ?_ Sw4 ?_
    rotate_left
    · intro W hW
      go_simp
      (try with_reducible rfl)
    simp only [Act.put, List.setIfInBounds_toArray, List.set_cons_zero, List.set_cons_succ]
    refine fin_take 17 (v := ?_) rfl (by kernel_rfl) (by kernel_rfl) (by kernel_rfl) (by kernel_rfl) (fun _ _ _ h => h) rfl ?_ Sw4 ?_
    rotate_left
    · intro W hW
      go_simp
      (try with_reducible rfl)
    simp only [Act.put, List.setIfInBounds_toArray, List.set_cons_zero, List.set_cons_succ]
    refine fin_takeG 18 (v := ?_) rfl (by kernel_rfl) (by kernel_rfl) (by kernel_rfl) (by kernel_rfl) (fun _ _ _ h => h) (by rfl) ?_ Sw4 ?_
    rotate_left
    · intro W hW
      have f0 := (UX.on hW).at (i := 0) rfl
      have f1 := (UX.on hW).at (i := 1) rfl
      have f2 := (UX.on hW).at (i := 2) rfl
      have f3 := (UX.on hW).at (i := 3) rfl
      have f4 := (UX.on hW).at (i := 4) rfl
      have fl := (UX.on hW).lt
      go_simp
      (try with_reducible rfl)
    simp only [Act.put, List.setIfInBounds_toArray, List.set_cons_zero, List.set_cons_succ]
    refine fin_takeG 20 (v := ?_) rfl (by kernel_rfl) (by kernel_rfl) (by kernel_rfl) (by kernel_rfl) (fun _ _ _ h => h) (by rfl) ?_ Sw4 ?_
    rotate_left
    · intro W hW
      have f0 := (UX.on hW).at (i := 0) rfl
      have f1 := (UX.on hW).at (i := 1) rfl
      have f2 := (UX.on hW).at (i := 2) rfl
      have f3 := (UX.on hW).at (i := 3) rfl
      have f4 := (UX.on hW).at (i := 4) rfl
      have fl := (UX.on hW).lt
      go_simp
      (try with_reducible rfl)
    simp only [Act.put, List.setIfInBounds_toArray, List.set_cons_zero, List.set_cons_succ]
    refine fin_oneG 19 rfl (by rfl) (by kernel_rfl) (fun K hK => ?_)
    go_simp
    refine (hP2 _ Kw4).mono ?_
    rintro _ w5 ⟨rfl, kw5⟩
    have Sw5 := hon _ _ Sw4 kw5
    have Kw5 := Kw4.trans kw5
    refine hK.out _ _ (fun _ => Sw5) ?_
    clear hK
    refine fin_oneG 21 rfl (by rfl) (by kernel_rfl) (fun K hK => ?_)
    go_simp
    refine (hT2 _ Kw5).mono ?_
    rintro _ w6 ⟨rfl, kw6⟩
    have Sw6 := hon _ _ Sw5 kw6
    have Kw6 := Kw5.trans kw6
    refine hK.out _ _ (fun _ => Sw6) ?_
    clear hK
    refine fin_takeG 22 (v := ?_) rfl (by kernel_rfl) (by kernel_rfl) (by kernel_rfl) (by kernel_rfl) (fun _ _ _ h => h) (by rfl) ?_ Sw6 ?_
    rotate_left
    · intro W hW
      go_simp
      (try with_reducible rfl)
    simp only [Act.put, List.setIfInBounds_toArray, List.set_cons_zero, List.set_cons_succ]
    refine fin_take 23 (v := ?_) rfl (by kernel_rfl) (by kernel_rfl) (by kernel_rfl) (by kernel_rfl) (fun _ _ _ h => h) rfl ?_ Sw6 ?_
    rotate_left
    · intro W hW
      go_simp
      (try with_reducible rfl)
    simp only [Act.put, List.setIfInBounds_toArray, List.set_cons_zero, List.set_cons_succ]
    refine fin_take 24 (v := ?_) rfl (by kernel_rfl) (by kernel_rfl) (by kernel_rfl) (by kernel_rfl) (fun _ _ _ h => h) rfl ?_ Sw6 ?_
    rotate_left
    · intro W hW
      go_simp
      (try with_reducible rfl)
    simp only [Act.put, List.setIfInBounds_toArray, List.set_cons_zero, List.set_cons_succ]
    refine fin_oneG 25 rfl (by rfl) (by kernel_rfl) (fun K hK => ?_)
    go_simp
    refine (hA _ Kw6).mono ?_
    rintro _ w7 ⟨rfl, kw7⟩
    have Sw7 := hon _ _ Sw6 kw7
    have Kw7 := Kw6.trans kw7
    refine hK.out _ _ (fun _ => Sw7) ?_
    clear hK
    refine fin_take 26 (v := ?_) rfl (by kernel_rfl) (by kernel_rfl) (by kernel_rfl) (by kernel_rfl) (fun _ _ _ h => h) rfl ?_ Sw7 ?_
    rotate_left
    · intro W hW
      go_simp
      (try with_reducible rfl)
    simp only [Act.put, List.setIfInBounds_toArray, List.set_cons_zero, List.set_cons_succ]
    refine fin_take 27 (v := ?_) rfl (by kernel_rfl) (by kernel_rfl) (by kernel_rfl) (by kernel_rfl) (fun _ _ _ h => h) rfl ?_ Sw7 ?_
    rotate_left
    · intro W hW
      go_simp
      (try with_reducible rfl)
    simp only [Act.put, List.setIfInBounds_toArray, List.set_cons_zero, List.set_cons_succ]
    refine fin_done (by kernel_rfl) (NoPanic.normal ?_)
    go_wp2
    go_ret
    exact ⟨rfl, KX.trans Kw7⟩
  · clear H0 H2 H3
    obtain ⟨vs, hv1, hv2, hv3⟩ := u23
    go_wp2_with (at_builtin; refine wpList_append_own _ rfl _ _ 24 rfl w1.heap.size 49 i0 (.slice none 0 0) 1 24 Tryd.underlying24 hi0 hz0 hz1 hz2 rfl (by decide) _ _ _ rfl (hv2.alloc _) ⟨w3.heap.size, 0, none⟩ 1 1 [.slice none 0 0] rfl rfl ?c1 ?c2 ?c3 ?c4 ?c5 ?_)
    case c1 => exact news_eq rfl _ _
    case c2 => exact one_slice _ _ _
    case c3 => unfold maxLen; omega
    case c4 => omega
    case c5 => simp only [World.size_alloc]; have := k13.size; omega
    intro v6 w5 own5 hg5 _
    have ov := hv2.alloc (.cells #[.slice none 0 0] 49)
    have kA := (On.refl w3).alloc (.cells #[.slice none 0 0] 49)
    have hblk : ∀ g, (Value.slice b2 thr.length d2).ownBlock = some g → w1.heap.size ≤ g := fun g hg => (hv2.lt g hg).1
    have own6 : Own2 insC 9 49 43 w5 w1.heap.size v6 (thr ++ [[]]) := Own2.snoc hv1 ov (fun i u L p q => own_on (hv3 i u L p q) kA) neThrIns hg5 own5 (L := []) (World.ownsRow_nil _ _ _ _)
    obtain ⟨b6, d6, rfl⟩ := own_slice own5
    have TY5 := Ty.grown (Ty.on TY3 kA) ov neThrTest hg5
    have UY5 := Ty.grown (Ty.on UY3 kA) ov neThrTest hg5
    have k15 : On w1 w5 := On.grown (k13.alloc _) hg5 hblk
    have i5 := own_far (own_on u13 kA) ov neThrIni hg5
    have q5 := Own2.farT (u33.on kA) ov neThrRow neThrAtm hg5
    have UX5 : Bk w5 (w2.heap.size + 1) #[.string ⟨#[116]⟩, .slice b1 ini.length d1, .slice b2 thr.length d2, .int .i64 kk, .slice b3 any.length d3] := ⟨_, UY5⟩
    clear y0 y1 y2 y3 y4 yl yf own5 hg5 ov kA hblk hv1 hv2 hv3 UX3 TX3 TY3 UY3 RT3 RU3 K3 k13 u13 u33 u1 u2 u3 k23
    have y0 := UX5.at (i := 0) rfl
    have y1 := UX5.at (i := 1) rfl
    have y2 := UX5.at (i := 2) rfl
    have y3 := UX5.at (i := 3) rfl
    have y4 := UX5.at (i := 4) rfl
    have yl := UX5.lt
    have yf := fun i => UX5.fr i
    go_upto_region 12 with fail
    obtain ⟨WX, hWX⟩ : ∃ WX, WX = w5.setCell ⟨w2.heap.size + 1, 2, none⟩ (.slice b6 (thr.length + 1) d6) := ⟨_, rfl⟩
    rw [← hWX]
    have TX : Bk WX w2.heap.size #[.string ⟨#[116]⟩, .slice a1 ini.length c1, .slice a2 thr.length c2, .int .i64 kk, .slice a3 any.length c3] := by rw [hWX]; exact Bk.far ⟨_, TY5⟩ (by omega) _ _
    have UX : Bk WX (w2.heap.size + 1) #[.string ⟨#[116]⟩, .slice b1 ini.length d1, .slice b6 (thr.length + 1) d6, .int .i64 kk, .slice b3 any.length d3] := by rw [hWX]; exact Bk.put (cs := [.string ⟨#[116]⟩, .slice b1 ini.length d1, .slice b2 thr.length d2, .int .i64 kk, .slice b3 any.length d3]) UX5 2 _
    have k1X : On w1 WX := by rw [hWX]; exact k15.setNew (by omega) _
    have KX : On w WX := k1.trans k1X
    have RT : TestRd WX (.agg #[.string ⟨#[116]⟩, .slice a1 ini.length c1, .slice a2 thr.length c2, .int .i64 kk, .slice a3 any.length c3]) ⟨⟨#[116]⟩, ini, thr, ⟨kk, any⟩⟩ := ⟨a1, c1, a2, c2, a3, c3, rfl, by show 1 ≤ _; decide, r1.on k1X, r2.on k1X, r3.on k1X⟩
    have hlen : (thr ++ [[]]).length = thr.length + 1 := by simp
    have RU : TestRd WX (.agg #[.string ⟨#[116]⟩, .slice b1 ini.length d1, .slice b6 (thr.length + 1) d6, .int .i64 kk, .slice b3 any.length d3]) (turn1 ⟨⟨#[116]⟩, ini, thr, ⟨kk, any⟩⟩) := by
      refine ⟨b1, d1, b6, d6, b3, d3, by unfold turn1; simp only [hlen], by show 1 ≤ _; decide, ?_, ?_, ?_⟩
      · rw [hWX]; exact Rd.own (fun _ => rfl) (own_setT i5 UY5 neIniTest 2 _)
      · rw [hWX]
        show Rd2 insC 9 _ (.slice b6 (thr ++ [[]]).length d6) (thr ++ [[]])
        rw [hlen]
        exact (Own2.setT own6 UY5 neThrTest neInsTest 2 _).rd (fun _ => rfl)
      · rw [hWX]; exact (Own2.setT q5 UY5 neRowTest neAtmTest 2 _).rd (fun _ => rfl)
    have HTU := H1
    clear hWX H1 y0 y1 y2 y3 y4 yl yf UX5 TY5 UY5 k15 own6 i5 q5 r1 r2 r3 k1X hlen
    generalize turn1 ⟨⟨#[116]⟩, ini, thr, ⟨kk, any⟩⟩ = U at *
    have hS1 := fun W (k : On WX W) => psame_is ⟨⟨#[116]⟩, ini, thr, ⟨kk, any⟩⟩ U _ _ W (RT.on k) (RU.on k)
    have hS2 := fun W (k : On WX W) => psame_is U ⟨⟨#[116]⟩, ini, thr, ⟨kk, any⟩⟩ _ _ W (RU.on k) (RT.on k)
    have hT1 := fun W (k : On WX W) => ptest_is ⟨⟨#[116]⟩, ini, thr, ⟨kk, any⟩⟩ _ W (LWx.out.on (KX.trans k)) (RT.on k) HTok.out HTb.out HTl.out
    have hT2 := fun W (k : On WX W) => ptest_is U _ W (LWx.out.on (KX.trans k)) (RU.on k) HTU.ok HTU.b HTU.len
    have hP2 := fun W (k : On WX W) => rprint_is U _ W (RU.on k) HTU.ok HTU.b HTU.len
    have hA := fun W (k : On WX W) => hAw W (KX.trans k)
    rw [HTU.ne1] at hS1
    rw [HTU.ne2] at hS2
    have hXY := HTU.txt
    obtain ⟨X, hX⟩ : ∃ X : ByteArray, X = ⟨(textL ⟨⟨#[116]⟩, ini, thr, ⟨kk, any⟩⟩).toArray⟩ := ⟨_, rfl⟩
    obtain ⟨Y, hY⟩ : ∃ Y : ByteArray, Y = ⟨(textL U).toArray⟩ := ⟨_, rfl⟩
    rw [← hX] at hT1 hXY
    rw [← hY] at hT2 hP2 hXY
    have hXY2 : (X.toList == Y.toList) = false := by
      rw [bne] at hXY
      simpa using hXY
    have hXY3 : ¬ X.toList = Y.toList := by simpa using hXY2
    clear hX hY HTU RT RU hAw
    have hon : ∀ W W', On WX W → On W W' → On WX W' := fun W W' h k => h.trans k
    have K0 : On WX WX.drew := On.drew (On.refl WX)
    refine region_fin (fun W => On WX W) 99 28 (by kernel_rfl) rfl ?_
    refine fin_take 0 (v := ?_) rfl (by kernel_rfl) (by kernel_rfl) (by kernel_rfl) (by kernel_rfl) (fun _ _ _ h => h) rfl ?_ K0 ?_
    rotate_left
    · intro W hW
      have f0 := (TX.on hW).at (i := 0) rfl
      have f1 := (TX.on hW).at (i := 1) rfl
      have f2 := (TX.on hW).at (i := 2) rfl
      have f3 := (TX.on hW).at (i := 3) rfl
      have f4 := (TX.on hW).at (i := 4) rfl
      have fl := (TX.on hW).lt
      go_simp
      (try with_reducible rfl)
    simp only [Act.put, List.setIfInBounds_toArray, List.set_cons_zero, List.set_cons_succ]
    refine fin_take 1 (v := ?_) rfl (by kernel_rfl) (by kernel_rfl) (by kernel_rfl) (by kernel_rfl) (fun _ _ _ h => h) rfl ?_ K0 ?_
    rotate_left
    · intro W hW
      have f0 := (UX.on hW).at (i := 0) rfl
      have f1 := (UX.on hW).at (i := 1) rfl
      have f2 := (UX.on hW).at (i := 2) rfl
      have f3 := (UX.on hW).at (i := 3) rfl
      have f4 := (UX.on hW).at (i := 4) rfl
      have fl := (UX.on hW).lt
      go_simp
      (try with_reducible rfl)
    simp only [Act.put, List.setIfInBounds_toArray, List.set_cons_zero, List.set_cons_succ]
    refine fin_one 2 rfl rfl (by kernel_rfl) (fun K hK => ?_)
    go_simp
    refine (hS1 _ K0).mono ?_
    rintro _ w1 ⟨rfl, kw1⟩
    have Sw1 := hon _ _ K0 kw1
    have Kw1 := K0.trans kw1
    refine hK.out _ _ (fun _ => Sw1) ?_
    clear hK
    refine fin_take 3 (v := ?_) rfl (by kernel_rfl) (by kernel_rfl) (by kernel_rfl) (by kernel_rfl) (fun _ _ _ h => h) rfl ?_ Sw1 ?_
    rotate_left
    · intro W hW
      go_simp
      (try with_reducible rfl)
    simp only [Act.put, List.setIfInBounds_toArray, List.set_cons_zero, List.set_cons_succ]
    refine fin_take 4 (v := ?_) rfl (by kernel_rfl) (by kernel_rfl) (by kernel_rfl) (by kernel_rfl) (fun _ _ _ h => h) rfl ?_ Sw1 ?_
    rotate_left
    · intro W hW
      go_simp
      (try with_reducible rfl)
    simp only [Act.put, List.setIfInBounds_toArray, List.set_cons_zero, List.set_cons_succ]
    refine fin_takeG 5 (v := ?_) rfl (by kernel_rfl) (by kernel_rfl) (by kernel_rfl) (by kernel_rfl) (fun _ _ _ h => h) (by rfl) ?_ Sw1 ?_
    rotate_left
    · intro W hW
      have f0 := (UX.on hW).at (i := 0) rfl
      have f1 := (UX.on hW).at (i := 1) rfl
      have f2 := (UX.on hW).at (i := 2) rfl
      have f3 := (UX.on hW).at (i := 3) rfl
      have f4 := (UX.on hW).at (i := 4) rfl
      have fl := (UX.on hW).lt
      go_simp
      (try with_reducible rfl)
    simp only [Act.put, List.setIfInBounds_toArray, List.set_cons_zero, List.set_cons_succ]
    refine fin_takeG 6 (v := ?_) rfl (by kernel_rfl) (by kernel_rfl) (by kernel_rfl) (by kernel_rfl) (fun _ _ _ h => h) (by rfl) ?_ Sw1 ?_
    rotate_left
    · intro W hW
      have f0 := (TX.on hW).at (i := 0) rfl
      have f1 := (TX.on hW).at (i := 1) rfl
      have f2 := (TX.on hW).at (i := 2) rfl
      have f3 := (TX.on hW).at (i := 3) rfl
      have f4 := (TX.on hW).at (i := 4) rfl
      have fl := (TX.on hW).lt
      go_simp
      (try with_reducible rfl)
    simp only [Act.put, List.setIfInBounds_toArray, List.set_cons_zero, List.set_cons_succ]
    refine fin_oneG 7 rfl (by rfl) (by kernel_rfl) (fun K hK => ?_)
    go_simp
    refine (hS2 _ Kw1).mono ?_
    rintro _ w2 ⟨rfl, kw2⟩
    have Sw2 := hon _ _ Sw1 kw2
    have Kw2 := Kw1.trans kw2
    refine hK.out _ _ (fun _ => Sw2) ?_
    clear hK
    refine fin_takeG 8 (v := ?_) rfl (by kernel_rfl) (by kernel_rfl) (by kernel_rfl) (by kernel_rfl) (fun _ _ _ h => h) (by rfl) ?_ Sw2 ?_
    rotate_left
    · intro W hW
      go_simp
      (try with_reducible rfl)
    simp only [Act.put, List.setIfInBounds_toArray, List.set_cons_zero, List.set_cons_succ]
    refine fin_take 9 (v := ?_) rfl (by kernel_rfl) (by kernel_rfl) (by kernel_rfl) (by kernel_rfl) (fun _ _ _ h => h) rfl ?_ Sw2 ?_
    rotate_left
    · intro W hW
      go_simp
      (try with_reducible rfl)
    simp only [Act.put, List.setIfInBounds_toArray, List.set_cons_zero, List.set_cons_succ]
    refine fin_take 10 (v := ?_) rfl (by kernel_rfl) (by kernel_rfl) (by kernel_rfl) (by kernel_rfl) (fun _ _ _ h => h) rfl ?_ Sw2 ?_
    rotate_left
    · intro W hW
      go_simp
      (try with_reducible rfl)
    simp only [Act.put, List.setIfInBounds_toArray, List.set_cons_zero, List.set_cons_succ]
    refine fin_takeG 11 (v := ?_) rfl (by kernel_rfl) (by kernel_rfl) (by kernel_rfl) (by kernel_rfl) (fun _ _ _ h => h) (by rfl) ?_ Sw2 ?_
    rotate_left
    · intro W hW
      have f0 := (TX.on hW).at (i := 0) rfl
      have f1 := (TX.on hW).at (i := 1) rfl
      have f2 := (TX.on hW).at (i := 2) rfl
      have f3 := (TX.on hW).at (i := 3) rfl
      have f4 := (TX.on hW).at (i := 4) rfl
      have fl := (TX.on hW).lt
      go_simp
      (try with_reducible rfl)
    simp only [Act.put, List.setIfInBounds_toArray, List.set_cons_zero, List.set_cons_succ]
    refine fin_takeG 13 (v := ?_) rfl (by kernel_rfl) (by kernel_rfl) (by kernel_rfl) (by kernel_rfl) (fun _ _ _ h => h) (by rfl) ?_ Sw2 ?_
    rotate_left
    · intro W hW
      have f0 := (UX.on hW).at (i := 0) rfl
      have f1 := (UX.on hW).at (i := 1) rfl
      have f2 := (UX.on hW).at (i := 2) rfl
      have f3 := (UX.on hW).at (i := 3) rfl
      have f4 := (UX.on hW).at (i := 4) rfl
      have fl := (UX.on hW).lt
      go_simp
      (try with_reducible rfl)
    simp only [Act.put, List.setIfInBounds_toArray, List.set_cons_zero, List.set_cons_succ]
    refine fin_oneG 12 rfl (by rfl) (by kernel_rfl) (fun K hK => ?_)
    go_simp
    refine (hT1 _ Kw2).mono ?_
    rintro _ w3 ⟨rfl, kw3⟩
    have Sw3 := hon _ _ Sw2 kw3
    have Kw3 := Kw2.trans kw3
    refine hK.out _ _ (fun _ => Sw3) ?_
    clear hK
    refine fin_oneG 14 rfl (by rfl) (by kernel_rfl) (fun K hK => ?_)
    go_simp
    refine (hT2 _ Kw3).mono ?_
    rintro _ w4 ⟨rfl, kw4⟩
    have Sw4 := hon _ _ Sw3 kw4
    have Kw4 := Kw3.trans kw4
    refine hK.out _ _ (fun _ => Sw4) ?_
    clear hK
    refine fin_takeG 15 (v := ?_) rfl (by kernel_rfl) (by kernel_rfl) (by kernel_rfl) (by kernel_rfl) (fun _ _ _ h => h) (by rfl) ?_ Sw4 ?_
    rotate_left
    · intro W hW
      go_simp
      (try with_reducible rfl)
    simp only [Act.put, List.setIfInBounds_toArray, List.set_cons_zero, List.set_cons_succ]
    refine fin_take 16 (v := ?_) rfl (by kernel_rfl) (by kernel_rfl) (by kernel_rfl) (by kernel_rfl) (fun _ _ _ h => h) rfl ?_ Sw4 ?_
    rotate_left
    · intro W hW
      go_simp
      (try with_reducible rfl)
    simp only [Act.put, List.setIfInBounds_toArray, List.set_cons_zero, List.set_cons_succ]
    refine fin_take 17 (v := ?_) rfl (by kernel_rfl) (by kernel_rfl) (by kernel_rfl) (by kernel_rfl) (fun _ _ _ h => h) rfl ?_ Sw4 ?_
    rotate_left
    · intro W hW
      go_simp
      (try with_reducible rfl)
    simp only [Act.put, List.setIfInBounds_toArray, List.set_cons_zero, List.set_cons_succ]
    refine fin_takeG 18 (v := ?_) rfl (by kernel_rfl) (by kernel_rfl) (by kernel_rfl) (by kernel_rfl) (fun _ _ _ h => h) (by rfl) ?_ Sw4 ?_
    rotate_left
    · intro W hW
      have f0 := (UX.on hW).at (i := 0) rfl
      have f1 := (UX.on hW).at (i := 1) rfl
      have f2 := (UX.on hW).at (i := 2) rfl
      have f3 := (UX.on hW).at (i := 3) rfl
      have f4 := (UX.on hW).at (i := 4) rfl
      have fl := (UX.on hW).lt
      go_simp
      (try with_reducible rfl)
    simp only [Act.put, List.setIfInBounds_toArray, List.set_cons_zero, List.set_cons_succ]
    refine fin_takeG 20 (v := ?_) rfl (by kernel_rfl) (by kernel_rfl) (by kernel_rfl) (by kernel_rfl) (fun _ _ _ h => h) (by rfl) ?_ Sw4 ?_
    rotate_left
    · intro W hW
      have f0 := (UX.on hW).at (i := 0) rfl
      have f1 := (UX.on hW).at (i := 1) rfl
      have f2 := (UX.on hW).at (i := 2) rfl
      have f3 := (UX.on hW).at (i := 3) rfl
      have f4 := (UX.on hW).at (i := 4) rfl
      have fl := (UX.on hW).lt
      go_simp
      (try with_reducible rfl)
    simp only [Act.put, List.setIfInBounds_toArray, List.set_cons_zero, List.set_cons_succ]
    refine fin_oneG 19 rfl (by rfl) (by kernel_rfl) (fun K hK => ?_)
    go_simp
    refine (hP2 _ Kw4).mono ?_
    rintro _ w5 ⟨rfl, kw5⟩
    have Sw5 := hon _ _ Sw4 kw5
    have Kw5 := Kw4.trans kw5
    refine hK.out _ _ (fun _ => Sw5) ?_
    clear hK
    refine fin_oneG 21 rfl (by rfl) (by kernel_rfl) (fun K hK => ?_)
    go_simp
    refine (hT2 _ Kw5).mono ?_
    rintro _ w6 ⟨rfl, kw6⟩
    have Sw6 := hon _ _ Sw5 kw6
    have Kw6 := Kw5.trans kw6
    refine hK.out _ _ (fun _ => Sw6) ?_
    clear hK
    refine fin_takeG 22 (v := ?_) rfl (by kernel_rfl) (by kernel_rfl) (by kernel_rfl) (by kernel_rfl) (fun _ _ _ h => h) (by rfl) ?_ Sw6 ?_
    rotate_left
    · intro W hW
      go_simp
      (try with_reducible rfl)
    simp only [Act.put, List.setIfInBounds_toArray, List.set_cons_zero, List.set_cons_succ]
    refine fin_take 23 (v := ?_) rfl (by kernel_rfl) (by kernel_rfl) (by kernel_rfl) (by kernel_rfl) (fun _ _ _ h => h) rfl ?_ Sw6 ?_
    rotate_left
    · intro W hW
      go_simp
      (try with_reducible rfl)
    simp only [Act.put, List.setIfInBounds_toArray, List.set_cons_zero, List.set_cons_succ]
    refine fin_take 24 (v := ?_) rfl (by kernel_rfl) (by kernel_rfl) (by kernel_rfl) (by kernel_rfl) (fun _ _ _ h => h) rfl ?_ Sw6 ?_
    rotate_left
    · intro W hW
      go_simp
      (try with_reducible rfl)
    simp only [Act.put, List.setIfInBounds_toArray, List.set_cons_zero, List.set_cons_succ]
    refine fin_oneG 25 rfl (by rfl) (by kernel_rfl) (fun K hK => ?_)
    go_simp
    refine (hA _ Kw6).mono ?_
    rintro _ w7 ⟨rfl, kw7⟩
    have Sw7 := hon _ _ Sw6 kw7
    have Kw7 := Kw6.trans kw7
    refine hK.out _ _ (fun _ => Sw7) ?_
    clear hK
    refine fin_take 26 (v := ?_) rfl (by kernel_rfl) (by kernel_rfl) (by kernel_rfl) (by kernel_rfl) (fun _ _ _ h => h) rfl ?_ Sw7 ?_
    rotate_left
    · intro W hW
      go_simp
      (try with_reducible rfl)
    simp only [Act.put, List.setIfInBounds_toArray, List.set_cons_zero, List.set_cons_succ]
    refine fin_take 27 (v := ?_) rfl (by kernel_rfl) (by kernel_rfl) (by kernel_rfl) (by kernel_rfl) (fun _ _ _ h => h) rfl ?_ Sw7 ?_
    rotate_left
    · intro W hW
      go_simp
      (try with_reducible rfl)
    simp only [Act.put, List.setIfInBounds_toArray, List.set_cons_zero, List.set_cons_succ]
    refine fin_done (by kernel_rfl) (NoPanic.normal ?_)
    go_wp2
    go_ret
    exact ⟨rfl, KX.trans Kw7⟩
  · clear H0 H1 H3
    go_wp2_with (at_builtin; refine wpList_append_own _ rfl _ _ 23 rfl w1.heap.size 33 j0 (.agg #[.int .i64 0, .int .i64 0]) 2 16 Tryd.underlying23 hj0 jz0 jz1 jz2 rfl (by decide) _ _ _ rfl (u13.alloc _) ⟨w3.heap.size, 0, none⟩ 1 1 (iniC ⟨122, 1⟩) rfl rfl ?c1 ?c2 ?c3 ?c4 ?c5 ?_)
    case c1 => exact news_eq rfl _ _
    case c2 => exact one_ini _ _
    case c3 => unfold maxLen; omega
    case c4 => omega
    case c5 => simp only [World.size_alloc]; have := k13.size; omega
    intro v6 w5 own5 hg5 _
    have ov := u13.alloc (.cells #[.int .i64 122, .int .i64 1] 33)
    have kA := (On.refl w3).alloc (.cells #[.int .i64 122, .int .i64 1] 33)
    have hblk : ∀ g, (Value.slice b1 ini.length d1).ownBlock = some g → w1.heap.size ≤ g := fun g hg => (u13.lt g hg).1
    obtain ⟨b6, d6, rfl⟩ := own_slice own5
    have TY5 := Ty.grown (Ty.on TY3 kA) ov neIniTest hg5
    have UY5 := Ty.grown (Ty.on UY3 kA) ov neIniTest hg5
    have k15 : On w1 w5 := On.grown (k13.alloc _) hg5 hblk
    have i5 := Own2.farT (u23.on kA) ov neIniThr neIniIns hg5
    have q5 := Own2.farT (u33.on kA) ov neIniRow neIniAtm hg5
    have UX5 : Bk w5 (w2.heap.size + 1) #[.string ⟨#[116]⟩, .slice b1 ini.length d1, .slice b2 thr.length d2, .int .i64 kk, .slice b3 any.length d3] := ⟨_, UY5⟩
    have HO5 : Hid _ := own5
    clear y0 y1 y2 y3 y4 yl yf own5 hg5 ov kA hblk UX3 TX3 TY3 UY3 RT3 RU3 K3 k13 u13 u23 u33 u1 u2 u3 k23
    have y0 := UX5.at (i := 0) rfl
    have y1 := UX5.at (i := 1) rfl
    have y2 := UX5.at (i := 2) rfl
    have y3 := UX5.at (i := 3) rfl
    have y4 := UX5.at (i := 4) rfl
    have yl := UX5.lt
    have yf := fun i => UX5.fr i
    go_upto_region 12 with fail
    obtain ⟨WX, hWX⟩ : ∃ WX, WX = w5.setCell ⟨w2.heap.size + 1, 1, none⟩ (.slice b6 (ini.length + 1) d6) := ⟨_, rfl⟩
    rw [← hWX]
    have TX : Bk WX w2.heap.size #[.string ⟨#[116]⟩, .slice a1 ini.length c1, .slice a2 thr.length c2, .int .i64 kk, .slice a3 any.length c3] := by rw [hWX]; exact Bk.far ⟨_, TY5⟩ (by omega) _ _
    have UX : Bk WX (w2.heap.size + 1) #[.string ⟨#[116]⟩, .slice b6 (ini.length + 1) d6, .slice b2 thr.length d2, .int .i64 kk, .slice b3 any.length d3] := by rw [hWX]; exact Bk.put (cs := [.string ⟨#[116]⟩, .slice b1 ini.length d1, .slice b2 thr.length d2, .int .i64 kk, .slice b3 any.length d3]) UX5 1 _
    have k1X : On w1 WX := by rw [hWX]; exact k15.setNew (by omega) _
    have KX : On w WX := k1.trans k1X
    have RT : TestRd WX (.agg #[.string ⟨#[116]⟩, .slice a1 ini.length c1, .slice a2 thr.length c2, .int .i64 kk, .slice a3 any.length c3]) ⟨⟨#[116]⟩, ini, thr, ⟨kk, any⟩⟩ := ⟨a1, c1, a2, c2, a3, c3, rfl, by show 1 ≤ _; decide, r1.on k1X, r2.on k1X, r3.on k1X⟩
    have hlen : (ini ++ [(⟨122, 1⟩ : InitT)]).length = ini.length + 1 := by simp
    have RU : TestRd WX (.agg #[.string ⟨#[116]⟩, .slice b6 (ini.length + 1) d6, .slice b2 thr.length d2, .int .i64 kk, .slice b3 any.length d3]) (turn2 ⟨⟨#[116]⟩, ini, thr, ⟨kk, any⟩⟩) := by
      refine ⟨b6, d6, b2, d2, b3, d3, by unfold turn2; simp only [hlen], by show 1 ≤ _; decide, ?_, ?_, ?_⟩
      · show Rd iniC 2 _ (.slice b6 (ini ++ [(⟨122, 1⟩ : InitT)]).length d6) (ini ++ [(⟨122, 1⟩ : InitT)])
        refine Rd.own (C := iniC) (k := 2) (fun _ => rfl) ?_ (base := w1.heap.size) (e := 33)
        rw [hWX, hlen, List.flatMap_append]
        exact own_setT HO5.out UY5 neIniTest 1 _
      · rw [hWX]; exact (Own2.setT i5 UY5 neThrTest neInsTest 1 _).rd (fun _ => rfl)
      · rw [hWX]; exact (Own2.setT q5 UY5 neRowTest neAtmTest 1 _).rd (fun _ => rfl)
    have HTU := H2
    clear hWX H2 y0 y1 y2 y3 y4 yl yf UX5 TY5 UY5 k15 HO5 i5 q5 r1 r2 r3 k1X hlen
    generalize turn2 ⟨⟨#[116]⟩, ini, thr, ⟨kk, any⟩⟩ = U at *
    have hS1 := fun W (k : On WX W) => psame_is ⟨⟨#[116]⟩, ini, thr, ⟨kk, any⟩⟩ U _ _ W (RT.on k) (RU.on k)
    have hS2 := fun W (k : On WX W) => psame_is U ⟨⟨#[116]⟩, ini, thr, ⟨kk, any⟩⟩ _ _ W (RU.on k) (RT.on k)
    have hT1 := fun W (k : On WX W) => ptest_is ⟨⟨#[116]⟩, ini, thr, ⟨kk, any⟩⟩ _ W (LWx.out.on (KX.trans k)) (RT.on k) HTok.out HTb.out HTl.out
    have hT2 := fun W (k : On WX W) => ptest_is U _ W (LWx.out.on (KX.trans k)) (RU.on k) HTU.ok HTU.b HTU.len
    have hP2 := fun W (k : On WX W) => rprint_is U _ W (RU.on k) HTU.ok HTU.b HTU.len
    have hA := fun W (k : On WX W) => hAw W (KX.trans k)
    rw [HTU.ne1] at hS1
    rw [HTU.ne2] at hS2
    have hXY := HTU.txt
    obtain ⟨X, hX⟩ : ∃ X : ByteArray, X = ⟨(textL ⟨⟨#[116]⟩, ini, thr, ⟨kk, any⟩⟩).toArray⟩ := ⟨_, rfl⟩
    obtain ⟨Y, hY⟩ : ∃ Y : ByteArray, Y = ⟨(textL U).toArray⟩ := ⟨_, rfl⟩
    rw [← hX] at hT1 hXY
    rw [← hY] at hT2 hP2 hXY
    have hXY2 : (X.toList == Y.toList) = false := by
      rw [bne] at hXY
      simpa using hXY
    have hXY3 : ¬ X.toList = Y.toList := by simpa using hXY2
    clear hX hY HTU RT RU hAw
    have hon : ∀ W W', On WX W → On W W' → On WX W' := fun W W' h k => h.trans k
    have K0 : On WX WX.drew := On.drew (On.refl WX)
    refine region_fin (fun W => On WX W) 99 28 (by kernel_rfl) rfl ?_
    refine fin_take 0 (v := ?_) rfl (by kernel_rfl) (by kernel_rfl) (by kernel_rfl) (by kernel_rfl) (fun _ _ _ h => h) rfl ?_ K0 ?_
    rotate_left
    · intro W hW
      have f0 := (TX.on hW).at (i := 0) rfl
      have f1 := (TX.on hW).at (i := 1) rfl
      have f2 := (TX.on hW).at (i := 2) rfl
      have f3 := (TX.on hW).at (i := 3) rfl
      have f4 := (TX.on hW).at (i := 4) rfl
      have fl := (TX.on hW).lt
      go_simp
      (try with_reducible rfl)
    simp only [Act.put, List.setIfInBounds_toArray, List.set_cons_zero, List.set_cons_succ]
    refine fin_take 1 (v := ?_) rfl (by kernel_rfl) (by kernel_rfl) (by kernel_rfl) (by kernel_rfl) (fun _ _ _ h => h) rfl ?_ K0 ?_
    rotate_left
    · intro W hW
      have f0 := (UX.on hW).at (i := 0) rfl
      have f1 := (UX.on hW).at (i := 1) rfl
      have f2 := (UX.on hW).at (i := 2) rfl
      have f3 := (UX.on hW).at (i := 3) rfl
      have f4 := (UX.on hW).at (i := 4) rfl
      have fl := (UX.on hW).lt
      go_simp
      (try with_reducible rfl)
    simp only [Act.put, List.setIfInBounds_toArray, List.set_cons_zero, List.set_cons_succ]
    refine fin_one 2 rfl rfl (by kernel_rfl) (fun K hK => ?_)
    go_simp
    refine (hS1 _ K0).mono ?_
    rintro _ w1 ⟨rfl, kw1⟩
    have Sw1 := hon _ _ K0 kw1
    have Kw1 := K0.trans kw1
    refine hK.out _ _ (fun _ => Sw1) ?_
    clear hK
    refine fin_take 3 (v := ?_) rfl (by kernel_rfl) (by kernel_rfl) (by kernel_rfl) (by kernel_rfl) (fun _ _ _ h => h) rfl ?_ Sw1 ?_
    rotate_left
    · intro W hW
      go_simp
      (try with_reducible rfl)
    simp only [Act.put, List.setIfInBounds_toArray, List.set_cons_zero, List.set_cons_succ]
    refine fin_take 4 (v := ?_) rfl (by kernel_rfl) (by kernel_rfl) (by kernel_rfl) (by kernel_rfl) (fun _ _ _ h => h) rfl ?_ Sw1 ?_
    rotate_left
    · intro W hW
      go_simp
      (try with_reducible rfl)
    simp only [Act.put, List.setIfInBounds_toArray, List.set_cons_zero, List.set_cons_succ]
    refine fin_takeG 5 (v := ?_) rfl (by kernel_rfl) (by kernel_rfl) (by kernel_rfl) (by kernel_rfl) (fun _ _ _ h => h) (by rfl) ?_ Sw1 ?_
    rotate_left
    · intro W hW
      have f0 := (UX.on hW).at (i := 0) rfl
      have f1 := (UX.on hW).at (i := 1) rfl
      have f2 := (UX.on hW).at (i := 2) rfl
      have f3 := (UX.on hW).at (i := 3) rfl
      have f4 := (UX.on hW).at (i := 4) rfl
      have fl := (UX.on hW).lt
      go_simp
      (try with_reducible rfl)
    simp only [Act.put, List.setIfInBounds_toArray, List.set_cons_zero, List.set_cons_succ]
    refine fin_takeG 6 (v := ?_) rfl (by kernel_rfl) (by kernel_rfl) (by kernel_rfl) (by kernel_rfl) (fun _ _ _ h => h) (by rfl) ?_ Sw1 ?_
    rotate_left
    · intro W hW
      have f0 := (TX.on hW).at (i := 0) rfl
      have f1 := (TX.on hW).at (i := 1) rfl
      have f2 := (TX.on hW).at (i := 2) rfl
      have f3 := (TX.on hW).at (i := 3) rfl
      have f4 := (TX.on hW).at (i := 4) rfl
      have fl := (TX.on hW).lt
      go_simp
      (try with_reducible rfl)
    simp only [Act.put, List.setIfInBounds_toArray, List.set_cons_zero, List.set_cons_succ]
    refine fin_oneG 7 rfl (by rfl) (by kernel_rfl) (fun K hK => ?_)
    go_simp
    refine (hS2 _ Kw1).mono ?_
    rintro _ w2 ⟨rfl, kw2⟩
    have Sw2 := hon _ _ Sw1 kw2
    have Kw2 := Kw1.trans kw2
    refine hK.out _ _ (fun _ => Sw2) ?_
    clear hK
    refine fin_takeG 8 (v := ?_) rfl (by kernel_rfl) (by kernel_rfl) (by kernel_rfl) (by kernel_rfl) (fun _ _ _ h => h) (by rfl) ?_ Sw2 ?_
    rotate_left
    · intro W hW
      go_simp
      (try with_reducible rfl)
    simp only [Act.put, List.setIfInBounds_toArray, List.set_cons_zero, List.set_cons_succ]
    refine fin_take 9 (v := ?_) rfl (by kernel_rfl) (by kernel_rfl) (by kernel_rfl) (by kernel_rfl) (fun _ _ _ h => h) rfl ?_ Sw2 ?_
    rotate_left
    · intro W hW
      go_simp
      (try with_reducible rfl)
    simp only [Act.put, List.setIfInBounds_toArray, List.set_cons_zero, List.set_cons_succ]
    refine fin_take 10 (v := ?_) rfl (by kernel_rfl) (by kernel_rfl) (by kernel_rfl) (by kernel_rfl) (fun _ _ _ h => h) rfl ?_ Sw2 ?_
    rotate_left
    · intro W hW
      go_simp
      (try with_reducible rfl)
    simp only [Act.put, List.setIfInBounds_toArray, List.set_cons_zero, List.set_cons_succ]
    refine fin_takeG 11 (v := ?_) rfl (by kernel_rfl) (by kernel_rfl) (by kernel_rfl) (by kernel_rfl) (fun _ _ _ h => h) (by rfl) ?_ Sw2 ?_
    rotate_left
    · intro W hW
      have f0 := (TX.on hW).at (i := 0) rfl
      have f1 := (TX.on hW).at (i := 1) rfl
      have f2 := (TX.on hW).at (i := 2) rfl
      have f3 := (TX.on hW).at (i := 3) rfl
      have f4 := (TX.on hW).at (i := 4) rfl
      have fl := (TX.on hW).lt
      go_simp
      (try with_reducible rfl)
    simp only [Act.put, List.setIfInBounds_toArray, List.set_cons_zero, List.set_cons_succ]
    refine fin_takeG 13 (v := ?_) rfl (by kernel_rfl) (by kernel_rfl) (by kernel_rfl) (by kernel_rfl) (fun _ _ _ h => h) (by rfl) ?_ Sw2 ?_
    rotate_left
    · intro W hW
      have f0 := (UX.on hW).at (i := 0) rfl
      have f1 := (UX.on hW).at (i := 1) rfl
      have f2 := (UX.on hW).at (i := 2) rfl
      have f3 := (UX.on hW).at (i := 3) rfl
      have f4 := (UX.on hW).at (i := 4) rfl
      have fl := (UX.on hW).lt
      go_simp
      (try with_reducible rfl)
    simp only [Act.put, List.setIfInBounds_toArray, List.set_cons_zero, List.set_cons_succ]
    refine fin_oneG 12 rfl (by rfl) (by kernel_rfl) (fun K hK => ?_)
    go_simp
    refine (hT1 _ Kw2).mono ?_
    rintro _ w3 ⟨rfl, kw3⟩
    have Sw3 := hon _ _ Sw2 kw3
    have Kw3 := Kw2.trans kw3
    refine hK.out _ _ (fun _ => Sw3) ?_
    clear hK
    refine fin_oneG 14 rfl (by rfl) (by kernel_rfl) (fun K hK => ?_)
    go_simp
    refine (hT2 _ Kw3).mono ?_
    rintro _ w4 ⟨rfl, kw4⟩
    have Sw4 := hon _ _ Sw3 kw4
    have Kw4 := Kw3.trans kw4
    refine hK.out _ _ (fun _ => Sw4) ?_
    clear hK
    refine fin_takeG 15 (v := ?_) rfl (by kernel_rfl) (by kernel_rfl) (by kernel_rfl) (by kernel_rfl) (fun _ _ _ h => h) (by rfl) ?_ Sw4 ?_
    rotate_left
    · intro W hW
      go_simp
      (try with_reducible rfl)
    simp only [Act.put, List.setIfInBounds_toArray, List.set_cons_zero, List.set_cons_succ]
    refine fin_take 16 (v := ?_) rfl (by kernel_rfl) (by kernel_rfl) (by kernel_rfl) (by kernel_rfl) (fun _ _ _ h => h) rfl ?_ Sw4 ?_
    rotate_left
    · intro W hW
      go_simp
      (try with_reducible rfl)
    simp only [Act.put, List.setIfInBounds_toArray, List.set_cons_zero, List.set_cons_succ]
    refine fin_take 17 (v := ?_) rfl (by kernel_rfl) (by kernel_rfl) (by kernel_rfl) (by kernel_rfl) (fun _ _ _ h => h) rfl ?_ Sw4 ?_
    rotate_left
    · intro W hW
      go_simp
      (try with_reducible rfl)
    simp only [Act.put, List.setIfInBounds_toArray, List.set_cons_zero, List.set_cons_succ]
    refine fin_takeG 18 (v := ?_) rfl (by kernel_rfl) (by kernel_rfl) (by kernel_rfl) (by kernel_rfl) (fun _ _ _ h => h) (by rfl) ?_ Sw4 ?_
    rotate_left
    · intro W hW
      have f0 := (UX.on hW).at (i := 0) rfl
      have f1 := (UX.on hW).at (i := 1) rfl
      have f2 := (UX.on hW).at (i := 2) rfl
      have f3 := (UX.on hW).at (i := 3) rfl
      have f4 := (UX.on hW).at (i := 4) rfl
      have fl := (UX.on hW).lt
      go_simp
      (try with_reducible rfl)
    simp only [Act.put, List.setIfInBounds_toArray, List.set_cons_zero, List.set_cons_succ]
    refine fin_takeG 20 (v := ?_) rfl (by kernel_rfl) (by kernel_rfl) (by kernel_rfl) (by kernel_rfl) (fun _ _ _ h => h) (by rfl) ?_ Sw4 ?_
    rotate_left
    · intro W hW
      have f0 := (UX.on hW).at (i := 0) rfl
      have f1 := (UX.on hW).at (i := 1) rfl
      have f2 := (UX.on hW).at (i := 2) rfl
      have f3 := (UX.on hW).at (i := 3) rfl
      have f4 := (UX.on hW).at (i := 4) rfl
      have fl := (UX.on hW).lt
      go_simp
      (try with_reducible rfl)
    simp only [Act.put, List.setIfInBounds_toArray, List.set_cons_zero, List.set_cons_succ]
    refine fin_oneG 19 rfl (by rfl) (by kernel_rfl) (fun K hK => ?_)
    go_simp
    refine (hP2 _ Kw4).mono ?_
    rintro _ w5 ⟨rfl, kw5⟩
    have Sw5 := hon _ _ Sw4 kw5
    have Kw5 := Kw4.trans kw5
    refine hK.out _ _ (fun _ => Sw5) ?_
    clear hK
    refine fin_oneG 21 rfl (by rfl) (by kernel_rfl) (fun K hK => ?_)
    go_simp
    refine (hT2 _ Kw5).mono ?_
    rintro _ w6 ⟨rfl, kw6⟩
    have Sw6 := hon _ _ Sw5 kw6
    have Kw6 := Kw5.trans kw6
    refine hK.out _ _ (fun _ => Sw6) ?_
    clear hK
    refine fin_takeG 22 (v := ?_) rfl (by kernel_rfl) (by kernel_rfl) (by kernel_rfl) (by kernel_rfl) (fun _ _ _ h => h) (by rfl) ?_ Sw6 ?_
    rotate_left
    · intro W hW
      go_simp
      (try with_reducible rfl)
    simp only [Act.put, List.setIfInBounds_toArray, List.set_cons_zero, List.set_cons_succ]
    refine fin_take 23 (v := ?_) rfl (by kernel_rfl) (by kernel_rfl) (by kernel_rfl) (by kernel_rfl) (fun _ _ _ h => h) rfl ?_ Sw6 ?_
    rotate_left
    · intro W hW
      go_simp
      (try with_reducible rfl)
    simp only [Act.put, List.setIfInBounds_toArray, List.set_cons_zero, List.set_cons_succ]
    refine fin_take 24 (v := ?_) rfl (by kernel_rfl) (by kernel_rfl) (by kernel_rfl) (by kernel_rfl) (fun _ _ _ h => h) rfl ?_ Sw6 ?_
    rotate_left
    · intro W hW
      go_simp
      (try with_reducible rfl)
    simp only [Act.put, List.setIfInBounds_toArray, List.set_cons_zero, List.set_cons_succ]
    refine fin_oneG 25 rfl (by rfl) (by kernel_rfl) (fun K hK => ?_)
    go_simp
    refine (hA _ Kw6).mono ?_
    rintro _ w7 ⟨rfl, kw7⟩
    have Sw7 := hon _ _ Sw6 kw7
    have Kw7 := Kw6.trans kw7
    refine hK.out _ _ (fun _ => Sw7) ?_
    clear hK
    refine fin_take 26 (v := ?_) rfl (by kernel_rfl) (by kernel_rfl) (by kernel_rfl) (by kernel_rfl) (fun _ _ _ h => h) rfl ?_ Sw7 ?_
    rotate_left
    · intro W hW
      go_simp
      (try with_reducible rfl)
    simp only [Act.put, List.setIfInBounds_toArray, List.set_cons_zero, List.set_cons_succ]
    refine fin_take 27 (v := ?_) rfl (by kernel_rfl) (by kernel_rfl) (by kernel_rfl) (by kernel_rfl) (fun _ _ _ h => h) rfl ?_ Sw7 ?_
    rotate_left
    · intro W hW
      go_simp
      (try with_reducible rfl)
    simp only [Act.put, List.setIfInBounds_toArray, List.set_cons_zero, List.set_cons_succ]
    refine fin_done (by kernel_rfl) (NoPanic.normal ?_)
    go_wp2
    go_ret
    exact ⟨rfl, KX.trans Kw7⟩
  · clear H0 H1 H2
    have yl1 : w2.heap.size + 1 < w3.heap.size + 1 := by omega
    have yl2 : w2.heap.size + 1 < w3.heap.size + 1 + 1 := by omega
    go_upto_region 12 with fail
    obtain ⟨V3, hV3⟩ : ∃ V3, V3 = (w3.setCell ⟨w2.heap.size + 1, 3, none⟩ (.int .i64 1)).setCell ⟨w2.heap.size + 1, 4, none⟩ (.slice (some ⟨w3.heap.size + 1, 0, none⟩) 1 1) := ⟨_, rfl⟩
    have hs3 : V3.heap.size = w3.heap.size := by rw [hV3, size_set, size_set]
    have TV3 : Bk V3 w2.heap.size #[.string ⟨#[116]⟩, .slice a1 ini.length c1, .slice a2 thr.length c2, .int .i64 kk, .slice a3 any.length c3] := by rw [hV3]; exact (TX3.far (by omega) _ _).far (by omega) _ _
    have UV3 : Bk V3 (w2.heap.size + 1) #[.string ⟨#[116]⟩, .slice b1 ini.length d1, .slice b2 thr.length d2, .int .i64 1, .slice (some ⟨w3.heap.size + 1, 0, none⟩) 1 1] := by rw [hV3]; exact Bk.puts [.int .i64 1, .slice (some ⟨w3.heap.size + 1, 0, none⟩) 1 1] w3 [.string ⟨#[116]⟩, .slice b1 ini.length d1, .slice b2 thr.length d2, .int .i64 kk, .slice b3 any.length d3] 3 UX3
    have k1V : On w1 V3 := by rw [hV3]; exact (k13.setNew (by omega) _).setNew (by omega) _
    have k2V : On w2 V3 := by rw [hV3]; exact (k23.setNew (by omega) _).setNew (by omega) _
    rw [← hV3]
    obtain ⟨WX, hWX⟩ : ∃ WX, WX = (V3.alloc (.cells #[.int .i64 (-1), .int .i64 0, .int .i64 113, .int .i64 77] 35)).alloc (.cells #[.slice (some ⟨w3.heap.size, 0, none⟩) 1 1] 36) := ⟨_, rfl⟩
    rw [← hWX]
    have kVX : On V3 WX := by rw [hWX]; exact ((On.refl V3).alloc _).alloc _
    have TX := TV3.on kVX
    have UX := UV3.on kVX
    have BA : Bk WX w3.heap.size ([(⟨-1, 0, 113, 77⟩ : AtomT)].flatMap atomC).toArray := by rw [hWX]; exact Bk.alloc (by rw [← hs3]; exact Bk.new V3 _ _) _
    have BB : Bk WX (w3.heap.size + 1) #[.slice (some ⟨w3.heap.size, 0, none⟩) 1 1] := by
      rw [hWX, ← hs3]
      have := Bk.new (V3.alloc (.cells #[.int .i64 (-1), .int .i64 0, .int .i64 113, .int .i64 77] 35)) #[.slice (some ⟨V3.heap.size, 0, none⟩) 1 1] 36
      rwa [World.size_alloc] at this
    have RQ : Rd2 atomC 4 WX (.slice (some ⟨w3.heap.size + 1, 0, none⟩) 1 1) [[⟨-1, 0, 113, 77⟩]] := Rd2.one (n := 1) rfl BB (Rd.bk (C := atomC) (k := 4) (fun _ => rfl) (L := [⟨-1, 0, 113, 77⟩]) BA 1 (by decide) (by decide))
    have k1X := k1V.trans kVX
    have k2X := k2V.trans kVX
    have KX : On w WX := k1.trans k1X
    have RT : TestRd WX (.agg #[.string ⟨#[116]⟩, .slice a1 ini.length c1, .slice a2 thr.length c2, .int .i64 kk, .slice a3 any.length c3]) ⟨⟨#[116]⟩, ini, thr, ⟨kk, any⟩⟩ := ⟨a1, c1, a2, c2, a3, c3, rfl, by show 1 ≤ _; decide, r1.on k1X, r2.on k1X, r3.on k1X⟩
    have RU : TestRd WX (.agg #[.string ⟨#[116]⟩, .slice b1 ini.length d1, .slice b2 thr.length d2, .int .i64 1, .slice (some ⟨w3.heap.size + 1, 0, none⟩) 1 1]) (turn3 ⟨⟨#[116]⟩, ini, thr, ⟨kk, any⟩⟩) := ⟨b1, d1, b2, d2, _, 1, rfl, by show 1 ≤ _; decide, (Rd.own (C := iniC) (k := 2) (fun _ => rfl) u1).on k2X, (u2.rd (C := insC) (k := 9) (fun _ => rfl)).on k2X, RQ⟩
    have HTU := H3
    clear hWX hV3 H3 y0 y1 y2 y3 y4 yl yf yl1 yl2 TX3 UX3 TY3 UY3 RT3 RU3 K3 k13 u13 u23 u33 r1 r2 r3 u1 u2 u3 k1X k2X k23 TV3 UV3 k1V k2V kVX BA BB RQ hs3
    generalize turn3 ⟨⟨#[116]⟩, ini, thr, ⟨kk, any⟩⟩ = U at *
    have hS1 := fun W (k : On WX W) => psame_is ⟨⟨#[116]⟩, ini, thr, ⟨kk, any⟩⟩ U _ _ W (RT.on k) (RU.on k)
    have hS2 := fun W (k : On WX W) => psame_is U ⟨⟨#[116]⟩, ini, thr, ⟨kk, any⟩⟩ _ _ W (RU.on k) (RT.on k)
    have hT1 := fun W (k : On WX W) => ptest_is ⟨⟨#[116]⟩, ini, thr, ⟨kk, any⟩⟩ _ W (LWx.out.on (KX.trans k)) (RT.on k) HTok.out HTb.out HTl.out
    have hT2 := fun W (k : On WX W) => ptest_is U _ W (LWx.out.on (KX.trans k)) (RU.on k) HTU.ok HTU.b HTU.len
    have hP2 := fun W (k : On WX W) => rprint_is U _ W (RU.on k) HTU.ok HTU.b HTU.len
    have hA := fun W (k : On WX W) => hAw W (KX.trans k)
    rw [HTU.ne1] at hS1
    rw [HTU.ne2] at hS2
    have hXY := HTU.txt
    obtain ⟨X, hX⟩ : ∃ X : ByteArray, X = ⟨(textL ⟨⟨#[116]⟩, ini, thr, ⟨kk, any⟩⟩).toArray⟩ := ⟨_, rfl⟩
    obtain ⟨Y, hY⟩ : ∃ Y : ByteArray, Y = ⟨(textL U).toArray⟩ := ⟨_, rfl⟩
    rw [← hX] at hT1 hXY
    rw [← hY] at hT2 hP2 hXY
    have hXY2 : (X.toList == Y.toList) = false := by
      rw [bne] at hXY
      simpa using hXY
    have hXY3 : ¬ X.toList = Y.toList := by simpa using hXY2
    clear hX hY HTU RT RU hAw
    have hon : ∀ W W', On WX W → On W W' → On WX W' := fun W W' h k => h.trans k
    have K0 : On WX WX.drew := On.drew (On.refl WX)
    refine region_fin (fun W => On WX W) 99 28 (by kernel_rfl) rfl ?_
    refine fin_take 0 (v := ?_) rfl (by kernel_rfl) (by kernel_rfl) (by kernel_rfl) (by kernel_rfl) (fun _ _ _ h => h) rfl ?_ K0 ?_
    rotate_left
    · intro W hW
      have f0 := (TX.on hW).at (i := 0) rfl
      have f1 := (TX.on hW).at (i := 1) rfl
      have f2 := (TX.on hW).at (i := 2) rfl
      have f3 := (TX.on hW).at (i := 3) rfl
      have f4 := (TX.on hW).at (i := 4) rfl
      have fl := (TX.on hW).lt
      go_simp
      (try with_reducible rfl)
    simp only [Act.put, List.setIfInBounds_toArray, List.set_cons_zero, List.set_cons_succ]
    refine fin_take 1 (v := ?_) rfl (by kernel_rfl) (by kernel_rfl) (by kernel_rfl) (by kernel_rfl) (fun _ _ _ h => h) rfl ?_ K0 ?_
    rotate_left
    · intro W hW
      have f0 := (UX.on hW).at (i := 0) rfl
      have f1 := (UX.on hW).at (i := 1) rfl
      have f2 := (UX.on hW).at (i := 2) rfl
      have f3 := (UX.on hW).at (i := 3) rfl
      have f4 := (UX.on hW).at (i := 4) rfl
      have fl := (UX.on hW).lt
      go_simp
      (try with_reducible rfl)
    simp only [Act.put, List.setIfInBounds_toArray, List.set_cons_zero, List.set_cons_succ]
    refine fin_one 2 rfl rfl (by kernel_rfl) (fun K hK => ?_)
    go_simp
    refine (hS1 _ K0).mono ?_
    rintro _ w1 ⟨rfl, kw1⟩
    have Sw1 := hon _ _ K0 kw1
    have Kw1 := K0.trans kw1
    refine hK.out _ _ (fun _ => Sw1) ?_
    clear hK
    refine fin_take 3 (v := ?_) rfl (by kernel_rfl) (by kernel_rfl) (by kernel_rfl) (by kernel_rfl) (fun _ _ _ h => h) rfl ?_ Sw1 ?_
    rotate_left
    · intro W hW
      go_simp
      (try with_reducible rfl)
    simp only [Act.put, List.setIfInBounds_toArray, List.set_cons_zero, List.set_cons_succ]
    refine fin_take 4 (v := ?_) rfl (by kernel_rfl) (by kernel_rfl) (by kernel_rfl) (by kernel_rfl) (fun _ _ _ h => h) rfl ?_ Sw1 ?_
    rotate_left
    · intro W hW
      go_simp
      (try with_reducible rfl)
    simp only [Act.put, List.setIfInBounds_toArray, List.set_cons_zero, List.set_cons_succ]
    refine fin_takeG 5 (v := ?_) rfl (by kernel_rfl) (by kernel_rfl) (by kernel_rfl) (by kernel_rfl) (fun _ _ _ h => h) (by rfl) ?_ Sw1 ?_
    rotate_left
    · intro W hW
      have f0 := (UX.on hW).at (i := 0) rfl
      have f1 := (UX.on hW).at (i := 1) rfl
      have f2 := (UX.on hW).at (i := 2) rfl
      have f3 := (UX.on hW).at (i := 3) rfl
      have f4 := (UX.on hW).at (i := 4) rfl
      have fl := (UX.on hW).lt
      go_simp
      (try with_reducible rfl)
    simp only [Act.put, List.setIfInBounds_toArray, List.set_cons_zero, List.set_cons_succ]
    refine fin_takeG 6 (v := ?_) rfl (by kernel_rfl) (by kernel_rfl) (by kernel_rfl) (by kernel_rfl) (fun _ _ _ h => h) (by rfl) ?_ Sw1 ?_
    rotate_left
    · intro W hW
      have f0 := (TX.on hW).at (i := 0) rfl
      have f1 := (TX.on hW).at (i := 1) rfl
      have f2 := (TX.on hW).at (i := 2) rfl
      have f3 := (TX.on hW).at (i := 3) rfl
      have f4 := (TX.on hW).at (i := 4) rfl
      have fl := (TX.on hW).lt
      go_simp
      (try with_reducible rfl)
    simp only [Act.put, List.setIfInBounds_toArray, List.set_cons_zero, List.set_cons_succ]
    refine fin_oneG 7 rfl (by rfl) (by kernel_rfl) (fun K hK => ?_)
    go_simp
    refine (hS2 _ Kw1).mono ?_
    rintro _ w2 ⟨rfl, kw2⟩
    have Sw2 := hon _ _ Sw1 kw2
    have Kw2 := Kw1.trans kw2
    refine hK.out _ _ (fun _ => Sw2) ?_
    clear hK
    refine fin_takeG 8 (v := ?_) rfl (by kernel_rfl) (by kernel_rfl) (by kernel_rfl) (by kernel_rfl) (fun _ _ _ h => h) (by rfl) ?_ Sw2 ?_
    rotate_left
    · intro W hW
      go_simp
      (try with_reducible rfl)
    simp only [Act.put, List.setIfInBounds_toArray, List.set_cons_zero, List.set_cons_succ]
    refine fin_take 9 (v := ?_) rfl (by kernel_rfl) (by kernel_rfl) (by kernel_rfl) (by kernel_rfl) (fun _ _ _ h => h) rfl ?_ Sw2 ?_
    rotate_left
    · intro W hW
      go_simp
      (try with_reducible rfl)
    simp only [Act.put, List.setIfInBounds_toArray, List.set_cons_zero, List.set_cons_succ]
    refine fin_take 10 (v := ?_) rfl (by kernel_rfl) (by kernel_rfl) (by kernel_rfl) (by kernel_rfl) (fun _ _ _ h => h) rfl ?_ Sw2 ?_
    rotate_left
    · intro W hW
      go_simp
      (try with_reducible rfl)
    simp only [Act.put, List.setIfInBounds_toArray, List.set_cons_zero, List.set_cons_succ]
    refine fin_takeG 11 (v := ?_) rfl (by kernel_rfl) (by kernel_rfl) (by kernel_rfl) (by kernel_rfl) (fun _ _ _ h => h) (by rfl) ?_ Sw2 ?_
    rotate_left
    · intro W hW
      have f0 := (TX.on hW).at (i := 0) rfl
      have f1 := (TX.on hW).at (i := 1) rfl
      have f2 := (TX.on hW).at (i := 2) rfl
      have f3 := (TX.on hW).at (i := 3) rfl
      have f4 := (TX.on hW).at (i := 4) rfl
      have fl := (TX.on hW).lt
      go_simp
      (try with_reducible rfl)
    simp only [Act.put, List.setIfInBounds_toArray, List.set_cons_zero, List.set_cons_succ]
    refine fin_takeG 13 (v := ?_) rfl (by kernel_rfl) (by kernel_rfl) (by kernel_rfl) (by kernel_rfl) (fun _ _ _ h => h) (by rfl) ?_ Sw2 ?_
    rotate_left
    · intro W hW
      have f0 := (UX.on hW).at (i := 0) rfl
      have f1 := (UX.on hW).at (i := 1) rfl
      have f2 := (UX.on hW).at (i := 2) rfl
      have f3 := (UX.on hW).at (i := 3) rfl
      have f4 := (UX.on hW).at (i := 4) rfl
      have fl := (UX.on hW).lt
      go_simp
      (try with_reducible rfl)
    simp only [Act.put, List.setIfInBounds_toArray, List.set_cons_zero, List.set_cons_succ]
    refine fin_oneG 12 rfl (by rfl) (by kernel_rfl) (fun K hK => ?_)
    go_simp
    refine (hT1 _ Kw2).mono ?_
    rintro _ w3 ⟨rfl, kw3⟩
    have Sw3 := hon _ _ Sw2 kw3
    have Kw3 := Kw2.trans kw3
    refine hK.out _ _ (fun _ => Sw3) ?_
    clear hK
    refine fin_oneG 14 rfl (by rfl) (by kernel_rfl) (fun K hK => ?_)
    go_simp
    refine (hT2 _ Kw3).mono ?_
    rintro _ w4 ⟨rfl, kw4⟩
    have Sw4 := hon _ _ Sw3 kw4
    have Kw4 := Kw3.trans kw4
    refine hK.out _ _ (fun _ => Sw4) ?_
    clear hK
    refine fin_takeG 15 (v := ?_) rfl (by kernel_rfl) (by kernel_rfl) (by kernel_rfl) (by kernel_rfl) (fun _ _ _ h => h) (by rfl) ?_ Sw4 ?_
    rotate_left
    · intro W hW
      go_simp
      (try with_reducible rfl)
    simp only [Act.put, List.setIfInBounds_toArray, List.set_cons_zero, List.set_cons_succ]
    refine fin_take 16 (v := ?_) rfl (by kernel_rfl) (by kernel_rfl) (by kernel_rfl) (by kernel_rfl) (fun _ _ _ h => h) rfl ?_ Sw4 ?_
    rotate_left
    · intro W hW
      go_simp
      (try with_reducible rfl)
    simp only [Act.put, List.setIfInBounds_toArray, List.set_cons_zero, List.set_cons_succ]
    refine fin_take 17 (v := ?_) rfl (by kernel_rfl) (by kernel_rfl) (by kernel_rfl) (by kernel_rfl) (fun _ _ _ h => h) rfl ?_ Sw4 ?_
    rotate_left
    · intro W hW
      go_simp
      (try with_reducible rfl)
    simp only [Act.put, List.setIfInBounds_toArray, List.set_cons_zero, List.set_cons_succ]
    refine fin_takeG 18 (v := ?_) rfl (by kernel_rfl) (by kernel_rfl) (by kernel_rfl) (by kernel_rfl) (fun _ _ _ h => h) (by rfl) ?_ Sw4 ?_
    rotate_left
    · intro W hW
      have f0 := (UX.on hW).at (i := 0) rfl
      have f1 := (UX.on hW).at (i := 1) rfl
      have f2 := (UX.on hW).at (i := 2) rfl
      have f3 := (UX.on hW).at (i := 3) rfl
      have f4 := (UX.on hW).at (i := 4) rfl
      have fl := (UX.on hW).lt
      go_simp
      (try with_reducible rfl)
    simp only [Act.put, List.setIfInBounds_toArray, List.set_cons_zero, List.set_cons_succ]
    refine fin_takeG 20 (v := ?_) rfl (by kernel_rfl) (by kernel_rfl) (by kernel_rfl) (by kernel_rfl) (fun _ _ _ h => h) (by rfl) ?_ Sw4 ?_
    rotate_left
    · intro W hW
      have f0 := (UX.on hW).at (i := 0) rfl
      have f1 := (UX.on hW).at (i := 1) rfl
      have f2 := (UX.on hW).at (i := 2) rfl
      have f3 := (UX.on hW).at (i := 3) rfl
      have f4 := (UX.on hW).at (i := 4) rfl
      have fl := (UX.on hW).lt
      go_simp
      (try with_reducible rfl)
    simp only [Act.put, List.setIfInBounds_toArray, List.set_cons_zero, List.set_cons_succ]
    refine fin_oneG 19 rfl (by rfl) (by kernel_rfl) (fun K hK => ?_)
    go_simp
    refine (hP2 _ Kw4).mono ?_
    rintro _ w5 ⟨rfl, kw5⟩
    have Sw5 := hon _ _ Sw4 kw5
    have Kw5 := Kw4.trans kw5
    refine hK.out _ _ (fun _ => Sw5) ?_
    clear hK
    refine fin_oneG 21 rfl (by rfl) (by kernel_rfl) (fun K hK => ?_)
    go_simp
    refine (hT2 _ Kw5).mono ?_
    rintro _ w6 ⟨rfl, kw6⟩
    have Sw6 := hon _ _ Sw5 kw6
    have Kw6 := Kw5.trans kw6
    refine hK.out _ _ (fun _ => Sw6) ?_
    clear hK
    refine fin_takeG 22 (v := ?_) rfl (by kernel_rfl) (by kernel_rfl) (by kernel_rfl) (by kernel_rfl) (fun _ _ _ h => h) (by rfl) ?_ Sw6 ?_
    rotate_left
    · intro W hW
      go_simp
      (try with_reducible rfl)
    simp only [Act.put, List.setIfInBounds_toArray, List.set_cons_zero, List.set_cons_succ]
    refine fin_take 23 (v := ?_) rfl (by kernel_rfl) (by kernel_rfl) (by kernel_rfl) (by kernel_rfl) (fun _ _ _ h => h) rfl ?_ Sw6 ?_
    rotate_left
    · intro W hW
      go_simp
      (try with_reducible rfl)
    simp only [Act.put, List.setIfInBounds_toArray, List.set_cons_zero, List.set_cons_succ]
    refine fin_take 24 (v := ?_) rfl (by kernel_rfl) (by kernel_rfl) (by kernel_rfl) (by kernel_rfl) (fun _ _ _ h => h) rfl ?_ Sw6 ?_
    rotate_left
    · intro W hW
      go_simp
      (try with_reducible rfl)
    simp only [Act.put, List.setIfInBounds_toArray, List.set_cons_zero, List.set_cons_succ]
    refine fin_oneG 25 rfl (by rfl) (by kernel_rfl) (fun K hK => ?_)
    go_simp
    refine (hA _ Kw6).mono ?_
    rintro _ w7 ⟨rfl, kw7⟩
    have Sw7 := hon _ _ Sw6 kw7
    have Kw7 := Kw6.trans kw7
    refine hK.out _ _ (fun _ => Sw7) ?_
    clear hK
    refine fin_take 26 (v := ?_) rfl (by kernel_rfl) (by kernel_rfl) (by kernel_rfl) (by kernel_rfl) (fun _ _ _ h => h) rfl ?_ Sw7 ?_
    rotate_left
    · intro W hW
      go_simp
      (try with_reducible rfl)
    simp only [Act.put, List.setIfInBounds_toArray, List.set_cons_zero, List.set_cons_succ]
    refine fin_take 27 (v := ?_) rfl (by kernel_rfl) (by kernel_rfl) (by kernel_rfl) (by kernel_rfl) (fun _ _ _ h => h) rfl ?_ Sw7 ?_
    rotate_left
    · intro W hW
      go_simp
      (try with_reducible rfl)
    simp only [Act.put, List.setIfInBounds_toArray, List.set_cons_zero, List.set_cons_succ]
    refine fin_done (by kernel_rfl) (NoPanic.normal ?_)
    go_wp2
    go_ret
    exact ⟨rfl, KX.trans Kw7⟩
end Go.Proofs.YtlfeihgemdicfaaDoor
