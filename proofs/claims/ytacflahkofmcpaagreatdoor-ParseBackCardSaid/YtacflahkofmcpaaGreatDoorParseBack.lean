/- ParseBack, walked: what the document prints is parsed to the same test, with more blanks, too. -/
import Derived.Test.YtacflahkofmcpaaGreatDoorBackE
import Derived.Test.YtacflahkofmcpaaGreatDoorStrP
import Derived.Test.YtacflahkofmcpaaGreatDoorWlSmallC
import Derived.Test.YtacflahkofmcpaaGreatDoorWlRSame
import Derived.Test.YtacflahkofmcpaaGreatDoorJ23WlSmallH
import Derived.Test.YtacflahkofmcpaaGreatDoorParseAwake
import Derived.Deep.DeepCutAuto
namespace Go.Proofs.YtacflahkofmcpaaGreatDoor.Wl
open Go.RowKit

theorem byte_get {P : ByteArray} {j : Nat} {c : UInt8} (h : P.data.toList[j]? = some c) (hj : j < P.size) : P[j] = c := by
  have := (List.getElem?_eq_some_iff.1 h).2
  exact this
theorem one_more {P Q : ByteArray} {j : Nat} {c : UInt8} (h : P.data.toList[j]? = some c) : (Q ++ P.extract j (j + 1)).data.toList = Q.data.toList ++ [c] := by
  rw [Go.Proofs.YtacflahkofmcpaaGreatDoor.list_append]
  congr 1
  rw [Go.Proofs.YtacflahkofmcpaaGreatDoor.cut_list]
  unfold Go.Proofs.YtacflahkofmcpaaGreatDoor.suf
  have hj := (List.getElem?_eq_some_iff.1 h).1
  rw [List.drop_eq_getElem_cons hj, (List.getElem?_eq_some_iff.1 h).2]
  rfl
theorem take_more {P : ByteArray} {j : Nat} {c : UInt8} (h : P.data.toList[j]? = some c) : P.data.toList.take (j + 1) = P.data.toList.take j ++ [c] := by
  rw [List.take_add_one, h]
  rfl
theorem ext_blank {P Q B : ByteArray} {j : Nat} (h : Ext (P.data.toList.take j) Q.data.toList) (hc : P.data.toList[j]? = some 32) (hB : blL B.data.toList) : Ext (P.data.toList.take (j + 1)) ((Q ++ P.extract j (j + 1)) ++ B).data.toList := by
  rw [take_more hc, Go.Proofs.YtacflahkofmcpaaGreatDoor.list_append, one_more hc, List.append_assoc]
  exact h.snoc hB (fun h => absurd rfl h)
theorem ext_plain1 {P Q : ByteArray} {j : Nat} {c : UInt8} (h : Ext (P.data.toList.take j) Q.data.toList) (hc : P.data.toList[j]? = some c) : Ext (P.data.toList.take (j + 1)) (Q ++ P.extract j (j + 1)).data.toList := by
  rw [take_more hc, one_more hc]
  exact h.snoc (fun _ hx => by cases hx) (fun _ => rfl)
set_option maxHeartbeats 8000000 in
set_option maxRecDepth 8000 in
theorem parseBack_walk (t : TestT) (vt : Value) (a : Option Addr) (zs : List Int) (cap : Nat) (how : Int) (w : World) (ht : TestRd w vt t) (hti : testI t ∧ testZ t) (hz : zs.length ≤ 9223372036854775807) (hr : Rd intC 1 w (.slice a zs.length cap) zs) (lw : Go.Proofs.YtacflahkofmcpaaGreatDoor.Lw w) :
    Calls Tryz.prog 3 #[vt, .slice a zs.length cap, .int .i64 how] w fun e w' => e = .returned (.bool true) ∧ On w w' := by
  obtain ⟨a1, c1, a2, c2, a3, c3, rfl, _⟩ := id ht.ex
  have hTL := testL_of ht hti.1
  have HB : Hid (t.thr.length ≤ 6 → t.ini.length ≤ 10 → t.name.size ≤ 50 → t.cond.any.length ≤ 10 → ∃ P, Says t P) := fun h1 h2 h3 h4 => says_of hTL fun _ => big_text hTL hti.2 h1 h2 h3 h4
  clear hTL hti
  obtain ⟨WX, hWX⟩ : ∃ WX, WX = w.alloc (.cells (tA t a1 c1 a2 c2 a3 c3) 28) := ⟨_, rfl⟩
  have KX : On w WX := by rw [hWX]; exact (On.refl w).alloc _
  have TY0 : WX.heap[w.heap.size]? = some (.cells (tA t a1 c1 a2 c2 a3 c3) 28 (0, 0)) := by rw [hWX]; exact heap_alloc_new w _
  have TX : Bk WX w.heap.size (tA t a1 c1 a2 c2 a3 c3) := ⟨_, TY0⟩
  have RX := ht.on KX
  have hA := fun W (k : On w W) => Go.Proofs.YtacflahkofmcpaaGreatDoor.awake_any W (lw.on k)
  have hS := fun W (k : On w W) => small_is zs a cap 8 W hz (hr.on k)
  have hsn : (smallP zs 8).name.size ≤ 9223372036854775807 := by show 1 ≤ _; decide
  obtain ⟨P1, hP1'⟩ := says_small zs 8
  have HP1 : Hid (Says (smallP zs 8) P1) := hP1'
  clear hP1'
  generalize smallP zs 8 = s at *
  go_enter Tryz.func3, Tryz.ntmps3
  go_upto_region 1 with fail
  rw [← hWX]
  clear hWX hr hz ht
  have x0 := TX.at (i := 0) rfl
  have x1 := TX.at (i := 1) rfl
  have x2 := TX.at (i := 2) rfl
  have x3 := TX.at (i := 3) rfl
  have x4 := TX.at (i := 4) rfl
  have xl := TX.lt
  by_cases g1 : 6 < t.thr.length
  · have d1 : decide (6 < t.thr.length) = true := decide_eq_true g1
    go_wp2_with fail
    refine (hA _ KX).mono ?_
    rintro _ wz ⟨rfl, kz⟩
    go_wp2
    go_ret
    exact ⟨rfl, KX.trans kz⟩
  have d1 : decide (6 < t.thr.length) = false := decide_eq_false g1
  by_cases g2 : 10 < t.ini.length
  · have d2 : decide (10 < t.ini.length) = true := decide_eq_true g2
    go_wp2_with fail
    refine (hA _ KX).mono ?_
    rintro _ wz ⟨rfl, kz⟩
    go_wp2
    go_ret
    exact ⟨rfl, KX.trans kz⟩
  have d2 : decide (10 < t.ini.length) = false := decide_eq_false g2
  by_cases g3 : 50 < t.name.size
  · have d3 : decide (50 < t.name.size) = true := decide_eq_true g3
    go_wp2_with fail
    refine (hA _ KX).mono ?_
    rintro _ wz ⟨rfl, kz⟩
    go_wp2
    go_ret
    exact ⟨rfl, KX.trans kz⟩
  have d3 : decide (50 < t.name.size) = false := decide_eq_false g3
  by_cases g4 : 10 < t.cond.any.length
  · have d4 : decide (10 < t.cond.any.length) = true := decide_eq_true g4
    go_wp2_with fail
    refine (hA _ KX).mono ?_
    rintro _ wz ⟨rfl, kz⟩
    go_wp2
    go_ret
    exact ⟨rfl, KX.trans kz⟩
  have d4 : decide (10 < t.cond.any.length) = false := decide_eq_false g4
  obtain ⟨P0, hP0'⟩ := HB.out (Nat.le_of_not_lt g1) (Nat.le_of_not_lt g2) (Nat.le_of_not_lt g3) (Nat.le_of_not_lt g4)
  have HP0 : Hid (Says t P0) := hP0'
  clear hP0' HB
  go_wp2_with fail
  refine (hS WX KX).mono ?_
  rintro _ w2 ⟨v1, rfl, ho, k2⟩
  clear x0 x1 x2 x3 x4 xl g1 g2 g3 g4 d1 d2 d3 d4
  have RS := TOwn.rdW ho hsn
  obtain ⟨b1, d1, b2, d2, b3, d3, rfl, _⟩ := id RS.ex
  clear RS hS
  obtain ⟨WY, hWY⟩ : ∃ WY, WY = w2.alloc (.cells (tA s b1 d1 b2 d2 b3 d3) 28) := ⟨_, rfl⟩
  have kY : On w2 WY := by rw [hWY]; exact (On.refl w2).alloc _
  have SY : Bk WY w2.heap.size (tA s b1 d1 b2 d2 b3 d3) := by rw [hWY]; exact Bk.new w2 _ _
  have hB0 : w.heap.size < w2.heap.size := Nat.lt_of_lt_of_le TX.lt k2.size
  have k1Y := k2.trans kY
  have TY := Ty.on TY0 k1Y
  have HO : Hid (TOwn WY WX.heap.size (.agg (tA s b1 d1 b2 d2 b3 d3)) s) := TOwn.onK ho kY
  have RTY := RX.on k1Y
  have KY := KX.trans k1Y
  clear TY0 TX ho kY k1Y RX
  go_upto_region 4 with fail
  rw [← hWY]
  clear hWY
  go_wp2
  go_loopg [8] 2 (fun gg s8 wr => ∃ i : Nat, i ≤ 2 ∧ gg = 2 - i ∧ s8 = .int .i64 i ∧ On w wr ∧ (i ≤ 1 → Hid (On WY wr)))
  case atStart => exact ⟨0, by omega, rfl, rfl, KY, fun _ => On.refl WY⟩
  case round =>
    obtain ⟨i, hi, hk, rfl, hKr, hYr⟩ := hrel
    obtain ⟨wo, hwo⟩ : ∃ wo, wo = wr := ⟨_, rfl⟩
    subst hwo
    rcases (by omega : i = 0 ∨ i = 1 ∨ i = 2) with rfl | rfl | rfl
    · have hY := (hYr (by omega)).out
      clear hYr
      have bk0 : Bk wo w.heap.size (tA t a1 c1 a2 c2 a3 c3) := ⟨_, Ty.on TY hY⟩
      have rd0 := RTY.on hY
      have x0 := bk0.at (i := 0) rfl
      have x1 := bk0.at (i := 1) rfl
      have x2 := bk0.at (i := 2) rfl
      have x3 := bk0.at (i := 3) rfl
      have x4 := bk0.at (i := 4) rfl
      have xl := bk0.lt
      go_wp2_with fail
      refine (HP0.out.1 _ wo rd0).mono ?_
      rintro _ w4 ⟨rfl, k4⟩
      clear x0 x1 x2 x3 x4 xl
      have K4 := hKr.trans k4
      by_cases hz0 : P0.size = 0
      · have e0 := str_nil hz0
        have e1 := str_nil1 hz0
        go_wp2
        go_roundg 1
        case measure => omega
        case rel => exact ⟨1, by omega, by omega, rfl, K4, fun _ => hY.trans k4⟩
      have e0 := str_some hz0
      have e1 := str_some1 hz0
      have e2 := str_some2 hz0
      by_cases hz3 : 3000 < P0.size
      · have e4 : decide (3000 < P0.size) = true := decide_eq_true hz3
        go_wp2
        go_roundg 1
        case measure => omega
        case rel => exact ⟨1, by omega, by omega, rfl, K4, fun _ => hY.trans k4⟩
      have e4 : decide (3000 < P0.size) = false := decide_eq_false hz3
      have HPB : Hid (∀ Q : ByteArray, Ext P0.data.toList Q.data.toList → Q.size ≤ 4000 → ∀ W, Go.Proofs.YtacflahkofmcpaaGreatDoor.Lw W → Calls Tryz.prog 11 #[.string Q] W (Parsed W t 0 0)) := HP0.out.2 hz0
      have hz3' : P0.size ≤ 3000 := Nat.le_of_not_lt hz3
      have HPl : Hid (P0.size = P0.data.toList.length) := Go.Proofs.YtacflahkofmcpaaGreatDoor.size_list P0
      go_wp2
      clear e0 e1 e2 e4 hz3
      go_loopg [10, 11] P0.size (fun gg s10 s11 wq => ∃ (j : Nat) (Q : ByteArray), j ≤ P0.size ∧ gg = P0.size - j ∧ s11 = .int .i64 j ∧ s10 = .string Q ∧ Hid (Ext (P0.data.toList.take j) Q.data.toList) ∧ Q.size ≤ 3 * j ∧ Hid (On w4 wq))
      case atStart => exact ⟨0, ⟨#[]⟩, Nat.zero_le _, rfl, rfl, rfl, rfl, Nat.zero_le _, On.refl w4⟩
      case round =>
        obtain ⟨j, Q, hj, hk2, rfl, rfl, HE, hQ, hOn⟩ := hrel
        rcases Nat.lt_or_ge j P0.size with hlt | hge
        · obtain ⟨cb, hcb⟩ : ∃ cb, P0.data.toList[j]? = some cb := ⟨_, List.getElem?_eq_getElem (by rw [← HPl.out]; exact hlt)⟩
          have hPj := byte_get hcb hlt
          obtain ⟨Q1, hQ1⟩ : ∃ Q1 : ByteArray, Q1 = Q ++ P0.extract j (j + 1) := ⟨_, rfl⟩
          have HQ1 : Hid (Q1.data.toList = Q.data.toList ++ [cb]) := by show _ = _; rw [hQ1]; exact one_more hcb
          have hQ1s : Q1.size ≤ 3 * j + 1 := by rw [Go.Proofs.YtacflahkofmcpaaGreatDoor.size_list, HQ1.out, List.length_append, ← Go.Proofs.YtacflahkofmcpaaGreatDoor.size_list]; simp; omega
          have hx1 : (P0.extract j (j + 1)).size = 1 := by rw [ByteArray.size_extract]; omega
          have hj1 : j + 1 ≤ P0.size := hlt
          have hs1 : (Q ++ P0.extract j (j + 1)).size ≤ 3 * (j + 1) := by rw [ByteArray.size_append]; omega
          by_cases h32 : cb = 32
          · subst h32
            have hPj2 : (P0[j]).toNat = 32 := by rw [hPj]; rfl
            clear hPj HQ1 hQ1s hQ1 Q1
            obtain ⟨m15, hm15, hb15⟩ := low4 (j : Int)
            obtain ⟨r, hr3, hr1, hr2⟩ : ∃ r : Nat, r < 3 ∧ (j : Int) % 3 = (r : Int) ∧ Int.tmod j 3 = (r : Int) := ⟨j % 3, by omega, by omega, by rw [Int.tmod_eq_emod_of_nonneg (by omega)]; omega⟩
            cases hbb : (bits BinOp.and IntKind.i64 (how / 2 ^ m15) 3 == 0) with
            | false =>
              have HE1 : Hid (Ext (P0.data.toList.take (j + 1)) (Q ++ P0.extract j (j + 1)).data.toList) := ext_plain1 HE.out hcb
              clear hr1 hr2 hr3
              go_wp2
              go_roundg (P0.size - (j + 1))
              case measure => omega
              case rel => exact ⟨j + 1, Q ++ P0.extract j (j + 1), hj1, rfl, rfl, rfl, HE1, hs1, hOn⟩
            | true =>
              rcases (by omega : r = 0 ∨ r = 1 ∨ r = 2) with hr | hr | hr
              · subst hr
                have hx2 : (⟨#[10]⟩ : ByteArray).size ≤ 2 := by decide
                have HE2 : Hid (Ext (P0.data.toList.take (j + 1)) ((Q ++ P0.extract j (j + 1)) ++ ⟨#[10]⟩).data.toList) := ext_blank HE.out hcb (by intro c hc; simp at hc; subst hc; decide)
                have hs2 : ((Q ++ P0.extract j (j + 1)) ++ ⟨#[10]⟩).size ≤ 3 * (j + 1) := by rw [ByteArray.size_append, ByteArray.size_append, hx1]; omega
                have hq1 : (j : Int) % 3 = 0 := by omega
                have hq2 : Int.tmod j 3 = 0 := by rw [hr2]; rfl
                clear hr1 hr2 hr3
                go_wp2
                go_roundg (P0.size - (j + 1))
                case measure => omega
                case rel => exact ⟨j + 1, (Q ++ P0.extract j (j + 1)) ++ ⟨#[10]⟩, hj1, rfl, rfl, rfl, HE2, hs2, hOn.out.alloc _⟩
              · subst hr
                have hx2 : (⟨#[9, 32]⟩ : ByteArray).size ≤ 2 := by decide
                have HE2 : Hid (Ext (P0.data.toList.take (j + 1)) ((Q ++ P0.extract j (j + 1)) ++ ⟨#[9, 32]⟩).data.toList) := ext_blank HE.out hcb (by intro c hc; simp at hc; rcases hc with rfl | rfl <;> decide)
                have hs2 : ((Q ++ P0.extract j (j + 1)) ++ ⟨#[9, 32]⟩).size ≤ 3 * (j + 1) := by rw [ByteArray.size_append, ByteArray.size_append, hx1]; omega
                have hq1 : (j : Int) % 3 = 1 := by omega
                have hq2 : Int.tmod j 3 = 1 := by rw [hr2]; rfl
                clear hr1 hr2 hr3
                go_wp2
                go_roundg (P0.size - (j + 1))
                case measure => omega
                case rel => exact ⟨j + 1, (Q ++ P0.extract j (j + 1)) ++ ⟨#[9, 32]⟩, hj1, rfl, rfl, rfl, HE2, hs2, hOn.out.alloc _⟩
              · subst hr
                have hx2 : (⟨#[32, 32]⟩ : ByteArray).size ≤ 2 := by decide
                have HE2 : Hid (Ext (P0.data.toList.take (j + 1)) ((Q ++ P0.extract j (j + 1)) ++ ⟨#[32, 32]⟩).data.toList) := ext_blank HE.out hcb (by intro c hc; simp at hc; rcases hc with rfl | rfl <;> decide)
                have hs2 : ((Q ++ P0.extract j (j + 1)) ++ ⟨#[32, 32]⟩).size ≤ 3 * (j + 1) := by rw [ByteArray.size_append, ByteArray.size_append, hx1]; omega
                have hq1 : (j : Int) % 3 = 2 := by omega
                have hq2 : Int.tmod j 3 = 2 := by rw [hr2]; rfl
                clear hr1 hr2 hr3
                go_wp2
                go_roundg (P0.size - (j + 1))
                case measure => omega
                case rel => exact ⟨j + 1, (Q ++ P0.extract j (j + 1)) ++ ⟨#[32, 32]⟩, hj1, rfl, rfl, rfl, HE2, hs2, hOn.out.alloc _⟩
          · have hPj2 : ¬ (P0[j]).toNat = 32 := by rw [hPj]; intro e; exact h32 (UInt8.toNat_inj.1 e)
            have HE1 : Hid (Ext (P0.data.toList.take (j + 1)) (Q ++ P0.extract j (j + 1)).data.toList) := ext_plain1 HE.out hcb
            clear hPj HQ1 hQ1s hQ1 Q1
            go_wp2
            go_roundg (P0.size - (j + 1))
            case measure => omega
            case rel => exact ⟨j + 1, Q ++ P0.extract j (j + 1), hj1, rfl, rfl, rfl, HE1, hs1, hOn⟩
        · obtain rfl : j = P0.size := by omega
          have HEE : Hid (Ext P0.data.toList Q.data.toList) := by
            have h := HE.out
            rw [HPl.out, List.take_length] at h
            exact h
          have kq := hOn.out
          have Kq := K4.trans kq
          clear HE hOn hge hj
          by_cases hz4 : 4000 < Q.size
          · have e4 : decide (4000 < Q.size) = true := decide_eq_true hz4
            go_wp2
            go_roundg 1
            case measure => omega
            case rel => exact ⟨1, by omega, by omega, rfl, Kq, fun _ => hY.trans (k4.trans kq)⟩
          have e4 : decide (4000 < Q.size) = false := decide_eq_false hz4
          go_wp2_with fail
          refine (HPB.out Q HEE.out (Nat.le_of_not_lt hz4) _ (lw.on Kq)).mono ?_
          rintro _ w5 ⟨u1, v1, u2, v2, u3, v3, rfl, RU5, k5⟩
          have K5 := Kq.trans k5
          obtain ⟨WZ, hWZ⟩ : ∃ WZ, WZ = (w5.alloc (.cells (tA t u1 v1 u2 v2 u3 v3) 28)).alloc (.cells #[.int .i64 0, .int .i64 0] 36) := ⟨_, rfl⟩
          go_upto_region 20 with fail
          rw [← hWZ]
          have kZ : On w5 WZ := by rw [hWZ]; exact ((On.refl w5).alloc _).alloc _
          have UZ : Bk WZ w5.heap.size (tA t u1 v1 u2 v2 u3 v3) := by rw [hWZ]; exact (Bk.new w5 _ _).alloc _
          have EZ : Bk WZ (w5.heap.size + 1) #[.int .i64 0, .int .i64 0] := by
            rw [hWZ]
            have := Bk.new (w5.alloc (.cells (tA t u1 v1 u2 v2 u3 v3) 28)) #[.int .i64 0, .int .i64 0] 36
            rwa [World.size_alloc] at this
          have kcZ := ((k4.trans kq).trans k5).trans kZ
          have BZ := bk0.on kcZ
          have RXZ := rd0.on kcZ
          have RUZ := RU5.on kZ
          have KZ := K5.trans kZ
          clear hWZ kZ
          have x0 := BZ.at (i := 0) rfl
          have x1 := BZ.at (i := 1) rfl
          have x2 := BZ.at (i := 2) rfl
          have x3 := BZ.at (i := 3) rfl
          have x4 := BZ.at (i := 4) rfl
          have xl := BZ.lt
          have y0 := UZ.at (i := 0) rfl
          have y1 := UZ.at (i := 1) rfl
          have y2 := UZ.at (i := 2) rfl
          have y3 := UZ.at (i := 3) rfl
          have y4 := UZ.at (i := 4) rfl
          have yl := UZ.lt
          have z0 := EZ.at (i := 0) rfl
          have z1 := EZ.at (i := 1) rfl
          have zl := EZ.lt
          have hsm := rsame_is t t _ _ WZ RUZ RXZ
          rw [sames t] at hsm
          go_wp2_with fail
          refine hsm.mono ?_
          rintro _ w7 ⟨rfl, k7⟩
          clear x0 x1 x2 x3 x4 xl y0 y1 y2 y3 y4 yl z0 z1 zl
          have K7 := KZ.trans k7
          have k47 : On wo w7 := kcZ.trans k7
          go_wp2
          go_roundg 1
          case measure => omega
          case rel => exact ⟨1, by omega, by omega, rfl, K7, fun _ => hY.trans k47⟩
    · have hY := (hYr (by omega)).out
      clear hYr
      have SYr := SY.on hY
      have TYr := Ty.on TY hY
      have HOr := TOwn.onK HO.out hY
      have hlt : w.heap.size < wo.heap.size := lt_of_block TYr
      obtain ⟨WS, hWS⟩ : ∃ WS, WS = ((((wo.setCell ⟨w.heap.size, 0, none⟩ (.string s.name)).setCell ⟨w.heap.size, 1, none⟩ (.slice b1 s.ini.length d1)).setCell ⟨w.heap.size, 2, none⟩ (.slice b2 s.thr.length d2)).setCell ⟨w.heap.size, 3, none⟩ (.int .i64 s.cond.k)).setCell ⟨w.heap.size, 4, none⟩ (.slice b3 s.cond.any.length d3) := ⟨_, rfl⟩
      have HS1 : Hid (WS.heap[w.heap.size]? = some (.cells (tA s b1 d1 b2 d2 b3 d3) 28 (0, 0)) ∧ TOwn WS WX.heap.size (.agg (tA s b1 d1 b2 d2 b3 d3)) s ∧ On w WS) := by
        rw [hWS]
        have s1 := heap_set (i := 0) (u := .string s.name) TYr
        have o1 := HOr.setT TYr 0 (.string s.name)
        have s2 := heap_set (i := 1) (u := .slice b1 s.ini.length d1) s1
        have o2 := o1.setT s1 1 (.slice b1 s.ini.length d1)
        have s3 := heap_set (i := 2) (u := .slice b2 s.thr.length d2) s2
        have o3 := o2.setT s2 2 (.slice b2 s.thr.length d2)
        have s4 := heap_set (i := 3) (u := .int .i64 s.cond.k) s3
        have o4 := o3.setT s3 3 (.int .i64 s.cond.k)
        have s5 := heap_set (i := 4) (u := .slice b3 s.cond.any.length d3) s4
        have o5 := o4.setT s4 4 (.slice b3 s.cond.any.length d3)
        exact ⟨s5, o5, ((((hKr.setNew (Nat.le_refl _) _).setNew (Nat.le_refl _) _).setNew (Nat.le_refl _) _).setNew (Nat.le_refl _) _).setNew (Nat.le_refl _) _⟩
      have bk1 : Bk WS w.heap.size (tA s b1 d1 b2 d2 b3 d3) := ⟨_, HS1.out.1⟩
      have rd1 := TOwn.rdW HS1.out.2.1 hsn
      have KS := HS1.out.2.2
      have tc : ∀ i, wo.frozen? ⟨w.heap.size, i, none⟩ = false := fun i => Bk.fr ⟨_, TYr⟩ i
      have t0 := Bk.at (i := 0) ⟨_, TYr⟩ rfl
      have t1 := Bk.at (i := 1) ⟨_, TYr⟩ rfl
      have t2 := Bk.at (i := 2) ⟨_, TYr⟩ rfl
      have t3 := Bk.at (i := 3) ⟨_, TYr⟩ rfl
      have t4 := Bk.at (i := 4) ⟨_, TYr⟩ rfl
      have y0 := SYr.at (i := 0) rfl
      have y1 := SYr.at (i := 1) rfl
      have y2 := SYr.at (i := 2) rfl
      have y3 := SYr.at (i := 3) rfl
      have y4 := SYr.at (i := 4) rfl
      have yl := SYr.lt
      go_upto_region 9 with fail
      rw [← hWS]
      clear hWS y0 y1 y2 y3 y4 yl tc t0 t1 t2 t3 t4 TYr SYr HOr HS1
      have x0 := bk1.at (i := 0) rfl
      have x1 := bk1.at (i := 1) rfl
      have x2 := bk1.at (i := 2) rfl
      have x3 := bk1.at (i := 3) rfl
      have x4 := bk1.at (i := 4) rfl
      have xl := bk1.lt
      go_wp2_with fail
      refine (HP1.out.1 _ WS rd1).mono ?_
      rintro _ w4 ⟨rfl, k4⟩
      clear x0 x1 x2 x3 x4 xl
      have K4 := KS.trans k4
      by_cases hz0 : P1.size = 0
      · have e0 := str_nil hz0
        have e1 := str_nil1 hz0
        go_wp2
        go_roundg 0
        case measure => omega
        case rel => exact ⟨2, by omega, by omega, rfl, K4, fun h => by omega⟩
      have e0 := str_some hz0
      have e1 := str_some1 hz0
      have e2 := str_some2 hz0
      by_cases hz3 : 3000 < P1.size
      · have e4 : decide (3000 < P1.size) = true := decide_eq_true hz3
        go_wp2
        go_roundg 0
        case measure => omega
        case rel => exact ⟨2, by omega, by omega, rfl, K4, fun h => by omega⟩
      have e4 : decide (3000 < P1.size) = false := decide_eq_false hz3
      have HPB : Hid (∀ Q : ByteArray, Ext P1.data.toList Q.data.toList → Q.size ≤ 4000 → ∀ W, Go.Proofs.YtacflahkofmcpaaGreatDoor.Lw W → Calls Tryz.prog 11 #[.string Q] W (Parsed W s 0 0)) := HP1.out.2 hz0
      have hz3' : P1.size ≤ 3000 := Nat.le_of_not_lt hz3
      have HPl : Hid (P1.size = P1.data.toList.length) := Go.Proofs.YtacflahkofmcpaaGreatDoor.size_list P1
      go_wp2
      clear e0 e1 e2 e4 hz3
      go_loopg [10, 11] P1.size (fun gg s10 s11 wq => ∃ (j : Nat) (Q : ByteArray), j ≤ P1.size ∧ gg = P1.size - j ∧ s11 = .int .i64 j ∧ s10 = .string Q ∧ Hid (Ext (P1.data.toList.take j) Q.data.toList) ∧ Q.size ≤ 3 * j ∧ Hid (On w4 wq))
      case atStart => exact ⟨0, ⟨#[]⟩, Nat.zero_le _, rfl, rfl, rfl, rfl, Nat.zero_le _, On.refl w4⟩
      case round =>
        obtain ⟨j, Q, hj, hk2, rfl, rfl, HE, hQ, hOn⟩ := hrel
        rcases Nat.lt_or_ge j P1.size with hlt | hge
        · obtain ⟨cb, hcb⟩ : ∃ cb, P1.data.toList[j]? = some cb := ⟨_, List.getElem?_eq_getElem (by rw [← HPl.out]; exact hlt)⟩
          have hPj := byte_get hcb hlt
          obtain ⟨Q1, hQ1⟩ : ∃ Q1 : ByteArray, Q1 = Q ++ P1.extract j (j + 1) := ⟨_, rfl⟩
          have HQ1 : Hid (Q1.data.toList = Q.data.toList ++ [cb]) := by show _ = _; rw [hQ1]; exact one_more hcb
          have hQ1s : Q1.size ≤ 3 * j + 1 := by rw [Go.Proofs.YtacflahkofmcpaaGreatDoor.size_list, HQ1.out, List.length_append, ← Go.Proofs.YtacflahkofmcpaaGreatDoor.size_list]; simp; omega
          have hx1 : (P1.extract j (j + 1)).size = 1 := by rw [ByteArray.size_extract]; omega
          have hj1 : j + 1 ≤ P1.size := hlt
          have hs1 : (Q ++ P1.extract j (j + 1)).size ≤ 3 * (j + 1) := by rw [ByteArray.size_append]; omega
          by_cases h32 : cb = 32
          · subst h32
            have hPj2 : (P1[j]).toNat = 32 := by rw [hPj]; rfl
            clear hPj HQ1 hQ1s hQ1 Q1
            obtain ⟨m15, hm15, hb15⟩ := low4 (j : Int)
            obtain ⟨r, hr3, hr1, hr2⟩ : ∃ r : Nat, r < 3 ∧ (j : Int) % 3 = (r : Int) ∧ Int.tmod j 3 = (r : Int) := ⟨j % 3, by omega, by omega, by rw [Int.tmod_eq_emod_of_nonneg (by omega)]; omega⟩
            cases hbb : (bits BinOp.and IntKind.i64 (how / 2 ^ m15) 3 == 0) with
            | false =>
              have HE1 : Hid (Ext (P1.data.toList.take (j + 1)) (Q ++ P1.extract j (j + 1)).data.toList) := ext_plain1 HE.out hcb
              clear hr1 hr2 hr3
              go_wp2
              go_roundg (P1.size - (j + 1))
              case measure => omega
              case rel => exact ⟨j + 1, Q ++ P1.extract j (j + 1), hj1, rfl, rfl, rfl, HE1, hs1, hOn⟩
            | true =>
              rcases (by omega : r = 0 ∨ r = 1 ∨ r = 2) with hr | hr | hr
              · subst hr
                have hx2 : (⟨#[10]⟩ : ByteArray).size ≤ 2 := by decide
                have HE2 : Hid (Ext (P1.data.toList.take (j + 1)) ((Q ++ P1.extract j (j + 1)) ++ ⟨#[10]⟩).data.toList) := ext_blank HE.out hcb (by intro c hc; simp at hc; subst hc; decide)
                have hs2 : ((Q ++ P1.extract j (j + 1)) ++ ⟨#[10]⟩).size ≤ 3 * (j + 1) := by rw [ByteArray.size_append, ByteArray.size_append, hx1]; omega
                have hq1 : (j : Int) % 3 = 0 := by omega
                have hq2 : Int.tmod j 3 = 0 := by rw [hr2]; rfl
                clear hr1 hr2 hr3
                go_wp2
                go_roundg (P1.size - (j + 1))
                case measure => omega
                case rel => exact ⟨j + 1, (Q ++ P1.extract j (j + 1)) ++ ⟨#[10]⟩, hj1, rfl, rfl, rfl, HE2, hs2, hOn.out.alloc _⟩
              · subst hr
                have hx2 : (⟨#[9, 32]⟩ : ByteArray).size ≤ 2 := by decide
                have HE2 : Hid (Ext (P1.data.toList.take (j + 1)) ((Q ++ P1.extract j (j + 1)) ++ ⟨#[9, 32]⟩).data.toList) := ext_blank HE.out hcb (by intro c hc; simp at hc; rcases hc with rfl | rfl <;> decide)
                have hs2 : ((Q ++ P1.extract j (j + 1)) ++ ⟨#[9, 32]⟩).size ≤ 3 * (j + 1) := by rw [ByteArray.size_append, ByteArray.size_append, hx1]; omega
                have hq1 : (j : Int) % 3 = 1 := by omega
                have hq2 : Int.tmod j 3 = 1 := by rw [hr2]; rfl
                clear hr1 hr2 hr3
                go_wp2
                go_roundg (P1.size - (j + 1))
                case measure => omega
                case rel => exact ⟨j + 1, (Q ++ P1.extract j (j + 1)) ++ ⟨#[9, 32]⟩, hj1, rfl, rfl, rfl, HE2, hs2, hOn.out.alloc _⟩
              · subst hr
                have hx2 : (⟨#[32, 32]⟩ : ByteArray).size ≤ 2 := by decide
                have HE2 : Hid (Ext (P1.data.toList.take (j + 1)) ((Q ++ P1.extract j (j + 1)) ++ ⟨#[32, 32]⟩).data.toList) := ext_blank HE.out hcb (by intro c hc; simp at hc; rcases hc with rfl | rfl <;> decide)
                have hs2 : ((Q ++ P1.extract j (j + 1)) ++ ⟨#[32, 32]⟩).size ≤ 3 * (j + 1) := by rw [ByteArray.size_append, ByteArray.size_append, hx1]; omega
                have hq1 : (j : Int) % 3 = 2 := by omega
                have hq2 : Int.tmod j 3 = 2 := by rw [hr2]; rfl
                clear hr1 hr2 hr3
                go_wp2
                go_roundg (P1.size - (j + 1))
                case measure => omega
                case rel => exact ⟨j + 1, (Q ++ P1.extract j (j + 1)) ++ ⟨#[32, 32]⟩, hj1, rfl, rfl, rfl, HE2, hs2, hOn.out.alloc _⟩
          · have hPj2 : ¬ (P1[j]).toNat = 32 := by rw [hPj]; intro e; exact h32 (UInt8.toNat_inj.1 e)
            have HE1 : Hid (Ext (P1.data.toList.take (j + 1)) (Q ++ P1.extract j (j + 1)).data.toList) := ext_plain1 HE.out hcb
            clear hPj HQ1 hQ1s hQ1 Q1
            go_wp2
            go_roundg (P1.size - (j + 1))
            case measure => omega
            case rel => exact ⟨j + 1, Q ++ P1.extract j (j + 1), hj1, rfl, rfl, rfl, HE1, hs1, hOn⟩
        · obtain rfl : j = P1.size := by omega
          have HEE : Hid (Ext P1.data.toList Q.data.toList) := by
            have h := HE.out
            rw [HPl.out, List.take_length] at h
            exact h
          have kq := hOn.out
          have Kq := K4.trans kq
          clear HE hOn hge hj
          by_cases hz4 : 4000 < Q.size
          · have e4 : decide (4000 < Q.size) = true := decide_eq_true hz4
            go_wp2
            go_roundg 0
            case measure => omega
            case rel => exact ⟨2, by omega, by omega, rfl, Kq, fun h => by omega⟩
          have e4 : decide (4000 < Q.size) = false := decide_eq_false hz4
          go_wp2_with fail
          refine (HPB.out Q HEE.out (Nat.le_of_not_lt hz4) _ (lw.on Kq)).mono ?_
          rintro _ w5 ⟨u1, v1, u2, v2, u3, v3, rfl, RU5, k5⟩
          have K5 := Kq.trans k5
          obtain ⟨WZ, hWZ⟩ : ∃ WZ, WZ = (w5.alloc (.cells (tA s u1 v1 u2 v2 u3 v3) 28)).alloc (.cells #[.int .i64 0, .int .i64 0] 36) := ⟨_, rfl⟩
          go_upto_region 20 with fail
          rw [← hWZ]
          have kZ : On w5 WZ := by rw [hWZ]; exact ((On.refl w5).alloc _).alloc _
          have UZ : Bk WZ w5.heap.size (tA s u1 v1 u2 v2 u3 v3) := by rw [hWZ]; exact (Bk.new w5 _ _).alloc _
          have EZ : Bk WZ (w5.heap.size + 1) #[.int .i64 0, .int .i64 0] := by
            rw [hWZ]
            have := Bk.new (w5.alloc (.cells (tA s u1 v1 u2 v2 u3 v3) 28)) #[.int .i64 0, .int .i64 0] 36
            rwa [World.size_alloc] at this
          have kcZ := ((k4.trans kq).trans k5).trans kZ
          have BZ := bk1.on kcZ
          have RXZ := rd1.on kcZ
          have RUZ := RU5.on kZ
          have KZ := K5.trans kZ
          clear hWZ kZ
          have x0 := BZ.at (i := 0) rfl
          have x1 := BZ.at (i := 1) rfl
          have x2 := BZ.at (i := 2) rfl
          have x3 := BZ.at (i := 3) rfl
          have x4 := BZ.at (i := 4) rfl
          have xl := BZ.lt
          have y0 := UZ.at (i := 0) rfl
          have y1 := UZ.at (i := 1) rfl
          have y2 := UZ.at (i := 2) rfl
          have y3 := UZ.at (i := 3) rfl
          have y4 := UZ.at (i := 4) rfl
          have yl := UZ.lt
          have z0 := EZ.at (i := 0) rfl
          have z1 := EZ.at (i := 1) rfl
          have zl := EZ.lt
          have hsm := rsame_is s s _ _ WZ RUZ RXZ
          rw [sames s] at hsm
          go_wp2_with fail
          refine hsm.mono ?_
          rintro _ w7 ⟨rfl, k7⟩
          clear x0 x1 x2 x3 x4 xl y0 y1 y2 y3 y4 yl z0 z1 zl
          have K7 := KZ.trans k7
          have k47 : On WS w7 := kcZ.trans k7
          go_wp2
          go_roundg 0
          case measure => omega
          case rel => exact ⟨2, by omega, by omega, rfl, K7, fun h => by omega⟩
    · go_wp2_with fail
      refine (hA _ hKr).mono ?_
      rintro _ wz ⟨rfl, kz⟩
      go_wp2
      go_ret
      exact ⟨rfl, hKr.trans kz⟩
end Go.Proofs.YtacflahkofmcpaaGreatDoor.Wl
