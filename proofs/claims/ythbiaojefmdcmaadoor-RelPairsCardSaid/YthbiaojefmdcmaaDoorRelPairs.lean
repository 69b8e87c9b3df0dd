/- RelPairs, walked. -/
import Derived.Test.YthbiaojefmdcmaaDoorPairsP
import Derived.Test.YthbiaojefmdcmaaDoorRelKeeps
namespace Go.Proofs.YthbiaojefmdcmaaDoor
open Go.RowKit

theorem eqPair_same (w : World) (a b : Int) :
    (Op.equalIn 10000 35 (.agg #[.int .i64 a, .int .i64 b]) (.agg #[.int .i64 a, .int .i64 b])).run Tryd.prog w = .ok true w := by
  have hc : Tryd.prog.cellsOf 3 = 1 := by kernel_rfl
  obtain ⟨i, hi⟩ : ∃ i, Tryd.prog.info? 3 = some i := info_of_underlying Tryd.underlying3
  rw [show (10000 : Nat) = 9999 + 1 from rfl, run_equalIn_array w 9999 _ _ Tryd.underlying35 hi, hc]
  have ez := Tryd.sizeOf3
  have ea := Tryd.isAgg3
  simp only [show List.range 2 = [0, 1] from rfl, Op.eqItems]
  go_simp
set_option maxHeartbeats 8000000 in
set_option maxRecDepth 8000 in
theorem relPairs_core (n p : Int) (m : Nat) (hp : (if n < 0 then (0 : Int) else n) = p) (hpc : (if 64 < p then (64 : Int) else p) = (m : Int)) (hm6 : m ≤ 64) (a1 : Option Addr) (L1 : List (Int × Int)) (c1 : Nat) (w : World)
    (h1 : Rd pairC 2 w (.slice a1 L1.length c1) L1) (hd : Dt w) :
    Calls Tryd.prog 4 #[.int .i64 n, .slice a1 L1.length c1] w fun e w' => e = .returned (.bool true) ∧ On w w' := by
  obtain ⟨hz, _⟩ := zero_of_info rel_info
  obtain ⟨hzw, _⟩ := zero_of_info rel_infow
  have hO1 := fun W (k : On w W) => pairs_is m L1 _ W (h1.on k)
  have hr := of_wf m L1
  have hrn : (ofR m L1).n = m := by rw [of_n]; omega
  clear h1
  generalize ofR m L1 = r at *
  have x2 := fun W (kk : On w W) => prs_is r hr.wr W (hd.on kk)
  have hH : ∀ (a b : Nat) W, Calls Tryd.prog 8 #[.agg (relA r), .int .i64 a, .int .i64 b] W fun e w' => e = .returned (.bool (H r a b)) ∧ On W w' := fun a b W => by
    have := rhas_is r hr.wr a b W
    rwa [has_nat2 hr] at this
  have hW : ∀ (a b N : Nat) (ha : a < 64) (hb : b < 64) W (h : Bk W N (relA r)), Calls Tryd.prog 13 #[.pointer (some ⟨N, 0, none⟩), .int .i64 a, .int .i64 b] W fun e w' => e = .returned (.bool (H r a b)) ∧ w' = W := fun a b N ha hb W h => whas_is r hr.wr N a b ha hb W h
  have y1 := fun W => rhas_is r hr.wr (-1) 0 W
  have y2 := fun W => rhas_is r hr.wr 0 64 W
  have y3 := fun W => row_is r hr.wr (-1) W
  have y4 := fun W => row_is r hr.wr 64 W
  have r1 : rowR r (-1) = 0 := by unfold rowR overR; simp
  have r2 : rowR r 64 = 0 := by unfold rowR overR; rw [if_neg]; have := hr.n; simp; omega
  have r3 : hasR r (-1) 0 = false := by unfold hasR; rw [r1]; decide
  have r4 : hasR r 0 64 = false := by unfold hasR; rw [has_bit]; simp
  rw [r3] at y1
  rw [r4] at y2
  rw [r1] at y3
  rw [r2] at y4
  have HAT : Hid (∀ a b : Nat, a < m → b < m → H r a b = true → (prsR r)[(prsN r a).length + (pre (r.f a) b).length]? = some ((a : Int), (b : Int))) := fun a b ha hb h => prs_at a b (by omega) (by omega) h
  have HPS : Hid (∀ a b, pre (r.f a) (b + 1) = pre (r.f a) b ++ (if H r a b then [b] else [])) := fun a b => pre_step _ _
  have HPN : Hid (∀ a, (prsN r a).length + (pre (r.f a) m).length = (prsN r (a + 1)).length) := fun a => by have := pre_row r hr a; rwa [hrn] at this
  have HPE : Hid (prsR r = prsN r m) := by show prsR r = _; unfold prsR; rw [hrn]
  have hplen : ∀ a, (prsN r a).length ≤ 64 * a := prs_len r
  have hqlen : ∀ a b, (pre (r.f a) b).length ≤ b := fun a b => pre_len _ _
  have HAG : Hid ((prsR r).length ≤ 200 → ofR m (prsR r) = r) := fun h => prs_again hr m hrn h
  have hPl : (prsR r).length ≤ 4096 := by have := prs_len r r.n; have := hr.n; unfold prsR; omega
  have xA := fun W => awake8_is W
  have heq := fun (X : RelT) W => eqRel_same W X
  have heq2 := fun (a b : Int) W => eqPair_same W a b
  clear hr hrn hd r1 r2 r3 r4
  obtain ⟨P, hP⟩ : ∃ P, P = prsR r := ⟨_, rfl⟩
  rw [← hP] at x2 HAT HPE HAG hPl
  clear hP
  go_enter Tryd.func4, Tryd.ntmps4
  go_wp2_with (fail)
  refine (hO1 _ (On.refl _)).mono ?_
  rintro _ w1 ⟨rfl, k1⟩
  have K1 := (On.refl w).trans k1
  have B1a := (Bk.new w1 (relA zeroR) 27).alloc (.cells (relA zeroR) 30)
  have B1b : Bk ((w1.alloc (.cells (relA zeroR) 27)).alloc (.cells (relA zeroR) 30)) (w1.heap.size + 1) (relA zeroR) := by
    have := Bk.new (w1.alloc (.cells (relA zeroR) 27)) (relA zeroR) 30
    rwa [World.size_alloc] at this
  have B1c := B1b.rowFar (N := w1.heap.size) (by omega) (relA r)
  obtain ⟨W1, hW1⟩ : ∃ W1, W1 = (((w1.alloc (.cells (relA zeroR) 27)).alloc (.cells (relA zeroR) 30)).setRow w1.heap.size (relA r)).setRow (w1.heap.size + 1) (relA r) := ⟨_, rfl⟩
  have HW1 : Hid (W1 = (((w1.alloc (.cells (relA zeroR) 27)).alloc (.cells (relA zeroR) 30)).setRow w1.heap.size (relA r)).setRow (w1.heap.size + 1) (relA r)) := hW1
  have B1r : Bk W1 w1.heap.size (relA r) := by rw [hW1]; exact (B1a.row _).rowFar (by omega) _
  have B1w : Bk W1 (w1.heap.size + 1) (relA r) := by rw [hW1]; exact B1c.row _
  have KK1 : On w W1 := by rw [hW1]; exact (((K1.alloc _).alloc _).row K1.size _).row (by have := K1.size; omega) _
  clear hW1
  go_wp2_with (first | (refine wpList_st rfl rfl rfl rfl B1a ?_) | (refine wpList_stw rfl rfl rfl rfl B1c ?_; rw [← HW1.out]; clear HW1 B1a B1b B1c) | refine wpList_ldG (by rfl) rfl rfl B1r ?_)
  refine (x2 _ KK1).mono ?_
  rintro _ w4 ⟨pa, pc, rfl, hown, k4⟩
  have HRP : Hid (Rd pairC 2 w4 (.slice pa P.length pc) P) := Rd.own (fun _ => rfl) hown
  have S4 : Bk w4 w1.heap.size (relA r) ∧ Bk w4 (w1.heap.size + 1) (relA r) := ⟨B1r.on k4, B1w.on k4⟩
  have K4 := KK1.trans k4
  clear hown x2 hO1
  go_wp2
  go_loopg [8, 9] m (fun gg s8 s9 wr => ∃ a : Nat, a ≤ m ∧ gg = m - a ∧ s9 = .int .i64 a ∧ s8 = .int .i64 (prsN r a).length ∧ Hid (On w wr) ∧ Hid (On w4 wr) ∧ (Bk wr w1.heap.size (relA r) ∧ Bk wr (w1.heap.size + 1) (relA r)))
  case atStart => exact ⟨0, Nat.zero_le _, rfl, rfl, rfl, K4, On.refl _, S4⟩
  case round =>
    clear S4 K4
    obtain ⟨a, hi, hk, rfl, rfl, HO, HO4, SI⟩ := hrel
    rcases Nat.lt_or_ge a m with hlt | hge
    · have ha6 : a < 64 := by omega
      have hAT := fun b hb h => HAT.out a b hlt hb h
      have hPS := fun b => HPS.out a b
      have HPA : Hid (∀ b, b < m → H r a b = true → P[(prsN r a).length + (pre (r.f a) b).length]? = some ((a : Int), (b : Int))) := hAT
      have HPSA : Hid (∀ b, pre (r.f a) (b + 1) = pre (r.f a) b ++ (if H r a b then [b] else [])) := hPS
      have HPNA : Hid ((prsN r a).length + (pre (r.f a) m).length = (prsN r (a + 1)).length) := HPN.out a
      have hpa := hplen a
      have hqa := hqlen a
      clear hAT hPS y1 y2 y3 y4 xA heq
      generalize pre (r.f a) = pr at *
      go_wp2
      go_loopg [8, 10] m (fun gi s8 s10 wi => ∃ b : Nat, b ≤ m ∧ gi = m - b ∧ s10 = .int .i64 b ∧ s8 = .int .i64 ((prsN r a).length + (pr b).length : Nat) ∧ Hid (On w wi) ∧ Hid (On w4 wi) ∧ (Bk wi w1.heap.size (relA r) ∧ Bk wi (w1.heap.size + 1) (relA r)))
      case atStart => exact ⟨0, Nat.zero_le _, rfl, rfl, by have : (pr 0).length = 0 := by have := hqa 0; omega
                                                            rw [this]; rfl, HO, HO4, SI⟩
      case round =>
        clear HO HO4 SI
        obtain ⟨b, hbi, hbk, rfl, rfl, HO, HO4, SI⟩ := hrel
        rcases Nat.lt_or_ge b m with hbl | hbg
        · have hb6 : b < 64 := by omega
          have z1 := fun W => hH a b W
          have z2 := fun W h => hW a b (w1.heap.size + 1) ha6 hb6 W h
          have hps := HPSA.out b
          have hqb := hqa b
          obtain ⟨k, hkk⟩ : ∃ k, k = (prsN r a).length + (pr b).length := ⟨_, rfl⟩
          have HKK : Hid (k = (prsN r a).length + (pr b).length) := hkk
          have hkb : k ≤ 8192 := by omega
          rw [← hkk]
          cases hab : H r a b with
          | false =>
            clear hkk
            rw [hab] at z1 z2 hps
            have hps2 : Hid ((pr (b + 1)).length = (pr b).length) := by show _ = _; rw [hps]; simp
            clear hps hab
            go_wp2_with (refine wpList_ldG (by rfl) rfl rfl SI.1 ?_)
            refine (z1 _).mono ?_
            rintro _ w5 ⟨rfl, k5⟩
            have S5 : Bk w5 w1.heap.size (relA r) ∧ Bk w5 (w1.heap.size + 1) (relA r) := ⟨SI.1.on k5, SI.2.on k5⟩
            go_wp2_with fail
            refine (z2 _ S5.2).mono ?_
            rintro _ w6 ⟨rfl, hw6⟩
            subst w6
            go_wp2_with fail
            refine (z2 _ S5.2).mono ?_
            rintro _ w6 ⟨rfl, hw6⟩
            subst w6
            go_wp2
            go_roundg (m - (b + 1))
            case measure => omega
            case rel => exact ⟨b + 1, hbl, rfl, by congr 1, by rw [hps2.out, HKK.out], HO.out.trans k5, HO4.out.trans k5, S5⟩
          | true =>
            have hat := HPA.out b hbl hab
            rw [hab] at z1 z2 hps
            have hps2 : Hid ((pr (b + 1)).length = (pr b).length + 1) := by show _ = _; rw [hps]; simp
            rw [← hkk] at hat
            have hkP : k < P.length := (List.getElem?_eq_some_iff.1 hat).1
            have HATK : Hid (P[k]? = some ((a : Int), (b : Int))) := hat
            clear hps hab hkk hat
            go_wp2_with (refine wpList_ldG (by rfl) rfl rfl SI.1 ?_)
            refine (z1 _).mono ?_
            rintro _ w5 ⟨rfl, k5⟩
            have S5 : Bk w5 w1.heap.size (relA r) ∧ Bk w5 (w1.heap.size + 1) (relA r) := ⟨SI.1.on k5, SI.2.on k5⟩
            obtain ⟨g, off, rfl, hg, u0⟩ := (HRP.out.on (HO4.out.trans k5)).at HATK.out
            have hc0 := u0 0 _ rfl
            have hc1 := u0 1 _ rfl
            simp only [Nat.add_zero] at hc0
            clear u0
            go_wp2_with fail
            refine (z2 _ S5.2).mono ?_
            rintro _ w6 ⟨rfl, hw6⟩
            subst w6
            go_wp2_with fail
            refine (z2 _ S5.2).mono ?_
            rintro _ w6 ⟨rfl, hw6⟩
            subst w6
            go_wp2
            go_roundg (m - (b + 1))
            case measure => omega
            case rel => exact ⟨b + 1, hbl, rfl, by congr 1, by rw [hps2.out, HKK.out]; congr 1, HO.out.trans k5, HO4.out.trans k5, S5⟩
        · obtain rfl : b = m := by omega
          go_wp2
          go_roundg (b - (a + 1))
          case measure => omega
          case rel => exact ⟨a + 1, hlt, rfl, by congr 1, by rw [HPNA.out], HO, HO4, SI⟩
    · obtain rfl : a = m := by omega
      have hO2 := fun W (k : On w4 W) => pairs_is a P _ W (HRP.out.on k)
      have hE := HPE.out
      rw [← hE]
      clear hE HPE HPN HPS HAT hH hW hplen hqlen HRP
      by_cases h200 : P.length ≤ 200
      · rw [HAG.out h200] at hO2
        have h2i : ¬ (200 < (P.length : Int)) := by omega
        have h2d : decide (200 < (P.length : Int)) = false := decide_eq_false h2i
        clear HAG
        go_wp2_with (fail)
        refine (hO2 _ HO4.out).mono ?_
        rintro _ w7 ⟨rfl, k7⟩
        have K7 := HO.out.trans k7
        have B7a := (Bk.new w7 (relA zeroR) 27).alloc (.cells (relA zeroR) 30)
        have B7b : Bk ((w7.alloc (.cells (relA zeroR) 27)).alloc (.cells (relA zeroR) 30)) (w7.heap.size + 1) (relA zeroR) := by
          have := Bk.new (w7.alloc (.cells (relA zeroR) 27)) (relA zeroR) 30
          rwa [World.size_alloc] at this
        have B7c := B7b.rowFar (N := w7.heap.size) (by omega) (relA r)
        obtain ⟨W7, hW7⟩ : ∃ W7, W7 = (((w7.alloc (.cells (relA zeroR) 27)).alloc (.cells (relA zeroR) 30)).setRow w7.heap.size (relA r)).setRow (w7.heap.size + 1) (relA r) := ⟨_, rfl⟩
        have HW7 : Hid (W7 = (((w7.alloc (.cells (relA zeroR) 27)).alloc (.cells (relA zeroR) 30)).setRow w7.heap.size (relA r)).setRow (w7.heap.size + 1) (relA r)) := hW7
        have B7r : Bk W7 w7.heap.size (relA r) := by rw [hW7]; exact (B7a.row _).rowFar (by omega) _
        have B7w : Bk W7 (w7.heap.size + 1) (relA r) := by rw [hW7]; exact B7c.row _
        have KK7 : On w W7 := by rw [hW7]; exact (((K7.alloc _).alloc _).row K7.size _).row (by have := K7.size; omega) _
        have R7 : Bk W7 w1.heap.size (relA r) := by rw [hW7]; exact ((((SI.1.on k7).alloc _).alloc _).rowFar (by have := (SI.1.on k7).lt; omega) _).rowFar (by have := (SI.1.on k7).lt; omega) _
        clear hW7
        go_wp2_with (first | (refine wpList_st rfl rfl rfl rfl B7a ?_) | (refine wpList_stw rfl rfl rfl rfl B7c ?_; rw [← HW7.out]; clear HW7 B7a B7b B7c) | refine wpList_ldG (by rfl) rfl rfl R7 ?_ | refine wpList_ldG (by rfl) rfl rfl B7r ?_)
        refine (y1 _).mono ?_
        rintro _ w8 ⟨rfl, k8⟩
        have R8 := R7.on k8
        have KK8 := KK7.trans k8
        go_wp2_with (refine wpList_ldG (by rfl) rfl rfl R8 ?_)
        refine (y2 _).mono ?_
        rintro _ w9 ⟨rfl, k9⟩
        have R9 := R8.on k9
        have KK9 := KK8.trans k9
        go_wp2_with (refine wpList_ldG (by rfl) rfl rfl R9 ?_)
        refine (y3 _).mono ?_
        rintro _ w10 ⟨rfl, k10⟩
        have R10 := R9.on k10
        have KK10 := KK9.trans k10
        go_wp2_with (refine wpList_ldG (by rfl) rfl rfl R10 ?_)
        refine (y4 _).mono ?_
        rintro _ w11 ⟨rfl, k11⟩
        have R11 := R10.on k11
        have KK11 := KK10.trans k11
        go_wp2_with (refine wpList_ldG (by rfl) rfl rfl R11 ?_)
        refine (xA _).mono ?_
        rintro _ w12 ⟨rfl, k12⟩
        have R12 := R11.on k12
        have KK12 := KK11.trans k12
        go_wp2
        go_ret
        exact ⟨rfl, KK12⟩
      · generalize ofR a P = Q at *
        have h2i : 200 < (P.length : Int) := by omega
        have h2d : decide (200 < (P.length : Int)) = true := decide_eq_true h2i
        clear HAG
        go_wp2_with (fail)
        refine (hO2 _ HO4.out).mono ?_
        rintro _ w7 ⟨rfl, k7⟩
        have K7 := HO.out.trans k7
        have B7a := (Bk.new w7 (relA zeroR) 27).alloc (.cells (relA zeroR) 30)
        have B7b : Bk ((w7.alloc (.cells (relA zeroR) 27)).alloc (.cells (relA zeroR) 30)) (w7.heap.size + 1) (relA zeroR) := by
          have := Bk.new (w7.alloc (.cells (relA zeroR) 27)) (relA zeroR) 30
          rwa [World.size_alloc] at this
        have B7c := B7b.rowFar (N := w7.heap.size) (by omega) (relA Q)
        obtain ⟨W7, hW7⟩ : ∃ W7, W7 = (((w7.alloc (.cells (relA zeroR) 27)).alloc (.cells (relA zeroR) 30)).setRow w7.heap.size (relA Q)).setRow (w7.heap.size + 1) (relA Q) := ⟨_, rfl⟩
        have HW7 : Hid (W7 = (((w7.alloc (.cells (relA zeroR) 27)).alloc (.cells (relA zeroR) 30)).setRow w7.heap.size (relA Q)).setRow (w7.heap.size + 1) (relA Q)) := hW7
        have B7r : Bk W7 w7.heap.size (relA Q) := by rw [hW7]; exact (B7a.row _).rowFar (by omega) _
        have B7w : Bk W7 (w7.heap.size + 1) (relA Q) := by rw [hW7]; exact B7c.row _
        have KK7 : On w W7 := by rw [hW7]; exact (((K7.alloc _).alloc _).row K7.size _).row (by have := K7.size; omega) _
        have R7 : Bk W7 w1.heap.size (relA r) := by rw [hW7]; exact ((((SI.1.on k7).alloc _).alloc _).rowFar (by have := (SI.1.on k7).lt; omega) _).rowFar (by have := (SI.1.on k7).lt; omega) _
        clear hW7
        go_wp2_with (first | (refine wpList_st rfl rfl rfl rfl B7a ?_) | (refine wpList_stw rfl rfl rfl rfl B7c ?_; rw [← HW7.out]; clear HW7 B7a B7b B7c) | refine wpList_ldG (by rfl) rfl rfl R7 ?_ | refine wpList_ldG (by rfl) rfl rfl B7r ?_)
        refine (y1 _).mono ?_
        rintro _ w8 ⟨rfl, k8⟩
        have R8 := R7.on k8
        have KK8 := KK7.trans k8
        go_wp2_with (refine wpList_ldG (by rfl) rfl rfl R8 ?_)
        refine (y2 _).mono ?_
        rintro _ w9 ⟨rfl, k9⟩
        have R9 := R8.on k9
        have KK9 := KK8.trans k9
        go_wp2_with (refine wpList_ldG (by rfl) rfl rfl R9 ?_)
        refine (y3 _).mono ?_
        rintro _ w10 ⟨rfl, k10⟩
        have R10 := R9.on k10
        have KK10 := KK9.trans k10
        go_wp2_with (refine wpList_ldG (by rfl) rfl rfl R10 ?_)
        refine (y4 _).mono ?_
        rintro _ w11 ⟨rfl, k11⟩
        have R11 := R10.on k11
        have KK11 := KK10.trans k11
        go_wp2_with (refine wpList_ldG (by rfl) rfl rfl R11 ?_)
        refine (xA _).mono ?_
        rintro _ w12 ⟨rfl, k12⟩
        have R12 := R11.on k12
        have KK12 := KK11.trans k12
        go_wp2
        go_ret
        exact ⟨rfl, KK12⟩
theorem relPairs_walk (n : Int) (a1 : Option Addr) (L1 : List (Int × Int)) (c1 : Nat) (w : World)
    (h1 : Rd pairC 2 w (.slice a1 L1.length c1) L1) (hd : Dt w) :
    Calls Tryd.prog 4 #[.int .i64 n, .slice a1 L1.length c1] w fun e w' => e = .returned (.bool true) ∧ On w w' := by
  obtain ⟨m, hm, hm6⟩ := clamp_nat n
  exact relPairs_core n _ m rfl hm hm6 a1 L1 c1 w h1 hd
end Go.Proofs.YthbiaojefmdcmaaDoor
