/- RelThen, walked. -/
import Derived.Test.YthbiaojefmdcmaaRelK
import Derived.Test.YthbiaojefmdcmaaRelP
import Derived.Test.YthbiaojefmdcmaaRelQ
import Derived.Test.YthbiaojefmdcmaaAwake8
import Derived.Test.YthbiaojefmdcmaaOfWf
namespace Go.Proofs.Ythbiaojefmdcmaa
open Go.RowKit

section
variable {r q p : RelT} (hr : Wf r) (hq : Wf q) (hp : Wf p) (hn : r.n = q.n) (hm : r.n = p.n)
include hr hq hp hn hm
theorem then_assoc : thenR r (thenR q p) = thenR (thenR r q) p := by
  refine rel_ext (by rw [then_n, then_n, then_n, then_n]; omega) fun a b => ?_
  rw [Bool.eq_iff_iff, then_H hr (then_wf hq hp), then_H (then_wf hr hq) hp, then_n, then_n]
  constructor
  · rintro ⟨⟨h1, h2⟩, c, h3, h4, h5⟩
    obtain ⟨⟨h6, h7⟩, d, h8, h9, h10⟩ := (then_H hq hp c b).1 h5
    exact ⟨⟨by omega, by omega⟩, d, by omega, (then_H hr hq a d).2 ⟨⟨by omega, by omega⟩, c, by omega, h4, h9⟩, h10⟩
  · rintro ⟨⟨h1, h2⟩, c, h3, h4, h5⟩
    obtain ⟨⟨h6, h7⟩, d, h8, h9, h10⟩ := (then_H hr hq a c).1 h4
    exact ⟨⟨by omega, by omega⟩, d, by omega, h9, (then_H hq hp d b).2 ⟨⟨by omega, by omega⟩, c, by omega, h10, h5⟩⟩
theorem then_dist : unionR (thenR r p) (thenR q p) = thenR (unionR r q) p := by
  refine rel_ext (by rw [union_n, then_n, then_n, then_n, union_n]; omega) fun a b => ?_
  rw [Bool.eq_iff_iff, union_H (then_wf hr hp) (then_wf hq hp), then_H (union_wf hr hq) hp, then_n, then_n, union_n]
  simp only [Bool.and_eq_true, Bool.or_eq_true, decide_eq_true_eq]
  constructor
  · rintro ⟨⟨h | h, h1⟩, h2⟩
    · obtain ⟨⟨h6, h7⟩, d, h8, h9, h10⟩ := (then_H hr hp a b).1 h
      exact ⟨⟨by omega, by omega⟩, d, by omega, by rw [union_H hr hq, h9]; have e1 : a < min r.n q.n := by omega
                                                   have e2 : d < min r.n q.n := by omega
                                                   simp [e1, e2], h10⟩
    · obtain ⟨⟨h6, h7⟩, d, h8, h9, h10⟩ := (then_H hq hp a b).1 h
      exact ⟨⟨by omega, by omega⟩, d, by omega, by rw [union_H hr hq, h9]; have e1 : a < min r.n q.n := by omega
                                                   have e2 : d < min r.n q.n := by omega
                                                   simp [e1, e2], h10⟩
  · rintro ⟨⟨h1, h2⟩, c, h3, h4, h5⟩
    rw [union_H hr hq] at h4
    simp only [Bool.and_eq_true, Bool.or_eq_true, decide_eq_true_eq] at h4
    rcases h4 with ⟨⟨h | h, h6⟩, h7⟩
    · exact ⟨⟨Or.inl ((then_H hr hp a b).2 ⟨⟨by omega, by omega⟩, c, by omega, h, h5⟩), by omega⟩, by omega⟩
    · exact ⟨⟨Or.inr ((then_H hq hp a b).2 ⟨⟨by omega, by omega⟩, c, by omega, h, h5⟩), by omega⟩, by omega⟩
end
/-- Is some number below j between x and y? -/
def wantN (r q : RelT) (x y : Nat) : Nat → Bool
  | 0 => false
  | j + 1 => wantN r q x y j || (H r x j && H q j y)
theorem want_iff (r q : RelT) (x y : Nat) : ∀ j, wantN r q x y j = true ↔ ∃ b, b < j ∧ H r x b = true ∧ H q b y = true
  | 0 => by unfold wantN; simp
  | j + 1 => by
    unfold wantN
    rw [Bool.or_eq_true, want_iff r q x y j, Bool.and_eq_true]
    constructor
    · rintro (⟨b, h1, h2⟩ | h)
      · exact ⟨b, by omega, h2⟩
      · exact ⟨j, by omega, h⟩
    · rintro ⟨b, h1, h2⟩
      rcases Nat.lt_or_ge b j with h | h
      · exact Or.inl ⟨b, h, h2⟩
      · obtain rfl : b = j := by omega
        exact Or.inr h2
theorem want_then {r q : RelT} (hr : Wf r) (hq : Wf q) (hn : r.n = q.n) (x y : Nat) (hx : x < r.n) (hy : y < r.n) : hasR (thenR r q) x y = wantN r q x y r.n := by
  rw [has_nat2 (then_wf hr hq), Bool.eq_iff_iff, then_H hr hq, want_iff]
  constructor
  · rintro ⟨_, c, h1, h2⟩
    exact ⟨c, by omega, h2⟩
  · rintro ⟨c, h1, h2⟩
    exact ⟨⟨by omega, by omega⟩, c, by omega, h2⟩
set_option maxHeartbeats 8000000 in
set_option maxRecDepth 8000 in
theorem relThen_walk (n : Int) (a1 : Option Addr) (L1 : List (Int × Int)) (c1 : Nat) (a2 : Option Addr) (L2 : List (Int × Int)) (c2 : Nat) (a3 : Option Addr) (L3 : List (Int × Int)) (c3 : Nat) (i k : Int) (w : World)
    (h1 : Rd pairC 2 w (.slice a1 L1.length c1) L1) (h2 : Rd pairC 2 w (.slice a2 L2.length c2) L2) (h3 : Rd pairC 2 w (.slice a3 L3.length c3) L3) :
    Calls Try.prog 3 #[.int .i64 n, .slice a1 L1.length c1, .slice a2 L2.length c2, .slice a3 L3.length c3, .int .i64 i, .int .i64 k] w fun e w' => e = .returned (.bool true) ∧ On w w' := by
  obtain ⟨hz, _⟩ := zero_of_info rel_info
  obtain ⟨hzw, _⟩ := zero_of_info rel_infow
  obtain ⟨q8, hq8, eq8⟩ := low8 n
  obtain ⟨i8, hi8, ei8⟩ := low8 i
  obtain ⟨k8, hk8, ek8⟩ := low8 k
  obtain ⟨m, em⟩ : ∃ m : Nat, (q8 : Int) % 20 + 1 = (m : Int) := ⟨q8 % 20 + 1, by omega⟩
  have hm1 : 1 ≤ m := by omega
  have hm2 : m ≤ 20 := by omega
  obtain ⟨x, ex⟩ : ∃ x : Nat, (i8 : Int) % (m : Int) = (x : Int) := ⟨i8 % m, by simp⟩
  obtain ⟨y, ey⟩ : ∃ y : Nat, (k8 : Int) % (m : Int) = (y : Int) := ⟨k8 % m, by simp⟩
  have hx : x < m := by have : (i8 : Int) % (m : Int) < m := Int.emod_lt_of_pos _ (by omega); omega
  have hy : y < m := by have : (k8 : Int) % (m : Int) < m := Int.emod_lt_of_pos _ (by omega); omega
  have ex' : (i8 : Int).tmod (m : Int) = (x : Int) := by rw [Int.tmod_eq_emod_of_nonneg (by omega)]; exact ex
  have ey' : (k8 : Int).tmod (m : Int) = (y : Int) := by rw [Int.tmod_eq_emod_of_nonneg (by omega)]; exact ey
  have hm0 : ((m : Int) == 0) = false := by simp; omega
  have hO1 := fun W (k : On w W) => pairs_is m L1 _ W (h1.on k)
  have hO2 := fun W (k : On w W) => pairs_is m L2 _ W (h2.on k)
  have hO3 := fun W (k : On w W) => pairs_is m L3 _ W (h3.on k)
  have hr := of_wf m L1
  have hq := of_wf m L2
  have hp := of_wf m L3
  have hrn : (ofR m L1).n = m := by rw [of_n]; omega
  have hqn : (ofR m L2).n = m := by rw [of_n]; omega
  have hpn : (ofR m L3).n = m := by rw [of_n]; omega
  clear h1 h2 h3
  generalize ofR m L1 = r at *
  generalize ofR m L2 = q at *
  generalize ofR m L3 = p at *
  have x1 := fun W => then_is r q hr.wr hq.wr W
  have x2 := fun W => rhas_is (thenR r q) (then_wf hr hq).wr x y W
  have x3 := fun W => then_is (thenR r q) p (then_wf hr hq).wr hp.wr W
  have x4 := fun W => then_is q p hq.wr hp.wr W
  have x5 := fun W => then_is r (thenR q p) hr.wr (then_wf hq hp).wr W
  have x6 := fun W => union_is r q hr.wr hq.wr W
  have x7 := fun W => then_is (unionR r q) p (union_wf hr hq).wr hp.wr W
  have x8 := fun W => then_is r p hr.wr hp.wr W
  have x9 := fun W => union_is (thenR r p) (thenR q p) (then_wf hr hp).wr (then_wf hq hp).wr W
  rw [want_then hr hq (by omega) x y (by omega) (by omega), hrn] at x2
  rw [then_assoc hr hq hp (by omega) (by omega)] at x5
  rw [then_dist hr hq hp (by omega) (by omega)] at x9
  have hH1 : ∀ (j : Nat) W, Calls Try.prog 8 #[.agg (relA r), .int .i64 x, .int .i64 j] W fun e w' => e = .returned (.bool (H r x j)) ∧ On W w' := fun j W => by
    have := rhas_is r hr.wr x j W
    rwa [has_nat2 hr] at this
  have hH2 : ∀ (j : Nat) W, Calls Try.prog 8 #[.agg (relA q), .int .i64 j, .int .i64 y] W fun e w' => e = .returned (.bool (H q j y)) ∧ On W w' := fun j W => by
    have := rhas_is q hq.wr j y W
    rwa [has_nat2 hq] at this
  have xA := fun W => awake8_is W
  have heq := fun (X : RelT) W => eqRel_same W X
  clear hr hq hp hrn hqn hpn
  obtain ⟨WN, hWN⟩ : ∃ WN, WN = wantN r q x y := ⟨_, rfl⟩
  rw [← hWN] at x2
  have hw0 : Hid (WN 0 = false) := by rw [hWN]; exact rfl
  have hws : Hid (∀ j, WN (j + 1) = (WN j || (H r x j && H q j y))) := by rw [hWN]; exact fun _ => rfl
  clear hWN
  generalize thenR (unionR r q) p = UP at *
  generalize thenR (thenR r q) p = TP at *
  generalize thenR r q = T at *
  generalize thenR q p = QP at *
  generalize thenR r p = RP at *
  generalize unionR r q = U at *
  go_enter Try.func3, Try.ntmps3
  go_wp2
  go_quiet (fail)
  obtain ⟨wq, hwq⟩ : ∃ wq, wq = w.drewN nq := ⟨_, rfl⟩
  have Kq : On w wq := by rw [hwq]; exact (On.refl w).drewN nq
  rw [← hwq]
  clear hwq
  go_wp2_with (fail)
  refine (hO1 _ Kq).mono ?_
  rintro _ w1 ⟨rfl, k1⟩
  have K1 := Kq.trans k1
  have B1a := (Bk.new w1 (relA zeroR) 27).alloc (.cells (relA zeroR) 30)
  have B1b : Bk ((w1.alloc (.cells (relA zeroR) 27)).alloc (.cells (relA zeroR) 30)) (w1.heap.size + 1) (relA zeroR) := by
    have := Bk.new (w1.alloc (.cells (relA zeroR) 27)) (relA zeroR) 30
    rwa [World.size_alloc] at this
  have B1c := B1b.rowFar (N := w1.heap.size) (by omega) (relA r)
  obtain ⟨W1, hW1⟩ : ∃ W1, W1 = (((w1.alloc (.cells (relA zeroR) 27)).alloc (.cells (relA zeroR) 30)).setRow w1.heap.size (relA r)).setRow (w1.heap.size + 1) (relA r) := ⟨_, rfl⟩
  have HW1 : Hid (W1 = (((w1.alloc (.cells (relA zeroR) 27)).alloc (.cells (relA zeroR) 30)).setRow w1.heap.size (relA r)).setRow (w1.heap.size + 1) (relA r)) := hW1
  have B1r : Bk W1 w1.heap.size (relA r) := by rw [hW1]; exact (B1a.row _).rowFar (by omega) _
  have B1w : Bk W1 (w1.heap.size + 1) (relA r) := by rw [hW1]; exact B1c.row _
  have KK1 : On w W1 := by rw [hW1]; exact (((K1.alloc _).alloc _).row K1.size _).row (by have := K1.size; omega) _
  clear hW1
  go_wp2_with (first | (refine wpList_st rfl rfl rfl rfl B1a ?_) | (refine wpList_stw rfl rfl rfl rfl B1c ?_; rw [← HW1.out]; clear HW1 B1a B1b B1c))
  refine (hO2 _ KK1).mono ?_
  rintro _ w2 ⟨rfl, k2⟩
  have K2 := KK1.trans k2
  have B2a := (Bk.new w2 (relA zeroR) 27).alloc (.cells (relA zeroR) 30)
  have B2b : Bk ((w2.alloc (.cells (relA zeroR) 27)).alloc (.cells (relA zeroR) 30)) (w2.heap.size + 1) (relA zeroR) := by
    have := Bk.new (w2.alloc (.cells (relA zeroR) 27)) (relA zeroR) 30
    rwa [World.size_alloc] at this
  have B2c := B2b.rowFar (N := w2.heap.size) (by omega) (relA q)
  obtain ⟨W2, hW2⟩ : ∃ W2, W2 = (((w2.alloc (.cells (relA zeroR) 27)).alloc (.cells (relA zeroR) 30)).setRow w2.heap.size (relA q)).setRow (w2.heap.size + 1) (relA q) := ⟨_, rfl⟩
  have HW2 : Hid (W2 = (((w2.alloc (.cells (relA zeroR) 27)).alloc (.cells (relA zeroR) 30)).setRow w2.heap.size (relA q)).setRow (w2.heap.size + 1) (relA q)) := hW2
  have B2r : Bk W2 w2.heap.size (relA q) := by rw [hW2]; exact (B2a.row _).rowFar (by omega) _
  have B2w : Bk W2 (w2.heap.size + 1) (relA q) := by rw [hW2]; exact B2c.row _
  have KK2 : On w W2 := by rw [hW2]; exact (((K2.alloc _).alloc _).row K2.size _).row (by have := K2.size; omega) _
  have C2B1r : Bk W2 w1.heap.size (relA r) := by rw [hW2]; exact ((((B1r.on k2).alloc _).alloc _).rowFar (by have := (B1r.on k2).lt; omega) _).rowFar (by have := (B1r.on k2).lt; omega) _
  clear hW2
  go_wp2_with (first | (refine wpList_st rfl rfl rfl rfl B2a ?_) | (refine wpList_stw rfl rfl rfl rfl B2c ?_; rw [← HW2.out]; clear HW2 B2a B2b B2c))
  refine (hO3 _ KK2).mono ?_
  rintro _ w3 ⟨rfl, k3⟩
  have K3 := KK2.trans k3
  have B3a := (Bk.new w3 (relA zeroR) 27).alloc (.cells (relA zeroR) 30)
  have B3b : Bk ((w3.alloc (.cells (relA zeroR) 27)).alloc (.cells (relA zeroR) 30)) (w3.heap.size + 1) (relA zeroR) := by
    have := Bk.new (w3.alloc (.cells (relA zeroR) 27)) (relA zeroR) 30
    rwa [World.size_alloc] at this
  have B3c := B3b.rowFar (N := w3.heap.size) (by omega) (relA p)
  obtain ⟨W3, hW3⟩ : ∃ W3, W3 = (((w3.alloc (.cells (relA zeroR) 27)).alloc (.cells (relA zeroR) 30)).setRow w3.heap.size (relA p)).setRow (w3.heap.size + 1) (relA p) := ⟨_, rfl⟩
  have HW3 : Hid (W3 = (((w3.alloc (.cells (relA zeroR) 27)).alloc (.cells (relA zeroR) 30)).setRow w3.heap.size (relA p)).setRow (w3.heap.size + 1) (relA p)) := hW3
  have B3r : Bk W3 w3.heap.size (relA p) := by rw [hW3]; exact (B3a.row _).rowFar (by omega) _
  have B3w : Bk W3 (w3.heap.size + 1) (relA p) := by rw [hW3]; exact B3c.row _
  have KK3 : On w W3 := by rw [hW3]; exact (((K3.alloc _).alloc _).row K3.size _).row (by have := K3.size; omega) _
  have C3C2B1r : Bk W3 w1.heap.size (relA r) := by rw [hW3]; exact ((((C2B1r.on k3).alloc _).alloc _).rowFar (by have := (C2B1r.on k3).lt; omega) _).rowFar (by have := (C2B1r.on k3).lt; omega) _
  have C3B2r : Bk W3 w2.heap.size (relA q) := by rw [hW3]; exact ((((B2r.on k3).alloc _).alloc _).rowFar (by have := (B2r.on k3).lt; omega) _).rowFar (by have := (B2r.on k3).lt; omega) _
  clear hW3
  go_wp2_with (first | (refine wpList_st rfl rfl rfl rfl B3a ?_) | (refine wpList_stw rfl rfl rfl rfl B3c ?_; rw [← HW3.out]; clear HW3 B3a B3b B3c))
  have S0 : (Bk W3 w1.heap.size (relA r) ∧ Bk W3 w2.heap.size (relA q)) ∧ Bk W3 w3.heap.size (relA p) := ⟨⟨C3C2B1r, C3B2r⟩, B3r⟩
  have hon : ∀ W W', (Bk W w1.heap.size (relA r) ∧ Bk W w2.heap.size (relA q)) ∧ Bk W w3.heap.size (relA p) → On W W' → (Bk W' w1.heap.size (relA r) ∧ Bk W' w2.heap.size (relA q)) ∧ Bk W' w3.heap.size (relA p) := fun W W' h k => ⟨⟨h.1.1.on k, h.1.2.on k⟩, h.2.on k⟩
  go_loopg [19, 20] m (fun gg s19 s20 wr => ∃ j : Nat, j ≤ m ∧ gg = m - j ∧ s20 = .int .i64 j ∧ s19 = .bool (WN j) ∧ Hid (On w wr) ∧ ((Bk wr w1.heap.size (relA r) ∧ Bk wr w2.heap.size (relA q)) ∧ Bk wr w3.heap.size (relA p)))
  case atStart => exact ⟨0, Nat.zero_le _, rfl, rfl, by rw [hw0.out], KK3, S0⟩
  case round =>
    clear S0 KK3
    obtain ⟨j, hj, hk, rfl, rfl, HO, SJ⟩ := hrel
    rcases Nat.lt_or_ge j m with hlt | hge
    · have hs := hws.out j
      have h1 := fun W => hH1 j W
      have h2 := fun W => hH2 j W
      clear x1 x2 x3 x4 x5 x6 x7 x8 x9 xA heq
      cases hw : WN j with
      | true =>
        rw [hw] at hs
        have HS : Hid (WN (j + 1) = true) := hs
        clear hs hw
        go_wp2
        go_roundg (m - (j + 1))
        case measure => omega
        case rel => exact ⟨j + 1, hlt, rfl, by congr 1, by rw [HS.out], HO, SJ⟩
      | false =>
        rw [hw] at hs
        cases ha : H r x j with
        | false =>
          rw [ha] at hs h1
          have HS : Hid (WN (j + 1) = false) := hs
          clear hs hw ha
          go_wp2_with (refine wpList_ldG (by rfl) rfl rfl SJ.1.1 ?_)
          refine (h1 _).mono ?_
          rintro _ w5 ⟨rfl, k5⟩
          go_wp2
          go_roundg (m - (j + 1))
          case measure => omega
          case rel => exact ⟨j + 1, hlt, rfl, by congr 1, by rw [HS.out], HO.out.trans k5, hon _ _ SJ k5⟩
        | true =>
          rw [ha] at hs h1
          cases hb : H q j y with
          | false =>
            rw [hb] at hs h2
            have HS : Hid (WN (j + 1) = false) := hs
            clear hs hw ha hb
            go_wp2_with (refine wpList_ldG (by rfl) rfl rfl SJ.1.1 ?_)
            refine (h1 _).mono ?_
            rintro _ w5 ⟨rfl, k5⟩
            have S5 := hon _ _ SJ k5
            go_wp2_with (refine wpList_ldG (by rfl) rfl rfl S5.1.2 ?_)
            refine (h2 _).mono ?_
            rintro _ w6 ⟨rfl, k6⟩
            go_wp2
            go_roundg (m - (j + 1))
            case measure => omega
            case rel => exact ⟨j + 1, hlt, rfl, by congr 1, by rw [HS.out], (HO.out.trans k5).trans k6, hon _ _ S5 k6⟩
          | true =>
            rw [hb] at hs h2
            have HS : Hid (WN (j + 1) = true) := hs
            clear hs hw ha hb
            go_wp2_with (refine wpList_ldG (by rfl) rfl rfl SJ.1.1 ?_)
            refine (h1 _).mono ?_
            rintro _ w5 ⟨rfl, k5⟩
            have S5 := hon _ _ SJ k5
            go_wp2_with (refine wpList_ldG (by rfl) rfl rfl S5.1.2 ?_)
            refine (h2 _).mono ?_
            rintro _ w6 ⟨rfl, k6⟩
            go_wp2
            go_roundg (m - (j + 1))
            case measure => omega
            case rel => exact ⟨j + 1, hlt, rfl, by congr 1, by rw [HS.out], (HO.out.trans k5).trans k6, hon _ _ S5 k6⟩
    · obtain rfl : j = m := by omega
      clear hH1 hH2 hws hw0
      generalize WN j = B at *
      go_wp2
      have T0 : (Bk wr.drew w1.heap.size (relA r) ∧ Bk wr.drew w2.heap.size (relA q)) ∧ Bk wr.drew w3.heap.size (relA p) := SJ
      have K0 := HO.out.drew
      refine region_fin (fun W => (Bk W w1.heap.size (relA r) ∧ Bk W w2.heap.size (relA q)) ∧ Bk W w3.heap.size (relA p)) 99 40 (by kernel_rfl) rfl ?_
      refine fin_take 0 (v := .agg (relA r)) rfl (by kernel_rfl) (by kernel_rfl) (by kernel_rfl) (by kernel_rfl) (fun _ _ _ h => h) rfl (fun W hW => exec_ld rfl rfl (hW.1.1)) T0 ?_
      simp only [Act.put, List.setIfInBounds_toArray, List.set_cons_zero, List.set_cons_succ]
      refine fin_take 1 (v := .agg (relA q)) rfl (by kernel_rfl) (by kernel_rfl) (by kernel_rfl) (by kernel_rfl) (fun _ _ _ h => h) rfl (fun W hW => exec_ld rfl rfl (hW.1.2)) T0 ?_
      simp only [Act.put, List.setIfInBounds_toArray, List.set_cons_zero, List.set_cons_succ]
      refine fin_take 3 (v := ?_) rfl (by kernel_rfl) (by kernel_rfl) (by kernel_rfl) (by kernel_rfl) (fun _ _ _ h => h) rfl ?_ T0 ?_
      rotate_left
      · intro W hW
        go_simp
        (try with_reducible rfl)
      simp only [Act.put, List.setIfInBounds_toArray, List.set_cons_zero, List.set_cons_succ]
      refine fin_take 4 (v := ?_) rfl (by kernel_rfl) (by kernel_rfl) (by kernel_rfl) (by kernel_rfl) (fun _ _ _ h => h) rfl ?_ T0 ?_
      rotate_left
      · intro W hW
        go_simp
        (try with_reducible rfl)
      simp only [Act.put, List.setIfInBounds_toArray, List.set_cons_zero, List.set_cons_succ]
      refine fin_take 6 (v := ?_) rfl (by kernel_rfl) (by kernel_rfl) (by kernel_rfl) (by kernel_rfl) (fun _ _ _ h => h) rfl ?_ T0 ?_
      rotate_left
      · intro W hW
        go_simp
        (try with_reducible rfl)
      simp only [Act.put, List.setIfInBounds_toArray, List.set_cons_zero, List.set_cons_succ]
      refine fin_one 2 rfl rfl (by kernel_rfl) (fun K hK => ?_)
      go_simp
      refine (x1 _).mono ?_
      rintro _ v1 ⟨rfl, kv1⟩
      have Sv1 := hon _ _ T0 kv1
      have Kv1 := K0.trans kv1
      refine hK.out _ _ (fun _ => Sv1) ?_
      clear hK
      refine fin_one 5 rfl rfl (by kernel_rfl) (fun K hK => ?_)
      go_simp
      refine (x2 _).mono ?_
      rintro _ v2 ⟨rfl, kv2⟩
      have Sv2 := hon _ _ Sv1 kv2
      have Kv2 := Kv1.trans kv2
      refine hK.out _ _ (fun _ => Sv2) ?_
      clear hK
      refine fin_take 7 (v := ?_) rfl (by kernel_rfl) (by kernel_rfl) (by kernel_rfl) (by kernel_rfl) (fun _ _ _ h => h) rfl ?_ Sv2 ?_
      rotate_left
      · intro W hW
        go_simp
        (try with_reducible rfl)
      simp only [Act.put, List.setIfInBounds_toArray, List.set_cons_zero, List.set_cons_succ]
      refine fin_take 8 (v := ?_) rfl (by kernel_rfl) (by kernel_rfl) (by kernel_rfl) (by kernel_rfl) (fun _ _ _ h => h) rfl ?_ Sv2 ?_
      rotate_left
      · intro W hW
        go_simp
        (try with_reducible rfl)
      simp only [Act.put, List.setIfInBounds_toArray, List.set_cons_zero, List.set_cons_succ]
      refine fin_takeG 9 (v := .agg (relA r)) rfl (by kernel_rfl) (by kernel_rfl) (by kernel_rfl) (by kernel_rfl) (fun _ _ _ h => h) (by rfl) (fun W hW => exec_ld rfl rfl (hW.1.1)) Sv2 ?_
      simp only [Act.put, List.setIfInBounds_toArray, List.set_cons_zero, List.set_cons_succ]
      refine fin_takeG 10 (v := .agg (relA q)) rfl (by kernel_rfl) (by kernel_rfl) (by kernel_rfl) (by kernel_rfl) (fun _ _ _ h => h) (by rfl) (fun W hW => exec_ld rfl rfl (hW.1.2)) Sv2 ?_
      simp only [Act.put, List.setIfInBounds_toArray, List.set_cons_zero, List.set_cons_succ]
      refine fin_takeG 12 (v := .agg (relA p)) rfl (by kernel_rfl) (by kernel_rfl) (by kernel_rfl) (by kernel_rfl) (fun _ _ _ h => h) (by rfl) (fun W hW => exec_ld rfl rfl (hW.2)) Sv2 ?_
      simp only [Act.put, List.setIfInBounds_toArray, List.set_cons_zero, List.set_cons_succ]
      refine fin_takeG 14 (v := .agg (relA r)) rfl (by kernel_rfl) (by kernel_rfl) (by kernel_rfl) (by kernel_rfl) (fun _ _ _ h => h) (by rfl) (fun W hW => exec_ld rfl rfl (hW.1.1)) Sv2 ?_
      simp only [Act.put, List.setIfInBounds_toArray, List.set_cons_zero, List.set_cons_succ]
      refine fin_takeG 15 (v := .agg (relA q)) rfl (by kernel_rfl) (by kernel_rfl) (by kernel_rfl) (by kernel_rfl) (fun _ _ _ h => h) (by rfl) (fun W hW => exec_ld rfl rfl (hW.1.2)) Sv2 ?_
      simp only [Act.put, List.setIfInBounds_toArray, List.set_cons_zero, List.set_cons_succ]
      refine fin_takeG 16 (v := .agg (relA p)) rfl (by kernel_rfl) (by kernel_rfl) (by kernel_rfl) (by kernel_rfl) (fun _ _ _ h => h) (by rfl) (fun W hW => exec_ld rfl rfl (hW.2)) Sv2 ?_
      simp only [Act.put, List.setIfInBounds_toArray, List.set_cons_zero, List.set_cons_succ]
      refine fin_oneG 11 rfl (by rfl) (by kernel_rfl) (fun K hK => ?_)
      go_simp
      refine (x1 _).mono ?_
      rintro _ v3 ⟨rfl, kv3⟩
      have Sv3 := hon _ _ Sv2 kv3
      have Kv3 := Kv2.trans kv3
      refine hK.out _ _ (fun _ => Sv3) ?_
      clear hK
      refine fin_oneG 13 rfl (by rfl) (by kernel_rfl) (fun K hK => ?_)
      go_simp
      refine (x3 _).mono ?_
      rintro _ v4 ⟨rfl, kv4⟩
      have Sv4 := hon _ _ Sv3 kv4
      have Kv4 := Kv3.trans kv4
      refine hK.out _ _ (fun _ => Sv4) ?_
      clear hK
      refine fin_oneG 17 rfl (by rfl) (by kernel_rfl) (fun K hK => ?_)
      go_simp
      refine (x4 _).mono ?_
      rintro _ v5 ⟨rfl, kv5⟩
      have Sv5 := hon _ _ Sv4 kv5
      have Kv5 := Kv4.trans kv5
      refine hK.out _ _ (fun _ => Sv5) ?_
      clear hK
      refine fin_oneG 18 rfl (by rfl) (by kernel_rfl) (fun K hK => ?_)
      go_simp
      refine (x5 _).mono ?_
      rintro _ v6 ⟨rfl, kv6⟩
      have Sv6 := hon _ _ Sv5 kv6
      have Kv6 := Kv5.trans kv6
      refine hK.out _ _ (fun _ => Sv6) ?_
      clear hK
      refine fin_takeG 19 (v := ?_) rfl (by kernel_rfl) (by kernel_rfl) (by kernel_rfl) (by kernel_rfl) (fun _ _ _ h => h) (by rfl) ?_ Sv6 ?_
      rotate_left
      · intro W hW
        go_simp
        (try with_reducible rfl)
      simp only [Act.put, List.setIfInBounds_toArray, List.set_cons_zero, List.set_cons_succ]
      refine fin_take 20 (v := ?_) rfl (by kernel_rfl) (by kernel_rfl) (by kernel_rfl) (by kernel_rfl) (fun _ _ _ h => h) rfl ?_ Sv6 ?_
      rotate_left
      · intro W hW
        go_simp
        (try with_reducible rfl)
      simp only [Act.put, List.setIfInBounds_toArray, List.set_cons_zero, List.set_cons_succ]
      refine fin_take 21 (v := ?_) rfl (by kernel_rfl) (by kernel_rfl) (by kernel_rfl) (by kernel_rfl) (fun _ _ _ h => h) rfl ?_ Sv6 ?_
      rotate_left
      · intro W hW
        go_simp
        (try with_reducible rfl)
      simp only [Act.put, List.setIfInBounds_toArray, List.set_cons_zero, List.set_cons_succ]
      refine fin_takeG 22 (v := .agg (relA r)) rfl (by kernel_rfl) (by kernel_rfl) (by kernel_rfl) (by kernel_rfl) (fun _ _ _ h => h) (by rfl) (fun W hW => exec_ld rfl rfl (hW.1.1)) Sv6 ?_
      simp only [Act.put, List.setIfInBounds_toArray, List.set_cons_zero, List.set_cons_succ]
      refine fin_takeG 23 (v := .agg (relA q)) rfl (by kernel_rfl) (by kernel_rfl) (by kernel_rfl) (by kernel_rfl) (fun _ _ _ h => h) (by rfl) (fun W hW => exec_ld rfl rfl (hW.1.2)) Sv6 ?_
      simp only [Act.put, List.setIfInBounds_toArray, List.set_cons_zero, List.set_cons_succ]
      refine fin_takeG 25 (v := .agg (relA p)) rfl (by kernel_rfl) (by kernel_rfl) (by kernel_rfl) (by kernel_rfl) (fun _ _ _ h => h) (by rfl) (fun W hW => exec_ld rfl rfl (hW.2)) Sv6 ?_
      simp only [Act.put, List.setIfInBounds_toArray, List.set_cons_zero, List.set_cons_succ]
      refine fin_takeG 27 (v := .agg (relA r)) rfl (by kernel_rfl) (by kernel_rfl) (by kernel_rfl) (by kernel_rfl) (fun _ _ _ h => h) (by rfl) (fun W hW => exec_ld rfl rfl (hW.1.1)) Sv6 ?_
      simp only [Act.put, List.setIfInBounds_toArray, List.set_cons_zero, List.set_cons_succ]
      refine fin_takeG 28 (v := .agg (relA p)) rfl (by kernel_rfl) (by kernel_rfl) (by kernel_rfl) (by kernel_rfl) (fun _ _ _ h => h) (by rfl) (fun W hW => exec_ld rfl rfl (hW.2)) Sv6 ?_
      simp only [Act.put, List.setIfInBounds_toArray, List.set_cons_zero, List.set_cons_succ]
      refine fin_takeG 30 (v := .agg (relA q)) rfl (by kernel_rfl) (by kernel_rfl) (by kernel_rfl) (by kernel_rfl) (fun _ _ _ h => h) (by rfl) (fun W hW => exec_ld rfl rfl (hW.1.2)) Sv6 ?_
      simp only [Act.put, List.setIfInBounds_toArray, List.set_cons_zero, List.set_cons_succ]
      refine fin_takeG 31 (v := .agg (relA p)) rfl (by kernel_rfl) (by kernel_rfl) (by kernel_rfl) (by kernel_rfl) (fun _ _ _ h => h) (by rfl) (fun W hW => exec_ld rfl rfl (hW.2)) Sv6 ?_
      simp only [Act.put, List.setIfInBounds_toArray, List.set_cons_zero, List.set_cons_succ]
      refine fin_oneG 24 rfl (by rfl) (by kernel_rfl) (fun K hK => ?_)
      go_simp
      refine (x6 _).mono ?_
      rintro _ v7 ⟨rfl, kv7⟩
      have Sv7 := hon _ _ Sv6 kv7
      have Kv7 := Kv6.trans kv7
      refine hK.out _ _ (fun _ => Sv7) ?_
      clear hK
      refine fin_oneG 26 rfl (by rfl) (by kernel_rfl) (fun K hK => ?_)
      go_simp
      refine (x7 _).mono ?_
      rintro _ v8 ⟨rfl, kv8⟩
      have Sv8 := hon _ _ Sv7 kv8
      have Kv8 := Kv7.trans kv8
      refine hK.out _ _ (fun _ => Sv8) ?_
      clear hK
      refine fin_oneG 29 rfl (by rfl) (by kernel_rfl) (fun K hK => ?_)
      go_simp
      refine (x8 _).mono ?_
      rintro _ v9 ⟨rfl, kv9⟩
      have Sv9 := hon _ _ Sv8 kv9
      have Kv9 := Kv8.trans kv9
      refine hK.out _ _ (fun _ => Sv9) ?_
      clear hK
      refine fin_oneG 32 rfl (by rfl) (by kernel_rfl) (fun K hK => ?_)
      go_simp
      refine (x4 _).mono ?_
      rintro _ v10 ⟨rfl, kv10⟩
      have Sv10 := hon _ _ Sv9 kv10
      have Kv10 := Kv9.trans kv10
      refine hK.out _ _ (fun _ => Sv10) ?_
      clear hK
      refine fin_oneG 33 rfl (by rfl) (by kernel_rfl) (fun K hK => ?_)
      go_simp
      refine (x9 _).mono ?_
      rintro _ v11 ⟨rfl, kv11⟩
      have Sv11 := hon _ _ Sv10 kv11
      have Kv11 := Kv10.trans kv11
      refine hK.out _ _ (fun _ => Sv11) ?_
      clear hK
      refine fin_takeG 34 (v := ?_) rfl (by kernel_rfl) (by kernel_rfl) (by kernel_rfl) (by kernel_rfl) (fun _ _ _ h => h) (by rfl) ?_ Sv11 ?_
      rotate_left
      · intro W hW
        go_simp
        (try with_reducible rfl)
      simp only [Act.put, List.setIfInBounds_toArray, List.set_cons_zero, List.set_cons_succ]
      refine fin_take 35 (v := ?_) rfl (by kernel_rfl) (by kernel_rfl) (by kernel_rfl) (by kernel_rfl) (fun _ _ _ h => h) rfl ?_ Sv11 ?_
      rotate_left
      · intro W hW
        go_simp
        (try with_reducible rfl)
      simp only [Act.put, List.setIfInBounds_toArray, List.set_cons_zero, List.set_cons_succ]
      refine fin_take 36 (v := ?_) rfl (by kernel_rfl) (by kernel_rfl) (by kernel_rfl) (by kernel_rfl) (fun _ _ _ h => h) rfl ?_ Sv11 ?_
      rotate_left
      · intro W hW
        go_simp
        (try with_reducible rfl)
      simp only [Act.put, List.setIfInBounds_toArray, List.set_cons_zero, List.set_cons_succ]
      refine fin_oneG 37 rfl (by rfl) (by kernel_rfl) (fun K hK => ?_)
      go_simp
      refine (xA _).mono ?_
      rintro _ v12 ⟨rfl, kv12⟩
      have Sv12 := hon _ _ Sv11 kv12
      have Kv12 := Kv11.trans kv12
      refine hK.out _ _ (fun _ => Sv12) ?_
      clear hK
      refine fin_take 38 (v := ?_) rfl (by kernel_rfl) (by kernel_rfl) (by kernel_rfl) (by kernel_rfl) (fun _ _ _ h => h) rfl ?_ Sv12 ?_
      rotate_left
      · intro W hW
        go_simp
        (try with_reducible rfl)
      simp only [Act.put, List.setIfInBounds_toArray, List.set_cons_zero, List.set_cons_succ]
      refine fin_take 39 (v := ?_) rfl (by kernel_rfl) (by kernel_rfl) (by kernel_rfl) (by kernel_rfl) (fun _ _ _ h => h) rfl ?_ Sv12 ?_
      rotate_left
      · intro W hW
        go_simp
        (try with_reducible rfl)
      simp only [Act.put, List.setIfInBounds_toArray, List.set_cons_zero, List.set_cons_succ]
      refine fin_done (by kernel_rfl) (NoPanic.normal ?_)
      go_wp2
      go_ret
      exact ⟨rfl, Kv12⟩
end Go.Proofs.Ythbiaojefmdcmaa
