/- RelAcyclic, walked. -/
import Derived.Test.YthbiaojefmdcmabOfWf
import Derived.Test.YthbiaojefmdcmabRelQ
import Derived.Test.YthbiaojefmdcmabAwake8
namespace Go.Proofs.Ythbiaojefmdcmab
open Go.RowKit

/-- All pairs rise, below m. -/
def Up (m : Nat) (U : List (Int × Int)) : Prop := ∀ p ∈ U, ∃ a b : Nat, p = ((a : Int), (b : Int)) ∧ a < b ∧ b < m
theorem ofL_rise : ∀ (U : List (Int × Int)) (r : RelT), Wf r → (∀ p ∈ U, p.1 < p.2) → (∀ x y, H r x y = true → x < y) → ∀ x y, H (ofL r U) x y = true → x < y
  | [], _, _, _, h => h
  | p :: U, r, hw, hp, h => ofL_rise U (addR r p.1 p.2) (add_wf hw _ _) (fun q hq => hp q (by simp [hq])) (fun x y hxy => by
      rw [add_H hw] at hxy
      simp only [Bool.or_eq_true, Bool.and_eq_true, decide_eq_true_eq] at hxy
      rcases hxy with hxy | ⟨⟨_, h1⟩, h2⟩
      · exact h x y hxy
      · have := hp p (by simp)
        omega)
theorem ofL_keep : ∀ (U : List (Int × Int)) (r : RelT), Wf r → ∀ x y, H r x y = true → H (ofL r U) x y = true
  | [], _, _, _, _, h => h
  | p :: U, r, hw, x, y, h => ofL_keep U (addR r p.1 p.2) (add_wf hw _ _) x y (by rw [add_H hw, h]; rfl)
theorem ofL_mem : ∀ (U : List (Int × Int)) (r : RelT), Wf r → ∀ a b : Nat, ((a : Int), (b : Int)) ∈ U → a < r.n → b < r.n → H (ofL r U) a b = true
  | [], _, _, _, _, h, _, _ => by simp at h
  | p :: U, r, hw, a, b, h, ha, hb => by
    simp only [List.mem_cons] at h
    rcases h with rfl | h
    · refine ofL_keep U _ (add_wf hw _ _) a b ?_
      rw [add_H hw]
      have h1 : overR r (a : Int) = true := by unfold overR; simp; omega
      have h2 : overR r (b : Int) = true := by unfold overR; simp; omega
      simp [h1, h2]
    · exact ofL_mem U (addR r p.1 p.2) (add_wf hw _ _) a b h (by rw [add_n]; exact ha) (by rw [add_n]; exact hb)
theorem rise_acyc {r : RelT} (hr : Wf r) (h : ∀ x y, H r x y = true → x < y) : acycR r = true := by
  rw [acyc_iff hr]
  intro a _
  cases hc : H (closeR r) a a with
  | false => rfl
  | true => exact absurd (close_least hr (fun x y => x < y) (fun a b c h1 h2 => Nat.lt_trans h1 h2) h a a hc) (Nat.lt_irrefl a)
theorem loop_acyc {r : RelT} (hr : Wf r) (a : Nat) (h : H (closeR r) a a = true) : acycR r = false := by
  cases hc : acycR r with
  | false => rfl
  | true =>
    have ha : a < r.n := by have := (close_wf hr).b a a h; rw [close_n] at this; exact this.1
    rw [(acyc_iff hr).1 hc a ha] at h
    cases h
theorem back_loop {r : RelT} (hr : Wf r) (a b : Nat) (ha : a < r.n) (hb : b < r.n) (h : H r a b = true) : H (closeR (addR r b a)) a a = true := by
  have hw := add_wf hr (b : Int) (a : Int)
  have h1 : overR r (a : Int) = true := by unfold overR; simp; omega
  have h2 : overR r (b : Int) = true := by unfold overR; simp; omega
  refine close_trans hw a b a (close_has hw _ _ ?_) (close_has hw _ _ ?_)
  · rw [add_H hr, h]; rfl
  · rw [add_H hr]; simp [h1, h2]
theorem self_loop {r : RelT} (hr : Wf r) (h0 : 0 < r.n) : acycR (addR r 0 0) = false := by
  have hw := add_wf hr 0 0
  refine loop_acyc hw 0 (close_has hw _ _ ?_)
  have h1 : overR r 0 = true := by unfold overR; simp; omega
  rw [add_H hr]; simp [h1]
theorem infoPair : (Try.prog.info? 23).map (fun i => (i.zero, i.size, i.bytes)) = some (some (.agg #[.int .i64 0, .int .i64 0]), 2, 16) := by kernel_rfl
theorem mod_nat (a m : Nat) (hm : 1 ≤ m) : ∃ x : Nat, x < m ∧ (a : Int) % (m : Int) = (x : Int) ∧ (a : Int).tmod (m : Int) = (x : Int) := by
  refine ⟨a % m, Nat.mod_lt _ (by omega), by simp, ?_⟩
  rw [Int.tmod_eq_emod_of_nonneg (by omega)]
  simp
set_option maxHeartbeats 8000000 in
set_option maxRecDepth 8000 in
theorem relAcyclic_walk (n : Int) (a1 : Option Addr) (L : List (Int × Int)) (c1 : Nat) (which : Int) (w : World)
    (h1 : Rd pairC 2 w (.slice a1 L.length c1) L) :
    Calls Try.prog 3 #[.int .i64 n, .slice a1 L.length c1, .int .i64 which] w fun e w' => e = .returned (.bool true) ∧ On w w' := by
  obtain ⟨hz, _⟩ := zero_of_info rel_info
  obtain ⟨hzw, _⟩ := zero_of_info rel_infow
  obtain ⟨i0, hi0, hz0, hz1, hz2⟩ := info_parts infoPair
  obtain ⟨_, _, _, _, hmax⟩ := h1.slice
  obtain ⟨q8, hq8, eq8⟩ := low8 n
  obtain ⟨f8, hf8, ef8⟩ := low8 which
  obtain ⟨m, em⟩ : ∃ m : Nat, (q8 : Int) % 62 + 2 = (m : Int) := ⟨q8 % 62 + 2, by omega⟩
  have hm1 : 2 ≤ m := by omega
  have hm2 : m ≤ 63 := by omega
  have hm0 : ((m : Int) == 0) = false := by simp; omega
  have HR : Hid (Rd pairC 2 w (.slice a1 L.length c1) L) := h1
  obtain ⟨K, hK⟩ : ∃ K, K = L.take 60 := ⟨_, rfl⟩
  have hKl : K.length ≤ 60 ∧ K.length ≤ L.length ∧ (60 ≤ K.length ∨ L.length ≤ K.length) := by rw [hK, List.length_take]; omega
  have HKA : Hid (∀ i x, K[i]? = some x → L[i]? = some x ∧ i < 60 ∧ i < L.length) := fun i x hx => by
    rw [hK, List.getElem?_take] at hx
    split at hx
    · rename_i hi
      exact ⟨hx, hi, (List.getElem?_eq_some_iff.1 hx).1⟩
    · cases hx
  clear hK h1
  have xA := fun W => awake8_is W
  go_enter Try.func3, Try.ntmps3
  go_wp2
  go_loopg [7, 8] K.length (fun gg s7 s8 wr => ∃ (i : Nat) (U : List (Int × Int)), i ≤ K.length ∧ gg = K.length - i ∧ s8 = .int .i64 i ∧ wr.ownsRow w.heap.size 23 2 s7 U.length (U.flatMap pairC) ∧ U.length ≤ i ∧ Hid (On w wr) ∧ Hid (Up m U))
  case atStart => exact ⟨0, [], Nat.zero_le _, rfl, rfl, World.ownsRow_nil _ _ _ _, Nat.le_refl _, On.refl _, fun p hp => by simp at hp⟩
  case round =>
    obtain ⟨i, U, hi, hk, rfl, hown, hUi, HO, HU⟩ := hrel
    rcases Nat.lt_or_ge i K.length with hlt | hge
    · obtain ⟨⟨x0, y0⟩, hx⟩ : ∃ x, K[i]? = some x := ⟨_, List.getElem?_eq_getElem hlt⟩
      obtain ⟨hxL, hi60, hiL⟩ := HKA.out i _ hx
      obtain ⟨g, off, rfl, hg, u0⟩ := (HR.out.on HO.out).at hxL
      have hc0 := u0 0 _ rfl
      have hc1 := u0 1 _ rfl
      simp only [Nat.add_zero] at hc0
      obtain ⟨x8, hx8, ex8⟩ := low8 x0
      obtain ⟨y8, hy8, ey8⟩ := low8 y0
      obtain ⟨a, ha, ea, ea'⟩ := mod_nat x8 m (by omega)
      obtain ⟨b, hb, eb, eb'⟩ := mod_nat y8 m (by omega)
      have hlt' : ∀ g, u7.ownBlock = some g → w.heap.size ≤ g := fun g hg => (hown.lt g hg).1
      clear u0 hx hxL
      by_cases hab : a < b
      · have HU2 : Hid (Up m (U ++ [((a : Int), (b : Int))])) := fun p hp => by
          simp only [List.mem_append, List.mem_cons, List.not_mem_nil, or_false] at hp
          rcases hp with hp | rfl
          · exact HU.out p hp
          · exact ⟨a, b, rfl, hab, hb⟩
        go_wp2
        go_quiet (fail)
        obtain ⟨wq, hwq⟩ : ∃ wq, wq = wr.drewN nq := ⟨_, rfl⟩
        have kq : On wr wq := by rw [hwq]; exact (On.refl wr).drewN nq
        rw [← hwq]
        clear hwq hc0 hc1
        have hownq := own_on hown kq
        have hszq : w.heap.size ≤ wq.heap.size := (HO.out.trans kq).size
        go_wp2_with (at_builtin; refine wpList_append_own _ rfl _ _ 22 rfl w.heap.size 23 i0 (.agg #[.int .i64 0, .int .i64 0]) 2 16 Try.underlying22 hi0 hz0 hz1 hz2 rfl (by decide) _ _ _ rfl (hownq.alloc _) ⟨wq.heap.size, 0, none⟩ 1 1 [.int .i64 a, .int .i64 b] rfl rfl ?c1 ?c2 ?c3 ?c4 ?c5 ?_)
        case c1 =>
          intro j u hu
          rw [new_cell]
          exact hu
        case c2 =>
          intro u hu
          simp only [List.mem_cons, List.not_mem_nil, or_false] at hu
          rcases hu with rfl | rfl <;> rfl
        case c3 => unfold maxLen; omega
        case c4 => omega
        case c5 => simp only [World.size_alloc]; omega
        intro v' w4 hown4 hg4 _
        go_wp2
        go_roundg (K.length - (i + 1))
        case measure => omega
        case rel => exact ⟨i + 1, U ++ [((a : Int), (b : Int))], hlt, rfl, by congr 1, by simpa [pairC] using hown4, by simp; omega, ((HO.out.trans kq).alloc _).grown hg4 hlt', HU2⟩
      · go_wp2
        go_quiet (fail)
        have kq : On wr (wr.drewN nq) := (On.refl wr).drewN nq
        go_wp2
        go_roundg (K.length - (i + 1))
        case measure => omega
        case rel => exact ⟨i + 1, U, hlt, rfl, by congr 1, own_on hown kq, by omega, HO.out.trans kq, HU⟩
    · obtain rfl : i = K.length := by omega
      obtain ⟨au, cu, rfl⟩ := own_slice hown
      have HRU : Hid (Rd pairC 2 wr (.slice au U.length cu) U) := Rd.own (fun _ => rfl) hown
      have hUl : U.length ≤ 60 := by omega
      have hO1 := fun W (k : On wr W) => pairs_is m U _ W (HRU.out.on k)
      have hr := of_wf m U
      have hrn : (ofR m U).n = m := by rw [of_n]; omega
      have eU : ofR m U = ofL (newR m) U := by unfold ofR; rw [List.take_of_length_le (by omega)]
      have hrise : ∀ x y, H (ofR m U) x y = true → x < y := by
        rw [eU]
        exact ofL_rise U _ (new_wf _) (fun p hp => by obtain ⟨a, b, rfl, h, _⟩ := HU.out p hp; show (a : Int) < b; omega) (fun x y h => by rw [new_H] at h; cases h)
      have hmem : ∀ a b : Nat, ((a : Int), (b : Int)) ∈ U → a < m → b < m → H (ofR m U) a b = true := by
        rw [eU]
        exact fun a b h ha hb => ofL_mem U _ (new_wf _) a b h (by rw [new_n]; omega) (by rw [new_n]; omega)
      generalize ofR m U = r at *
      clear eU
      have hY := fun W => acyc_is r hr.wr W
      rw [rise_acyc hr hrise] at hY
      have hY0 := fun W => acyc_is (addR r 0 0) (add_wf hr 0 0).wr W
      rw [self_loop hr (by omega)] at hY0
      have hD0 := fun W => add_is r hr.wr 0 0 W
      generalize addR r 0 0 = R0 at *
      have hcond : ¬ (K.length < L.length ∧ K.length < 60) := by omega
      by_cases hl : K.length < L.length
      · have hl2 : ¬ K.length < 60 := by omega
        go_wp2_with (fail)
        refine (hO1 _ (On.refl _)).mono ?_
        rintro _ w1 ⟨rfl, k1⟩
        have K1 := HO.out.trans k1
        have B1a := (Bk.new w1 (relA zeroR) 28).alloc (.cells (relA zeroR) 31)
        have B1b : Bk ((w1.alloc (.cells (relA zeroR) 28)).alloc (.cells (relA zeroR) 31)) (w1.heap.size + 1) (relA zeroR) := by
          have := Bk.new (w1.alloc (.cells (relA zeroR) 28)) (relA zeroR) 31
          rwa [World.size_alloc] at this
        have B1c := B1b.rowFar (N := w1.heap.size) (by omega) (relA r)
        obtain ⟨W1, hW1⟩ : ∃ W1, W1 = (((w1.alloc (.cells (relA zeroR) 28)).alloc (.cells (relA zeroR) 31)).setRow w1.heap.size (relA r)).setRow (w1.heap.size + 1) (relA r) := ⟨_, rfl⟩
        have HW1 : Hid (W1 = (((w1.alloc (.cells (relA zeroR) 28)).alloc (.cells (relA zeroR) 31)).setRow w1.heap.size (relA r)).setRow (w1.heap.size + 1) (relA r)) := hW1
        have B1r : Bk W1 w1.heap.size (relA r) := by rw [hW1]; exact (B1a.row _).rowFar (by omega) _
        have B1w : Bk W1 (w1.heap.size + 1) (relA r) := by rw [hW1]; exact B1c.row _
        have KK1 : On w W1 := by rw [hW1]; exact (((K1.alloc _).alloc _).row K1.size _).row (by have := K1.size; omega) _
        have HW1' : Hid (W1 = (((w1.alloc (.cells (relA zeroR) 28)).alloc (.cells (relA zeroR) 31)).setRow w1.heap.size (relA r)).setRow (w1.heap.size + 1) (relA r)) := HW1
        clear hW1
        go_wp2_with (first | (refine wpList_st rfl rfl rfl rfl B1a ?_) | (refine wpList_stw rfl rfl rfl rfl B1c ?_; rw [← HW1.out]; clear HW1 B1a B1b B1c) | refine wpList_ldG (by rfl) rfl rfl B1r ?_)
        refine (hY _).mono ?_
        rintro _ w2 ⟨rfl, k2⟩
        have KU : On wr w2 := by
          refine On.trans ?_ k2
          rw [HW1'.out]
          exact (((k1.alloc _).alloc _).row k1.size _).row (by have := k1.size; omega) _
        have R2 := B1r.on k2
        have K2 := KK1.trans k2
        by_cases hU0 : U.length = 0
        · obtain rfl : U = [] := List.eq_nil_of_length_eq_zero hU0
          go_wp2_with fail
          refine (xA _).mono ?_
          rintro _ w3 ⟨rfl, k3⟩
          go_wp2
          go_ret
          exact ⟨rfl, K2.trans k3⟩
        · have hul : 1 ≤ U.length := by omega
          obtain ⟨d, hd, ed, ed'⟩ := mod_nat f8 U.length hul
          obtain ⟨p, hp⟩ : ∃ p, U[d]? = some p := ⟨_, List.getElem?_eq_getElem hd⟩
          obtain ⟨a, b, rfl, hab, hbm⟩ := HU.out p (List.mem_of_getElem? hp)
          have hH := hmem a b (List.mem_of_getElem? hp) (by omega) hbm
          have hloop := back_loop hr a b (by omega) (by omega) hH
          have hD1 := fun W => add_is r hr.wr b a W
          have hwb := add_wf hr (b : Int) (a : Int)
          have hYb := fun W => acyc_is (addR r b a) hwb.wr W
          rw [loop_acyc hwb a hloop] at hYb
          have hCb := fun W => close_is (addR r b a) hwb.wr W
          have hHb := fun W => rhas_is (closeR (addR r b a)) (close_wf hwb).wr a a W
          rw [has_nat2 (close_wf hwb), hloop] at hHb
          generalize closeR (addR r b a) = CB at *
          generalize addR r b a = BA at *
          obtain ⟨g, off, rfl, hg, u0'⟩ := (HRU.out.on KU).at hp
          have hc0 := u0' 0 _ rfl
          have hc1 := u0' 1 _ rfl
          simp only [Nat.add_zero] at hc0
          have hul0 : ((U.length : Int) == 0) = false := by rw [beq_eq_false_iff_ne]; omega
          have hne : ¬ (U.length : Int) = 0 := by omega
          clear u0' hp hmem hrise hloop hH hO1 hY HRU HU
          obtain ⟨W3, hW3⟩ : ∃ W3, W3 = w2.alloc (.cells #[.int .i64 a, .int .i64 b] 23) := ⟨_, rfl⟩
          have HW3 : Hid (W3 = w2.alloc (.cells #[.int .i64 a, .int .i64 b] 23)) := hW3
          have R3 : Bk W3 w1.heap.size (relA r) := by rw [hW3]; exact R2.alloc _
          have P3 : Bk W3 w2.heap.size #[.int .i64 a, .int .i64 b] := by rw [hW3]; exact Bk.new w2 _ _
          have K3 : On w W3 := by rw [hW3]; exact K2.alloc _
          have hp0 := P3.at (i := 0) rfl
          have hp1 := P3.at (i := 1) rfl
          have hpl := P3.lt
          have hp0' := hp0
          have hp1' := hp1
          have hpl' := hpl
          rw [hW3] at hp0' hp1' hpl'
          have R3' := R3
          rw [hW3] at R3'
          clear hW3
          go_wp2_with (refine wpList_ldG (by rfl) rfl rfl R3' ?_)
          rw [← HW3.out]
          refine (hD1 _).mono ?_
          rintro _ w4 ⟨rfl, k4⟩
          have K4 := K3.trans k4
          have B4a := Bk.new w4 (relA zeroR) 28
          have hs4 : w2.heap.size < w4.heap.size := (P3.on k4).lt
          have hs5 : w1.heap.size < w4.heap.size := (R3.on k4).lt
          obtain ⟨W4, hW4⟩ : ∃ W4, W4 = (w4.alloc (.cells (relA zeroR) 28)).setRow w4.heap.size (relA BA) := ⟨_, rfl⟩
          have HW4 : Hid (W4 = (w4.alloc (.cells (relA zeroR) 28)).setRow w4.heap.size (relA BA)) := hW4
          have R4 : Bk W4 w1.heap.size (relA r) := by rw [hW4]; exact ((R3.on k4).alloc _).rowFar (by omega) _
          have P4 : Bk W4 w2.heap.size #[.int .i64 a, .int .i64 b] := by rw [hW4]; exact ((P3.on k4).alloc _).rowFar (by omega) _
          have A4 : Bk W4 w4.heap.size (relA BA) := by rw [hW4]; exact B4a.row _
          have KK4 : On w W4 := by rw [hW4]; exact (K4.alloc _).row K4.size _
          clear hW4 hp0 hp1 hpl hp0' hp1' hpl' R3' HW3 hc0 hc1 hD1 R3 P3
          go_wp2_with (first | (refine wpList_st rfl rfl rfl rfl B4a ?_; rw [← HW4.out]; clear HW4 B4a))
          have T0 : (Bk W4.drew w1.heap.size (relA r) ∧ Bk W4.drew w4.heap.size (relA BA)) ∧ Bk W4.drew w2.heap.size #[.int .i64 a, .int .i64 b] := ⟨⟨R4, A4⟩, P4⟩
          have hon : ∀ W W', (Bk W w1.heap.size (relA r) ∧ Bk W w4.heap.size (relA BA)) ∧ Bk W w2.heap.size #[.int .i64 a, .int .i64 b] → On W W' → (Bk W' w1.heap.size (relA r) ∧ Bk W' w4.heap.size (relA BA)) ∧ Bk W' w2.heap.size #[.int .i64 a, .int .i64 b] := fun W W' h k => ⟨⟨h.1.1.on k, h.1.2.on k⟩, h.2.on k⟩
          have K0 := KK4.drew
          refine region_fin (fun W => (Bk W w1.heap.size (relA r) ∧ Bk W w4.heap.size (relA BA)) ∧ Bk W w2.heap.size #[.int .i64 a, .int .i64 b]) 99 22 (by kernel_rfl) rfl ?_
          refine fin_take 0 (v := .agg (relA BA)) rfl (by kernel_rfl) (by kernel_rfl) (by kernel_rfl) (by kernel_rfl) (fun _ _ _ h => h) rfl (fun W hW => exec_ld rfl rfl (hW.1.2)) T0 ?_
          simp only [Act.put, List.setIfInBounds_toArray, List.set_cons_zero, List.set_cons_succ]
          refine fin_one 1 rfl rfl (by kernel_rfl) (fun K hK => ?_)
          go_simp
          refine (hYb _).mono ?_
          rintro _ v1 ⟨rfl, kv1⟩
          have Sv1 := hon _ _ T0 kv1
          have Kv1 := K0.trans kv1
          refine hK.out _ _ (fun _ => Sv1) ?_
          clear hK
          refine fin_take 2 (v := ?_) rfl (by kernel_rfl) (by kernel_rfl) (by kernel_rfl) (by kernel_rfl) (fun _ _ _ h => h) rfl ?_ Sv1 ?_
          rotate_left
          · intro W hW
            go_simp
            (try with_reducible rfl)
          simp only [Act.put, List.setIfInBounds_toArray, List.set_cons_zero, List.set_cons_succ]
          refine fin_take 3 (v := ?_) rfl (by kernel_rfl) (by kernel_rfl) (by kernel_rfl) (by kernel_rfl) (fun _ _ _ h => h) rfl ?_ Sv1 ?_
          rotate_left
          · intro W hW
            go_simp
            (try with_reducible rfl)
          simp only [Act.put, List.setIfInBounds_toArray, List.set_cons_zero, List.set_cons_succ]
          refine fin_takeG 4 (v := .agg (relA BA)) rfl (by kernel_rfl) (by kernel_rfl) (by kernel_rfl) (by kernel_rfl) (fun _ _ _ h => h) (by rfl) (fun W hW => exec_ld rfl rfl (hW.1.2)) Sv1 ?_
          simp only [Act.put, List.setIfInBounds_toArray, List.set_cons_zero, List.set_cons_succ]
          refine fin_takeG 6 (v := ?_) rfl (by kernel_rfl) (by kernel_rfl) (by kernel_rfl) (by kernel_rfl) (fun _ _ _ h => h) (by rfl) ?_ Sv1 ?_
          rotate_left
          · intro W hW
            go_simp
            (try with_reducible rfl)
          simp only [Act.put, List.setIfInBounds_toArray, List.set_cons_zero, List.set_cons_succ]
          refine fin_takeG 7 (v := ?_) rfl (by kernel_rfl) (by kernel_rfl) (by kernel_rfl) (by kernel_rfl) (fun _ _ _ h => h) (by rfl) ?_ Sv1 ?_
          rotate_left
          · intro W hW
            have hcl := hW.2.at (i := 0) rfl
            have hll := hW.2.lt
            go_simp
            (try with_reducible rfl)
          simp only [Act.put, List.setIfInBounds_toArray, List.set_cons_zero, List.set_cons_succ]
          refine fin_takeG 8 (v := ?_) rfl (by kernel_rfl) (by kernel_rfl) (by kernel_rfl) (by kernel_rfl) (fun _ _ _ h => h) (by rfl) ?_ Sv1 ?_
          rotate_left
          · intro W hW
            go_simp
            (try with_reducible rfl)
          simp only [Act.put, List.setIfInBounds_toArray, List.set_cons_zero, List.set_cons_succ]
          refine fin_takeG 9 (v := ?_) rfl (by kernel_rfl) (by kernel_rfl) (by kernel_rfl) (by kernel_rfl) (fun _ _ _ h => h) (by rfl) ?_ Sv1 ?_
          rotate_left
          · intro W hW
            have hcl := hW.2.at (i := 0) rfl
            have hll := hW.2.lt
            go_simp
            (try with_reducible rfl)
          simp only [Act.put, List.setIfInBounds_toArray, List.set_cons_zero, List.set_cons_succ]
          refine fin_oneG 5 rfl (by rfl) (by kernel_rfl) (fun K hK => ?_)
          go_simp
          refine (hCb _).mono ?_
          rintro _ v2 ⟨rfl, kv2⟩
          have Sv2 := hon _ _ Sv1 kv2
          have Kv2 := Kv1.trans kv2
          refine hK.out _ _ (fun _ => Sv2) ?_
          clear hK
          refine fin_oneG 10 rfl (by rfl) (by kernel_rfl) (fun K hK => ?_)
          go_simp
          refine (hHb _).mono ?_
          rintro _ v3 ⟨rfl, kv3⟩
          have Sv3 := hon _ _ Sv2 kv3
          have Kv3 := Kv2.trans kv3
          refine hK.out _ _ (fun _ => Sv3) ?_
          clear hK
          refine fin_take 11 (v := ?_) rfl (by kernel_rfl) (by kernel_rfl) (by kernel_rfl) (by kernel_rfl) (fun _ _ _ h => h) rfl ?_ Sv3 ?_
          rotate_left
          · intro W hW
            go_simp
            (try with_reducible rfl)
          simp only [Act.put, List.setIfInBounds_toArray, List.set_cons_zero, List.set_cons_succ]
          refine fin_take 12 (v := ?_) rfl (by kernel_rfl) (by kernel_rfl) (by kernel_rfl) (by kernel_rfl) (fun _ _ _ h => h) rfl ?_ Sv3 ?_
          rotate_left
          · intro W hW
            go_simp
            (try with_reducible rfl)
          simp only [Act.put, List.setIfInBounds_toArray, List.set_cons_zero, List.set_cons_succ]
          refine fin_takeG 13 (v := .agg (relA r)) rfl (by kernel_rfl) (by kernel_rfl) (by kernel_rfl) (by kernel_rfl) (fun _ _ _ h => h) (by rfl) (fun W hW => exec_ld rfl rfl (hW.1.1)) Sv3 ?_
          simp only [Act.put, List.setIfInBounds_toArray, List.set_cons_zero, List.set_cons_succ]
          refine fin_oneG 14 rfl (by rfl) (by kernel_rfl) (fun K hK => ?_)
          go_simp
          refine (hD0 _).mono ?_
          rintro _ v4 ⟨rfl, kv4⟩
          have Sv4 := hon _ _ Sv3 kv4
          have Kv4 := Kv3.trans kv4
          refine hK.out _ _ (fun _ => Sv4) ?_
          clear hK
          refine fin_oneG 15 rfl (by rfl) (by kernel_rfl) (fun K hK => ?_)
          go_simp
          refine (hY0 _).mono ?_
          rintro _ v5 ⟨rfl, kv5⟩
          have Sv5 := hon _ _ Sv4 kv5
          have Kv5 := Kv4.trans kv5
          refine hK.out _ _ (fun _ => Sv5) ?_
          clear hK
          refine fin_takeG 16 (v := ?_) rfl (by kernel_rfl) (by kernel_rfl) (by kernel_rfl) (by kernel_rfl) (fun _ _ _ h => h) (by rfl) ?_ Sv5 ?_
          rotate_left
          · intro W hW
            go_simp
            (try with_reducible rfl)
          simp only [Act.put, List.setIfInBounds_toArray, List.set_cons_zero, List.set_cons_succ]
          refine fin_take 17 (v := ?_) rfl (by kernel_rfl) (by kernel_rfl) (by kernel_rfl) (by kernel_rfl) (fun _ _ _ h => h) rfl ?_ Sv5 ?_
          rotate_left
          · intro W hW
            go_simp
            (try with_reducible rfl)
          simp only [Act.put, List.setIfInBounds_toArray, List.set_cons_zero, List.set_cons_succ]
          refine fin_take 18 (v := ?_) rfl (by kernel_rfl) (by kernel_rfl) (by kernel_rfl) (by kernel_rfl) (fun _ _ _ h => h) rfl ?_ Sv5 ?_
          rotate_left
          · intro W hW
            go_simp
            (try with_reducible rfl)
          simp only [Act.put, List.setIfInBounds_toArray, List.set_cons_zero, List.set_cons_succ]
          refine fin_oneG 19 rfl (by rfl) (by kernel_rfl) (fun K hK => ?_)
          go_simp
          refine (xA _).mono ?_
          rintro _ v6 ⟨rfl, kv6⟩
          have Sv6 := hon _ _ Sv5 kv6
          have Kv6 := Kv5.trans kv6
          refine hK.out _ _ (fun _ => Sv6) ?_
          clear hK
          refine fin_take 20 (v := ?_) rfl (by kernel_rfl) (by kernel_rfl) (by kernel_rfl) (by kernel_rfl) (fun _ _ _ h => h) rfl ?_ Sv6 ?_
          rotate_left
          · intro W hW
            go_simp
            (try with_reducible rfl)
          simp only [Act.put, List.setIfInBounds_toArray, List.set_cons_zero, List.set_cons_succ]
          refine fin_take 21 (v := ?_) rfl (by kernel_rfl) (by kernel_rfl) (by kernel_rfl) (by kernel_rfl) (fun _ _ _ h => h) rfl ?_ Sv6 ?_
          rotate_left
          · intro W hW
            go_simp
            (try with_reducible rfl)
          simp only [Act.put, List.setIfInBounds_toArray, List.set_cons_zero, List.set_cons_succ]
          refine fin_done (by kernel_rfl) (NoPanic.normal ?_)
          go_wp2
          go_ret
          exact ⟨rfl, Kv6⟩
      · skip
        go_wp2_with (fail)
        refine (hO1 _ (On.refl _)).mono ?_
        rintro _ w1 ⟨rfl, k1⟩
        have K1 := HO.out.trans k1
        have B1a := (Bk.new w1 (relA zeroR) 28).alloc (.cells (relA zeroR) 31)
        have B1b : Bk ((w1.alloc (.cells (relA zeroR) 28)).alloc (.cells (relA zeroR) 31)) (w1.heap.size + 1) (relA zeroR) := by
          have := Bk.new (w1.alloc (.cells (relA zeroR) 28)) (relA zeroR) 31
          rwa [World.size_alloc] at this
        have B1c := B1b.rowFar (N := w1.heap.size) (by omega) (relA r)
        obtain ⟨W1, hW1⟩ : ∃ W1, W1 = (((w1.alloc (.cells (relA zeroR) 28)).alloc (.cells (relA zeroR) 31)).setRow w1.heap.size (relA r)).setRow (w1.heap.size + 1) (relA r) := ⟨_, rfl⟩
        have HW1 : Hid (W1 = (((w1.alloc (.cells (relA zeroR) 28)).alloc (.cells (relA zeroR) 31)).setRow w1.heap.size (relA r)).setRow (w1.heap.size + 1) (relA r)) := hW1
        have B1r : Bk W1 w1.heap.size (relA r) := by rw [hW1]; exact (B1a.row _).rowFar (by omega) _
        have B1w : Bk W1 (w1.heap.size + 1) (relA r) := by rw [hW1]; exact B1c.row _
        have KK1 : On w W1 := by rw [hW1]; exact (((K1.alloc _).alloc _).row K1.size _).row (by have := K1.size; omega) _
        have HW1' : Hid (W1 = (((w1.alloc (.cells (relA zeroR) 28)).alloc (.cells (relA zeroR) 31)).setRow w1.heap.size (relA r)).setRow (w1.heap.size + 1) (relA r)) := HW1
        clear hW1
        go_wp2_with (first | (refine wpList_st rfl rfl rfl rfl B1a ?_) | (refine wpList_stw rfl rfl rfl rfl B1c ?_; rw [← HW1.out]; clear HW1 B1a B1b B1c) | refine wpList_ldG (by rfl) rfl rfl B1r ?_)
        refine (hY _).mono ?_
        rintro _ w2 ⟨rfl, k2⟩
        have KU : On wr w2 := by
          refine On.trans ?_ k2
          rw [HW1'.out]
          exact (((k1.alloc _).alloc _).row k1.size _).row (by have := k1.size; omega) _
        have R2 := B1r.on k2
        have K2 := KK1.trans k2
        by_cases hU0 : U.length = 0
        · obtain rfl : U = [] := List.eq_nil_of_length_eq_zero hU0
          go_wp2_with fail
          refine (xA _).mono ?_
          rintro _ w3 ⟨rfl, k3⟩
          go_wp2
          go_ret
          exact ⟨rfl, K2.trans k3⟩
        · have hul : 1 ≤ U.length := by omega
          obtain ⟨d, hd, ed, ed'⟩ := mod_nat f8 U.length hul
          obtain ⟨p, hp⟩ : ∃ p, U[d]? = some p := ⟨_, List.getElem?_eq_getElem hd⟩
          obtain ⟨a, b, rfl, hab, hbm⟩ := HU.out p (List.mem_of_getElem? hp)
          have hH := hmem a b (List.mem_of_getElem? hp) (by omega) hbm
          have hloop := back_loop hr a b (by omega) (by omega) hH
          have hD1 := fun W => add_is r hr.wr b a W
          have hwb := add_wf hr (b : Int) (a : Int)
          have hYb := fun W => acyc_is (addR r b a) hwb.wr W
          rw [loop_acyc hwb a hloop] at hYb
          have hCb := fun W => close_is (addR r b a) hwb.wr W
          have hHb := fun W => rhas_is (closeR (addR r b a)) (close_wf hwb).wr a a W
          rw [has_nat2 (close_wf hwb), hloop] at hHb
          generalize closeR (addR r b a) = CB at *
          generalize addR r b a = BA at *
          obtain ⟨g, off, rfl, hg, u0'⟩ := (HRU.out.on KU).at hp
          have hc0 := u0' 0 _ rfl
          have hc1 := u0' 1 _ rfl
          simp only [Nat.add_zero] at hc0
          have hul0 : ((U.length : Int) == 0) = false := by rw [beq_eq_false_iff_ne]; omega
          have hne : ¬ (U.length : Int) = 0 := by omega
          clear u0' hp hmem hrise hloop hH hO1 hY HRU HU
          obtain ⟨W3, hW3⟩ : ∃ W3, W3 = w2.alloc (.cells #[.int .i64 a, .int .i64 b] 23) := ⟨_, rfl⟩
          have HW3 : Hid (W3 = w2.alloc (.cells #[.int .i64 a, .int .i64 b] 23)) := hW3
          have R3 : Bk W3 w1.heap.size (relA r) := by rw [hW3]; exact R2.alloc _
          have P3 : Bk W3 w2.heap.size #[.int .i64 a, .int .i64 b] := by rw [hW3]; exact Bk.new w2 _ _
          have K3 : On w W3 := by rw [hW3]; exact K2.alloc _
          have hp0 := P3.at (i := 0) rfl
          have hp1 := P3.at (i := 1) rfl
          have hpl := P3.lt
          have hp0' := hp0
          have hp1' := hp1
          have hpl' := hpl
          rw [hW3] at hp0' hp1' hpl'
          have R3' := R3
          rw [hW3] at R3'
          clear hW3
          go_wp2_with (refine wpList_ldG (by rfl) rfl rfl R3' ?_)
          rw [← HW3.out]
          refine (hD1 _).mono ?_
          rintro _ w4 ⟨rfl, k4⟩
          have K4 := K3.trans k4
          have B4a := Bk.new w4 (relA zeroR) 28
          have hs4 : w2.heap.size < w4.heap.size := (P3.on k4).lt
          have hs5 : w1.heap.size < w4.heap.size := (R3.on k4).lt
          obtain ⟨W4, hW4⟩ : ∃ W4, W4 = (w4.alloc (.cells (relA zeroR) 28)).setRow w4.heap.size (relA BA) := ⟨_, rfl⟩
          have HW4 : Hid (W4 = (w4.alloc (.cells (relA zeroR) 28)).setRow w4.heap.size (relA BA)) := hW4
          have R4 : Bk W4 w1.heap.size (relA r) := by rw [hW4]; exact ((R3.on k4).alloc _).rowFar (by omega) _
          have P4 : Bk W4 w2.heap.size #[.int .i64 a, .int .i64 b] := by rw [hW4]; exact ((P3.on k4).alloc _).rowFar (by omega) _
          have A4 : Bk W4 w4.heap.size (relA BA) := by rw [hW4]; exact B4a.row _
          have KK4 : On w W4 := by rw [hW4]; exact (K4.alloc _).row K4.size _
          clear hW4 hp0 hp1 hpl hp0' hp1' hpl' R3' HW3 hc0 hc1 hD1 R3 P3
          go_wp2_with (first | (refine wpList_st rfl rfl rfl rfl B4a ?_; rw [← HW4.out]; clear HW4 B4a))
          have T0 : (Bk W4.drew w1.heap.size (relA r) ∧ Bk W4.drew w4.heap.size (relA BA)) ∧ Bk W4.drew w2.heap.size #[.int .i64 a, .int .i64 b] := ⟨⟨R4, A4⟩, P4⟩
          have hon : ∀ W W', (Bk W w1.heap.size (relA r) ∧ Bk W w4.heap.size (relA BA)) ∧ Bk W w2.heap.size #[.int .i64 a, .int .i64 b] → On W W' → (Bk W' w1.heap.size (relA r) ∧ Bk W' w4.heap.size (relA BA)) ∧ Bk W' w2.heap.size #[.int .i64 a, .int .i64 b] := fun W W' h k => ⟨⟨h.1.1.on k, h.1.2.on k⟩, h.2.on k⟩
          have K0 := KK4.drew
          refine region_fin (fun W => (Bk W w1.heap.size (relA r) ∧ Bk W w4.heap.size (relA BA)) ∧ Bk W w2.heap.size #[.int .i64 a, .int .i64 b]) 99 22 (by kernel_rfl) rfl ?_
          refine fin_take 0 (v := .agg (relA BA)) rfl (by kernel_rfl) (by kernel_rfl) (by kernel_rfl) (by kernel_rfl) (fun _ _ _ h => h) rfl (fun W hW => exec_ld rfl rfl (hW.1.2)) T0 ?_
          simp only [Act.put, List.setIfInBounds_toArray, List.set_cons_zero, List.set_cons_succ]
          refine fin_one 1 rfl rfl (by kernel_rfl) (fun K hK => ?_)
          go_simp
          refine (hYb _).mono ?_
          rintro _ v1 ⟨rfl, kv1⟩
          have Sv1 := hon _ _ T0 kv1
          have Kv1 := K0.trans kv1
          refine hK.out _ _ (fun _ => Sv1) ?_
          clear hK
          refine fin_take 2 (v := ?_) rfl (by kernel_rfl) (by kernel_rfl) (by kernel_rfl) (by kernel_rfl) (fun _ _ _ h => h) rfl ?_ Sv1 ?_
          rotate_left
          · intro W hW
            go_simp
            (try with_reducible rfl)
          simp only [Act.put, List.setIfInBounds_toArray, List.set_cons_zero, List.set_cons_succ]
          refine fin_take 3 (v := ?_) rfl (by kernel_rfl) (by kernel_rfl) (by kernel_rfl) (by kernel_rfl) (fun _ _ _ h => h) rfl ?_ Sv1 ?_
          rotate_left
          · intro W hW
            go_simp
            (try with_reducible rfl)
          simp only [Act.put, List.setIfInBounds_toArray, List.set_cons_zero, List.set_cons_succ]
          refine fin_takeG 4 (v := .agg (relA BA)) rfl (by kernel_rfl) (by kernel_rfl) (by kernel_rfl) (by kernel_rfl) (fun _ _ _ h => h) (by rfl) (fun W hW => exec_ld rfl rfl (hW.1.2)) Sv1 ?_
          simp only [Act.put, List.setIfInBounds_toArray, List.set_cons_zero, List.set_cons_succ]
          refine fin_takeG 6 (v := ?_) rfl (by kernel_rfl) (by kernel_rfl) (by kernel_rfl) (by kernel_rfl) (fun _ _ _ h => h) (by rfl) ?_ Sv1 ?_
          rotate_left
          · intro W hW
            go_simp
            (try with_reducible rfl)
          simp only [Act.put, List.setIfInBounds_toArray, List.set_cons_zero, List.set_cons_succ]
          refine fin_takeG 7 (v := ?_) rfl (by kernel_rfl) (by kernel_rfl) (by kernel_rfl) (by kernel_rfl) (fun _ _ _ h => h) (by rfl) ?_ Sv1 ?_
          rotate_left
          · intro W hW
            have hcl := hW.2.at (i := 0) rfl
            have hll := hW.2.lt
            go_simp
            (try with_reducible rfl)
          simp only [Act.put, List.setIfInBounds_toArray, List.set_cons_zero, List.set_cons_succ]
          refine fin_takeG 8 (v := ?_) rfl (by kernel_rfl) (by kernel_rfl) (by kernel_rfl) (by kernel_rfl) (fun _ _ _ h => h) (by rfl) ?_ Sv1 ?_
          rotate_left
          · intro W hW
            go_simp
            (try with_reducible rfl)
          simp only [Act.put, List.setIfInBounds_toArray, List.set_cons_zero, List.set_cons_succ]
          refine fin_takeG 9 (v := ?_) rfl (by kernel_rfl) (by kernel_rfl) (by kernel_rfl) (by kernel_rfl) (fun _ _ _ h => h) (by rfl) ?_ Sv1 ?_
          rotate_left
          · intro W hW
            have hcl := hW.2.at (i := 0) rfl
            have hll := hW.2.lt
            go_simp
            (try with_reducible rfl)
          simp only [Act.put, List.setIfInBounds_toArray, List.set_cons_zero, List.set_cons_succ]
          refine fin_oneG 5 rfl (by rfl) (by kernel_rfl) (fun K hK => ?_)
          go_simp
          refine (hCb _).mono ?_
          rintro _ v2 ⟨rfl, kv2⟩
          have Sv2 := hon _ _ Sv1 kv2
          have Kv2 := Kv1.trans kv2
          refine hK.out _ _ (fun _ => Sv2) ?_
          clear hK
          refine fin_oneG 10 rfl (by rfl) (by kernel_rfl) (fun K hK => ?_)
          go_simp
          refine (hHb _).mono ?_
          rintro _ v3 ⟨rfl, kv3⟩
          have Sv3 := hon _ _ Sv2 kv3
          have Kv3 := Kv2.trans kv3
          refine hK.out _ _ (fun _ => Sv3) ?_
          clear hK
          refine fin_take 11 (v := ?_) rfl (by kernel_rfl) (by kernel_rfl) (by kernel_rfl) (by kernel_rfl) (fun _ _ _ h => h) rfl ?_ Sv3 ?_
          rotate_left
          · intro W hW
            go_simp
            (try with_reducible rfl)
          simp only [Act.put, List.setIfInBounds_toArray, List.set_cons_zero, List.set_cons_succ]
          refine fin_take 12 (v := ?_) rfl (by kernel_rfl) (by kernel_rfl) (by kernel_rfl) (by kernel_rfl) (fun _ _ _ h => h) rfl ?_ Sv3 ?_
          rotate_left
          · intro W hW
            go_simp
            (try with_reducible rfl)
          simp only [Act.put, List.setIfInBounds_toArray, List.set_cons_zero, List.set_cons_succ]
          refine fin_takeG 13 (v := .agg (relA r)) rfl (by kernel_rfl) (by kernel_rfl) (by kernel_rfl) (by kernel_rfl) (fun _ _ _ h => h) (by rfl) (fun W hW => exec_ld rfl rfl (hW.1.1)) Sv3 ?_
          simp only [Act.put, List.setIfInBounds_toArray, List.set_cons_zero, List.set_cons_succ]
          refine fin_oneG 14 rfl (by rfl) (by kernel_rfl) (fun K hK => ?_)
          go_simp
          refine (hD0 _).mono ?_
          rintro _ v4 ⟨rfl, kv4⟩
          have Sv4 := hon _ _ Sv3 kv4
          have Kv4 := Kv3.trans kv4
          refine hK.out _ _ (fun _ => Sv4) ?_
          clear hK
          refine fin_oneG 15 rfl (by rfl) (by kernel_rfl) (fun K hK => ?_)
          go_simp
          refine (hY0 _).mono ?_
          rintro _ v5 ⟨rfl, kv5⟩
          have Sv5 := hon _ _ Sv4 kv5
          have Kv5 := Kv4.trans kv5
          refine hK.out _ _ (fun _ => Sv5) ?_
          clear hK
          refine fin_takeG 16 (v := ?_) rfl (by kernel_rfl) (by kernel_rfl) (by kernel_rfl) (by kernel_rfl) (fun _ _ _ h => h) (by rfl) ?_ Sv5 ?_
          rotate_left
          · intro W hW
            go_simp
            (try with_reducible rfl)
          simp only [Act.put, List.setIfInBounds_toArray, List.set_cons_zero, List.set_cons_succ]
          refine fin_take 17 (v := ?_) rfl (by kernel_rfl) (by kernel_rfl) (by kernel_rfl) (by kernel_rfl) (fun _ _ _ h => h) rfl ?_ Sv5 ?_
          rotate_left
          · intro W hW
            go_simp
            (try with_reducible rfl)
          simp only [Act.put, List.setIfInBounds_toArray, List.set_cons_zero, List.set_cons_succ]
          refine fin_take 18 (v := ?_) rfl (by kernel_rfl) (by kernel_rfl) (by kernel_rfl) (by kernel_rfl) (fun _ _ _ h => h) rfl ?_ Sv5 ?_
          rotate_left
          · intro W hW
            go_simp
            (try with_reducible rfl)
          simp only [Act.put, List.setIfInBounds_toArray, List.set_cons_zero, List.set_cons_succ]
          refine fin_oneG 19 rfl (by rfl) (by kernel_rfl) (fun K hK => ?_)
          go_simp
          refine (xA _).mono ?_
          rintro _ v6 ⟨rfl, kv6⟩
          have Sv6 := hon _ _ Sv5 kv6
          have Kv6 := Kv5.trans kv6
          refine hK.out _ _ (fun _ => Sv6) ?_
          clear hK
          refine fin_take 20 (v := ?_) rfl (by kernel_rfl) (by kernel_rfl) (by kernel_rfl) (by kernel_rfl) (fun _ _ _ h => h) rfl ?_ Sv6 ?_
          rotate_left
          · intro W hW
            go_simp
            (try with_reducible rfl)
          simp only [Act.put, List.setIfInBounds_toArray, List.set_cons_zero, List.set_cons_succ]
          refine fin_take 21 (v := ?_) rfl (by kernel_rfl) (by kernel_rfl) (by kernel_rfl) (by kernel_rfl) (fun _ _ _ h => h) rfl ?_ Sv6 ?_
          rotate_left
          · intro W hW
            go_simp
            (try with_reducible rfl)
          simp only [Act.put, List.setIfInBounds_toArray, List.set_cons_zero, List.set_cons_succ]
          refine fin_done (by kernel_rfl) (NoPanic.normal ?_)
          go_wp2
          go_ret
          exact ⟨rfl, Kv6⟩
end Go.Proofs.Ythbiaojefmdcmab
