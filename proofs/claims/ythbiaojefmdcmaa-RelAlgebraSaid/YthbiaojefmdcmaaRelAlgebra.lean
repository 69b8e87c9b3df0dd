/- RelAlgebra, walked. -/
import Derived.Test.YthbiaojefmdcmaaRelK
import Derived.Test.YthbiaojefmdcmaaRelP
import Derived.Test.YthbiaojefmdcmaaRelQ
import Derived.Test.YthbiaojefmdcmaaAwake8
import Derived.Test.YthbiaojefmdcmaaOfWf
namespace Go.Proofs.Ythbiaojefmdcmaa
open Go.RowKit

section
variable {r q : RelT} (hr : Wf r) (hq : Wf q) (hn : r.n = q.n)
include hr hq hn
theorem alg_union : unionR q r = unionR r q := rel_ext (by rw [union_n, union_n]; omega) fun a b => by rw [union_H hq hr, union_H hr hq, Bool.or_comm, Nat.min_comm]
theorem alg_meet : meetR q r = meetR r q := rel_ext (by rw [meet_n, meet_n]; omega) fun a b => by rw [meet_H hq hr, meet_H hr hq, Bool.and_comm (H q a b), Nat.min_comm]
theorem alg_then : thenR (invR q) (invR r) = invR (thenR r q) := by
  refine rel_ext (by rw [then_n, inv_n hq, inv_n hr, inv_n (then_wf hr hq), then_n]; omega) fun a b => ?_
  rw [Bool.eq_iff_iff, then_H (inv_wf hq) (inv_wf hr), inv_H (then_wf hr hq), then_H hr hq, inv_n hq, inv_n hr]
  constructor
  · rintro ⟨⟨h1, h2⟩, c, h3, h4, h5⟩
    rw [inv_H hq] at h4
    rw [inv_H hr] at h5
    exact ⟨⟨by omega, by omega⟩, c, by omega, h5, h4⟩
  · rintro ⟨⟨h1, h2⟩, c, h3, h4, h5⟩
    exact ⟨⟨by omega, by omega⟩, c, by omega, by rw [inv_H hq]; exact h5, by rw [inv_H hr]; exact h4⟩
theorem alg_parts : unionR (minusR r q) (meetR r q) = r := by
  refine rel_ext (by rw [union_n, minus_n, meet_n]; omega) fun a b => ?_
  rw [union_H (minus_wf hr hq) (meet_wf hr hq), minus_H hr hq, meet_H hr hq, minus_n, meet_n]
  cases h : H r a b with
  | false => simp
  | true =>
    have := hr.b a b h
    have h1 : a < min r.n q.n := by omega
    have h2 : b < min r.n q.n := by omega
    have h3 : a < min (min r.n q.n) (min r.n q.n) := by omega
    have h4 : b < min (min r.n q.n) (min r.n q.n) := by omega
    cases H q a b <;> simp [h1, h2]
end
section
variable {r : RelT} (hr : Wf r)
include hr
theorem alg_self : unionR r r = r := by
  refine rel_ext (by rw [union_n]; omega) fun a b => ?_
  rw [union_H hr hr, Bool.or_self]
  cases h : H r a b with
  | false => simp
  | true =>
    have := hr.b a b h
    have h1 : a < min r.n r.n := by omega
    have h2 : b < min r.n r.n := by omega
    simp [this]
theorem alg_inv : invR (invR r) = r := rel_ext (by rw [inv_n (inv_wf hr), inv_n hr]) fun a b => by rw [inv_H (inv_wf hr), inv_H hr]
theorem alg_close : closeR (closeR r) = closeR r := by
  refine rel_ext (by rw [close_n]) fun a b => ?_
  rw [Bool.eq_iff_iff]
  constructor
  · exact close_least (close_wf hr) (fun a b => H (closeR r) a b = true) (fun a b c => close_trans hr a b c) (fun a b h => h) a b
  · exact close_has (close_wf hr) a b
theorem alg_thenc : unionR (thenR (closeR r) (closeR r)) (closeR r) = closeR r := by
  have hc := close_wf hr
  refine rel_ext (by rw [union_n, then_n]; omega) fun a b => ?_
  rw [union_H (then_wf hc hc) hc, Bool.eq_iff_iff]
  have e := then_n (r := closeR r) (o := closeR r)
  simp only [Bool.and_eq_true, Bool.or_eq_true, decide_eq_true_eq]
  constructor
  · rintro ⟨⟨h | h, _⟩, _⟩
    · obtain ⟨_, c, _, h1, h2⟩ := (then_H hc hc a b).1 h
      exact close_trans hr a c b h1 h2
    · exact h
  · intro h
    have := hc.b a b h
    exact ⟨⟨Or.inr h, by omega⟩, by omega⟩
theorem alg_unionc : unionR r (closeR r) = closeR r := by
  have hc := close_wf hr
  refine rel_ext (by rw [union_n, close_n]; omega) fun a b => ?_
  rw [union_H hr hc, Bool.eq_iff_iff]
  simp only [Bool.and_eq_true, Bool.or_eq_true, decide_eq_true_eq]
  constructor
  · rintro ⟨⟨h | h, _⟩, _⟩
    · exact close_has hr a b h
    · exact h
  · intro h
    have := hc.b a b h
    rw [close_n] at this ⊢
    exact ⟨⟨Or.inr h, by omega⟩, by omega⟩
end
set_option maxHeartbeats 8000000 in
set_option maxRecDepth 8000 in
theorem relAlgebra_core (n p c : Int) (hp : (if n < 0 then (0 : Int) else n) = p) (hpc : (if 64 < p then (64 : Int) else p) = c) (a1 : Option Addr) (L1 : List (Int × Int)) (c1 : Nat) (a2 : Option Addr) (L2 : List (Int × Int)) (c2 : Nat) (w : World)
    (h1 : Rd pairC 2 w (.slice a1 L1.length c1) L1) (h2 : Rd pairC 2 w (.slice a2 L2.length c2) L2) :
    Calls Try.prog 6 #[.int .i64 n, .slice a1 L1.length c1, .slice a2 L2.length c2] w fun e w' => e = .returned (.bool true) ∧ On w w' := by
  obtain ⟨hz, _⟩ := zero_of_info rel_info
  obtain ⟨hzw, _⟩ := zero_of_info rel_infow
  have hO1 := fun W (k : On w W) => pairs_is c L1 _ W (h1.on k)
  have hO2 := fun W (k : On w W) => pairs_is c L2 _ W (h2.on k)
  have hr := of_wf c L1
  have hq := of_wf c L2
  have hn : (ofR c L1).n = (ofR c L2).n := by rw [of_n, of_n]
  clear h1 h2
  generalize ofR c L1 = r at *
  generalize ofR c L2 = q at *
  have hc := close_wf hr
  have x1 := fun W => union_is r q hr.wr hq.wr W
  have x2 := fun W => union_is q r hq.wr hr.wr W
  have x3 := fun W => meet_is r q hr.wr hq.wr W
  have x4 := fun W => meet_is q r hq.wr hr.wr W
  have x5 := fun W => inv_is r hr.wr W
  have x6 := fun W => inv_is (invR r) (inv_wf hr).wr W
  have x7 := fun W => close_is (closeR r) hc.wr W
  have x8 := fun W => then_is r q hr.wr hq.wr W
  have x9 := fun W => inv_is (thenR r q) (then_wf hr hq).wr W
  have x10 := fun W => inv_is q hq.wr W
  have x11 := fun W => then_is (invR q) (invR r) (inv_wf hq).wr (inv_wf hr).wr W
  have x12 := fun W => minus_is r q hr.wr hq.wr W
  have x13 := fun W => union_is (minusR r q) (meetR r q) (minus_wf hr hq).wr (meet_wf hr hq).wr W
  have x14 := fun W => then_is (closeR r) (closeR r) hc.wr hc.wr W
  have x15 := fun W => union_is (thenR (closeR r) (closeR r)) (closeR r) (then_wf hc hc).wr hc.wr W
  have x16 := fun W => union_is r (closeR r) hr.wr hc.wr W
  have x17 := fun W => union_is r r hr.wr hr.wr W
  have x0 := fun W => close_is r hr.wr W
  rw [alg_union hr hq hn] at x2
  rw [alg_meet hr hq hn] at x4
  rw [alg_inv hr] at x6
  rw [alg_close hr] at x7
  rw [alg_then hr hq hn] at x11
  rw [alg_parts hr hq hn] at x13
  rw [alg_thenc hr] at x15
  rw [alg_unionc hr] at x16
  rw [alg_self hr] at x17
  have xA := fun W => awake8_is W
  have heq := fun (X : RelT) W => eqRel_same W X
  clear hr hq hn hc
  generalize thenR (closeR r) (closeR r) = CC at *
  generalize invR (thenR r q) = TI at *
  generalize thenR r q = T at *
  generalize invR q = QI at *
  generalize invR r = RI at *
  generalize minusR r q = D at *
  generalize meetR r q = M at *
  generalize unionR r q = U at *
  generalize closeR r = C at *
  go_enter Try.func6, Try.ntmps6
  go_wp2_with (fail)
  refine (hO1 _ (On.refl _)).mono ?_
  rintro _ w1 ⟨rfl, k1⟩
  have K1 := (On.refl w).trans k1
  have B1a := (Bk.new w1 (relA zeroR) 27).alloc (.cells (relA zeroR) 30)
  have B1b : Bk ((w1.alloc (.cells (relA zeroR) 27)).alloc (.cells (relA zeroR) 30)) (w1.heap.size + 1) (relA zeroR) := by
    have := Bk.new (w1.alloc (.cells (relA zeroR) 27)) (relA zeroR) 30
    rwa [World.size_alloc] at this
  have B1c := B1b.rowFar (N := w1.heap.size) (by omega) (relA r)
  obtain ⟨W1, hW1⟩ : ∃ W1, W1 = (((w1.alloc (.cells (relA zeroR) 27)).alloc (.cells (relA zeroR) 30)).setRow w1.heap.size (relA r)).setRow (w1.heap.size + 1) (relA r) := ⟨_, rfl⟩
  have HW1 : Hid (W1 = (((w1.alloc (.cells (relA zeroR) 27)).alloc (.cells (relA zeroR) 30)).setRow w1.heap.size (relA r)).setRow (w1.heap.size + 1) (relA r)) := hW1
  have B1r : Bk W1 w1.heap.size (relA r) := by rw [hW1]; exact (B1a.row _).rowFar (by omega) _
  have B1w : Bk W1 (w1.heap.size + 1) (relA r) := by rw [hW1]; exact B1c.row _
  have KK1 : On w W1 := by rw [hW1]; exact (((K1.alloc _).alloc _).row K1.size _).row (by have := K1.size; omega) _
  clear hW1
  go_wp2_with (first | (refine wpList_st rfl rfl rfl rfl B1a ?_) | (refine wpList_stw rfl rfl rfl rfl B1c ?_; rw [← HW1.out]; clear HW1 B1a B1b B1c))
  refine (hO2 _ KK1).mono ?_
  rintro _ w2 ⟨rfl, k2⟩
  have K2 := KK1.trans k2
  have B2a := (Bk.new w2 (relA zeroR) 27).alloc (.cells (relA zeroR) 30)
  have B2b : Bk ((w2.alloc (.cells (relA zeroR) 27)).alloc (.cells (relA zeroR) 30)) (w2.heap.size + 1) (relA zeroR) := by
    have := Bk.new (w2.alloc (.cells (relA zeroR) 27)) (relA zeroR) 30
    rwa [World.size_alloc] at this
  have B2c := B2b.rowFar (N := w2.heap.size) (by omega) (relA q)
  obtain ⟨W2, hW2⟩ : ∃ W2, W2 = (((w2.alloc (.cells (relA zeroR) 27)).alloc (.cells (relA zeroR) 30)).setRow w2.heap.size (relA q)).setRow (w2.heap.size + 1) (relA q) := ⟨_, rfl⟩
  have HW2 : Hid (W2 = (((w2.alloc (.cells (relA zeroR) 27)).alloc (.cells (relA zeroR) 30)).setRow w2.heap.size (relA q)).setRow (w2.heap.size + 1) (relA q)) := hW2
  have B2r : Bk W2 w2.heap.size (relA q) := by rw [hW2]; exact (B2a.row _).rowFar (by omega) _
  have B2w : Bk W2 (w2.heap.size + 1) (relA q) := by rw [hW2]; exact B2c.row _
  have KK2 : On w W2 := by rw [hW2]; exact (((K2.alloc _).alloc _).row K2.size _).row (by have := K2.size; omega) _
  have C2B1r : Bk W2 w1.heap.size (relA r) := by rw [hW2]; exact ((((B1r.on k2).alloc _).alloc _).rowFar (by have := (B1r.on k2).lt; omega) _).rowFar (by have := (B1r.on k2).lt; omega) _
  clear hW2
  go_wp2_with (first | (refine wpList_st rfl rfl rfl rfl B2a ?_) | (refine wpList_stw rfl rfl rfl rfl B2c ?_; rw [← HW2.out]; clear HW2 B2a B2b B2c) | refine wpList_ldG (by rfl) rfl rfl C2B1r ?_)
  refine (x0 _).mono ?_
  rintro _ w3 ⟨rfl, k3⟩
  have K3 := KK2.trans k3
  have B3a := Bk.new w3 (relA zeroR) 27
  obtain ⟨W3, hW3⟩ : ∃ W3, W3 = (w3.alloc (.cells (relA zeroR) 27)).setRow w3.heap.size (relA C) := ⟨_, rfl⟩
  have HW3 : Hid (W3 = (w3.alloc (.cells (relA zeroR) 27)).setRow w3.heap.size (relA C)) := hW3
  have R3 : Bk W3 w1.heap.size (relA r) := by rw [hW3]; exact ((C2B1r.on k3).alloc _).rowFar (by have := (C2B1r.on k3).lt; omega) _
  have Q3 : Bk W3 w2.heap.size (relA q) := by rw [hW3]; exact ((B2r.on k3).alloc _).rowFar (by have := (B2r.on k3).lt; omega) _
  have C3 : Bk W3 w3.heap.size (relA C) := by rw [hW3]; exact B3a.row _
  have KK3 : On w W3 := by rw [hW3]; exact (K3.alloc _).row K3.size _
  clear hW3
  go_wp2_with (first | (refine wpList_st rfl rfl rfl rfl B3a ?_; rw [← HW3.out]; clear HW3 B3a))
  have S0 : (Bk W3.drew w1.heap.size (relA r) ∧ Bk W3.drew w2.heap.size (relA q)) ∧ Bk W3.drew w3.heap.size (relA C) := ⟨⟨R3, Q3⟩, C3⟩
  have hon : ∀ W W', (Bk W w1.heap.size (relA r) ∧ Bk W w2.heap.size (relA q)) ∧ Bk W w3.heap.size (relA C) → On W W' → (Bk W' w1.heap.size (relA r) ∧ Bk W' w2.heap.size (relA q)) ∧ Bk W' w3.heap.size (relA C) := fun W W' h k => ⟨⟨h.1.1.on k, h.1.2.on k⟩, h.2.on k⟩
  have K0 := KK3.drew
  refine region_fin (fun W => (Bk W w1.heap.size (relA r) ∧ Bk W w2.heap.size (relA q)) ∧ Bk W w3.heap.size (relA C)) 99 79 (by kernel_rfl) rfl ?_
  refine fin_take 0 (v := .agg (relA r)) rfl (by kernel_rfl) (by kernel_rfl) (by kernel_rfl) (by kernel_rfl) (fun _ _ _ h => h) rfl (fun W hW => exec_ld rfl rfl (hW.1.1)) S0 ?_
  simp only [Act.put, List.setIfInBounds_toArray, List.set_cons_zero, List.set_cons_succ]
  refine fin_take 1 (v := .agg (relA q)) rfl (by kernel_rfl) (by kernel_rfl) (by kernel_rfl) (by kernel_rfl) (fun _ _ _ h => h) rfl (fun W hW => exec_ld rfl rfl (hW.1.2)) S0 ?_
  simp only [Act.put, List.setIfInBounds_toArray, List.set_cons_zero, List.set_cons_succ]
  refine fin_take 3 (v := .agg (relA q)) rfl (by kernel_rfl) (by kernel_rfl) (by kernel_rfl) (by kernel_rfl) (fun _ _ _ h => h) rfl (fun W hW => exec_ld rfl rfl (hW.1.2)) S0 ?_
  simp only [Act.put, List.setIfInBounds_toArray, List.set_cons_zero, List.set_cons_succ]
  refine fin_take 4 (v := .agg (relA r)) rfl (by kernel_rfl) (by kernel_rfl) (by kernel_rfl) (by kernel_rfl) (fun _ _ _ h => h) rfl (fun W hW => exec_ld rfl rfl (hW.1.1)) S0 ?_
  simp only [Act.put, List.setIfInBounds_toArray, List.set_cons_zero, List.set_cons_succ]
  refine fin_one 2 rfl rfl (by kernel_rfl) (fun K hK => ?_)
  go_simp
  refine (x1 _).mono ?_
  rintro _ v1 ⟨rfl, kv1⟩
  have Sv1 := hon _ _ S0 kv1
  have Kv1 := K0.trans kv1
  refine hK.out _ _ (fun _ => Sv1) ?_
  clear hK
  refine fin_one 5 rfl rfl (by kernel_rfl) (fun K hK => ?_)
  go_simp
  refine (x2 _).mono ?_
  rintro _ v2 ⟨rfl, kv2⟩
  have Sv2 := hon _ _ Sv1 kv2
  have Kv2 := Kv1.trans kv2
  refine hK.out _ _ (fun _ => Sv2) ?_
  clear hK
  refine fin_take 6 (v := ?_) rfl (by kernel_rfl) (by kernel_rfl) (by kernel_rfl) (by kernel_rfl) (fun _ _ _ h => h) rfl ?_ Sv2 ?_
  rotate_left
  · intro W hW
    go_simp
    (try with_reducible rfl)
  simp only [Act.put, List.setIfInBounds_toArray, List.set_cons_zero, List.set_cons_succ]
  refine fin_take 7 (v := ?_) rfl (by kernel_rfl) (by kernel_rfl) (by kernel_rfl) (by kernel_rfl) (fun _ _ _ h => h) rfl ?_ Sv2 ?_
  rotate_left
  · intro W hW
    go_simp
    (try with_reducible rfl)
  simp only [Act.put, List.setIfInBounds_toArray, List.set_cons_zero, List.set_cons_succ]
  refine fin_takeG 8 (v := .agg (relA r)) rfl (by kernel_rfl) (by kernel_rfl) (by kernel_rfl) (by kernel_rfl) (fun _ _ _ h => h) (by rfl) (fun W hW => exec_ld rfl rfl (hW.1.1)) Sv2 ?_
  simp only [Act.put, List.setIfInBounds_toArray, List.set_cons_zero, List.set_cons_succ]
  refine fin_takeG 9 (v := .agg (relA q)) rfl (by kernel_rfl) (by kernel_rfl) (by kernel_rfl) (by kernel_rfl) (fun _ _ _ h => h) (by rfl) (fun W hW => exec_ld rfl rfl (hW.1.2)) Sv2 ?_
  simp only [Act.put, List.setIfInBounds_toArray, List.set_cons_zero, List.set_cons_succ]
  refine fin_takeG 11 (v := .agg (relA q)) rfl (by kernel_rfl) (by kernel_rfl) (by kernel_rfl) (by kernel_rfl) (fun _ _ _ h => h) (by rfl) (fun W hW => exec_ld rfl rfl (hW.1.2)) Sv2 ?_
  simp only [Act.put, List.setIfInBounds_toArray, List.set_cons_zero, List.set_cons_succ]
  refine fin_takeG 12 (v := .agg (relA r)) rfl (by kernel_rfl) (by kernel_rfl) (by kernel_rfl) (by kernel_rfl) (fun _ _ _ h => h) (by rfl) (fun W hW => exec_ld rfl rfl (hW.1.1)) Sv2 ?_
  simp only [Act.put, List.setIfInBounds_toArray, List.set_cons_zero, List.set_cons_succ]
  refine fin_oneG 10 rfl (by rfl) (by kernel_rfl) (fun K hK => ?_)
  go_simp
  refine (x3 _).mono ?_
  rintro _ v3 ⟨rfl, kv3⟩
  have Sv3 := hon _ _ Sv2 kv3
  have Kv3 := Kv2.trans kv3
  refine hK.out _ _ (fun _ => Sv3) ?_
  clear hK
  refine fin_oneG 13 rfl (by rfl) (by kernel_rfl) (fun K hK => ?_)
  go_simp
  refine (x4 _).mono ?_
  rintro _ v4 ⟨rfl, kv4⟩
  have Sv4 := hon _ _ Sv3 kv4
  have Kv4 := Kv3.trans kv4
  refine hK.out _ _ (fun _ => Sv4) ?_
  clear hK
  refine fin_takeG 14 (v := ?_) rfl (by kernel_rfl) (by kernel_rfl) (by kernel_rfl) (by kernel_rfl) (fun _ _ _ h => h) (by rfl) ?_ Sv4 ?_
  rotate_left
  · intro W hW
    go_simp
    (try with_reducible rfl)
  simp only [Act.put, List.setIfInBounds_toArray, List.set_cons_zero, List.set_cons_succ]
  refine fin_take 15 (v := ?_) rfl (by kernel_rfl) (by kernel_rfl) (by kernel_rfl) (by kernel_rfl) (fun _ _ _ h => h) rfl ?_ Sv4 ?_
  rotate_left
  · intro W hW
    go_simp
    (try with_reducible rfl)
  simp only [Act.put, List.setIfInBounds_toArray, List.set_cons_zero, List.set_cons_succ]
  refine fin_take 16 (v := ?_) rfl (by kernel_rfl) (by kernel_rfl) (by kernel_rfl) (by kernel_rfl) (fun _ _ _ h => h) rfl ?_ Sv4 ?_
  rotate_left
  · intro W hW
    go_simp
    (try with_reducible rfl)
  simp only [Act.put, List.setIfInBounds_toArray, List.set_cons_zero, List.set_cons_succ]
  refine fin_takeG 17 (v := .agg (relA r)) rfl (by kernel_rfl) (by kernel_rfl) (by kernel_rfl) (by kernel_rfl) (fun _ _ _ h => h) (by rfl) (fun W hW => exec_ld rfl rfl (hW.1.1)) Sv4 ?_
  simp only [Act.put, List.setIfInBounds_toArray, List.set_cons_zero, List.set_cons_succ]
  refine fin_takeG 20 (v := .agg (relA r)) rfl (by kernel_rfl) (by kernel_rfl) (by kernel_rfl) (by kernel_rfl) (fun _ _ _ h => h) (by rfl) (fun W hW => exec_ld rfl rfl (hW.1.1)) Sv4 ?_
  simp only [Act.put, List.setIfInBounds_toArray, List.set_cons_zero, List.set_cons_succ]
  refine fin_oneG 18 rfl (by rfl) (by kernel_rfl) (fun K hK => ?_)
  go_simp
  refine (x5 _).mono ?_
  rintro _ v5 ⟨rfl, kv5⟩
  have Sv5 := hon _ _ Sv4 kv5
  have Kv5 := Kv4.trans kv5
  refine hK.out _ _ (fun _ => Sv5) ?_
  clear hK
  refine fin_oneG 19 rfl (by rfl) (by kernel_rfl) (fun K hK => ?_)
  go_simp
  refine (x6 _).mono ?_
  rintro _ v6 ⟨rfl, kv6⟩
  have Sv6 := hon _ _ Sv5 kv6
  have Kv6 := Kv5.trans kv6
  refine hK.out _ _ (fun _ => Sv6) ?_
  clear hK
  refine fin_takeG 21 (v := ?_) rfl (by kernel_rfl) (by kernel_rfl) (by kernel_rfl) (by kernel_rfl) (fun _ _ _ h => h) (by rfl) ?_ Sv6 ?_
  rotate_left
  · intro W hW
    go_simp
    (try with_reducible rfl)
  simp only [Act.put, List.setIfInBounds_toArray, List.set_cons_zero, List.set_cons_succ]
  refine fin_take 22 (v := ?_) rfl (by kernel_rfl) (by kernel_rfl) (by kernel_rfl) (by kernel_rfl) (fun _ _ _ h => h) rfl ?_ Sv6 ?_
  rotate_left
  · intro W hW
    go_simp
    (try with_reducible rfl)
  simp only [Act.put, List.setIfInBounds_toArray, List.set_cons_zero, List.set_cons_succ]
  refine fin_take 23 (v := ?_) rfl (by kernel_rfl) (by kernel_rfl) (by kernel_rfl) (by kernel_rfl) (fun _ _ _ h => h) rfl ?_ Sv6 ?_
  rotate_left
  · intro W hW
    go_simp
    (try with_reducible rfl)
  simp only [Act.put, List.setIfInBounds_toArray, List.set_cons_zero, List.set_cons_succ]
  refine fin_takeG 24 (v := .agg (relA C)) rfl (by kernel_rfl) (by kernel_rfl) (by kernel_rfl) (by kernel_rfl) (fun _ _ _ h => h) (by rfl) (fun W hW => exec_ld rfl rfl (hW.2)) Sv6 ?_
  simp only [Act.put, List.setIfInBounds_toArray, List.set_cons_zero, List.set_cons_succ]
  refine fin_takeG 26 (v := .agg (relA C)) rfl (by kernel_rfl) (by kernel_rfl) (by kernel_rfl) (by kernel_rfl) (fun _ _ _ h => h) (by rfl) (fun W hW => exec_ld rfl rfl (hW.2)) Sv6 ?_
  simp only [Act.put, List.setIfInBounds_toArray, List.set_cons_zero, List.set_cons_succ]
  refine fin_oneG 25 rfl (by rfl) (by kernel_rfl) (fun K hK => ?_)
  go_simp
  refine (x7 _).mono ?_
  rintro _ v7 ⟨rfl, kv7⟩
  have Sv7 := hon _ _ Sv6 kv7
  have Kv7 := Kv6.trans kv7
  refine hK.out _ _ (fun _ => Sv7) ?_
  clear hK
  refine fin_takeG 27 (v := ?_) rfl (by kernel_rfl) (by kernel_rfl) (by kernel_rfl) (by kernel_rfl) (fun _ _ _ h => h) (by rfl) ?_ Sv7 ?_
  rotate_left
  · intro W hW
    go_simp
    (try with_reducible rfl)
  simp only [Act.put, List.setIfInBounds_toArray, List.set_cons_zero, List.set_cons_succ]
  refine fin_take 28 (v := ?_) rfl (by kernel_rfl) (by kernel_rfl) (by kernel_rfl) (by kernel_rfl) (fun _ _ _ h => h) rfl ?_ Sv7 ?_
  rotate_left
  · intro W hW
    go_simp
    (try with_reducible rfl)
  simp only [Act.put, List.setIfInBounds_toArray, List.set_cons_zero, List.set_cons_succ]
  refine fin_take 29 (v := ?_) rfl (by kernel_rfl) (by kernel_rfl) (by kernel_rfl) (by kernel_rfl) (fun _ _ _ h => h) rfl ?_ Sv7 ?_
  rotate_left
  · intro W hW
    go_simp
    (try with_reducible rfl)
  simp only [Act.put, List.setIfInBounds_toArray, List.set_cons_zero, List.set_cons_succ]
  refine fin_takeG 30 (v := .agg (relA r)) rfl (by kernel_rfl) (by kernel_rfl) (by kernel_rfl) (by kernel_rfl) (fun _ _ _ h => h) (by rfl) (fun W hW => exec_ld rfl rfl (hW.1.1)) Sv7 ?_
  simp only [Act.put, List.setIfInBounds_toArray, List.set_cons_zero, List.set_cons_succ]
  refine fin_takeG 31 (v := .agg (relA q)) rfl (by kernel_rfl) (by kernel_rfl) (by kernel_rfl) (by kernel_rfl) (fun _ _ _ h => h) (by rfl) (fun W hW => exec_ld rfl rfl (hW.1.2)) Sv7 ?_
  simp only [Act.put, List.setIfInBounds_toArray, List.set_cons_zero, List.set_cons_succ]
  refine fin_takeG 34 (v := .agg (relA q)) rfl (by kernel_rfl) (by kernel_rfl) (by kernel_rfl) (by kernel_rfl) (fun _ _ _ h => h) (by rfl) (fun W hW => exec_ld rfl rfl (hW.1.2)) Sv7 ?_
  simp only [Act.put, List.setIfInBounds_toArray, List.set_cons_zero, List.set_cons_succ]
  refine fin_takeG 36 (v := .agg (relA r)) rfl (by kernel_rfl) (by kernel_rfl) (by kernel_rfl) (by kernel_rfl) (fun _ _ _ h => h) (by rfl) (fun W hW => exec_ld rfl rfl (hW.1.1)) Sv7 ?_
  simp only [Act.put, List.setIfInBounds_toArray, List.set_cons_zero, List.set_cons_succ]
  refine fin_oneG 32 rfl (by rfl) (by kernel_rfl) (fun K hK => ?_)
  go_simp
  refine (x8 _).mono ?_
  rintro _ v8 ⟨rfl, kv8⟩
  have Sv8 := hon _ _ Sv7 kv8
  have Kv8 := Kv7.trans kv8
  refine hK.out _ _ (fun _ => Sv8) ?_
  clear hK
  refine fin_oneG 33 rfl (by rfl) (by kernel_rfl) (fun K hK => ?_)
  go_simp
  refine (x9 _).mono ?_
  rintro _ v9 ⟨rfl, kv9⟩
  have Sv9 := hon _ _ Sv8 kv9
  have Kv9 := Kv8.trans kv9
  refine hK.out _ _ (fun _ => Sv9) ?_
  clear hK
  refine fin_oneG 35 rfl (by rfl) (by kernel_rfl) (fun K hK => ?_)
  go_simp
  refine (x10 _).mono ?_
  rintro _ v10 ⟨rfl, kv10⟩
  have Sv10 := hon _ _ Sv9 kv10
  have Kv10 := Kv9.trans kv10
  refine hK.out _ _ (fun _ => Sv10) ?_
  clear hK
  refine fin_oneG 37 rfl (by rfl) (by kernel_rfl) (fun K hK => ?_)
  go_simp
  refine (x5 _).mono ?_
  rintro _ v11 ⟨rfl, kv11⟩
  have Sv11 := hon _ _ Sv10 kv11
  have Kv11 := Kv10.trans kv11
  refine hK.out _ _ (fun _ => Sv11) ?_
  clear hK
  refine fin_oneG 38 rfl (by rfl) (by kernel_rfl) (fun K hK => ?_)
  go_simp
  refine (x11 _).mono ?_
  rintro _ v12 ⟨rfl, kv12⟩
  have Sv12 := hon _ _ Sv11 kv12
  have Kv12 := Kv11.trans kv12
  refine hK.out _ _ (fun _ => Sv12) ?_
  clear hK
  refine fin_takeG 39 (v := ?_) rfl (by kernel_rfl) (by kernel_rfl) (by kernel_rfl) (by kernel_rfl) (fun _ _ _ h => h) (by rfl) ?_ Sv12 ?_
  rotate_left
  · intro W hW
    go_simp
    (try with_reducible rfl)
  simp only [Act.put, List.setIfInBounds_toArray, List.set_cons_zero, List.set_cons_succ]
  refine fin_take 40 (v := ?_) rfl (by kernel_rfl) (by kernel_rfl) (by kernel_rfl) (by kernel_rfl) (fun _ _ _ h => h) rfl ?_ Sv12 ?_
  rotate_left
  · intro W hW
    go_simp
    (try with_reducible rfl)
  simp only [Act.put, List.setIfInBounds_toArray, List.set_cons_zero, List.set_cons_succ]
  refine fin_take 41 (v := ?_) rfl (by kernel_rfl) (by kernel_rfl) (by kernel_rfl) (by kernel_rfl) (fun _ _ _ h => h) rfl ?_ Sv12 ?_
  rotate_left
  · intro W hW
    go_simp
    (try with_reducible rfl)
  simp only [Act.put, List.setIfInBounds_toArray, List.set_cons_zero, List.set_cons_succ]
  refine fin_takeG 42 (v := .agg (relA r)) rfl (by kernel_rfl) (by kernel_rfl) (by kernel_rfl) (by kernel_rfl) (fun _ _ _ h => h) (by rfl) (fun W hW => exec_ld rfl rfl (hW.1.1)) Sv12 ?_
  simp only [Act.put, List.setIfInBounds_toArray, List.set_cons_zero, List.set_cons_succ]
  refine fin_takeG 43 (v := .agg (relA q)) rfl (by kernel_rfl) (by kernel_rfl) (by kernel_rfl) (by kernel_rfl) (fun _ _ _ h => h) (by rfl) (fun W hW => exec_ld rfl rfl (hW.1.2)) Sv12 ?_
  simp only [Act.put, List.setIfInBounds_toArray, List.set_cons_zero, List.set_cons_succ]
  refine fin_takeG 45 (v := .agg (relA r)) rfl (by kernel_rfl) (by kernel_rfl) (by kernel_rfl) (by kernel_rfl) (fun _ _ _ h => h) (by rfl) (fun W hW => exec_ld rfl rfl (hW.1.1)) Sv12 ?_
  simp only [Act.put, List.setIfInBounds_toArray, List.set_cons_zero, List.set_cons_succ]
  refine fin_takeG 46 (v := .agg (relA q)) rfl (by kernel_rfl) (by kernel_rfl) (by kernel_rfl) (by kernel_rfl) (fun _ _ _ h => h) (by rfl) (fun W hW => exec_ld rfl rfl (hW.1.2)) Sv12 ?_
  simp only [Act.put, List.setIfInBounds_toArray, List.set_cons_zero, List.set_cons_succ]
  refine fin_takeG 49 (v := .agg (relA r)) rfl (by kernel_rfl) (by kernel_rfl) (by kernel_rfl) (by kernel_rfl) (fun _ _ _ h => h) (by rfl) (fun W hW => exec_ld rfl rfl (hW.1.1)) Sv12 ?_
  simp only [Act.put, List.setIfInBounds_toArray, List.set_cons_zero, List.set_cons_succ]
  refine fin_oneG 44 rfl (by rfl) (by kernel_rfl) (fun K hK => ?_)
  go_simp
  refine (x12 _).mono ?_
  rintro _ v13 ⟨rfl, kv13⟩
  have Sv13 := hon _ _ Sv12 kv13
  have Kv13 := Kv12.trans kv13
  refine hK.out _ _ (fun _ => Sv13) ?_
  clear hK
  refine fin_oneG 47 rfl (by rfl) (by kernel_rfl) (fun K hK => ?_)
  go_simp
  refine (x3 _).mono ?_
  rintro _ v14 ⟨rfl, kv14⟩
  have Sv14 := hon _ _ Sv13 kv14
  have Kv14 := Kv13.trans kv14
  refine hK.out _ _ (fun _ => Sv14) ?_
  clear hK
  refine fin_oneG 48 rfl (by rfl) (by kernel_rfl) (fun K hK => ?_)
  go_simp
  refine (x13 _).mono ?_
  rintro _ v15 ⟨rfl, kv15⟩
  have Sv15 := hon _ _ Sv14 kv15
  have Kv15 := Kv14.trans kv15
  refine hK.out _ _ (fun _ => Sv15) ?_
  clear hK
  refine fin_takeG 50 (v := ?_) rfl (by kernel_rfl) (by kernel_rfl) (by kernel_rfl) (by kernel_rfl) (fun _ _ _ h => h) (by rfl) ?_ Sv15 ?_
  rotate_left
  · intro W hW
    go_simp
    (try with_reducible rfl)
  simp only [Act.put, List.setIfInBounds_toArray, List.set_cons_zero, List.set_cons_succ]
  refine fin_take 51 (v := ?_) rfl (by kernel_rfl) (by kernel_rfl) (by kernel_rfl) (by kernel_rfl) (fun _ _ _ h => h) rfl ?_ Sv15 ?_
  rotate_left
  · intro W hW
    go_simp
    (try with_reducible rfl)
  simp only [Act.put, List.setIfInBounds_toArray, List.set_cons_zero, List.set_cons_succ]
  refine fin_take 52 (v := ?_) rfl (by kernel_rfl) (by kernel_rfl) (by kernel_rfl) (by kernel_rfl) (fun _ _ _ h => h) rfl ?_ Sv15 ?_
  rotate_left
  · intro W hW
    go_simp
    (try with_reducible rfl)
  simp only [Act.put, List.setIfInBounds_toArray, List.set_cons_zero, List.set_cons_succ]
  refine fin_takeG 53 (v := .agg (relA C)) rfl (by kernel_rfl) (by kernel_rfl) (by kernel_rfl) (by kernel_rfl) (fun _ _ _ h => h) (by rfl) (fun W hW => exec_ld rfl rfl (hW.2)) Sv15 ?_
  simp only [Act.put, List.setIfInBounds_toArray, List.set_cons_zero, List.set_cons_succ]
  refine fin_takeG 54 (v := .agg (relA C)) rfl (by kernel_rfl) (by kernel_rfl) (by kernel_rfl) (by kernel_rfl) (fun _ _ _ h => h) (by rfl) (fun W hW => exec_ld rfl rfl (hW.2)) Sv15 ?_
  simp only [Act.put, List.setIfInBounds_toArray, List.set_cons_zero, List.set_cons_succ]
  refine fin_takeG 56 (v := .agg (relA C)) rfl (by kernel_rfl) (by kernel_rfl) (by kernel_rfl) (by kernel_rfl) (fun _ _ _ h => h) (by rfl) (fun W hW => exec_ld rfl rfl (hW.2)) Sv15 ?_
  simp only [Act.put, List.setIfInBounds_toArray, List.set_cons_zero, List.set_cons_succ]
  refine fin_takeG 58 (v := .agg (relA C)) rfl (by kernel_rfl) (by kernel_rfl) (by kernel_rfl) (by kernel_rfl) (fun _ _ _ h => h) (by rfl) (fun W hW => exec_ld rfl rfl (hW.2)) Sv15 ?_
  simp only [Act.put, List.setIfInBounds_toArray, List.set_cons_zero, List.set_cons_succ]
  refine fin_oneG 55 rfl (by rfl) (by kernel_rfl) (fun K hK => ?_)
  go_simp
  refine (x14 _).mono ?_
  rintro _ v16 ⟨rfl, kv16⟩
  have Sv16 := hon _ _ Sv15 kv16
  have Kv16 := Kv15.trans kv16
  refine hK.out _ _ (fun _ => Sv16) ?_
  clear hK
  refine fin_oneG 57 rfl (by rfl) (by kernel_rfl) (fun K hK => ?_)
  go_simp
  refine (x15 _).mono ?_
  rintro _ v17 ⟨rfl, kv17⟩
  have Sv17 := hon _ _ Sv16 kv17
  have Kv17 := Kv16.trans kv17
  refine hK.out _ _ (fun _ => Sv17) ?_
  clear hK
  refine fin_takeG 59 (v := ?_) rfl (by kernel_rfl) (by kernel_rfl) (by kernel_rfl) (by kernel_rfl) (fun _ _ _ h => h) (by rfl) ?_ Sv17 ?_
  rotate_left
  · intro W hW
    go_simp
    (try with_reducible rfl)
  simp only [Act.put, List.setIfInBounds_toArray, List.set_cons_zero, List.set_cons_succ]
  refine fin_take 60 (v := ?_) rfl (by kernel_rfl) (by kernel_rfl) (by kernel_rfl) (by kernel_rfl) (fun _ _ _ h => h) rfl ?_ Sv17 ?_
  rotate_left
  · intro W hW
    go_simp
    (try with_reducible rfl)
  simp only [Act.put, List.setIfInBounds_toArray, List.set_cons_zero, List.set_cons_succ]
  refine fin_take 61 (v := ?_) rfl (by kernel_rfl) (by kernel_rfl) (by kernel_rfl) (by kernel_rfl) (fun _ _ _ h => h) rfl ?_ Sv17 ?_
  rotate_left
  · intro W hW
    go_simp
    (try with_reducible rfl)
  simp only [Act.put, List.setIfInBounds_toArray, List.set_cons_zero, List.set_cons_succ]
  refine fin_takeG 62 (v := .agg (relA r)) rfl (by kernel_rfl) (by kernel_rfl) (by kernel_rfl) (by kernel_rfl) (fun _ _ _ h => h) (by rfl) (fun W hW => exec_ld rfl rfl (hW.1.1)) Sv17 ?_
  simp only [Act.put, List.setIfInBounds_toArray, List.set_cons_zero, List.set_cons_succ]
  refine fin_takeG 63 (v := .agg (relA C)) rfl (by kernel_rfl) (by kernel_rfl) (by kernel_rfl) (by kernel_rfl) (fun _ _ _ h => h) (by rfl) (fun W hW => exec_ld rfl rfl (hW.2)) Sv17 ?_
  simp only [Act.put, List.setIfInBounds_toArray, List.set_cons_zero, List.set_cons_succ]
  refine fin_takeG 65 (v := .agg (relA C)) rfl (by kernel_rfl) (by kernel_rfl) (by kernel_rfl) (by kernel_rfl) (fun _ _ _ h => h) (by rfl) (fun W hW => exec_ld rfl rfl (hW.2)) Sv17 ?_
  simp only [Act.put, List.setIfInBounds_toArray, List.set_cons_zero, List.set_cons_succ]
  refine fin_oneG 64 rfl (by rfl) (by kernel_rfl) (fun K hK => ?_)
  go_simp
  refine (x16 _).mono ?_
  rintro _ v18 ⟨rfl, kv18⟩
  have Sv18 := hon _ _ Sv17 kv18
  have Kv18 := Kv17.trans kv18
  refine hK.out _ _ (fun _ => Sv18) ?_
  clear hK
  refine fin_takeG 66 (v := ?_) rfl (by kernel_rfl) (by kernel_rfl) (by kernel_rfl) (by kernel_rfl) (fun _ _ _ h => h) (by rfl) ?_ Sv18 ?_
  rotate_left
  · intro W hW
    go_simp
    (try with_reducible rfl)
  simp only [Act.put, List.setIfInBounds_toArray, List.set_cons_zero, List.set_cons_succ]
  refine fin_take 67 (v := ?_) rfl (by kernel_rfl) (by kernel_rfl) (by kernel_rfl) (by kernel_rfl) (fun _ _ _ h => h) rfl ?_ Sv18 ?_
  rotate_left
  · intro W hW
    go_simp
    (try with_reducible rfl)
  simp only [Act.put, List.setIfInBounds_toArray, List.set_cons_zero, List.set_cons_succ]
  refine fin_take 68 (v := ?_) rfl (by kernel_rfl) (by kernel_rfl) (by kernel_rfl) (by kernel_rfl) (fun _ _ _ h => h) rfl ?_ Sv18 ?_
  rotate_left
  · intro W hW
    go_simp
    (try with_reducible rfl)
  simp only [Act.put, List.setIfInBounds_toArray, List.set_cons_zero, List.set_cons_succ]
  refine fin_takeG 69 (v := .agg (relA r)) rfl (by kernel_rfl) (by kernel_rfl) (by kernel_rfl) (by kernel_rfl) (fun _ _ _ h => h) (by rfl) (fun W hW => exec_ld rfl rfl (hW.1.1)) Sv18 ?_
  simp only [Act.put, List.setIfInBounds_toArray, List.set_cons_zero, List.set_cons_succ]
  refine fin_takeG 70 (v := .agg (relA r)) rfl (by kernel_rfl) (by kernel_rfl) (by kernel_rfl) (by kernel_rfl) (fun _ _ _ h => h) (by rfl) (fun W hW => exec_ld rfl rfl (hW.1.1)) Sv18 ?_
  simp only [Act.put, List.setIfInBounds_toArray, List.set_cons_zero, List.set_cons_succ]
  refine fin_takeG 72 (v := .agg (relA r)) rfl (by kernel_rfl) (by kernel_rfl) (by kernel_rfl) (by kernel_rfl) (fun _ _ _ h => h) (by rfl) (fun W hW => exec_ld rfl rfl (hW.1.1)) Sv18 ?_
  simp only [Act.put, List.setIfInBounds_toArray, List.set_cons_zero, List.set_cons_succ]
  refine fin_oneG 71 rfl (by rfl) (by kernel_rfl) (fun K hK => ?_)
  go_simp
  refine (x17 _).mono ?_
  rintro _ v19 ⟨rfl, kv19⟩
  have Sv19 := hon _ _ Sv18 kv19
  have Kv19 := Kv18.trans kv19
  refine hK.out _ _ (fun _ => Sv19) ?_
  clear hK
  refine fin_takeG 73 (v := ?_) rfl (by kernel_rfl) (by kernel_rfl) (by kernel_rfl) (by kernel_rfl) (fun _ _ _ h => h) (by rfl) ?_ Sv19 ?_
  rotate_left
  · intro W hW
    go_simp
    (try with_reducible rfl)
  simp only [Act.put, List.setIfInBounds_toArray, List.set_cons_zero, List.set_cons_succ]
  refine fin_take 74 (v := ?_) rfl (by kernel_rfl) (by kernel_rfl) (by kernel_rfl) (by kernel_rfl) (fun _ _ _ h => h) rfl ?_ Sv19 ?_
  rotate_left
  · intro W hW
    go_simp
    (try with_reducible rfl)
  simp only [Act.put, List.setIfInBounds_toArray, List.set_cons_zero, List.set_cons_succ]
  refine fin_take 75 (v := ?_) rfl (by kernel_rfl) (by kernel_rfl) (by kernel_rfl) (by kernel_rfl) (fun _ _ _ h => h) rfl ?_ Sv19 ?_
  rotate_left
  · intro W hW
    go_simp
    (try with_reducible rfl)
  simp only [Act.put, List.setIfInBounds_toArray, List.set_cons_zero, List.set_cons_succ]
  refine fin_oneG 76 rfl (by rfl) (by kernel_rfl) (fun K hK => ?_)
  go_simp
  refine (xA _).mono ?_
  rintro _ v20 ⟨rfl, kv20⟩
  have Sv20 := hon _ _ Sv19 kv20
  have Kv20 := Kv19.trans kv20
  refine hK.out _ _ (fun _ => Sv20) ?_
  clear hK
  refine fin_take 77 (v := ?_) rfl (by kernel_rfl) (by kernel_rfl) (by kernel_rfl) (by kernel_rfl) (fun _ _ _ h => h) rfl ?_ Sv20 ?_
  rotate_left
  · intro W hW
    go_simp
    (try with_reducible rfl)
  simp only [Act.put, List.setIfInBounds_toArray, List.set_cons_zero, List.set_cons_succ]
  refine fin_take 78 (v := ?_) rfl (by kernel_rfl) (by kernel_rfl) (by kernel_rfl) (by kernel_rfl) (fun _ _ _ h => h) rfl ?_ Sv20 ?_
  rotate_left
  · intro W hW
    go_simp
    (try with_reducible rfl)
  simp only [Act.put, List.setIfInBounds_toArray, List.set_cons_zero, List.set_cons_succ]
  refine fin_done (by kernel_rfl) (NoPanic.normal ?_)
  go_wp2
  go_ret
  exact ⟨rfl, Kv20⟩
theorem relAlgebra_walk (n : Int) (a1 : Option Addr) (L1 : List (Int × Int)) (c1 : Nat) (a2 : Option Addr) (L2 : List (Int × Int)) (c2 : Nat) (w : World)
    (h1 : Rd pairC 2 w (.slice a1 L1.length c1) L1) (h2 : Rd pairC 2 w (.slice a2 L2.length c2) L2) :
    Calls Try.prog 6 #[.int .i64 n, .slice a1 L1.length c1, .slice a2 L2.length c2] w fun e w' => e = .returned (.bool true) ∧ On w w' := by
  exact relAlgebra_core n _ _ rfl rfl a1 L1 c1 a2 L2 c2 w h1 h2
end Go.Proofs.Ythbiaojefmdcmaa
