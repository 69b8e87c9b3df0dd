/- Relations: Row, Has, Add. -/
import Derived.Test.YtkglmhclpgfngaaRelB
namespace Go.Proofs.Ytkglmhclpgfngaa
open Go.RowKit

structure Wr (r : RelT) : Prop where
  n : r.n ≤ 64
  w : ∀ a, r.f a < 18446744073709551616
def rowR (r : RelT) (a : Int) : Nat := if overR r a then r.f a.toNat else 0
def hasR (r : RelT) (a b : Int) : Bool := hasI (rowR r a) b
theorem row_lt {r : RelT} (h : Wr r) (a : Int) : rowR r a < 18446744073709551616 := by unfold rowR; split; exact h.w _; decide
set_option maxHeartbeats 1000000 in
theorem row_is (r : RelT) (hr : Wr r) (a : Int) (w : World) : Calls Try.prog 41 #[.agg (relA r), .int .i64 a] w fun e w' => e = .returned (.int .u64 (rowR r a)) ∧ On w w' := by
  have h1 := Bk.new w (relA r) 54
  have hov := fun W => over_is r a W
  have hn := hr.n
  obtain ⟨R, hR⟩ : ∃ R, R = rowR r a := ⟨_, rfl⟩
  rw [← hR]
  unfold rowR at hR
  cases h : overR r a with
  | false =>
    rw [h] at hov hR
    obtain rfl : R = 0 := hR
    clear h
    go_enter Try.func41, Try.ntmps41
    go_wp2_with (refine wpList_ld rfl rfl rfl h1 ?_)
    refine (hov _).mono ?_
    rintro _ w1 ⟨rfl, k1⟩
    go_wp2
    go_ret
    exact ⟨rfl, ((On.refl w).alloc _).trans k1⟩
  | true =>
    rw [h] at hov hR
    obtain ⟨k, rfl, hk⟩ := over_spec h
    have hR' : R = r.f k := by simpa using hR
    have hat : Hid ((relA r)[1 + k]? = some (.int .u64 R)) := by rw [hR']; exact relA_at r (i := k) (by omega)
    have hk6 : k < 64 := by omega
    clear hR hR' h hk hn hr
    go_enter Try.func41, Try.ntmps41
    go_wp2_with (refine wpList_ld rfl rfl rfl h1 ?_)
    refine (hov _).mono ?_
    rintro _ w1 ⟨rfl, k1⟩
    have hc := (h1.on k1).at hat.out
    have hlt := (h1.on k1).lt
    go_wp2
    go_ret
    exact ⟨rfl, ((On.refl w).alloc _).trans k1⟩
def addR (r : RelT) (a b : Int) : RelT := if overR r a && overR r b then ⟨r.n, fun j => if j = a.toNat then withI (r.f a.toNat) b else r.f j⟩ else r
theorem add_n (r : RelT) (a b : Int) : (addR r a b).n = r.n := by unfold addR; split <;> rfl
theorem add_wr {r : RelT} (h : Wr r) (a b : Int) : Wr (addR r a b) := by
  refine ⟨by rw [add_n]; exact h.n, fun j => ?_⟩
  unfold addR
  split
  · show (if j = a.toNat then withI (r.f a.toNat) b else r.f j) < _
    split
    · exact with_lt _ _ (h.w _)
    · exact h.w _
  · exact h.w _
set_option maxHeartbeats 2000000 in
theorem add_is (r : RelT) (hr : Wr r) (a b : Int) (w : World) : Calls Try.prog 40 #[.agg (relA r), .int .i64 a, .int .i64 b] w fun e w' => e = .returned (.agg (relA (addR r a b))) ∧ On w w' := by
  obtain ⟨hz, _⟩ := zero_of_info rel_info
  have h1 : Bk ((w.alloc (.cells (relA r) 54)).alloc (.cells (relA zeroR) 54)) w.heap.size (relA r) := (Bk.new w (relA r) 54).alloc _
  have h2 : Bk ((w.alloc (.cells (relA r) 54)).alloc (.cells (relA zeroR) 54)) (w.heap.size + 1) (relA zeroR) := by
    have := Bk.new (w.alloc (.cells (relA r) 54)) (relA zeroR) 54
    rwa [World.size_alloc] at this
  have k0 := ((On.refl w).alloc (.cells (relA r) 54)).alloc (.cells (relA zeroR) 54)
  have hova := fun W => over_is r a W
  have hovb := fun W => over_is r b W
  obtain ⟨A, hA⟩ : ∃ A, A = addR r a b := ⟨_, rfl⟩
  rw [← hA]
  unfold addR at hA
  cases h : overR r a with
  | false =>
    rw [h] at hova hA
    obtain rfl : A = r := hA
    clear h hovb
    go_enter Try.func40, Try.ntmps40
    go_wp2_with (refine wpList_ld rfl rfl rfl h1 ?_)
    refine (hova _).mono ?_
    rintro _ w1 ⟨rfl, k1⟩
    have B1 := h1.on k1
    have B2 := h2.on k1
    go_wp2_with (first | refine wpList_ld rfl rfl rfl B1 ?_ | refine wpList_st rfl rfl rfl rfl B2 ?_)
    refine bodyPost_ret (v := .agg (relA A)) ?_ rfl ⟨rfl, (k0.trans k1).row (by omega) _⟩
    exact ret65 rfl rfl (B2.row _)
  | true =>
    cases h' : overR r b with
    | false =>
      rw [h] at hova
      rw [h, h'] at hA
      rw [h'] at hovb
      obtain rfl : A = r := hA
      clear h h'
      go_enter Try.func40, Try.ntmps40
      go_wp2_with (refine wpList_ld rfl rfl rfl h1 ?_)
      refine (hova _).mono ?_
      rintro _ w1 ⟨rfl, k1⟩
      have B1 := h1.on k1
      have B2 := h2.on k1
      go_wp2_with (refine wpList_ldG (by rfl) rfl rfl B1 ?_)
      refine (hovb _).mono ?_
      rintro _ w2 ⟨rfl, k2⟩
      have B3 := B1.on k2
      have B4 := B2.on k2
      go_wp2_with (first | refine wpList_ld rfl rfl rfl B3 ?_ | refine wpList_st rfl rfl rfl rfl B4 ?_)
      refine bodyPost_ret (v := .agg (relA A)) ?_ rfl ⟨rfl, ((k0.trans k1).trans k2).row (by omega) _⟩
      exact ret65 rfl rfl (B4.row _)
    | true =>
      rw [h] at hova
      rw [h, h'] at hA
      rw [h'] at hovb
      obtain ⟨k, rfl, hk⟩ := over_spec h
      have HA : Hid (A = ⟨r.n, fun j => if j = k then withI (r.f k) b else r.f j⟩) := hA
      have hn := hr.n
      have hk6 : k < 64 := by omega
      have hwi := fun W => with_is (r.f k) b (hr.w k) W
      obtain ⟨x, hx⟩ : ∃ x, x = r.f k := ⟨_, rfl⟩
      have hat : Hid ((relA r)[1 + k]? = some (.int .u64 x)) := by rw [hx]; exact relA_at r hk6
      rw [← hx] at hwi HA
      clear h h' hA hn hk hr hx
      generalize withI x b = y at *
      go_enter Try.func40, Try.ntmps40
      go_wp2_with (refine wpList_ld rfl rfl rfl h1 ?_)
      refine (hova _).mono ?_
      rintro _ w1 ⟨rfl, k1⟩
      have B1 := h1.on k1
      have B2 := h2.on k1
      go_wp2_with (refine wpList_ldG (by rfl) rfl rfl B1 ?_)
      refine (hovb _).mono ?_
      rintro _ w2 ⟨rfl, k2⟩
      have B3 := B1.on k2
      have B4 := B2.on k2
      have hc := B3.at hat.out
      have hf := B3.fr (1 + k)
      have hlt := B3.lt
      go_wp2_with fail
      refine (hwi _).mono ?_
      rintro _ w3 ⟨rfl, hw3⟩
      subst w3
      have B5 := B3.set1 hk6 y
      have B6 := B4.far (N := w.heap.size) (by omega) (1 + k) (.int .u64 y)
      have e : A = ⟨r.n, fun j => if j = k then y else r.f j⟩ := HA.out
      rw [← e] at B5
      clear e
      go_wp2_with (first | refine wpList_ld rfl rfl rfl B5 ?_ | refine wpList_st rfl rfl rfl rfl B6 ?_)
      refine bodyPost_ret (v := .agg (relA A)) ?_ rfl ⟨rfl, (((k0.trans k1).trans k2).setNew (Nat.le_refl _) _).row (by omega) _⟩
      exact ret65 rfl rfl (B6.row _)
end Go.Proofs.Ytkglmhclpgfngaa
