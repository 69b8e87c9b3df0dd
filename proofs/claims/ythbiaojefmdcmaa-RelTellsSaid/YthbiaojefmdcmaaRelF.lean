/- Relations: Union, Minus, Meet. -/
import Derived.Test.YthbiaojefmdcmaaRelE
namespace Go.Proofs.Ythbiaojefmdcmaa
open Go.RowKit

theorem and_lt64 {a : Nat} (b : Nat) (h : a < 18446744073709551616) : a &&& b < 18446744073709551616 := Nat.lt_of_le_of_lt Nat.and_le_left h
theorem keep_wr {r : RelT} (h : Wr r) (s : Nat) : Wr (keepR r s) := by
  refine ⟨Nat.min_le_right _ _, fun j => ?_⟩
  show (if j < r.n then keepG r s j else 0) < _
  split
  · unfold keepG
    split
    · exact and_lt64 _ (h.w j)
    · decide
  · decide
theorem below_wr {r : RelT} (h : Wr r) {n : Nat} (hn : n ≤ 64) : Wr (belowR r n) := ⟨hn, (keep_wr h _).w⟩
def unionG (a b : RelT) (j : Nat) : Nat := a.f j ||| b.f j
def unionR (r o : RelT) : RelT := uptoR (belowR r (min r.n o.n)) (unionG (belowR r (min r.n o.n)) (belowR o (min r.n o.n))) (min r.n o.n)
theorem union_wr {r o : RelT} (hr : Wr r) (ho : Wr o) : Wr (unionR r o) := by
  have hm : min r.n o.n ≤ 64 := by have := hr.n; omega
  have ha := below_wr hr hm
  have hb := below_wr ho hm
  refine ⟨hm, fun j => ?_⟩
  unfold unionR
  generalize belowR r (min r.n o.n) = a at *
  generalize belowR o (min r.n o.n) = b at *
  show (if j < min r.n o.n then unionG a b j else a.f j) < _
  split
  · exact Nat.or_lt_two_pow (n := 64) (ha.w j) (hb.w j)
  · exact ha.w j
set_option maxHeartbeats 2000000 in
theorem union_is (r o : RelT) (hr : Wr r) (ho : Wr o) (w : World) : Calls Try.prog 10 #[.agg (relA r), .agg (relA o)] w fun e w' => e = .returned (.agg (relA (unionR r o))) ∧ On w w' := by
  obtain ⟨hz, _⟩ := zero_of_info rel_info
  obtain ⟨W0, hW0⟩ : ∃ W0, W0 = ((w.alloc (.cells (relA r) 27)).alloc (.cells (relA o) 27)).alloc (.cells (relA zeroR) 27) := ⟨_, rfl⟩
  have h1 : Bk W0 w.heap.size (relA r) := by rw [hW0]; exact ((Bk.new w (relA r) 27).alloc _).alloc _
  have h2 : Bk W0 (w.heap.size + 1) (relA o) := by
    have := (Bk.new (w.alloc (.cells (relA r) 27)) (relA o) 27).alloc (.cells (relA zeroR) 27)
    rw [World.size_alloc] at this
    rwa [hW0]
  have h3 : Bk W0 (w.heap.size + 1 + 1) (relA zeroR) := by
    have := Bk.new ((w.alloc (.cells (relA r) 27)).alloc (.cells (relA o) 27)) (relA zeroR) 27
    rw [size2] at this
    rwa [hW0]
  have k0 : On w W0 := by rw [hW0]; exact (((On.refl w).alloc _).alloc _).alloc _
  have hal := fun W => alike_is r o hr ho W
  obtain ⟨U, hU⟩ : ∃ U, U = unionR r o := ⟨_, rfl⟩
  rw [← hU]
  have hm6 : min r.n o.n ≤ 64 := by have := hr.n; omega
  have hwa := (below_wr hr hm6).w
  have hwb := (below_wr ho hm6).w
  have hna : (belowR r (min r.n o.n)).n = min r.n o.n := rfl
  have HU : Hid (U = uptoR (belowR r (min r.n o.n)) (unionG (belowR r (min r.n o.n)) (belowR o (min r.n o.n))) (min r.n o.n)) := hU
  clear hU
  generalize min r.n o.n = m at *
  generalize belowR r m = A at *
  generalize belowR o m = B at *
  have hst := fun i => uptoR_step A (unionG A B) i
  have h1' := h1
  have h2' := h2
  rw [hW0] at h1' h2'
  go_enter Try.func10, Try.ntmps10
  go_wp2_with (first | refine wpList_ld rfl rfl rfl h1' ?_ | refine wpList_ld rfl rfl rfl h2' ?_)
  rw [← hW0]
  clear hW0 h1' h2'
  refine (hal _).mono ?_
  rintro _ w1 ⟨rfl, k1⟩
  have B1 := h1.on k1
  have B2 := h2.on k1
  have B3 := h3.on k1
  have K1 := k0.trans k1
  clear h1 h2 h3 k0 hal
  have C1 := (B1.row (relA A)).rowFar (N := w.heap.size + 1) (by omega) (relA B)
  have B2' := B2.rowFar (N := w.heap.size) (by omega) (relA A)
  have C2 := B2'.row (relA B)
  have C3 := (B3.rowFar (N := w.heap.size) (by omega) (relA A)).rowFar (N := w.heap.size + 1) (by omega) (relA B)
  have KC := (K1.row (N := w.heap.size) (by omega) (relA A)).row (N := w.heap.size + 1) (by omega) (relA B)
  obtain ⟨W2, hW2⟩ : ∃ W2, W2 = (w1.setRow w.heap.size (relA A)).setRow (w.heap.size + 1) (relA B) := ⟨_, rfl⟩
  rw [← hW2] at C1 C2 C3 KC
  have hc := C1.at (relA_zero A)
  rw [hna] at hc
  have hcl := C1.lt
  go_wp2_with (first | refine wpList_st rfl rfl rfl rfl B1 ?_ | (refine wpList_st rfl rfl rfl rfl B2' ?_; rw [← hW2]; clear hW2))
  go_loopg [14] m (fun gg s14 wr => ∃ i : Nat, i ≤ m ∧ gg = m - i ∧ s14 = .int .i64 i ∧ Hid (On w wr) ∧ Bk wr w.heap.size (relA (uptoR A (unionG A B) i)) ∧ Bk wr (w.heap.size + 1) (relA B) ∧ Bk wr (w.heap.size + 1 + 1) (relA zeroR))
  case atStart => exact ⟨0, Nat.zero_le _, rfl, rfl, KC, by rw [uptoR_zero]; exact C1, C2, C3⟩
  case round =>
    clear C1 C2 C3 KC hc hcl B1 B2 B3 B2' K1 k1
    obtain ⟨i, hi, hk, rfl, HO, D1, D2, D3⟩ := hrel
    rcases Nat.lt_or_ge i m with hlt | hge
    · have hi6 : i < 64 := by omega
      have hca := D1.at (relA_at _ hi6)
      rw [uptoR_at] at hca
      have hcb := D2.at (relA_at _ hi6)
      have hcf := D1.fr (1 + i)
      have hl1 := D1.lt
      have hl2 := D2.lt
      have e : bits .or .u64 ((A.f i : Nat) : Int) ((B.f i : Nat) : Int) = ((unionG A B i : Nat) : Int) := u64_or_nat _ _ (hwa i) (hwb i)
      have D1' := D1.drew.set1 hi6 (unionG A B i)
      rw [hst] at D1'
      have D2' := D2.drew.far (N := w.heap.size) (by omega) (1 + i) (.int .u64 (unionG A B i))
      have D3' := D3.drew.far (N := w.heap.size) (by omega) (1 + i) (.int .u64 (unionG A B i))
      have HO' : Hid (On w _) := HO.out.drew.setNew (N := w.heap.size) (i := 1 + i) (by omega) (.int .u64 (unionG A B i))
      clear D1 D2 D3 HO hst hwa hwb
      generalize unionG A B i = y at *
      generalize A.f i = a at *
      generalize B.f i = b at *
      go_wp2
      go_region
      go_wp2
      go_roundg (m - (i + 1))
      case measure => omega
      case rel => exact ⟨i + 1, hlt, rfl, by congr 1, HO', D1', D2', D3'⟩
    · obtain rfl : i = m := by omega
      rw [← HU.out] at D1
      go_wp2_with (first | refine wpList_ld rfl rfl rfl D1 ?_ | refine wpList_st rfl rfl rfl rfl D3 ?_)
      refine bodyPost_ret (v := .agg (relA U)) ?_ rfl ⟨rfl, HO.out.row (by omega) _⟩
      exact ret65 rfl rfl (D3.row _)
def minusG (a b : RelT) (j : Nat) : Nat := a.f j &&& (18446744073709551615 - b.f j)
def minusR (r o : RelT) : RelT := uptoR (belowR r (min r.n o.n)) (minusG (belowR r (min r.n o.n)) (belowR o (min r.n o.n))) (min r.n o.n)
theorem minus_wr {r o : RelT} (hr : Wr r) (ho : Wr o) : Wr (minusR r o) := by
  have hm : min r.n o.n ≤ 64 := by have := hr.n; omega
  have ha := below_wr hr hm
  have hb := below_wr ho hm
  refine ⟨hm, fun j => ?_⟩
  unfold minusR
  generalize belowR r (min r.n o.n) = a at *
  generalize belowR o (min r.n o.n) = b at *
  show (if j < min r.n o.n then minusG a b j else a.f j) < _
  split
  · exact and_lt64 _ (ha.w j)
  · exact ha.w j
set_option maxHeartbeats 2000000 in
theorem minus_is (r o : RelT) (hr : Wr r) (ho : Wr o) (w : World) : Calls Try.prog 20 #[.agg (relA r), .agg (relA o)] w fun e w' => e = .returned (.agg (relA (minusR r o))) ∧ On w w' := by
  obtain ⟨hz, _⟩ := zero_of_info rel_info
  obtain ⟨W0, hW0⟩ : ∃ W0, W0 = ((w.alloc (.cells (relA r) 27)).alloc (.cells (relA o) 27)).alloc (.cells (relA zeroR) 27) := ⟨_, rfl⟩
  have h1 : Bk W0 w.heap.size (relA r) := by rw [hW0]; exact ((Bk.new w (relA r) 27).alloc _).alloc _
  have h2 : Bk W0 (w.heap.size + 1) (relA o) := by
    have := (Bk.new (w.alloc (.cells (relA r) 27)) (relA o) 27).alloc (.cells (relA zeroR) 27)
    rw [World.size_alloc] at this
    rwa [hW0]
  have h3 : Bk W0 (w.heap.size + 1 + 1) (relA zeroR) := by
    have := Bk.new ((w.alloc (.cells (relA r) 27)).alloc (.cells (relA o) 27)) (relA zeroR) 27
    rw [size2] at this
    rwa [hW0]
  have k0 : On w W0 := by rw [hW0]; exact (((On.refl w).alloc _).alloc _).alloc _
  have hal := fun W => alike_is r o hr ho W
  obtain ⟨U, hU⟩ : ∃ U, U = minusR r o := ⟨_, rfl⟩
  rw [← hU]
  have hm6 : min r.n o.n ≤ 64 := by have := hr.n; omega
  have hwa := (below_wr hr hm6).w
  have hwb := (below_wr ho hm6).w
  have hna : (belowR r (min r.n o.n)).n = min r.n o.n := rfl
  have HU : Hid (U = uptoR (belowR r (min r.n o.n)) (minusG (belowR r (min r.n o.n)) (belowR o (min r.n o.n))) (min r.n o.n)) := hU
  clear hU
  generalize min r.n o.n = m at *
  generalize belowR r m = A at *
  generalize belowR o m = B at *
  have hst := fun i => uptoR_step A (minusG A B) i
  have h1' := h1
  have h2' := h2
  rw [hW0] at h1' h2'
  go_enter Try.func20, Try.ntmps20
  go_wp2_with (first | refine wpList_ld rfl rfl rfl h1' ?_ | refine wpList_ld rfl rfl rfl h2' ?_)
  rw [← hW0]
  clear hW0 h1' h2'
  refine (hal _).mono ?_
  rintro _ w1 ⟨rfl, k1⟩
  have B1 := h1.on k1
  have B2 := h2.on k1
  have B3 := h3.on k1
  have K1 := k0.trans k1
  clear h1 h2 h3 k0 hal
  have C1 := (B1.row (relA A)).rowFar (N := w.heap.size + 1) (by omega) (relA B)
  have B2' := B2.rowFar (N := w.heap.size) (by omega) (relA A)
  have C2 := B2'.row (relA B)
  have C3 := (B3.rowFar (N := w.heap.size) (by omega) (relA A)).rowFar (N := w.heap.size + 1) (by omega) (relA B)
  have KC := (K1.row (N := w.heap.size) (by omega) (relA A)).row (N := w.heap.size + 1) (by omega) (relA B)
  obtain ⟨W2, hW2⟩ : ∃ W2, W2 = (w1.setRow w.heap.size (relA A)).setRow (w.heap.size + 1) (relA B) := ⟨_, rfl⟩
  rw [← hW2] at C1 C2 C3 KC
  have hc := C1.at (relA_zero A)
  rw [hna] at hc
  have hcl := C1.lt
  go_wp2_with (first | refine wpList_st rfl rfl rfl rfl B1 ?_ | (refine wpList_st rfl rfl rfl rfl B2' ?_; rw [← hW2]; clear hW2))
  go_loopg [14] m (fun gg s14 wr => ∃ i : Nat, i ≤ m ∧ gg = m - i ∧ s14 = .int .i64 i ∧ Hid (On w wr) ∧ Bk wr w.heap.size (relA (uptoR A (minusG A B) i)) ∧ Bk wr (w.heap.size + 1) (relA B) ∧ Bk wr (w.heap.size + 1 + 1) (relA zeroR))
  case atStart => exact ⟨0, Nat.zero_le _, rfl, rfl, KC, by rw [uptoR_zero]; exact C1, C2, C3⟩
  case round =>
    clear C1 C2 C3 KC hc hcl B1 B2 B3 B2' K1 k1
    obtain ⟨i, hi, hk, rfl, HO, D1, D2, D3⟩ := hrel
    rcases Nat.lt_or_ge i m with hlt | hge
    · have hi6 : i < 64 := by omega
      have hca := D1.at (relA_at _ hi6)
      rw [uptoR_at] at hca
      have hcb := D2.at (relA_at _ hi6)
      have hcf := D1.fr (1 + i)
      have hl1 := D1.lt
      have hl2 := D2.lt
      have e : bits .andNot .u64 ((A.f i : Nat) : Int) ((B.f i : Nat) : Int) = ((minusG A B i : Nat) : Int) := u64_andNot_nat _ _ (hwa i) (hwb i)
      have D1' := D1.drew.set1 hi6 (minusG A B i)
      rw [hst] at D1'
      have D2' := D2.drew.far (N := w.heap.size) (by omega) (1 + i) (.int .u64 (minusG A B i))
      have D3' := D3.drew.far (N := w.heap.size) (by omega) (1 + i) (.int .u64 (minusG A B i))
      have HO' : Hid (On w _) := HO.out.drew.setNew (N := w.heap.size) (i := 1 + i) (by omega) (.int .u64 (minusG A B i))
      clear D1 D2 D3 HO hst hwa hwb
      generalize minusG A B i = y at *
      generalize A.f i = a at *
      generalize B.f i = b at *
      go_wp2
      go_region
      go_wp2
      go_roundg (m - (i + 1))
      case measure => omega
      case rel => exact ⟨i + 1, hlt, rfl, by congr 1, HO', D1', D2', D3'⟩
    · obtain rfl : i = m := by omega
      rw [← HU.out] at D1
      go_wp2_with (first | refine wpList_ld rfl rfl rfl D1 ?_ | refine wpList_st rfl rfl rfl rfl D3 ?_)
      refine bodyPost_ret (v := .agg (relA U)) ?_ rfl ⟨rfl, HO.out.row (by omega) _⟩
      exact ret65 rfl rfl (D3.row _)
def meetG (a b : RelT) (j : Nat) : Nat := a.f j &&& b.f j
def meetR (r o : RelT) : RelT := uptoR (belowR r (min r.n o.n)) (meetG (belowR r (min r.n o.n)) (belowR o (min r.n o.n))) (min r.n o.n)
theorem meet_wr {r o : RelT} (hr : Wr r) (ho : Wr o) : Wr (meetR r o) := by
  have hm : min r.n o.n ≤ 64 := by have := hr.n; omega
  have ha := below_wr hr hm
  have hb := below_wr ho hm
  refine ⟨hm, fun j => ?_⟩
  unfold meetR
  generalize belowR r (min r.n o.n) = a at *
  generalize belowR o (min r.n o.n) = b at *
  show (if j < min r.n o.n then meetG a b j else a.f j) < _
  split
  · exact and_lt64 _ (ha.w j)
  · exact ha.w j
set_option maxHeartbeats 2000000 in
theorem meet_is (r o : RelT) (hr : Wr r) (ho : Wr o) (w : World) : Calls Try.prog 21 #[.agg (relA r), .agg (relA o)] w fun e w' => e = .returned (.agg (relA (meetR r o))) ∧ On w w' := by
  obtain ⟨hz, _⟩ := zero_of_info rel_info
  obtain ⟨W0, hW0⟩ : ∃ W0, W0 = ((w.alloc (.cells (relA r) 27)).alloc (.cells (relA o) 27)).alloc (.cells (relA zeroR) 27) := ⟨_, rfl⟩
  have h1 : Bk W0 w.heap.size (relA r) := by rw [hW0]; exact ((Bk.new w (relA r) 27).alloc _).alloc _
  have h2 : Bk W0 (w.heap.size + 1) (relA o) := by
    have := (Bk.new (w.alloc (.cells (relA r) 27)) (relA o) 27).alloc (.cells (relA zeroR) 27)
    rw [World.size_alloc] at this
    rwa [hW0]
  have h3 : Bk W0 (w.heap.size + 1 + 1) (relA zeroR) := by
    have := Bk.new ((w.alloc (.cells (relA r) 27)).alloc (.cells (relA o) 27)) (relA zeroR) 27
    rw [size2] at this
    rwa [hW0]
  have k0 : On w W0 := by rw [hW0]; exact (((On.refl w).alloc _).alloc _).alloc _
  have hal := fun W => alike_is r o hr ho W
  obtain ⟨U, hU⟩ : ∃ U, U = meetR r o := ⟨_, rfl⟩
  rw [← hU]
  have hm6 : min r.n o.n ≤ 64 := by have := hr.n; omega
  have hwa := (below_wr hr hm6).w
  have hwb := (below_wr ho hm6).w
  have hna : (belowR r (min r.n o.n)).n = min r.n o.n := rfl
  have HU : Hid (U = uptoR (belowR r (min r.n o.n)) (meetG (belowR r (min r.n o.n)) (belowR o (min r.n o.n))) (min r.n o.n)) := hU
  clear hU
  generalize min r.n o.n = m at *
  generalize belowR r m = A at *
  generalize belowR o m = B at *
  have hst := fun i => uptoR_step A (meetG A B) i
  have h1' := h1
  have h2' := h2
  rw [hW0] at h1' h2'
  go_enter Try.func21, Try.ntmps21
  go_wp2_with (first | refine wpList_ld rfl rfl rfl h1' ?_ | refine wpList_ld rfl rfl rfl h2' ?_)
  rw [← hW0]
  clear hW0 h1' h2'
  refine (hal _).mono ?_
  rintro _ w1 ⟨rfl, k1⟩
  have B1 := h1.on k1
  have B2 := h2.on k1
  have B3 := h3.on k1
  have K1 := k0.trans k1
  clear h1 h2 h3 k0 hal
  have C1 := (B1.row (relA A)).rowFar (N := w.heap.size + 1) (by omega) (relA B)
  have B2' := B2.rowFar (N := w.heap.size) (by omega) (relA A)
  have C2 := B2'.row (relA B)
  have C3 := (B3.rowFar (N := w.heap.size) (by omega) (relA A)).rowFar (N := w.heap.size + 1) (by omega) (relA B)
  have KC := (K1.row (N := w.heap.size) (by omega) (relA A)).row (N := w.heap.size + 1) (by omega) (relA B)
  obtain ⟨W2, hW2⟩ : ∃ W2, W2 = (w1.setRow w.heap.size (relA A)).setRow (w.heap.size + 1) (relA B) := ⟨_, rfl⟩
  rw [← hW2] at C1 C2 C3 KC
  have hc := C1.at (relA_zero A)
  rw [hna] at hc
  have hcl := C1.lt
  go_wp2_with (first | refine wpList_st rfl rfl rfl rfl B1 ?_ | (refine wpList_st rfl rfl rfl rfl B2' ?_; rw [← hW2]; clear hW2))
  go_loopg [14] m (fun gg s14 wr => ∃ i : Nat, i ≤ m ∧ gg = m - i ∧ s14 = .int .i64 i ∧ Hid (On w wr) ∧ Bk wr w.heap.size (relA (uptoR A (meetG A B) i)) ∧ Bk wr (w.heap.size + 1) (relA B) ∧ Bk wr (w.heap.size + 1 + 1) (relA zeroR))
  case atStart => exact ⟨0, Nat.zero_le _, rfl, rfl, KC, by rw [uptoR_zero]; exact C1, C2, C3⟩
  case round =>
    clear C1 C2 C3 KC hc hcl B1 B2 B3 B2' K1 k1
    obtain ⟨i, hi, hk, rfl, HO, D1, D2, D3⟩ := hrel
    rcases Nat.lt_or_ge i m with hlt | hge
    · have hi6 : i < 64 := by omega
      have hca := D1.at (relA_at _ hi6)
      rw [uptoR_at] at hca
      have hcb := D2.at (relA_at _ hi6)
      have hcf := D1.fr (1 + i)
      have hl1 := D1.lt
      have hl2 := D2.lt
      have e : bits .and .u64 ((A.f i : Nat) : Int) ((B.f i : Nat) : Int) = ((meetG A B i : Nat) : Int) := u64_and_nat _ _ (hwa i) (hwb i)
      have D1' := D1.drew.set1 hi6 (meetG A B i)
      rw [hst] at D1'
      have D2' := D2.drew.far (N := w.heap.size) (by omega) (1 + i) (.int .u64 (meetG A B i))
      have D3' := D3.drew.far (N := w.heap.size) (by omega) (1 + i) (.int .u64 (meetG A B i))
      have HO' : Hid (On w _) := HO.out.drew.setNew (N := w.heap.size) (i := 1 + i) (by omega) (.int .u64 (meetG A B i))
      clear D1 D2 D3 HO hst hwa hwb
      generalize meetG A B i = y at *
      generalize A.f i = a at *
      generalize B.f i = b at *
      go_wp2
      go_region
      go_wp2
      go_roundg (m - (i + 1))
      case measure => omega
      case rel => exact ⟨i + 1, hlt, rfl, by congr 1, HO', D1', D2', D3'⟩
    · obtain rfl : i = m := by omega
      rw [← HU.out] at D1
      go_wp2_with (first | refine wpList_ld rfl rfl rfl D1 ?_ | refine wpList_st rfl rfl rfl rfl D3 ?_)
      refine bodyPost_ret (v := .agg (relA U)) ?_ rfl ⟨rfl, HO.out.row (by omega) _⟩
      exact ret65 rfl rfl (D3.row _)
end Go.Proofs.Ythbiaojefmdcmaa
