/- Relations: from, Then. -/
import Derived.Test.YthbiaojefmdcmaaRelF
import Derived.Test.YthbiaojefmdcmaaRegFin3
namespace Go.Proofs.Ythbiaojefmdcmaa
open Go.RowKit

def fromN (r : RelT) (s : Nat) : Nat → Nat
  | 0 => 0
  | i + 1 => if hasI s i then fromN r s i ||| r.f i else fromN r s i
theorem from_lt {r : RelT} (h : Wr r) (s : Nat) : ∀ i, fromN r s i < 18446744073709551616
  | 0 => by unfold fromN; decide
  | i + 1 => by
    unfold fromN
    split
    · exact Nat.or_lt_two_pow (n := 64) (from_lt h s i) (h.w i)
    · exact from_lt h s i
set_option maxHeartbeats 2000000 in
theorem from_is (r : RelT) (hr : Wr r) (s : Nat) (hs : s < 18446744073709551616) (w : World) : Calls Try.prog 30 #[.agg (relA r), .int .u64 s] w fun e w' => e = .returned (.int .u64 (fromN r s r.n)) ∧ On w w' := by
  have h1 := Bk.new w (relA r) 27
  have k0 := (On.refl w).alloc (.cells (relA r) 27)
  have hc0 := h1.at (relA_zero r)
  have hn := hr.n
  have HH := fun (i : Int) W => has_is s i hs W
  have hlts := from_lt hr s
  obtain ⟨n, hnn⟩ : ∃ n, n = r.n := ⟨_, rfl⟩
  rw [← hnn] at hc0 hn ⊢
  have HN : Hid (n = r.n) := hnn
  clear hnn
  obtain ⟨F, hF⟩ : ∃ F, F = fromN r s n := ⟨_, rfl⟩
  rw [← hF]
  have HF : Hid (F = fromN r s n) := hF
  clear hF
  go_enter Try.func30, Try.ntmps30
  go_wp2
  go_loopg [5, 9] n (fun gg s5 s9 wr => ∃ i : Nat, i ≤ n ∧ gg = n - i ∧ s9 = .int .i64 i ∧ s5 = .int .u64 (fromN r s i) ∧ Hid (On w wr) ∧ Bk wr w.heap.size (relA r))
  case atStart => exact ⟨0, Nat.zero_le _, rfl, rfl, rfl, k0, h1⟩
  case round =>
    clear h1 k0 hc0
    obtain ⟨i, hi, hk, rfl, rfl, HO, D1⟩ := hrel
    rcases Nat.lt_or_ge i n with hlt | hge
    · have hi6 : i < 64 := by omega
      have HHi := fun W => HH i W
      have e : bits .or .u64 ((fromN r s i : Nat) : Int) ((r.f i : Nat) : Int) = ((fromN r s i ||| r.f i : Nat) : Int) := u64_or_nat _ _ (hlts i) (hr.w i)
      have hst : fromN r s (i + 1) = if hasI s i then fromN r s i ||| r.f i else fromN r s i := rfl
      have hca := D1.at (relA_at _ hi6)
      have hl1 := D1.lt
      cases hb : hasI s i with
      | true =>
        rw [hb, if_pos rfl] at hst
        rw [hb] at HHi
        rw [← hst] at e
        clear hb hst
        obtain ⟨y, hy⟩ : ∃ y, y = fromN r s (i + 1) := ⟨_, rfl⟩
        rw [← hy] at e
        have HY : Hid (y = fromN r s (i + 1)) := hy
        clear hy
        generalize fromN r s i = x at *
        generalize r.f i = z at *
        go_wp2_with fail
        refine (HHi _).mono ?_
        rintro _ w2 ⟨rfl, hw2⟩
        subst w2
        go_wp2
        go_roundg (n - (i + 1))
        case measure => omega
        case rel => exact ⟨i + 1, hlt, rfl, by congr 1, by rw [HY.out], HO, D1⟩
      | false =>
        rw [hb] at HHi hst
        rw [if_neg (by decide)] at hst
        have HS : Hid (fromN r s (i + 1) = fromN r s i) := hst
        clear hb hst e
        go_wp2_with fail
        refine (HHi _).mono ?_
        rintro _ w2 ⟨rfl, hw2⟩
        subst w2
        go_wp2
        go_roundg (n - (i + 1))
        case measure => omega
        case rel => exact ⟨i + 1, hlt, rfl, by congr 1, by rw [HS.out], HO, D1⟩
    · obtain rfl : i = n := by omega
      rw [← HF.out]
      go_wp2
      go_ret
      exact ⟨rfl, HO.out⟩
def thenG (a b : RelT) (j : Nat) : Nat := fromN b (a.f j) b.n
def thenR (r o : RelT) : RelT := uptoR (belowR r (min r.n o.n)) (thenG (belowR r (min r.n o.n)) (belowR o (min r.n o.n))) (min r.n o.n)
theorem then_wr {r o : RelT} (hr : Wr r) (ho : Wr o) : Wr (thenR r o) := by
  have hm : min r.n o.n ≤ 64 := by have := hr.n; omega
  have ha := below_wr hr hm
  have hb := below_wr ho hm
  refine ⟨hm, fun j => ?_⟩
  unfold thenR
  generalize belowR r (min r.n o.n) = a at *
  generalize belowR o (min r.n o.n) = b at *
  show (if j < min r.n o.n then thenG a b j else a.f j) < _
  split
  · exact from_lt hb _ _
  · exact ha.w j
set_option maxHeartbeats 2000000 in
theorem then_is (r o : RelT) (hr : Wr r) (ho : Wr o) (w : World) : Calls Try.prog 9 #[.agg (relA r), .agg (relA o)] w fun e w' => e = .returned (.agg (relA (thenR r o))) ∧ On w w' := by
  obtain ⟨hz, _⟩ := zero_of_info rel_info
  obtain ⟨W0, hW0⟩ : ∃ W0, W0 = ((w.alloc (.cells (relA r) 27)).alloc (.cells (relA o) 27)).alloc (.cells (relA zeroR) 27) := ⟨_, rfl⟩
  have h1 : Bk W0 w.heap.size (relA r) := by rw [hW0]; exact ((Bk.new w (relA r) 27).alloc _).alloc _
  have h2 : Bk W0 (w.heap.size + 1) (relA o) := by
    have := (Bk.new (w.alloc (.cells (relA r) 27)) (relA o) 27).alloc (.cells (relA zeroR) 27)
    rw [World.size_alloc] at this
    rwa [hW0]
  have h3 : Bk W0 (w.heap.size + 1 + 1) (relA zeroR) := by
    have := Bk.new ((w.alloc (.cells (relA r) 27)).alloc (.cells (relA o) 27)) (relA zeroR) 27
    rw [size2] at this
    rwa [hW0]
  have k0 : On w W0 := by rw [hW0]; exact (((On.refl w).alloc _).alloc _).alloc _
  have hal := fun W => alike_is r o hr ho W
  obtain ⟨U, hU⟩ : ∃ U, U = thenR r o := ⟨_, rfl⟩
  rw [← hU]
  have hm6 : min r.n o.n ≤ 64 := by have := hr.n; omega
  have hwa := (below_wr hr hm6).w
  have hwb := (below_wr ho hm6).w
  have hfr := fun i W => from_is (belowR o (min r.n o.n)) (below_wr ho hm6) ((belowR r (min r.n o.n)).f i) (hwa i) W
  have hna : (belowR r (min r.n o.n)).n = min r.n o.n := rfl
  have HU : Hid (U = uptoR (belowR r (min r.n o.n)) (thenG (belowR r (min r.n o.n)) (belowR o (min r.n o.n))) (min r.n o.n)) := hU
  clear hU
  generalize min r.n o.n = m at *
  generalize belowR r m = A at *
  generalize belowR o m = B at *
  have hst := fun i => uptoR_step A (thenG A B) i
  have h1' := h1
  have h2' := h2
  rw [hW0] at h1' h2'
  go_enter Try.func9, Try.ntmps9
  go_wp2_with (first | refine wpList_ld rfl rfl rfl h1' ?_ | refine wpList_ld rfl rfl rfl h2' ?_)
  rw [← hW0]
  clear hW0 h1' h2'
  refine (hal _).mono ?_
  rintro _ w1 ⟨rfl, k1⟩
  have B1 := h1.on k1
  have B2 := h2.on k1
  have B3 := h3.on k1
  have K1 := k0.trans k1
  clear h1 h2 h3 k0 hal
  have C1 := (B1.row (relA A)).rowFar (N := w.heap.size + 1) (by omega) (relA B)
  have B2' := B2.rowFar (N := w.heap.size) (by omega) (relA A)
  have C2 := B2'.row (relA B)
  have C3 := (B3.rowFar (N := w.heap.size) (by omega) (relA A)).rowFar (N := w.heap.size + 1) (by omega) (relA B)
  have KC := (K1.row (N := w.heap.size) (by omega) (relA A)).row (N := w.heap.size + 1) (by omega) (relA B)
  obtain ⟨W2, hW2⟩ : ∃ W2, W2 = (w1.setRow w.heap.size (relA A)).setRow (w.heap.size + 1) (relA B) := ⟨_, rfl⟩
  rw [← hW2] at C1 C2 C3 KC
  have hc := C1.at (relA_zero A)
  rw [hna] at hc
  have hcl := C1.lt
  go_wp2_with (first | refine wpList_st rfl rfl rfl rfl B1 ?_ | (refine wpList_st rfl rfl rfl rfl B2' ?_; rw [← hW2]; clear hW2))
  go_loopg [14] m (fun gg s14 wr => ∃ i : Nat, i ≤ m ∧ gg = m - i ∧ s14 = .int .i64 i ∧ Hid (On w wr) ∧ Bk wr w.heap.size (relA (uptoR A (thenG A B) i)) ∧ Bk wr (w.heap.size + 1) (relA B) ∧ Bk wr (w.heap.size + 1 + 1) (relA zeroR))
  case atStart => exact ⟨0, Nat.zero_le _, rfl, rfl, KC, by rw [uptoR_zero]; exact C1, C2, C3⟩
  case round =>
    clear C1 C2 C3 KC hc hcl B1 B2 B3 B2' K1 k1
    obtain ⟨i, hi, hk, rfl, HO, D1, D2, D3⟩ := hrel
    rcases Nat.lt_or_ge i m with hlt | hge
    · have hi6 : i < 64 := by omega
      have hca := D1.at (relA_at _ hi6)
      rw [uptoR_at] at hca
      have hcb := D2.at (relA_at _ hi6)
      have hcf := D1.fr (1 + i)
      have hl1 := D1.lt
      have hl2 := D2.lt
      have hfi : ∀ W, Calls Try.prog 30 #[.agg (relA B), .int .u64 (A.f i)] W fun e w' => e = .returned (.int .u64 (thenG A B i)) ∧ On W w' := fun W => hfr i W
      have q0 : (Bk wr.drew w.heap.size (relA (uptoR A (thenG A B) i)) ∧ Bk wr.drew (w.heap.size + 1) (relA B)) ∧ Bk wr.drew (w.heap.size + 1 + 1) (relA zeroR) := ⟨⟨D1, D2⟩, D3⟩
      have cell := fun W (h : Bk W w.heap.size (relA (uptoR A (thenG A B) i))) => h.at (relA_at _ hi6)
      rw [uptoR_at] at cell
      have hi7 : (i : Int) < 64 := by omega
      clear hca hcb hcf hl1 hl2 hfr
      generalize A.f i = a at *
      go_wp2
      refine region_fz (fun W => (Bk W w.heap.size (relA (uptoR A (thenG A B) i)) ∧ Bk W (w.heap.size + 1) (relA B)) ∧ Bk W (w.heap.size + 1 + 1) (relA zeroR)) [9] 10 (by kernel_rfl) rfl ?_
      refine fz_take 0 (v := ?_) rfl (by kernel_rfl) (by kernel_rfl) (by kernel_rfl) (by kernel_rfl) (fun _ _ _ h => h) rfl ?_ q0 ?_
      rotate_left
      · intro W hW
        go_simp
        (try with_reducible rfl)
      simp only [Act.put, List.setIfInBounds_toArray, List.set_cons_zero, List.set_cons_succ]
      refine fz_take 1 (v := .agg (relA B)) rfl (by kernel_rfl) (by kernel_rfl) (by kernel_rfl) (by kernel_rfl) (fun _ _ _ h => h) rfl (fun W hW => exec_ld rfl rfl (hW.1.2)) q0 ?_
      simp only [Act.put, List.setIfInBounds_toArray, List.set_cons_zero, List.set_cons_succ]
      refine fz_take 2 (v := ?_) rfl (by kernel_rfl) (by kernel_rfl) (by kernel_rfl) (by kernel_rfl) (fun _ _ _ h => h) rfl ?_ q0 ?_
      rotate_left
      · intro W hW
        go_simp
        (try with_reducible rfl)
      simp only [Act.put, List.setIfInBounds_toArray, List.set_cons_zero, List.set_cons_succ]
      refine fz_take 3 (v := ?_) rfl (by kernel_rfl) (by kernel_rfl) (by kernel_rfl) (by kernel_rfl) (fun _ _ _ h => h) rfl ?_ q0 ?_
      rotate_left
      · intro W hW
        go_simp
        (try with_reducible rfl)
      simp only [Act.put, List.setIfInBounds_toArray, List.set_cons_zero, List.set_cons_succ]
      refine fz_take 4 (v := ?_) rfl (by kernel_rfl) (by kernel_rfl) (by kernel_rfl) (by kernel_rfl) (fun _ _ _ h => h) rfl ?_ q0 ?_
      rotate_left
      · intro W hW
        go_simp
        (try with_reducible rfl)
      simp only [Act.put, List.setIfInBounds_toArray, List.set_cons_zero, List.set_cons_succ]
      refine fz_take 5 (v := ?_) rfl (by kernel_rfl) (by kernel_rfl) (by kernel_rfl) (by kernel_rfl) (fun _ _ _ h => h) rfl ?_ q0 ?_
      rotate_left
      · intro W hW
        have hcl := cell W hW.1.1
        have hll := hW.1.1.lt
        go_simp
        (try with_reducible rfl)
      simp only [Act.put, List.setIfInBounds_toArray, List.set_cons_zero, List.set_cons_succ]
      refine fz_take 7 (v := ?_) rfl (by kernel_rfl) (by kernel_rfl) (by kernel_rfl) (by kernel_rfl) (fun _ _ _ h => h) rfl ?_ q0 ?_
      rotate_left
      · intro W hW
        go_simp
        (try with_reducible rfl)
      simp only [Act.put, List.setIfInBounds_toArray, List.set_cons_zero, List.set_cons_succ]
      refine fz_one 6 rfl rfl (by kernel_rfl) (fun K hK => ?_)
      go_simp
      refine (hfi _).mono ?_
      rintro _ w1 ⟨rfl, k1⟩
      have E1 := q0.1.1.on k1
      have E2 := q0.1.2.on k1
      have E3 := q0.2.on k1
      refine hK.out _ _ (fun _ => ⟨⟨E1, E2⟩, E3⟩) ?_
      clear hK
      refine fz_one 8 rfl rfl (by kernel_rfl) (fun K hK => ?_)
      go_simp
      refine hK.out _ _ (fun _ => ⟨⟨E1, E2⟩, E3⟩) ?_
      clear hK
      have hc9 := cell _ E1
      have hf9 := E1.fr (1 + i)
      have hl9 := E1.lt
      refine fz_one 9 rfl rfl (by kernel_rfl) (fun K hK => ?_)
      go_simp
      refine hK.out _ _ (fun h => absurd (by decide) h) ?_
      clear hK
      refine fz_done (by kernel_rfl) (NoPanic.normal ?_)
      have D1' := E1.set1 hi6 (thenG A B i)
      rw [hst] at D1'
      have D2' := E2.far (N := w.heap.size) (by omega) (1 + i) (.int .u64 (thenG A B i))
      have D3' := E3.far (N := w.heap.size) (by omega) (1 + i) (.int .u64 (thenG A B i))
      have HO' : Hid (On w _) := (HO.out.drew.trans k1).setNew (N := w.heap.size) (i := 1 + i) (by omega) (.int .u64 (thenG A B i))
      go_wp2
      go_roundg (m - (i + 1))
      case measure => omega
      case rel => exact ⟨i + 1, hlt, rfl, by congr 1, HO', D1', D2', D3'⟩
    · obtain rfl : i = m := by omega
      rw [← HU.out] at D1
      go_wp2_with (first | refine wpList_ld rfl rfl rfl D1 ?_ | refine wpList_st rfl rfl rfl rfl D3 ?_)
      refine bodyPost_ret (v := .agg (relA U)) ?_ rfl ⟨rfl, HO.out.row (by omega) _⟩
      exact ret65 rfl rfl (D3.row _)
end Go.Proofs.Ythbiaojefmdcmaa
