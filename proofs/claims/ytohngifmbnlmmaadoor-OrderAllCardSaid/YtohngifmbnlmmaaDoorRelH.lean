/- Relations: Inverse, Closure, Acyclic. -/
import Derived.Test.YtohngifmbnlmmaaDoorRelG
namespace Go.Proofs.YtohngifmbnlmmaaDoor
open Go.RowKit

theorem uptoR_over (z : RelT) (g h : Nat → Nat) (n : Nat) : uptoR (uptoR z g n) h n = uptoR z h n := by
  unfold uptoR
  congr 1
  funext j
  by_cases hj : j < n <;> simp [hj]
/-- Who leads to j, of those below a. -/
def invN (r : RelT) (j : Nat) : Nat → Nat
  | 0 => 0
  | a + 1 => if hasI (r.f a) j then withI (invN r j a) a else invN r j a
theorem inv_lt (r : RelT) (j : Nat) : ∀ a, invN r j a < 18446744073709551616
  | 0 => by unfold invN; decide
  | a + 1 => by
    unfold invN
    split
    · exact with_lt _ _ (inv_lt r j a)
    · exact inv_lt r j a
def invR (r : RelT) : RelT := uptoR (newR r.n) (fun j => invN r j r.n) r.n
theorem inv_wr {r : RelT} (_ : Wr r) : Wr (invR r) := by
  refine ⟨Nat.min_le_right _ _, fun j => ?_⟩
  show (if j < r.n then invN r j r.n else 0) < _
  split
  · exact inv_lt r j _
  · decide
set_option maxHeartbeats 2000000 in
theorem inv_is (r : RelT) (hr : Wr r) (w : World) : Calls Tryd.prog 36 #[.agg (relA r)] w fun e w' => e = .returned (.agg (relA (invR r))) ∧ On w w' := by
  obtain ⟨hz, _⟩ := zero_of_info rel_info
  have h1 : Bk ((w.alloc (.cells (relA r) 27)).alloc (.cells (relA zeroR) 27)) w.heap.size (relA r) := (Bk.new w (relA r) 27).alloc _
  have h2 : Bk ((w.alloc (.cells (relA r) 27)).alloc (.cells (relA zeroR) 27)) (w.heap.size + 1) (relA zeroR) := by
    have := Bk.new (w.alloc (.cells (relA r) 27)) (relA zeroR) 27
    rwa [World.size_alloc] at this
  have k0 := ((On.refl w).alloc (.cells (relA r) 27)).alloc (.cells (relA zeroR) 27)
  have hc0 := h1.at (relA_zero r)
  have hsz := size2 w (.cells (relA r) 27) (.cells (relA zeroR) 27)
  have hnew := fun W => new_is r.n W
  have hn := hr.n
  obtain ⟨K, hK⟩ : ∃ K, K = invR r := ⟨_, rfl⟩
  rw [← hK]
  have HK : Hid (K = uptoR (newR r.n) (fun j => invN r j r.n) r.n) := hK
  clear hK
  obtain ⟨n, hnn⟩ : ∃ n, n = r.n := ⟨_, rfl⟩
  rw [← hnn] at hc0 hn hnew HK
  obtain ⟨Z, hZ⟩ : ∃ Z, Z = newR n := ⟨_, rfl⟩
  rw [← hZ] at hnew HK
  have HZ : Hid (Z = newR n) := hZ
  have HN : Hid (n = r.n) := hnn
  clear hZ hnn
  go_enter Tryd.func36, Tryd.ntmps36
  go_wp2_with fail
  refine (hnew _).mono ?_
  rintro _ w1 ⟨rfl, k1⟩
  have B1 := (h1.on k1).alloc (.cells (relA zeroR) 27)
  have B2 := (h2.on k1).alloc (.cells (relA zeroR) 27)
  have B3 := Bk.new w1 (relA zeroR) 27
  have hs1 : w.heap.size + 2 ≤ w1.heap.size := by have := k1.size; omega
  have C1 := B1.rowFar (N := w1.heap.size) (by omega) (relA Z)
  have C2 := B2.rowFar (N := w1.heap.size) (by omega) (relA Z)
  have C3 := B3.row (relA Z)
  have KC := ((k0.trans k1).alloc (.cells (relA zeroR) 27)).row (N := w1.heap.size) (by omega) (relA Z)
  obtain ⟨W, hW⟩ : ∃ W, W = (w1.alloc (.cells (relA zeroR) 27)).setRow w1.heap.size (relA Z) := ⟨_, rfl⟩
  rw [← hW] at C1 C2 C3 KC
  have hc := C1.at (relA_zero r)
  rw [← HN.out] at hc
  have hcl := C1.lt
  clear hc0 hsz B1 B2 h1 h2 k0
  go_wp2_with (first | (refine wpList_st rfl rfl rfl rfl B3 ?_; rw [← hW]; clear B3 hW))
  go_loopg [11] n (fun gg s11 wr => ∃ a : Nat, a ≤ n ∧ gg = n - a ∧ s11 = .int .i64 a ∧ Hid (On w wr) ∧ Bk wr w.heap.size (relA r) ∧ Bk wr (w.heap.size + 1) (relA zeroR) ∧ Bk wr w1.heap.size (relA (uptoR Z (fun j => invN r j a) n)))
  case atStart => exact ⟨0, Nat.zero_le _, rfl, rfl, KC, C1, C2, by
    have e : uptoR Z (fun j => invN r j 0) n = Z := by
      rw [HZ.out]
      unfold uptoR newR
      congr 1
      funext j
      simp [invN]
    rw [e]; exact C3⟩
  case round =>
    clear C1 C2 C3 KC hc hcl
    obtain ⟨a, hi, hk, rfl, HO, D1, D2, D3⟩ := hrel
    rcases Nat.lt_or_ge a n with hlt | hge
    · have ha6 : a < 64 := by omega
      have hc := D1.at (relA_zero r)
      rw [← HN.out] at hc
      have hcl := D1.lt
      go_wp2
      clear hc hcl
      go_loopg [16] n (fun gi s16 wi => ∃ b : Nat, b ≤ n ∧ gi = n - b ∧ s16 = .int .i64 b ∧ Hid (On w wi) ∧ Bk wi w.heap.size (relA r) ∧ Bk wi (w.heap.size + 1) (relA zeroR) ∧ Bk wi w1.heap.size (relA (uptoR (uptoR Z (fun j => invN r j a) n) (fun j => invN r j (a + 1)) b)))
      case atStart => exact ⟨0, Nat.zero_le _, rfl, rfl, HO, D1, D2, by rw [uptoR_zero]; exact D3⟩
      case round =>
        clear HO D1 D2 D3
        obtain ⟨b, hbi, hbk, rfl, HO, D1, D2, D3⟩ := hrel
        rcases Nat.lt_or_ge b n with hbl | hbg
        · have hb6 : b < 64 := by omega
          have HHb := fun W => has_is (r.f a) b (hr.w a) W
          have hca := D1.at (relA_at r ha6)
          have hl1 := D1.lt
          have st := uptoR_step (uptoR Z (fun j => invN r j a) n) (fun j => invN r j (a + 1)) b
          have sk := uptoR_skip (uptoR Z (fun j => invN r j a) n) (fun j => invN r j (a + 1)) b
          have hnow : (uptoR (uptoR Z (fun j => invN r j a) n) (fun j => invN r j (a + 1)) b).f b = invN r b a := by
            rw [uptoR_at]
            show (if b < n then invN r b a else Z.f b) = _
            rw [if_pos hbl]
          have hnx : invN r b (a + 1) = if hasI (r.f a) b then withI (invN r b a) a else invN r b a := rfl
          cases hb : hasI (r.f a) b with
          | true =>
            rw [hb] at HHb hnx
            rw [if_pos rfl] at hnx
            have hcb := D3.at (relA_at _ hb6)
            rw [hnow] at hcb
            have hwi := fun W => with_is (invN r b a) a (inv_lt r b a) W
            rw [← hnx] at hwi
            have hcf := D3.fr (1 + b)
            have hl3 := D3.lt
            have D3' := D3.set1 hb6 (invN r b (a + 1))
            rw [st] at D3'
            have D1' := D1.far (N := w1.heap.size) (by omega) (1 + b) (.int .u64 (invN r b (a + 1)))
            have D2' := D2.far (N := w1.heap.size) (by omega) (1 + b) (.int .u64 (invN r b (a + 1)))
            have HO' : Hid (On w _) := HO.out.setNew (N := w1.heap.size) (i := 1 + b) (by omega) (.int .u64 (invN r b (a + 1)))
            clear hb D1 D2 D3 HO hnx hnow st sk
            generalize invN r b (a + 1) = y at *
            generalize invN r b a = y0 at *
            generalize r.f a = x at *
            go_wp2_with fail
            refine (HHb _).mono ?_
            rintro _ w2 ⟨rfl, hw2⟩
            subst w2
            go_wp2_with fail
            refine (hwi _).mono ?_
            rintro _ w2 ⟨rfl, hw2⟩
            subst w2
            go_wp2
            go_roundg (n - (b + 1))
            case measure => omega
            case rel => exact ⟨b + 1, hbl, rfl, by congr 1, HO', D1', D2', D3'⟩
          | false =>
            rw [hb] at HHb hnx
            rw [if_neg (by decide)] at hnx
            have sk' := sk (by rw [hnx, ← hnow, uptoR_at])
            rw [← sk'] at D3
            clear hb hnx hnow st sk sk'
            generalize r.f a = x at *
            go_wp2_with fail
            refine (HHb _).mono ?_
            rintro _ w2 ⟨rfl, hw2⟩
            subst w2
            go_wp2
            go_roundg (n - (b + 1))
            case measure => omega
            case rel => exact ⟨b + 1, hbl, rfl, by congr 1, HO, D1, D2, D3⟩
        · obtain rfl : b = n := by omega
          rw [uptoR_over] at D3
          go_wp2
          go_roundg (b - (a + 1))
          case measure => omega
          case rel => exact ⟨a + 1, hlt, rfl, by congr 1, HO, D1, D2, D3⟩
    · obtain rfl : a = n := by omega
      rw [← HK.out] at D3
      go_wp2_with (first | refine wpList_ld rfl rfl rfl D3 ?_ | refine wpList_st rfl rfl rfl rfl D2 ?_)
      refine bodyPost_ret (v := .agg (relA K)) ?_ rfl ⟨rfl, HO.out.row (by omega) _⟩
      exact ret65 rfl rfl (D2.row _)
end Go.Proofs.YtohngifmbnlmmaaDoor
