/- The document's relation over fewer. -/
import Derived.Test.YthbiaojefmdcmaaRelL
import Derived.Test.YthbiaojefmdcmaaRegMix
namespace Go.Proofs.Ythbiaojefmdcmaa
open Go.RowKit

def lowN (x k : Nat) : Nat := x &&& (2 ^ k - 1)
theorem low_bit (x k j : Nat) : (lowN x k).testBit j = (x.testBit j && decide (j < k)) := by
  unfold lowN
  rw [Nat.testBit_and, Nat.testBit_two_pow_sub_one]
/-- All of the rows below a, and of row a the numbers below b. -/
def cutT (r : RelT) (m a b : Nat) : RelT := ⟨m, fun j => if j < a then lowN (r.f j) m else if j = a then lowN (r.f a) b else 0⟩
theorem cut_H (r : RelT) (m a b x y : Nat) : H (cutT r m a b) x y = (H r x y && ((decide (x < a) && decide (y < m)) || (decide (x = a) && decide (y < b)))) := by
  show (if x < a then lowN (r.f x) m else if x = a then lowN (r.f a) b else 0).testBit y = _
  by_cases h1 : x < a
  · rw [if_pos h1, low_bit]
    have : ¬ x = a := by omega
    simp [h1, this]
  · rw [if_neg h1]
    by_cases h2 : x = a
    · subst h2
      rw [if_pos rfl, low_bit]
      simp
    · rw [if_neg h2]
      simp [h1, h2]
theorem cut_wf (r : RelT) {m a b : Nat} (hm : m ≤ 64) (hab : a ≤ m) (hb : b ≤ m) (hba : b = 0 ∨ a < m) : Wf (cutT r m a b) := by
  refine ⟨hm, fun x y h => ?_⟩
  rw [show ((cutT r m a b).f x).testBit y = H (cutT r m a b) x y from rfl, cut_H] at h
  simp only [Bool.and_eq_true, Bool.or_eq_true, decide_eq_true_eq] at h
  show x < m ∧ y < m
  rcases h.2 with h | h <;> omega
theorem cut_zero (r : RelT) (m : Nat) : cutT r m 0 0 = ⟨m, fun _ => 0⟩ := rel_ext rfl fun x y => by
  rw [cut_H]
  show _ = (0 : Nat).testBit y
  rw [Nat.zero_testBit]
  simp
theorem cut_skip (r : RelT) (m a b : Nat) (h : H r a b = false) : cutT r m a (b + 1) = cutT r m a b := rel_ext rfl fun x y => by
  rw [cut_H, cut_H]
  by_cases hx : x = a
  · by_cases hy : y = b
    · subst hx; subst hy; rw [h]; rfl
    · have : decide (y < b + 1) = decide (y < b) := by simp; omega
      rw [this]
  · simp [hx]
theorem cut_add (r : RelT) {m a b : Nat} (hm : m ≤ 64) (ha : a < m) (hb : b < m) (h : H r a b = true) : addR (cutT r m a b) a b = cutT r m a (b + 1) := by
  have hw := cut_wf r hm (Nat.le_of_lt ha) (Nat.le_of_lt hb) (Or.inr ha)
  refine rel_ext (add_n _ _ _) fun x y => ?_
  rw [add_H hw, cut_H, cut_H]
  have h1 : overR (cutT r m a b) (a : Int) = true := by unfold overR; show (decide _ && decide ((a : Int) < (m : Int))) = true; simp; omega
  have h2 : overR (cutT r m a b) (b : Int) = true := by unfold overR; show (decide _ && decide ((b : Int) < (m : Int))) = true; simp; omega
  rw [h1, h2]
  by_cases hx : x = a
  · subst hx
    by_cases hy : y = b
    · subst hy
      rw [h]
      simp
    · have e1 : ¬ ((y : Int) = b) := by omega
      have e2 : decide (y < b + 1) = decide (y < b) := by simp; omega
      simp [e1, e2]
  · have e1 : ¬ ((x : Int) = a) := by omega
    simp [e1, hx]
theorem cut_next (r : RelT) (m a : Nat) : cutT r m a m = cutT r m (a + 1) 0 := rel_ext rfl fun x y => by
  rw [cut_H, cut_H]
  by_cases hx : x = a
  · subst hx; simp
  · have : decide (x < a + 1) = decide (x < a) := by simp; omega
    rw [this]
    simp [hx]
theorem cut_all {r : RelT} (hr : Wf r) {m : Nat} (hm : m ≤ 64) : cutT r m m 0 = belowR r m := by
  refine rel_ext rfl fun x y => ?_
  rw [cut_H, below_H hr _ _ _ hm]
  simp [Bool.and_assoc]
set_option maxHeartbeats 4000000 in
theorem cut_is (r : RelT) (hr : Wf r) (n : Nat) (w : World) : Calls Try.prog 17 #[.agg (relA r), .int .i64 n] w fun e w' => e = .returned (.agg (relA (belowR r (min r.n n)))) ∧ On w w' := by
  obtain ⟨hz, _⟩ := zero_of_info rel_infow
  have hs : (relA zeroR).size = 65 := relA_size _
  have hne := rel_ne zeroR
  have hn6 := hr.n
  obtain ⟨m, hm⟩ : ∃ m, m = min r.n n := ⟨_, rfl⟩
  have hm6 : m ≤ 64 := by omega
  have hmi : (if n < r.n then (n : Int) else (r.n : Int)) = (m : Int) := by
    split <;> omega
  obtain ⟨K, hK⟩ : ∃ K, K = belowR r m := ⟨_, rfl⟩
  rw [← hm, ← hK]
  have HK : Hid (K = cutT r m m 0) := by show K = _; rw [hK, cut_all hr hm6]
  clear hK
  have HMR : Hid (m ≤ r.n) := by show m ≤ r.n; omega
  have hset : (relA zeroR).toList.set 0 (.int .i64 m) = (relA (cutT r m 0 0)).toList := by rw [cut_zero]; rfl
  obtain ⟨W0, hW0⟩ : ∃ W0, W0 = (w.alloc (.cells (relA r) 30)).alloc (.cells (relA zeroR) 30) := ⟨_, rfl⟩
  have h1 : Bk W0 w.heap.size (relA r) := by rw [hW0]; exact (Bk.new w (relA r) 30).alloc _
  have h2 : Bk W0 (w.heap.size + 1) (relA zeroR) := by
    have := Bk.new (w.alloc (.cells (relA r) 30)) (relA zeroR) 30
    rw [World.size_alloc] at this
    rwa [hW0]
  have k0 : On w W0 := by rw [hW0]; exact ((On.refl w).alloc _).alloc _
  have hs0 : W0.heap.size = w.heap.size + 1 + 1 := by rw [hW0, World.size_alloc, World.size_alloc]
  have hc0 := h1.at (relA_zero r)
  rw [hW0] at hc0
  have B3 : Bk (W0.alloc (.cells (relA zeroR) 30)) (w.heap.size + 1 + 1) (relA zeroR) := by
    have := Bk.new W0 (relA zeroR) 30
    rwa [hs0] at this
  obtain ⟨W1, hW1⟩ : ∃ W1, W1 = (W0.alloc (.cells (relA zeroR) 30)).setRow (w.heap.size + 1 + 1) (relA (cutT r m 0 0)) := ⟨_, rfl⟩
  have D1 : Bk W1 w.heap.size (relA r) := by rw [hW1]; exact (h1.alloc _).rowFar (by omega) _
  have D2 : Bk W1 (w.heap.size + 1) (relA zeroR) := by rw [hW1]; exact (h2.alloc _).rowFar (by omega) _
  have D3 : Bk W1 (w.heap.size + 1 + 1) (relA (cutT r m 0 0)) := by rw [hW1]; exact B3.row _
  have KD : On w W1 := by rw [hW1]; exact (k0.alloc _).row (by omega) _
  have hst := st65 (cs := relA (cutT r m 0 0)) B3 (relA_size _) (relA_size _) (relA_one _)
  rw [← hW1] at hst
  rw [hW0] at hst
  have hwas := fun (a b : Nat) (ha : a < 64) (hb : b < 64) W h => whas_is r hr.wr w.heap.size a b ha hb W h
  have hcw := fun (a b : Nat) (ha : a ≤ m) (hb : b ≤ m) (hba : b = 0 ∨ a < m) => cut_wf r hm6 ha hb hba
  have HCW : Hid (∀ a b, a ≤ m → b ≤ m → (b = 0 ∨ a < m) → Wf (cutT r m a b)) := hcw
  clear hW1 hW0 h1 h2 k0 hs0 B3 hr hcw hm
  go_enter Try.func17, Try.ntmps17
  go_wp2
  clear hst hset hc0
  go_loopg [6] m (fun gg s6 wr => ∃ a : Nat, a ≤ m ∧ gg = m - a ∧ s6 = .int .i64 a ∧ Hid (On w wr) ∧ Bk wr w.heap.size (relA r) ∧ Bk wr (w.heap.size + 1) (relA zeroR) ∧ Bk wr (w.heap.size + 1 + 1) (relA (cutT r m a 0)))
  case atStart => exact ⟨0, Nat.zero_le _, rfl, rfl, KD, D1, D2, D3⟩
  case round =>
    clear D1 D2 D3 KD
    obtain ⟨a, hi, hk, rfl, HO, D1, D2, D3⟩ := hrel
    have hc := D3.at (relA_zero _)
    rw [show (cutT r m a 0).n = m from rfl] at hc
    have hcl := D3.lt
    rcases Nat.lt_or_ge a m with hlt | hge
    · go_wp2
      clear hc hcl
      go_loopg [7] m (fun gi s7 wi => ∃ b : Nat, b ≤ m ∧ gi = m - b ∧ s7 = .int .i64 b ∧ Hid (On w wi) ∧ Bk wi w.heap.size (relA r) ∧ Bk wi (w.heap.size + 1) (relA zeroR) ∧ Bk wi (w.heap.size + 1 + 1) (relA (cutT r m a b)))
      case atStart => exact ⟨0, Nat.zero_le _, rfl, rfl, HO, D1, D2, D3⟩
      case round =>
        clear HO D1 D2 D3
        obtain ⟨b, hbi, hbk, rfl, HO, D1, D2, D3⟩ := hrel
        have hc := D3.at (relA_zero _)
        rw [show (cutT r m a b).n = m from rfl] at hc
        have hcl := D3.lt
        rcases Nat.lt_or_ge b m with hbl | hbg
        · have hwab := hwas a b (by omega) (by omega) _ D1
          cases hab : (r.f a).testBit b with
          | false =>
            rw [hab] at hwab
            have e := cut_skip r m a b hab
            rw [← e] at D3
            clear e hab
            go_wp2_with fail
            refine hwab.mono ?_
            rintro _ w2 ⟨rfl, hw2⟩
            subst w2
            go_wp2
            go_roundg (m - (b + 1))
            case measure => omega
            case rel => exact ⟨b + 1, hbl, rfl, by congr 1, HO, D1, D2, D3⟩
          | true =>
            rw [hab] at hwab
            have hwad := wadd_is (cutT r m a b) (HCW.out a b (by omega) (by omega) (Or.inr hlt)).wr (w.heap.size + 1 + 1) a b hlt hbl _ D3
            rw [cut_add r hm6 hlt hbl hab] at hwad
            clear hab
            go_wp2_with fail
            refine hwab.mono ?_
            rintro _ w2 ⟨rfl, hw2⟩
            subst w2
            go_wp2_with fail
            refine hwad.mono ?_
            rintro _ w3 ⟨rfl, hB3, hw3⟩
            have E1 : Bk w3 w.heap.size (relA r) := by rw [hw3]; exact D1.drew.far (by omega) _ _
            have E2 : Bk w3 (w.heap.size + 1) (relA zeroR) := by rw [hw3]; exact D2.drew.far (by omega) _ _
            have KE : On w w3 := by rw [hw3]; exact HO.out.drew.setNew (by omega) _
            clear hw3
            go_wp2
            go_roundg (m - (b + 1))
            case measure => omega
            case rel => exact ⟨b + 1, hbl, rfl, by congr 1, KE, E1, E2, hB3⟩
        · obtain rfl : b = m := by omega
          rw [cut_next] at D3
          go_wp2
          go_roundg (b - (a + 1))
          case measure => omega
          case rel => exact ⟨a + 1, hlt, rfl, by congr 1, HO, D1, D2, D3⟩
    · obtain rfl : a = m := by omega
      rw [← HK.out] at D3
      go_wp2_with (first | refine wpList_ldw rfl rfl rfl D3 ?_ | refine wpList_stw rfl rfl rfl rfl D2 ?_)
      refine bodyPost_ret (v := .agg (relA K)) ?_ rfl ⟨rfl, HO.out.row (by omega) _⟩
      exact ret65w rfl rfl (D2.row _)
end Go.Proofs.Ythbiaojefmdcmaa
