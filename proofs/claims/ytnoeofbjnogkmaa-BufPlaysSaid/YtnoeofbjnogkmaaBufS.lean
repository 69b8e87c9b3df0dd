/- buf.New, Len, Empty, span. -/
import Derived.Test.YtnoeofbjnogkmaaBufW
import Derived.Deep.DeepCutAuto
import Derived.Deep.LoopGhost
import Derived.BigQuiet
namespace Go.Proofs.Ytnoeofbjnogkmaa
open Go.RowKit

set_option maxRecDepth 8000 in
theorem len_is (b : BufT) (w : World) : Calls Try.prog 8 #[.agg (bufA b)] w fun e w' => e = .returned (.int .i64 b.l.length) ∧ On w w' := by
  have h1 : (bufA b)[1]? = some (.int .i64 b.l.length) := rfl
  obtain ⟨W1, hW1⟩ : ∃ W1, W1 = w.alloc (.cells (bufA b) 27) := ⟨_, rfl⟩
  have B1 : Bk W1 w.heap.size (bufA b) := by rw [hW1]; exact Bk.new w _ _
  have K1 : Hid (On w W1) := by show On _ _; rw [hW1]; exact (On.refl w).alloc _
  have q1 := B1.at h1
  go_enter Try.func8, Try.ntmps8
  go_upto_region 1 with fail
  rw [← hW1]
  clear hW1
  go_wp2
  go_ret
  exact ⟨rfl, K1.out⟩
set_option maxRecDepth 8000 in
theorem empty_is (b : BufT) (w : World) : Calls Try.prog 13 #[.agg (bufA b)] w fun e w' => e = .returned (.bool (b.l.length == 0)) ∧ On w w' := by
  have h1 : (bufA b)[1]? = some (.int .i64 b.l.length) := rfl
  obtain ⟨W1, hW1⟩ : ∃ W1, W1 = w.alloc (.cells (bufA b) 27) := ⟨_, rfl⟩
  have B1 : Bk W1 w.heap.size (bufA b) := by rw [hW1]; exact Bk.new w _ _
  have K1 : Hid (On w W1) := by show On _ _; rw [hW1]; exact (On.refl w).alloc _
  have q1 := B1.at h1
  obtain ⟨n, hn⟩ : ∃ n, n = b.l.length := ⟨_, rfl⟩
  rw [← hn] at q1 ⊢
  have he : ((n : Int) == 0) = (n == 0) := by cases n <;> rfl
  clear h1 hn
  go_enter Try.func13, Try.ntmps13
  go_upto_region 1 with fail
  rw [← hW1]
  clear hW1
  go_wp2
  go_ret
  exact ⟨rfl, K1.out⟩
set_option maxRecDepth 8000 in
theorem new_is (m : Int) (hm : InR m) (w : World) : Calls Try.prog 7 #[.int .i64 m] w fun e w' => e = .returned (.agg (bufA (newB m hm))) ∧ On w w' := by
  obtain ⟨W1, hW1⟩ : ∃ W1, W1 = w.alloc (.cells (bufA bufZ) 27) := ⟨_, rfl⟩
  have B1 : Hid (Bk W1 w.heap.size (bufA bufZ)) := by show Bk _ _ _; rw [hW1]; exact Bk.new w _ _
  have K1 : Hid (On w W1) := by show On _ _; rw [hW1]; exact (On.refl w).alloc _
  have hz : ∀ w, (zeroValue 27).run Try.prog w = .ok (.agg (bufA bufZ)) w := fun w => (zero_of_info buf_info).1 w
  by_cases h2 : m = 2 ∨ m = 3
  · have e : bufA (newB m hm) = rowA m 0 (padR []) := by unfold newB; rw [if_pos h2]; rfl
    have hB : Hid (bufA (mkB m [] (by simp) hm (fun _ h => by simp at h)) = rowA m 0 (padR [])) := rfl
    rw [e]
    rcases h2 with rfl | rfl
    all_goals
      go_enter Try.func7, Try.ntmps7
      go_upto_region 1 with fail
      rw [← hW1]
      clear hW1 hz
      go_wp2_with (first | (refine wpList_mk1 rfl rfl rfl (zero_buf _) ?_) | (refine wpList_bst rfl rfl rfl (by exact congrArg Value.agg hB.out.symm) B1.out ?_))
      refine bodyPost_ret (v := .agg (rowA _ 0 (padR []))) ?_ rfl ⟨rfl, K1.out.row (Nat.le_refl _) _⟩
      rw [← hB.out]
      exact buf_ret rfl rfl (B1.out.row _)
  · have e : newB m hm = bufZ := by unfold newB; rw [if_neg h2]; rfl
    rw [e]
    have h3 : (m != 2) = true := by simp; omega
    have h4 : (m != 3) = true := by simp; omega
    clear h2 e
    go_enter Try.func7, Try.ntmps7
    go_upto_region 1 with fail
    rw [← hW1]
    clear hW1 hz
    go_wp2_with (first | (refine wpList_mk0 rfl rfl zero_buf0 ?_) | (refine wpList_bst rfl rfl rfl (by exact rfl) B1.out ?_))
    refine bodyPost_ret (v := .agg (bufA bufZ)) ?_ rfl ⟨rfl, K1.out.row (Nat.le_refl _) _⟩
    exact buf_ret rfl rfl (B1.out.row _)
theorem low_go {b : BufT} {c : Int} {k : Nat} {e : EnT} (hk : k ≤ lowN b.l c) (he : b.l[k]? = some e) (h : e.1 < c) : k + 1 ≤ lowN b.l c := twN_go _ _ _ hk he (by simpa using h)
theorem low_stop {b : BufT} {c : Int} {k : Nat} {e : EnT} (hk : k ≤ lowN b.l c) (he : b.l[k]? = some e) (h : ¬ e.1 < c) : k = lowN b.l c := twN_stop _ _ _ hk he (by simpa using h)
theorem mid_go {b : BufT} {c : Int} {k : Nat} {e : EnT} (hl : lowN b.l c ≤ k) (hk : k ≤ lowN b.l c + midN b.l c) (he : b.l[k]? = some e) (h : e.1 = c) : k + 1 ≤ lowN b.l c + midN b.l c := by
  have := twN_go (p := fun e : EnT => e.1 == c) (b.l.drop (lowN b.l c)) (k - lowN b.l c) e (by unfold midN at hk; omega) (by rw [List.getElem?_drop, ← he]; congr 1; omega) (by simpa using h)
  unfold midN
  omega
theorem mid_stop {b : BufT} {c : Int} {k : Nat} {e : EnT} (hl : lowN b.l c ≤ k) (hk : k ≤ lowN b.l c + midN b.l c) (he : b.l[k]? = some e) (h : ¬ e.1 = c) : k = lowN b.l c + midN b.l c := by
  have := twN_stop (p := fun e : EnT => e.1 == c) (b.l.drop (lowN b.l c)) (k - lowN b.l c) e (by unfold midN at hk; omega) (by rw [List.getElem?_drop, ← he]; congr 1; omega) (by simpa using h)
  unfold midN
  omega
set_option maxHeartbeats 2000000 in
set_option maxRecDepth 8000 in
theorem span_is (b : BufT) (c : Int) (w : World) : Calls Try.prog 17 #[.agg (bufA b), .int .i64 c] w fun e w' => e = .returned (.tuple #[.int .i64 (spA b c), .int .i64 (spB b c)]) ∧ On w w' := by
  have h0 : (bufA b)[0]? = some (.int .i64 b.m) := rfl
  have h1 : (bufA b)[1]? = some (.int .i64 b.l.length) := rfl
  obtain ⟨W1, hW1⟩ : ∃ W1, W1 = w.alloc (.cells (bufA b) 27) := ⟨_, rfl⟩
  have B1 : Bk W1 w.heap.size (bufA b) := by rw [hW1]; exact Bk.new w _ _
  have K1 : Hid (On w W1) := by show On _ _; rw [hW1]; exact (On.refl w).alloc _
  have q0 := B1.at h0
  have q1 := B1.at h1
  have BE : Hid (∀ k e, b.l[k]? = some e → W1.cell? ⟨w.heap.size, 2 + k * 3, none⟩ = some (.int .i64 e.1)) := fun k e he => Bk.en0 B1 (padR_at he)
  have hN := B1.lt
  by_cases hm : b.m = 3
  · have eA : spA b c = lowN b.l c := if_pos hm
    have eB : spB b c = lowN b.l c + midN b.l c := if_pos hm
    rw [eA, eB]
    have hm3 : (b.m != 3) = false := by rw [hm]; rfl
    have hlow := low_le b.l c
    have hmid := mid_le b.l c
    have hl24 := b.len
    clear eA eB hm B1 h0 h1
    obtain ⟨n, hn⟩ : ∃ n, n = b.l.length := ⟨_, rfl⟩
    have HN : Hid (n = b.l.length) := hn
    rw [← hn] at q1 hlow hmid hl24
    obtain ⟨lo, hlo⟩ : ∃ lo, lo = lowN b.l c := ⟨_, rfl⟩
    obtain ⟨mi, hmi⟩ : ∃ mi, mi = midN b.l c := ⟨_, rfl⟩
    rw [← hlo, ← hmi] at hmid
    rw [← hlo] at hlow
    rw [← hlo, ← hmi]
    have HLO : Hid (lo = lowN b.l c) := hlo
    have HMI : Hid (mi = midN b.l c) := hmi
    clear hn hlo hmi
    go_enter Try.func17, Try.ntmps17
    go_upto_region 1 with fail
    rw [← hW1]
    clear hW1
    generalize w.heap.size = N at *
    go_wp2
    go_loopg [4] n (fun gg s4 wr => ∃ k : Nat, k ≤ lo ∧ gg = n - k ∧ s4 = .int .i64 k ∧ wr = W1)
    case atStart => exact ⟨0, Nat.zero_le _, rfl, rfl, rfl⟩
    case round =>
      obtain ⟨k, hk, hg, rfl, rfl⟩ := hrel
      rcases Nat.lt_or_ge k n with hlt | hge
      · obtain ⟨e, he⟩ : ∃ e, b.l[k]? = some e := ⟨_, List.getElem?_eq_getElem (by rw [← HN.out]; exact hlt)⟩
        have qe := BE.out k e he
        have b1 : (k : Int) < (n : Int) := by omega
        have b2 : decide ((k : Int) < 0) = false := decide_eq_false (by omega)
        have b3 : (k : Int) < 24 := by omega
        have b4 : (0 : Int) ≤ (k : Int) := by omega
        have hov : wrap64 ((k : Int) + 1) = ((k + 1 : Nat) : Int) := IntWalk.wrap64_in _ ⟨by omega, by omega⟩
        by_cases hc : e.1 < c
        · have hk2 : k + 1 ≤ lo := by rw [HLO.out]; exact low_go (by rw [← HLO.out]; exact hk) he hc
          clear he
          go_wp2
          go_roundg (n - (k + 1))
          case measure => omega
          case rel => exact ⟨k + 1, hk2, rfl, by go_num, rfl⟩
        · have hkl : lo = k := Eq.symm <| by rw [HLO.out]; exact low_stop (by rw [← HLO.out]; exact hk) he hc
          have hcc : decide (e.1 < c) = false := decide_eq_false hc
          clear he hc
          subst hkl
          clear hg
          go_wp2
          go_loopg [5] (n - lo) (fun gg s5 wq => ∃ j : Nat, lo ≤ j ∧ j ≤ lo + mi ∧ gg = n - j ∧ s5 = .int .i64 j ∧ wq = wr)
          case atStart => exact ⟨lo, Nat.le_refl _, Nat.le_add_right _ _, rfl, rfl, rfl⟩
          case round =>
            obtain ⟨j, hj0, hj, hg, rfl, rfl⟩ := hrel
            rcases Nat.lt_or_ge j n with hlt | hge
            · obtain ⟨e, he⟩ : ∃ e, b.l[j]? = some e := ⟨_, List.getElem?_eq_getElem (by rw [← HN.out]; exact hlt)⟩
              have qe := BE.out j e he
              have b1 : (j : Int) < (n : Int) := by omega
              have b2 : decide ((j : Int) < 0) = false := decide_eq_false (by omega)
              have b3 : (j : Int) < 24 := by omega
              have b4 : (0 : Int) ≤ (j : Int) := by omega
              have hov : wrap64 ((j : Int) + 1) = ((j + 1 : Nat) : Int) := IntWalk.wrap64_in _ ⟨by omega, by omega⟩
              by_cases hc : e.1 = c
              · have hj2 : j + 1 ≤ lo + mi := by rw [HLO.out, HMI.out]; exact mid_go (by rw [← HLO.out]; exact hj0) (by rw [← HLO.out, ← HMI.out]; exact hj) he hc
                rw [hc] at qe
                have HH : Hid (lo ≤ j ∧ j + 1 ≤ lo + mi ∧ lo + mi ≤ n ∧ j < n) := ⟨hj0, hj2, hmid, hlt⟩
                have HG : Hid (gk = n - j) := hg
                clear he hc hj0 hj hj2 hmid hlow hl24 hlt hg
                go_wp2
                go_roundg (n - (j + 1))
                case measure => have h1 := HH.out; have h2 := HG.out; omega
                case rel => exact ⟨j + 1, Nat.le_succ_of_le HH.out.1, HH.out.2.1, rfl, by go_num, rfl⟩
              · have hj2 : j = lo + mi := by rw [HLO.out, HMI.out]; exact mid_stop (by rw [← HLO.out]; exact hj0) (by rw [← HLO.out, ← HMI.out]; exact hj) he hc
                have HJ : Hid (j = lo + mi) := hj2
                have hcc : (e.1 == c) = false := by simp [hc]
                generalize e.1 = ec at qe hcc
                clear he hc hj2 hg hj0 hj hmid hlow hl24 hlt
                go_wp2
                go_ret2
                exact ⟨by rw [HJ.out]; rfl, K1.out⟩
            · have HJ : Hid (j = lo + mi) := show j = lo + mi by omega
              have b1 : decide ((j : Int) < (n : Int)) = false := decide_eq_false (by omega)
              clear hg
              go_wp2
              go_ret2
              exact ⟨by rw [HJ.out]; rfl, K1.out⟩
      · have hkl : lo = k := by omega
        have b1 : decide ((k : Int) < (n : Int)) = false := decide_eq_false (by omega)
        subst hkl
        clear hg
        go_wp2
        go_loopg [5] (n - lo) (fun gg s5 wq => ∃ j : Nat, lo ≤ j ∧ j ≤ lo + mi ∧ gg = n - j ∧ s5 = .int .i64 j ∧ wq = wr)
        case atStart => exact ⟨lo, Nat.le_refl _, Nat.le_add_right _ _, rfl, rfl, rfl⟩
        case round =>
          obtain ⟨j, hj0, hj, hg, rfl, rfl⟩ := hrel
          rcases Nat.lt_or_ge j n with hlt | hge
          · obtain ⟨e, he⟩ : ∃ e, b.l[j]? = some e := ⟨_, List.getElem?_eq_getElem (by rw [← HN.out]; exact hlt)⟩
            have qe := BE.out j e he
            have b1 : (j : Int) < (n : Int) := by omega
            have b2 : decide ((j : Int) < 0) = false := decide_eq_false (by omega)
            have b3 : (j : Int) < 24 := by omega
            have b4 : (0 : Int) ≤ (j : Int) := by omega
            have hov : wrap64 ((j : Int) + 1) = ((j + 1 : Nat) : Int) := IntWalk.wrap64_in _ ⟨by omega, by omega⟩
            by_cases hc : e.1 = c
            · have hj2 : j + 1 ≤ lo + mi := by rw [HLO.out, HMI.out]; exact mid_go (by rw [← HLO.out]; exact hj0) (by rw [← HLO.out, ← HMI.out]; exact hj) he hc
              rw [hc] at qe
              have HH : Hid (lo ≤ j ∧ j + 1 ≤ lo + mi ∧ lo + mi ≤ n ∧ j < n) := ⟨hj0, hj2, hmid, hlt⟩
              have HG : Hid (gk = n - j) := hg
              clear he hc hj0 hj hj2 hmid hlow hl24 hlt hg
              go_wp2
              go_roundg (n - (j + 1))
              case measure => have h1 := HH.out; have h2 := HG.out; omega
              case rel => exact ⟨j + 1, Nat.le_succ_of_le HH.out.1, HH.out.2.1, rfl, by go_num, rfl⟩
            · have hj2 : j = lo + mi := by rw [HLO.out, HMI.out]; exact mid_stop (by rw [← HLO.out]; exact hj0) (by rw [← HLO.out, ← HMI.out]; exact hj) he hc
              have HJ : Hid (j = lo + mi) := hj2
              have hcc : (e.1 == c) = false := by simp [hc]
              generalize e.1 = ec at qe hcc
              clear he hc hj2 hg hj0 hj hmid hlow hl24 hlt
              go_wp2
              go_ret2
              exact ⟨by rw [HJ.out]; rfl, K1.out⟩
          · have HJ : Hid (j = lo + mi) := show j = lo + mi by omega
            have b1 : decide ((j : Int) < (n : Int)) = false := decide_eq_false (by omega)
            clear hg
            go_wp2
            go_ret2
            exact ⟨by rw [HJ.out]; rfl, K1.out⟩
  · have eA : spA b c = 0 := if_neg hm
    have eB : spB b c = b.l.length := if_neg hm
    rw [eA, eB]
    have hm3 : (b.m != 3) = true := by simp [hm]
    clear eA eB hm B1 h0 h1 BE
    obtain ⟨n, hn⟩ : ∃ n, n = b.l.length := ⟨_, rfl⟩
    rw [← hn] at q1 ⊢
    clear hn
    go_enter Try.func17, Try.ntmps17
    go_upto_region 1 with fail
    rw [← hW1]
    clear hW1
    generalize w.heap.size = N at *
    go_wp2
    go_quiet (fail)
    go_wp2
    go_ret2
    exact ⟨rfl, K1.out.drewN _⟩
end Go.Proofs.Ytnoeofbjnogkmaa
