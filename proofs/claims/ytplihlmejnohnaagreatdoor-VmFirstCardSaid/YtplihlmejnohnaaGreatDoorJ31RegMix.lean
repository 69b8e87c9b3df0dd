/- buf.New, Len, Empty, span. -/
import Derived.Test.YtplihlmejnohnaaGreatDoorJ30BufW
import Derived.Deep.DeepCutAuto
import Derived.Deep.LoopGhost
import Derived.BigQuiet
import Derived.Test.YtplihlmejnohnaaGreatDoorJ21RLocs
import Derived.Test.YtplihlmejnohnaaGreatDoorJ00Heap
namespace Go.Proofs.YtplihlmejnohnaaGreatDoor
open Go.RowKit

set_option maxRecDepth 8000 in
theorem empty_is (b : BufT) (w : World) : Calls Tryz.prog 84 #[.agg (bufA b)] w fun e w' => e = .returned (.bool (b.l.length == 0)) ∧ On w w' := by
  have h1 : (bufA b)[1]? = some (.int .i64 b.l.length) := rfl
  obtain ⟨W1, hW1⟩ : ∃ W1, W1 = w.alloc (.cells (bufA b) 85) := ⟨_, rfl⟩
  have B1 : Bk W1 w.heap.size (bufA b) := by rw [hW1]; exact Bk.new w _ _
  have K1 : Hid (On w W1) := by show On _ _; rw [hW1]; exact (On.refl w).alloc _
  have q1 := B1.at h1
  obtain ⟨n, hn⟩ : ∃ n, n = b.l.length := ⟨_, rfl⟩
  rw [← hn] at q1 ⊢
  have he : ((n : Int) == 0) = (n == 0) := by cases n <;> rfl
  clear h1 hn
  go_enter Tryz.func84, Tryz.ntmps84
  go_upto_region 1 with fail
  rw [← hW1]
  clear hW1
  go_wp2
  go_ret
  exact ⟨rfl, K1.out⟩
set_option maxRecDepth 8000 in
theorem new_is (m : Int) (hm : InR m) (w : World) : Calls Tryz.prog 32 #[.int .i64 m] w fun e w' => e = .returned (.agg (bufA (newB m hm))) ∧ On w w' := by
  obtain ⟨W1, hW1⟩ : ∃ W1, W1 = w.alloc (.cells (bufA bufZ) 85) := ⟨_, rfl⟩
  have B1 : Hid (Bk W1 w.heap.size (bufA bufZ)) := by show Bk _ _ _; rw [hW1]; exact Bk.new w _ _
  have K1 : Hid (On w W1) := by show On _ _; rw [hW1]; exact (On.refl w).alloc _
  have hz : ∀ w, (zeroValue 85).run Tryz.prog w = .ok (.agg (bufA bufZ)) w := fun w => (zero_of_info buf_info).1 w
  by_cases h2 : m = 2 ∨ m = 3
  · have e : bufA (newB m hm) = rowA m 0 (padR []) := by unfold newB; rw [if_pos h2]; rfl
    have hB : Hid (bufA (mkB m [] (by simp) hm (fun _ h => by simp at h)) = rowA m 0 (padR [])) := rfl
    rw [e]
    rcases h2 with rfl | rfl
    all_goals
      go_enter Tryz.func32, Tryz.ntmps32
      go_upto_region 1 with fail
      rw [← hW1]
      clear hW1 hz
      go_wp2_with (first | (refine wpList_mk1 rfl rfl rfl (zero_buf _) ?_) | (refine wpList_bst rfl rfl rfl (by exact congrArg Value.agg hB.out.symm) B1.out ?_))
      refine bodyPost_ret (v := .agg (rowA _ 0 (padR []))) ?_ rfl ⟨rfl, K1.out.row (Nat.le_refl _) _⟩
      rw [← hB.out]
      exact buf_ret rfl rfl (B1.out.row _)
  · have e : newB m hm = bufZ := by unfold newB; rw [if_neg h2]; rfl
    rw [e]
    have h3 : (m != 2) = true := by simp; omega
    have h4 : (m != 3) = true := by simp; omega
    clear h2 e
    go_enter Tryz.func32, Tryz.ntmps32
    go_upto_region 1 with fail
    rw [← hW1]
    clear hW1 hz
    go_wp2_with (first | (refine wpList_mk0 rfl rfl zero_buf0 ?_) | (refine wpList_bst rfl rfl rfl (by exact rfl) B1.out ?_))
    refine bodyPost_ret (v := .agg (bufA bufZ)) ?_ rfl ⟨rfl, K1.out.row (Nat.le_refl _) _⟩
    exact buf_ret rfl rfl (B1.out.row _)
theorem low_go {b : BufT} {c : Int} {k : Nat} {e : EnT} (hk : k ≤ lowN b.l c) (he : b.l[k]? = some e) (h : e.1 < c) : k + 1 ≤ lowN b.l c := twN_go _ _ _ hk he (by simpa using h)
theorem low_stop {b : BufT} {c : Int} {k : Nat} {e : EnT} (hk : k ≤ lowN b.l c) (he : b.l[k]? = some e) (h : ¬ e.1 < c) : k = lowN b.l c := twN_stop _ _ _ hk he (by simpa using h)
theorem mid_go {b : BufT} {c : Int} {k : Nat} {e : EnT} (hl : lowN b.l c ≤ k) (hk : k ≤ lowN b.l c + midN b.l c) (he : b.l[k]? = some e) (h : e.1 = c) : k + 1 ≤ lowN b.l c + midN b.l c := by
  have := twN_go (p := fun e : EnT => e.1 == c) (b.l.drop (lowN b.l c)) (k - lowN b.l c) e (by unfold midN at hk; omega) (by rw [List.getElem?_drop, ← he]; congr 1; omega) (by simpa using h)
  unfold midN
  omega
theorem mid_stop {b : BufT} {c : Int} {k : Nat} {e : EnT} (hl : lowN b.l c ≤ k) (hk : k ≤ lowN b.l c + midN b.l c) (he : b.l[k]? = some e) (h : ¬ e.1 = c) : k = lowN b.l c + midN b.l c := by
  have := twN_stop (p := fun e : EnT => e.1 == c) (b.l.drop (lowN b.l c)) (k - lowN b.l c) e (by unfold midN at hk; omega) (by rw [List.getElem?_drop, ← he]; congr 1; omega) (by simpa using h)
  unfold midN
  omega
set_option maxHeartbeats 2000000 in
set_option maxRecDepth 8000 in
theorem span_is (b : BufT) (c : Int) (w : World) : Calls Tryz.prog 89 #[.agg (bufA b), .int .i64 c] w fun e w' => e = .returned (.tuple #[.int .i64 (spA b c), .int .i64 (spB b c)]) ∧ On w w' := by
  have h0 : (bufA b)[0]? = some (.int .i64 b.m) := rfl
  have h1 : (bufA b)[1]? = some (.int .i64 b.l.length) := rfl
  obtain ⟨W1, hW1⟩ : ∃ W1, W1 = w.alloc (.cells (bufA b) 85) := ⟨_, rfl⟩
  have B1 : Bk W1 w.heap.size (bufA b) := by rw [hW1]; exact Bk.new w _ _
  have K1 : Hid (On w W1) := by show On _ _; rw [hW1]; exact (On.refl w).alloc _
  have q0 := B1.at h0
  have q1 := B1.at h1
  have BE : Hid (∀ k e, b.l[k]? = some e → W1.cell? ⟨w.heap.size, 2 + k * 3, none⟩ = some (.int .i64 e.1)) := fun k e he => Bk.en0 B1 (padR_at he)
  have hN := B1.lt
  by_cases hm : b.m = 3
  · have eA : spA b c = lowN b.l c := if_pos hm
    have eB : spB b c = lowN b.l c + midN b.l c := if_pos hm
    rw [eA, eB]
    have hm3 : (b.m != 3) = false := by rw [hm]; rfl
    have hlow := low_le b.l c
    have hmid := mid_le b.l c
    have hl24 := b.len
    clear eA eB hm B1 h0 h1
    obtain ⟨n, hn⟩ : ∃ n, n = b.l.length := ⟨_, rfl⟩
    have HN : Hid (n = b.l.length) := hn
    rw [← hn] at q1 hlow hmid hl24
    obtain ⟨lo, hlo⟩ : ∃ lo, lo = lowN b.l c := ⟨_, rfl⟩
    obtain ⟨mi, hmi⟩ : ∃ mi, mi = midN b.l c := ⟨_, rfl⟩
    rw [← hlo, ← hmi] at hmid
    rw [← hlo] at hlow
    rw [← hlo, ← hmi]
    have HLO : Hid (lo = lowN b.l c) := hlo
    have HMI : Hid (mi = midN b.l c) := hmi
    clear hn hlo hmi
    go_enter Tryz.func89, Tryz.ntmps89
    go_upto_region 1 with fail
    rw [← hW1]
    clear hW1
    generalize w.heap.size = N at *
    go_wp2
    go_loopg [4] n (fun gg s4 wr => ∃ k : Nat, k ≤ lo ∧ gg = n - k ∧ s4 = .int .i64 k ∧ wr = W1)
    case atStart => exact ⟨0, Nat.zero_le _, rfl, rfl, rfl⟩
    case round =>
      obtain ⟨k, hk, hg, rfl, rfl⟩ := hrel
      rcases Nat.lt_or_ge k n with hlt | hge
      · obtain ⟨e, he⟩ : ∃ e, b.l[k]? = some e := ⟨_, List.getElem?_eq_getElem (by rw [← HN.out]; exact hlt)⟩
        have qe := BE.out k e he
        have b1 : (k : Int) < (n : Int) := by omega
        have b2 : decide ((k : Int) < 0) = false := decide_eq_false (by omega)
        have b3 : (k : Int) < 24 := by omega
        have b4 : (0 : Int) ≤ (k : Int) := by omega
        have hov : wrap64 ((k : Int) + 1) = ((k + 1 : Nat) : Int) := IntWalk.wrap64_in _ ⟨by omega, by omega⟩
        by_cases hc : e.1 < c
        · have hk2 : k + 1 ≤ lo := by rw [HLO.out]; exact low_go (by rw [← HLO.out]; exact hk) he hc
          clear he
          go_wp2
          go_roundg (n - (k + 1))
          case measure => omega
          case rel => exact ⟨k + 1, hk2, rfl, by go_num, rfl⟩
        · have hkl : lo = k := Eq.symm <| by rw [HLO.out]; exact low_stop (by rw [← HLO.out]; exact hk) he hc
          have hcc : decide (e.1 < c) = false := decide_eq_false hc
          clear he hc
          subst hkl
          clear hg
          go_wp2
          go_loopg [5] (n - lo) (fun gg s5 wq => ∃ j : Nat, lo ≤ j ∧ j ≤ lo + mi ∧ gg = n - j ∧ s5 = .int .i64 j ∧ wq = wr)
          case atStart => exact ⟨lo, Nat.le_refl _, Nat.le_add_right _ _, rfl, rfl, rfl⟩
          case round =>
            obtain ⟨j, hj0, hj, hg, rfl, rfl⟩ := hrel
            rcases Nat.lt_or_ge j n with hlt | hge
            · obtain ⟨e, he⟩ : ∃ e, b.l[j]? = some e := ⟨_, List.getElem?_eq_getElem (by rw [← HN.out]; exact hlt)⟩
              have qe := BE.out j e he
              have b1 : (j : Int) < (n : Int) := by omega
              have b2 : decide ((j : Int) < 0) = false := decide_eq_false (by omega)
              have b3 : (j : Int) < 24 := by omega
              have b4 : (0 : Int) ≤ (j : Int) := by omega
              have hov : wrap64 ((j : Int) + 1) = ((j + 1 : Nat) : Int) := IntWalk.wrap64_in _ ⟨by omega, by omega⟩
              by_cases hc : e.1 = c
              · have hj2 : j + 1 ≤ lo + mi := by rw [HLO.out, HMI.out]; exact mid_go (by rw [← HLO.out]; exact hj0) (by rw [← HLO.out, ← HMI.out]; exact hj) he hc
                rw [hc] at qe
                have HH : Hid (lo ≤ j ∧ j + 1 ≤ lo + mi ∧ lo + mi ≤ n ∧ j < n) := ⟨hj0, hj2, hmid, hlt⟩
                have HG : Hid (gk = n - j) := hg
                clear he hc hj0 hj hj2 hmid hlow hl24 hlt hg
                go_wp2
                go_roundg (n - (j + 1))
                case measure => have h1 := HH.out; have h2 := HG.out; omega
                case rel => exact ⟨j + 1, Nat.le_succ_of_le HH.out.1, HH.out.2.1, rfl, by go_num, rfl⟩
              · have hj2 : j = lo + mi := by rw [HLO.out, HMI.out]; exact mid_stop (by rw [← HLO.out]; exact hj0) (by rw [← HLO.out, ← HMI.out]; exact hj) he hc
                have HJ : Hid (j = lo + mi) := hj2
                have hcc : (e.1 == c) = false := by simp [hc]
                generalize e.1 = ec at qe hcc
                clear he hc hj2 hg hj0 hj hmid hlow hl24 hlt
                go_wp2
                go_ret2
                exact ⟨by rw [HJ.out]; rfl, K1.out⟩
            · have HJ : Hid (j = lo + mi) := show j = lo + mi by omega
              have b1 : decide ((j : Int) < (n : Int)) = false := decide_eq_false (by omega)
              clear hg
              go_wp2
              go_ret2
              exact ⟨by rw [HJ.out]; rfl, K1.out⟩
      · have hkl : lo = k := by omega
        have b1 : decide ((k : Int) < (n : Int)) = false := decide_eq_false (by omega)
        subst hkl
        clear hg
        go_wp2
        go_loopg [5] (n - lo) (fun gg s5 wq => ∃ j : Nat, lo ≤ j ∧ j ≤ lo + mi ∧ gg = n - j ∧ s5 = .int .i64 j ∧ wq = wr)
        case atStart => exact ⟨lo, Nat.le_refl _, Nat.le_add_right _ _, rfl, rfl, rfl⟩
        case round =>
          obtain ⟨j, hj0, hj, hg, rfl, rfl⟩ := hrel
          rcases Nat.lt_or_ge j n with hlt | hge
          · obtain ⟨e, he⟩ : ∃ e, b.l[j]? = some e := ⟨_, List.getElem?_eq_getElem (by rw [← HN.out]; exact hlt)⟩
            have qe := BE.out j e he
            have b1 : (j : Int) < (n : Int) := by omega
            have b2 : decide ((j : Int) < 0) = false := decide_eq_false (by omega)
            have b3 : (j : Int) < 24 := by omega
            have b4 : (0 : Int) ≤ (j : Int) := by omega
            have hov : wrap64 ((j : Int) + 1) = ((j + 1 : Nat) : Int) := IntWalk.wrap64_in _ ⟨by omega, by omega⟩
            by_cases hc : e.1 = c
            · have hj2 : j + 1 ≤ lo + mi := by rw [HLO.out, HMI.out]; exact mid_go (by rw [← HLO.out]; exact hj0) (by rw [← HLO.out, ← HMI.out]; exact hj) he hc
              rw [hc] at qe
              have HH : Hid (lo ≤ j ∧ j + 1 ≤ lo + mi ∧ lo + mi ≤ n ∧ j < n) := ⟨hj0, hj2, hmid, hlt⟩
              have HG : Hid (gk = n - j) := hg
              clear he hc hj0 hj hj2 hmid hlow hl24 hlt hg
              go_wp2
              go_roundg (n - (j + 1))
              case measure => have h1 := HH.out; have h2 := HG.out; omega
              case rel => exact ⟨j + 1, Nat.le_succ_of_le HH.out.1, HH.out.2.1, rfl, by go_num, rfl⟩
            · have hj2 : j = lo + mi := by rw [HLO.out, HMI.out]; exact mid_stop (by rw [← HLO.out]; exact hj0) (by rw [← HLO.out, ← HMI.out]; exact hj) he hc
              have HJ : Hid (j = lo + mi) := hj2
              have hcc : (e.1 == c) = false := by simp [hc]
              generalize e.1 = ec at qe hcc
              clear he hc hj2 hg hj0 hj hmid hlow hl24 hlt
              go_wp2
              go_ret2
              exact ⟨by rw [HJ.out]; rfl, K1.out⟩
          · have HJ : Hid (j = lo + mi) := show j = lo + mi by omega
            have b1 : decide ((j : Int) < (n : Int)) = false := decide_eq_false (by omega)
            clear hg
            go_wp2
            go_ret2
            exact ⟨by rw [HJ.out]; rfl, K1.out⟩
  · have eA : spA b c = 0 := if_neg hm
    have eB : spB b c = b.l.length := if_neg hm
    rw [eA, eB]
    have hm3 : (b.m != 3) = true := by simp [hm]
    clear eA eB hm B1 h0 h1 BE
    obtain ⟨n, hn⟩ : ∃ n, n = b.l.length := ⟨_, rfl⟩
    rw [← hn] at q1 ⊢
    clear hn
    go_enter Tryz.func89, Tryz.ntmps89
    go_upto_region 1 with fail
    rw [← hW1]
    clear hW1
    generalize w.heap.size = N at *
    go_wp2
    go_quiet (fail)
    go_wp2
    go_ret2
    exact ⟨rfl, K1.out.drewN _⟩
end Go.Proofs.YtplihlmejnohnaaGreatDoor

namespace Go.Proofs.YtplihlmejnohnaaGreatDoor
open Go.RowKit

section
variable {P : Program} {ops : Array Oper} {Q : Exit → Act → World → Prop} {md : Region.Mode} {S : World → Prop} {Z : List Nat}

/-- Some of A marked. -/
def markL (d : Nat → Bool) : List Nat → Array Bool → Array Bool
  | [], l => l
  | i :: A, l => markL d A (if d i then l.setIfInBounds i true else l)
def allSub (f : Array Bool → Bool) : List Nat → Array Bool → Bool
  | [], l => f l
  | i :: A, l => allSub f A l && allSub f A (l.setIfInBounds i true)
theorem allSub_mark (f : Array Bool → Bool) (d : Nat → Bool) : ∀ (A : List Nat) (l : Array Bool), allSub f A l = true → f (markL d A l) = true
  | [], _, h => h
  | i :: A, l, h => by
    unfold allSub at h
    rw [Bool.and_eq_true] at h
    show f (markL d A (if d i then l.setIfInBounds i true else l)) = true
    cases d i with
    | true => exact allSub_mark f d A _ h.2
    | false => exact allSub_mark f d A _ h.1
theorem mark_comm (d : Nat → Bool) (i : Nat) : ∀ (A : List Nat) (l : Array Bool), i ∉ A → (markL d A l).setIfInBounds i true = markL d A (l.setIfInBounds i true)
  | [], _, _ => rfl
  | x :: A, l, h => by
    simp only [List.mem_cons, not_or] at h
    show (markL d A (if d x then l.setIfInBounds x true else l)).setIfInBounds i true = markL d A (if d x then (l.setIfInBounds i true).setIfInBounds x true else l.setIfInBounds i true)
    rw [mark_comm d i A _ h.2]
    cases d x with
    | true => simp only [if_true]; rw [Array.setIfInBounds_comm _ _ h.1]
    | false => rfl
theorem mark_off (d : Nat → Bool) (i : Nat) : ∀ (A : List Nat) (l : Array Bool), i ∉ A → markL (fun j => if j = i then true else d j) A l = markL d A l
  | [], _, _ => rfl
  | x :: A, l, h => by
    simp only [List.mem_cons, not_or] at h
    show markL _ A (if (if x = i then true else d x) then _ else l) = markL d A (if d x then _ else l)
    have e : (if x = i then true else d x) = d x := if_neg (fun e => h.1 e.symm)
    rw [mark_off d i A _ h.2, e]
theorem mark_set (d : Nat → Bool) (i : Nat) : ∀ (A : List Nat) (l : Array Bool), A.Nodup → i ∈ A → (markL d A l).setIfInBounds i true = markL (fun j => if j = i then true else d j) A l
  | [], _, _, h => by simp at h
  | x :: A, l, hn, h => by
    simp only [List.nodup_cons] at hn
    simp only [List.mem_cons] at h
    show (markL d A (if d x then l.setIfInBounds x true else l)).setIfInBounds i true = markL _ A (if (if x = i then true else d x) then l.setIfInBounds x true else l)
    rcases h with rfl | h
    · rw [mark_comm d i A _ hn.1, mark_off d i A _ hn.1, if_pos rfl]
      cases d i with
      | true => simp
      | false => simp
    · have hne : ¬ x = i := fun e => hn.1 (e ▸ h)
      have e : (if x = i then true else d x) = d x := if_neg hne
      rw [mark_set d i A _ hn.2 h, e]
/-- Where not all of A are done, just some of A may come next. -/
def openB (md : Region.Mode) (ops : Array Oper) (A : List Nat) (fin : Array Bool) (l : Array Bool) : Bool :=
  if A.all (fun i => l.getD i false) then decide (l = fin) else !(Region.ready md ops l).isEmpty && (Region.ready md ops l).all fun i => A.contains i
theorem count_set {i : Nat} {l : Array Bool} (hi : l.getD i true = false) : ∀ A : List Nat, A.Nodup → i ∈ A → (A.filter fun j => !((l.setIfInBounds i true).getD j false)).length + 1 = (A.filter fun j => !(l.getD j false)).length
  | [], _, h => by simp at h
  | x :: A, hn, h => by
    simp only [List.nodup_cons] at hn
    simp only [List.mem_cons] at h
    have hlt : i < l.size := by
      unfold Array.getD at hi
      split at hi
      · assumption
      · cases hi
    have hif : l.getD i false = false := by
      unfold Array.getD at hi ⊢
      rw [dif_pos hlt] at hi ⊢
      exact hi
    have hset : (l.setIfInBounds i true).getD i false = true := by simp [Array.getD_eq_getD_getElem?, hlt]
    have hoff : ∀ j, j ≠ i → (l.setIfInBounds i true).getD j false = l.getD j false := fun j hj => by simp [Array.getD_eq_getD_getElem?, Ne.symm hj]
    rcases h with rfl | h
    · have e : A.filter (fun j => !((l.setIfInBounds i true).getD j false)) = A.filter (fun j => !(l.getD j false)) := List.filter_congr fun j hj => by rw [hoff j (fun e => hn.1 (e ▸ hj))]
      rw [List.filter_cons, List.filter_cons, hset, hif, e]
      simp
    · have hne : x ≠ i := fun e => hn.1 (e ▸ h)
      have ih := count_set hi A hn.2 h
      rw [List.filter_cons, List.filter_cons, hoff x hne]
      cases l.getD x false with
      | true => simpa using ih
      | false =>
        show (x :: _).length + 1 = (x :: _).length
        rw [List.length_cons, List.length_cons, ih]
theorem fz_set (A : List Nat) (hA : A.Nodup) (fin l0 : Array Bool) (J : Array Bool → Act → World → Prop)
    (hstep : ∀ l a w i, i ∈ A → i ∈ Region.ready md ops l → J l a w → wpOp P ops Q i (fun a' w' => (i ∉ Z → S w') ∧ J (l.setIfInBounds i true) a' w') a w)
    (n : Nat) (hend : ∀ a w, J fin a w → wpFz P md ops Q S Z n fin a w) (hsub : allSub (openB md ops A fin) A l0 = true) :
    ∀ (k : Nat) (d : Nat → Bool) (a : Act) (w : World), (A.filter fun j => !((markL d A l0).getD j false)).length = k → J (markL d A l0) a w → wpFz P md ops Q S Z (n + k) (markL d A l0) a w
  | 0, d, a, w, hk, hj => by
    have ho := allSub_mark _ d A l0 hsub
    unfold openB at ho
    have hall : A.all (fun i => (markL d A l0).getD i false) = true := by
      rw [List.all_eq_true]
      intro i hi
      cases h : (markL d A l0).getD i false with
      | true => rfl
      | false =>
        have : i ∈ A.filter fun j => !((markL d A l0).getD j false) := List.mem_filter.2 ⟨hi, by rw [h]; rfl⟩
        rw [List.eq_nil_of_length_eq_zero hk] at this
        simp at this
    rw [if_pos hall] at ho
    have e : markL d A l0 = fin := by simpa using ho
    rw [e] at hj ⊢
    exact hend a w hj
  | k + 1, d, a, w, hk, hj => by
    have ho := allSub_mark _ d A l0 hsub
    unfold openB at ho
    have hnall : ¬ A.all (fun i => (markL d A l0).getD i false) = true := fun h => by
      have : A.filter (fun j => !((markL d A l0).getD j false)) = [] := List.filter_eq_nil_iff.2 fun i hi => by rw [List.all_eq_true.1 h i hi]; simp
      rw [this] at hk
      cases hk
    rw [if_neg hnall, Bool.and_eq_true, List.all_eq_true] at ho
    obtain ⟨hne, hall⟩ := ho
    refine ⟨fun h0 => ?_, fun i hi => ?_⟩
    · rw [h0] at hne
      cases hne
    · have h1 : i ∈ A := by simpa using hall i hi
      have hun := (mem_ready.1 hi).1
      have hc := count_set hun A hA h1
      have em := mark_set d i A l0 hA h1
      refine wpOp_mono (fun a' w' h' => ⟨h'.1, ?_⟩) (hstep _ a w i h1 hi hj)
      rw [em] at h' hc ⊢
      exact fz_set A hA fin l0 J hstep n hend hsub k _ a' w' (by omega) h'.2
end
/-- Slots that are put: each its operation's value, if that has been. -/
def putsD (D : Tmp → Value) (T : List (Nat × Tmp × Option Value)) (p : Nat → Option Value) (a : Act) : Act := T.foldl (fun a x => a.put (some x.2.1) ((p x.1).getD (D x.2.1))) a
def updP (p : Nat → Option Value) (i : Nat) (v : Value) : Nat → Option Value := fun j => if j = i then some v else p j
theorem put_put (a : Act) (d : Tmp) (u v : Value) : (a.put (some d) u).put (some d) v = a.put (some d) v := by
  simp [Act.put]
theorem put_comm (a : Act) {d e : Tmp} (h : d ≠ e) (u v : Value) : (a.put (some d) u).put (some e) v = (a.put (some e) v).put (some d) u := by
  simp only [Act.put]
  rw [Array.setIfInBounds_comm _ _ h]
theorem putsD_comm (D : Tmp → Value) (p : Nat → Option Value) (d : Tmp) (v : Value) : ∀ (T : List (Nat × Tmp × Option Value)) (a : Act), (∀ x ∈ T, x.2.1 ≠ d) → (putsD D T p a).put (some d) v = putsD D T p (a.put (some d) v)
  | [], _, _ => rfl
  | x :: T, a, h => by
    show (putsD D T p (a.put (some x.2.1) _)).put (some d) v = putsD D T p ((a.put (some d) v).put (some x.2.1) _)
    rw [putsD_comm D p d v T _ (fun y hy => h y (by simp [hy])), put_comm _ (h x (by simp))]
theorem putsD_off (D : Tmp → Value) (p : Nat → Option Value) (i : Nat) (v : Value) : ∀ (T : List (Nat × Tmp × Option Value)) (a : Act), (∀ x ∈ T, x.1 ≠ i) → putsD D T (updP p i v) a = putsD D T p a
  | [], _, _ => rfl
  | x :: T, a, h => by
    show putsD D T (updP p i v) (a.put (some x.2.1) _) = putsD D T p (a.put (some x.2.1) _)
    rw [putsD_off D p i v T _ (fun y hy => h y (by simp [hy]))]
    have : updP p i v x.1 = p x.1 := by unfold updP; rw [if_neg (h x (by simp))]
    rw [this]
theorem putsD_put (D : Tmp → Value) (p : Nat → Option Value) (i : Nat) (d : Tmp) (c : Option Value) (v : Value) : ∀ (T : List (Nat × Tmp × Option Value)) (a : Act), (T.map (·.1)).Nodup → (T.map (·.2.1)).Nodup → (i, d, c) ∈ T → (putsD D T p a).put (some d) v = putsD D T (updP p i v) a
  | [], _, _, _, h => by simp at h
  | x :: T, a, h1, h2, h => by
    simp only [List.map_cons, List.nodup_cons] at h1 h2
    show (putsD D T p (a.put (some x.2.1) _)).put (some d) v = putsD D T (updP p i v) (a.put (some x.2.1) _)
    simp only [List.mem_cons] at h
    rcases h with rfl | h
    · rw [putsD_comm D p d v T _ (fun y hy e => h2.1 (List.mem_map.2 ⟨y, hy, e⟩)), put_put, putsD_off D p i v T _ (fun y hy e => h1.1 (List.mem_map.2 ⟨y, hy, e⟩))]
      have : updP p i v i = some v := by unfold updP; rw [if_pos rfl]
      show _ = putsD D T p (a.put (some d) ((updP p i v i).getD (D d)))
      rw [this]
      rfl
    · rw [putsD_put D p i d c v T _ h1.2 h2.2 h]
      have hne : x.1 ≠ i := fun e => h1.1 (List.mem_map.2 ⟨_, h, e.symm⟩)
      have : updP p i v x.1 = p x.1 := by unfold updP; rw [if_neg hne]
      rw [this]
/-- Slots that got their values; the others stay. -/
def putsA (T : List (Nat × Tmp × Option Value)) (p : Nat → Option Value) (a : Act) : Act := putsD (fun d => a.tmps.getD d undef) T p a
theorem putsA_put (p : Nat → Option Value) (i : Nat) (d : Tmp) (c : Option Value) (v : Value) (T : List (Nat × Tmp × Option Value)) (a : Act) (h1 : (T.map (·.1)).Nodup) (h2 : (T.map (·.2.1)).Nodup) (h : (i, d, c) ∈ T) : (putsA T p a).put (some d) v = putsA T (updP p i v) a := putsD_put _ p i d c v T a h1 h2 h
section
variable {P : Program} {ops : Array Oper} {Q : Exit → Act → World → Prop} {md : Region.Mode} {S : World → Prop} {Z : List Nat}
theorem wp_alloc0 {o : Oper} {a : Act} {w : World} {K : Act → World → Prop} (ty : TypeId) (ho : o.op = .alloc ty) (z : Value) (hz : ∀ w, (zeroValue ty).run P w = .ok z w)
    (h : K (a.put o.dst (.pointer (some ⟨w.heap.size, 0, none⟩))) (w.alloc (.cells z.cells ty))) : o.wp P a w K Q := by
  unfold Oper.wp execOp
  simp only [ho]
  go_simp
  exact h
/-- What is known of the slots in between. -/
structure Mix (T : List (Nat × Tmp × Option Value)) (zc : Array Value) (w0 : World) (p : Nat → Option Value) (l : Array Bool) (w : World) : Prop where
  done : ∀ x ∈ T, l.getD x.1 false = true → (p x.1).isSome = true
  val : ∀ i d v u, (i, d, some v) ∈ T → p i = some u → u = v
  blk : ∀ i d u, (i, d, none) ∈ T → p i = some u → ∃ N, u = .pointer (some ⟨N, 0, none⟩) ∧ Bk w N zc ∧ w0.heap.size ≤ N
  apart : ∀ i d j e u, (i, d, none) ∈ T → (j, e, none) ∈ T → p i = some u → p j = some u → i = j
  on : On w0 w
theorem Mix.onW {T : List (Nat × Tmp × Option Value)} {zc : Array Value} {w0 : World} {p : Nat → Option Value} {l : Array Bool} {w w' : World} (h : Mix T zc w0 p l w) (k : On w w') : Mix T zc w0 p l w' :=
  ⟨h.done, h.val, fun i d u hi hp => by obtain ⟨N, h1, h2, h3⟩ := h.blk i d u hi hp; exact ⟨N, h1, h2.on k, h3⟩, h.apart, h.on.trans k⟩
theorem getD_self {l : Array Bool} {i j : Nat} (h : (l.setIfInBounds i true).getD j false = true) : j = i ∨ l.getD j false = true := by
  by_cases e : j = i
  · exact Or.inl e
  · refine Or.inr ?_
    rw [← h]
    simp [Array.getD_eq_getD_getElem?, Ne.symm e]
theorem fz_mixR (T : List (Nat × Tmp × Option Value)) (fin : Array Bool) (ty : TypeId) (zc : Array Value) (k n : Nat) {l : Array Bool} {a : Act} {w : World}
    (hz : ∀ w, (zeroValue ty).run P w = .ok (.agg zc) w) (h1 : (T.map (·.1)).Nodup) (h2 : (T.map (·.2.1)).Nodup)
    (hal : ∀ i d, (i, d, none) ∈ T → ∃ o, ops[i]? = some o ∧ o.op = .alloc ty ∧ o.dst = some d ∧ o.guard = none)
    (hl : ∀ x ∈ T, l.getD x.1 false = false) (ha : putsA T (fun _ => none) a = a)
    (hSon : ∀ w w', S w → On w w' → S w') (hS : S w)
    (hcl : allSub (openB md ops (T.map (·.1)) fin) (T.map (·.1)) l = true) (hk : ((T.map (·.1)).filter fun j => !(l.getD j false)).length = k)
    (hcall : ∀ i d v, (i, d, some v) ∈ T → ∃ o, ops[i]? = some o ∧ o.guard = none ∧ ∀ p w' (l' : Array Bool) (K : Act → World → Prop), i ∈ Region.ready md ops l' → Mix T zc w p l' w' → S w' → On w w' → (∀ w'', On w' w'' → K ((putsA T p a).put (some d) v) w'') → o.wp P (putsA T p a) w' K Q)
    (hend : ∀ p w', Mix T zc w p fin w' → S w' → wpFz P md ops Q S Z n fin (putsA T p a) w') : wpFz P md ops Q S Z (n + k) l a w := by
  have em : ∀ (A : List Nat) (l : Array Bool), markL (fun _ => false) A l = l := by
    intro A
    induction A with
    | nil => intro _; rfl
    | cons i A ih => intro l; exact ih l
  have main := fz_set (P := P) (ops := ops) (Q := Q) (md := md) (S := S) (Z := Z) (T.map (·.1)) h1 fin l (fun l' a' w' => ∃ p, a' = putsA T p a ∧ Mix T zc w p l' w' ∧ S w') ?_ n ?_ hcl k (fun _ => false) a w (by rw [em]; exact hk) (by rw [em]; exact ⟨fun _ => none, ha.symm, ⟨fun x hx h => (by rw [hl x hx] at h; cases h), fun _ _ _ _ _ h => (by cases h), fun _ _ _ _ h => (by cases h), fun _ _ _ _ _ _ _ _ h => (by cases h), On.refl w⟩, hS⟩)
  · rw [em] at main
    exact main
  · rintro l' a' w' i hi hready ⟨p, rfl, hm, hs⟩
    obtain ⟨⟨i', d, c⟩, hx, rfl⟩ := List.mem_map.1 hi
    have hpi : ∀ (v : Value), ∀ x ∈ T, (l'.setIfInBounds i' true).getD x.1 false = true → (updP p i' v x.1).isSome = true := fun v x hx' h => by
      unfold updP
      by_cases e : x.1 = i'
      · rw [if_pos e]; rfl
      · rw [if_neg e]
        rcases getD_self h with h | h
        · exact absurd h e
        · exact hm.done x hx' h
    have huniq : ∀ d' c', (i', d', c') ∈ T → d' = d ∧ c' = c := fun d' c' h => by
      have : ∀ (T : List (Nat × Tmp × Option Value)), (T.map (·.1)).Nodup → (i', d', c') ∈ T → (i', d, c) ∈ T → d' = d ∧ c' = c := by
        intro T
        induction T with
        | nil => intro _ h; simp at h
        | cons y T ih =>
          intro hn ha hb
          simp only [List.map_cons, List.nodup_cons] at hn
          simp only [List.mem_cons] at ha hb
          rcases ha with rfl | ha
          · rcases hb with hb | hb
            · simp only [Prod.mk.injEq, true_and] at hb
              exact ⟨hb.1.symm, hb.2.symm⟩
            · exact absurd (List.mem_map.2 ⟨_, hb, rfl⟩) hn.1
          · rcases hb with rfl | hb
            · exact absurd (List.mem_map.2 ⟨_, ha, rfl⟩) hn.1
            · exact ih hn.2 ha hb
      exact this T h1 h hx
    cases c with
    | none =>
      obtain ⟨o, ho1, ho2, ho3, ho4⟩ := hal i' d hx
      unfold wpOp
      simp only [ho1]
      rw [if_pos (by simp [Region.wanted, ho4])]
      refine Or.inl (wp_alloc0 ty ho2 (.agg zc) hz ?_)
      rw [ho3]
      have kA : On w' (w'.alloc (.cells (Value.agg zc).cells ty)) := (On.refl w').alloc _
      refine ⟨fun _ => hSon _ _ hs kA, updP p i' (.pointer (some ⟨w'.heap.size, 0, none⟩)), putsA_put p i' d none _ T a h1 h2 hx, ⟨hpi _, fun i d' v u hi' hp => ?_, fun i d' u hi' hp => ?_, fun i d1 j d2 u hi' hj' hp hq => ?_, hm.on.trans kA⟩, hSon _ _ hs kA⟩
      · by_cases e : i = i'
        · subst e
          have := (huniq _ _ hi').2
          cases this
        · unfold updP at hp
          rw [if_neg e] at hp
          exact hm.val i d' v u hi' hp
      · by_cases e : i = i'
        · subst e
          unfold updP at hp
          rw [if_pos rfl] at hp
          obtain rfl := Option.some.inj hp
          exact ⟨w'.heap.size, rfl, Bk.new w' zc ty, hm.on.size⟩
        · unfold updP at hp
          rw [if_neg e] at hp
          obtain ⟨N, hN, hB, hb⟩ := hm.blk i d' u hi' hp
          exact ⟨N, hN, hB.alloc _, hb⟩
      · by_cases e : i = i'
        · by_cases e2 : j = i'
          · rw [e, e2]
          · unfold updP at hp hq
            rw [if_pos e] at hp
            rw [if_neg e2] at hq
            obtain rfl := Option.some.inj hp
            obtain ⟨N, hN, hB, _⟩ := hm.blk j d2 _ hj' hq
            simp only [Value.pointer.injEq, Option.some.injEq, Addr.mk.injEq, and_true] at hN
            have := hB.lt
            omega
        · by_cases e2 : j = i'
          · unfold updP at hp hq
            rw [if_neg e] at hp
            rw [if_pos e2] at hq
            obtain rfl := Option.some.inj hq
            obtain ⟨N, hN, hB, _⟩ := hm.blk i d1 _ hi' hp
            simp only [Value.pointer.injEq, Option.some.injEq, Addr.mk.injEq, and_true] at hN
            have := hB.lt
            omega
          · unfold updP at hp hq
            rw [if_neg e] at hp
            rw [if_neg e2] at hq
            exact hm.apart i d1 j d2 u hi' hj' hp hq
    | some v =>
      obtain ⟨o, ho1, ho4, ho⟩ := hcall i' d v hx
      unfold wpOp
      simp only [ho1]
      rw [if_pos (by simp [Region.wanted, ho4])]
      refine Or.inl (ho p w' l' _ hready hm hs hm.on fun w'' k => ?_)
      have hm2 := hm.onW k
      refine ⟨fun _ => hSon _ _ hs k, updP p i' v, putsA_put p i' d (some v) _ T a h1 h2 hx, ⟨hpi _, fun i d' v' u hi' hp => ?_, fun i d' u hi' hp => ?_, fun i d1 j d2 u hi' hj' hp hq => ?_, hm2.on⟩, hSon _ _ hs k⟩
      · by_cases e : i = i'
        · subst e
          have := (huniq _ _ hi').2
          simp only [Option.some.injEq] at this
          unfold updP at hp
          rw [if_pos rfl] at hp
          rw [this]
          exact (Option.some.inj hp).symm
        · unfold updP at hp
          rw [if_neg e] at hp
          exact hm2.val i d' v' u hi' hp
      · have e : i ≠ i' := fun e => by subst e; have := (huniq _ _ hi').2; cases this
        unfold updP at hp
        rw [if_neg e] at hp
        exact hm2.blk i d' u hi' hp
      · have e : i ≠ i' := fun e => by subst e; have := (huniq _ _ hi').2; cases this
        have e2 : j ≠ i' := fun e => by subst e; have := (huniq _ _ hj').2; cases this
        unfold updP at hp hq
        rw [if_neg e] at hp
        rw [if_neg e2] at hq
        exact hm2.apart i d1 j d2 u hi' hj' hp hq
  · rintro a' w' ⟨p, rfl, hm, hs⟩
    exact hend p w' hm hs
theorem fz_mix (T : List (Nat × Tmp × Option Value)) (fin : Array Bool) (ty : TypeId) (zc : Array Value) (k n : Nat) {l : Array Bool} {a : Act} {w : World}
    (hz : ∀ w, (zeroValue ty).run P w = .ok (.agg zc) w) (h1 : (T.map (·.1)).Nodup) (h2 : (T.map (·.2.1)).Nodup)
    (hal : ∀ i d, (i, d, none) ∈ T → ∃ o, ops[i]? = some o ∧ o.op = .alloc ty ∧ o.dst = some d ∧ o.guard = none)
    (hl : ∀ x ∈ T, l.getD x.1 false = false) (ha : putsA T (fun _ => none) a = a)
    (hSon : ∀ w w', S w → On w w' → S w') (hS : S w)
    (hcl : allSub (openB md ops (T.map (·.1)) fin) (T.map (·.1)) l = true) (hk : ((T.map (·.1)).filter fun j => !(l.getD j false)).length = k)
    (hcall : ∀ i d v, (i, d, some v) ∈ T → ∃ o, ops[i]? = some o ∧ o.guard = none ∧ ∀ p w' (K : Act → World → Prop), S w' → On w w' → (∀ w'', On w' w'' → K ((putsA T p a).put (some d) v) w'') → o.wp P (putsA T p a) w' K Q)
    (hend : ∀ p w', Mix T zc w p fin w' → S w' → wpFz P md ops Q S Z n fin (putsA T p a) w') : wpFz P md ops Q S Z (n + k) l a w :=
  fz_mixR T fin ty zc k n hz h1 h2 hal hl ha hSon hS hcl hk (fun i d v hi => by
    obtain ⟨o, ho1, ho2, ho3⟩ := hcall i d v hi
    exact ⟨o, ho1, ho2, fun p w' _ K _ _ hs hon hK => ho3 p w' K hs hon hK⟩) hend
/-- What an operation waits for has been done, where it may come. -/
theorem ready_dep {i : Nat} {l : Array Bool} {o : Oper} (h : i ∈ Region.ready md ops l) (ho : ops[i]? = some o) {e : Edge} (he : e ∈ o.after) (hb : Region.binds md e = true) : l.getD e.on false = true := by
  obtain ⟨_, o', ho', hall⟩ := mem_ready.1 h
  obtain rfl := Option.some.inj (ho.symm.trans ho')
  exact hall e he hb
end
end Go.Proofs.YtplihlmejnohnaaGreatDoor
