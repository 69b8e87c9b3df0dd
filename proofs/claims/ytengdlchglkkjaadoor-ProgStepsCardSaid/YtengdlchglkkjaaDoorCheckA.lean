/- The parts of well.Check: how big. -/
import Derived.Test.YtengdlchglkkjaaDoorCountW
import Derived.Test.YtengdlchglkkjaaDoorAllA
namespace Go.Proofs.YtengdlchglkkjaaDoor
open Go.RowKit

theorem ret_bool {a b : Bool} (h : a = b) : Ending.returned (.bool a) = .returned (.bool b) := by rw [h]
theorem count_is (n : Nat) (hn : n < 67108864) (w : World) :
    Calls Tryd.prog 55 #[.int .u32 n] w fun e w' => e = .returned (.int .i64 (cntN n)) ∧ On w w' := by
  go_enter Tryd.func55, Tryd.ntmps55
  go_wp2_with (go_at_call 78; refine (ones_is n hn _).mono ?_; rintro e w1 ⟨rfl, kk, rfl⟩)
  go_ret
  exact ⟨rfl, (On.refl w).drewN kk⟩

set_option maxHeartbeats 1000000 in
set_option maxRecDepth 8000 in
theorem threadsBig_is (LL : List (List InsT)) (a : Option Addr) (c : Nat) (w : World) (h : Rd2 insC 9 w (.slice a LL.length c) LL) :
    Calls Tryd.prog 54 #[.slice a LL.length c] w fun e w' => e = .returned (.bool (thrBig LL)) ∧ w' = w := by
  obtain ⟨_, _, _, _, hm⟩ := h.slice
  have HR : Hid (Rd2 insC 9 w (.slice a LL.length c) LL) := h
  clear h
  obtain ⟨B, hB⟩ : ∃ B, B = thrBig LL := ⟨_, rfl⟩
  rw [← hB]
  unfold thrBig at hB
  rcases Nat.eq_zero_or_pos LL.length with h0 | h0
  · rw [h0]
    rw [h0] at hB
    simp at hB
    subst hB
    go_enter Tryd.func54, Tryd.ntmps54
    go_wp2
    go_ret
    exact ⟨rfl, rfl⟩
  · have z0 : ((LL.length : Int) == 0) = false := by simpa using (by omega : ¬ (LL.length : Int) = 0)
    have z1 : (LL.length == 0) = false := by simpa using (by intro h; subst h; simp at h0 : ¬ LL = [])
    rw [z1, Bool.false_or] at hB
    by_cases h4 : 4 < LL.length
    · rw [decide_eq_true h4, Bool.true_or] at hB
      subst hB
      clear z1
      go_enter Tryd.func54, Tryd.ntmps54
      go_wp2
      go_ret
      exact ⟨rfl, rfl⟩
    · rw [decide_eq_false h4, Bool.false_or] at hB
      have HB : Hid (B = (LL.any (fun L => decide (10 < L.length)) || decide (24 < LL.foldl (fun n L => n + L.length) 0))) := hB
      clear hB z1
      go_enter Tryd.func54, Tryd.ntmps54
      go_wp2
      go_loopg [3, 16] LL.length (fun gg s3 s16 wr => ∃ n s : Nat, n ≤ LL.length ∧ gg = LL.length - n ∧ s16 = .int .i64 n ∧ s3 = .int .i64 s ∧ s ≤ 10 * n ∧ wr = w ∧ Hid (B = ((LL.drop n).any (fun L => decide (10 < L.length)) || decide (24 < (LL.drop n).foldl (fun n L => n + L.length) s))))
      case atStart => exact ⟨0, 0, Nat.zero_le _, rfl, rfl, rfl, Nat.le_refl _, rfl, HB⟩
      case round =>
        clear HB
        obtain ⟨n, s, hn, hk, rfl, rfl, hs, rfl, HB⟩ := hrel
        rcases Nat.lt_or_ge n LL.length with hlt | hge
        · obtain ⟨x, hx⟩ : ∃ x, LL[n]? = some x := ⟨_, List.getElem?_eq_getElem hlt⟩
          obtain ⟨g, off, rfl, hg, ax, cx, u0, hxm, _⟩ := HR.out.row hx
          have hd : Hid (LL.drop n = x :: LL.drop (n + 1)) := drop_at hx
          clear hx
          by_cases h10 : 10 < x.length
          · have hb : B = true := by rw [HB.out, hd.out, List.any_cons, decide_eq_true h10]; rfl
            subst hb
            go_wp2
            go_ret
            exact ⟨rfl, rfl⟩
          · have HB2 : Hid (B = ((LL.drop (n + 1)).any (fun L => decide (10 < L.length)) || decide (24 < (LL.drop (n + 1)).foldl (fun n L => n + L.length) (s + x.length)))) := by
              show B = _
              rw [HB.out, hd.out, List.any_cons, decide_eq_false h10, Bool.false_or, List.foldl_cons]
            clear HB hd
            go_wp2
            go_roundg (LL.length - (n + 1))
            case measure => omega
            case rel => exact ⟨n + 1, s + x.length, by omega, rfl, by go_num, by go_num, by omega, rfl, HB2⟩
        · have hb : B = decide (24 < s) := by rw [HB.out, List.drop_of_length_le hge]; rfl
          clear HB
          by_cases h24 : 24 < s
          · obtain rfl : B = true := hb.trans (decide_eq_true h24)
            clear hb
            go_wp2
            go_ret
            exact ⟨ret_bool (decide_eq_true (by omega)), rfl⟩
          · obtain rfl : B = false := hb.trans (decide_eq_false h24)
            clear hb
            go_wp2
            go_ret
            exact ⟨ret_bool (decide_eq_false (by omega)), rfl⟩

set_option maxHeartbeats 1000000 in
set_option maxRecDepth 8000 in
theorem condBig_is (k : Int) (LL : List (List AtomT)) (a : Option Addr) (c : Nat) (w : World) (h : Rd2 atomC 4 w (.slice a LL.length c) LL) :
    Calls Tryd.prog 56 #[.agg #[.int .i64 k, .slice a LL.length c]] w fun e w' => e = .returned (.bool (condBig LL)) ∧ On w w' := by
  obtain ⟨_, _, _, _, hm⟩ := h.slice
  obtain ⟨W0, hW0⟩ : ∃ W0, W0 = w.alloc (.cells #[.int .i64 k, .slice a LL.length c] 26) := ⟨_, rfl⟩
  have HO : Hid (On w W0) := by rw [hW0]; exact (On.refl w).alloc _
  have HR : Hid (Rd2 atomC 4 W0 (.slice a LL.length c) LL) := h.on HO.out
  have BK : Bk W0 w.heap.size #[.int .i64 k, .slice a LL.length c] := by rw [hW0]; exact Bk.new w _ _
  have x1 := BK.at (i := 1) rfl
  have s1 := BK.lt
  clear h
  obtain ⟨B, hB⟩ : ∃ B, B = condBig LL := ⟨_, rfl⟩
  rw [← hB]
  unfold condBig at hB
  have HB : Hid (B = (LL.any (fun L => decide (8 < L.length)) || decide (8 < LL.length))) := hB
  clear hB BK
  go_enter Tryd.func56, Tryd.ntmps56
  go_wp2
  rw [← hW0]
  clear hW0
  go_loopg [8] LL.length (fun gg s8 wr => ∃ n : Nat, n ≤ LL.length ∧ gg = LL.length - n ∧ s8 = .int .i64 n ∧ wr = W0 ∧ Hid (B = ((LL.drop n).any (fun L => decide (8 < L.length)) || decide (8 < LL.length))))
  case atStart => exact ⟨0, Nat.zero_le _, rfl, rfl, rfl, HB⟩
  case round =>
    clear HB
    obtain ⟨n, hn, hk, rfl, rfl, HB⟩ := hrel
    rcases Nat.lt_or_ge n LL.length with hlt | hge
    · obtain ⟨x, hx⟩ : ∃ x, LL[n]? = some x := ⟨_, List.getElem?_eq_getElem hlt⟩
      obtain ⟨g, off, rfl, hg, ax, cx, u0, hxm, _⟩ := HR.out.row hx
      have hd : Hid (LL.drop n = x :: LL.drop (n + 1)) := drop_at hx
      clear hx
      by_cases h10 : 8 < x.length
      · have hb : B = true := by rw [HB.out, hd.out, List.any_cons, decide_eq_true h10]; rfl
        subst hb
        go_wp2
        go_ret
        exact ⟨rfl, HO.out⟩
      · have HB2 : Hid (B = ((LL.drop (n + 1)).any (fun L => decide (8 < L.length)) || decide (8 < LL.length))) := by
          show B = _
          rw [HB.out, hd.out, List.any_cons, decide_eq_false h10, Bool.false_or]
        clear HB hd
        go_wp2
        go_roundg (LL.length - (n + 1))
        case measure => omega
        case rel => exact ⟨n + 1, by omega, rfl, by go_num, rfl, HB2⟩
    · have hb : B = decide (8 < LL.length) := by rw [HB.out, List.drop_of_length_le hge]; rfl
      clear HB
      by_cases h24 : 8 < LL.length
      · obtain rfl : B = true := hb.trans (decide_eq_true h24)
        clear hb
        go_wp2
        go_ret
        exact ⟨ret_bool (decide_eq_true (by omega)), HO.out⟩
      · obtain rfl : B = false := hb.trans (decide_eq_false h24)
        clear hb
        go_wp2
        go_ret
        exact ⟨ret_bool (decide_eq_false (by omega)), HO.out⟩
end Go.Proofs.YtengdlchglkkjaaDoor
