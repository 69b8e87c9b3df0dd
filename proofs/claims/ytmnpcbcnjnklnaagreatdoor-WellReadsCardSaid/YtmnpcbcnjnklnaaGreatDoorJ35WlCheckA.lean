/- slices.IndexFunc, slices.ContainsFunc and print.all over the initial values. -/
import Derived.Test.YtmnpcbcnjnklnaaGreatDoorJ33WlWordW
import Derived.Test.YtmnpcbcnjnklnaaGreatDoorJ31WlROkA
import Derived.Deep.LoopGhost
import Derived.Test.YtmnpcbcnjnklnaaGreatDoorJ34WlCountW
namespace Go.Proofs.YtmnpcbcnjnklnaaGreatDoor.Wl
open Go.RowKit

theorem any_here {α : Type} {p : α → Bool} {L : List α} {i : Nat} {x : α} (h : L[i]? = some x) (hp : p x = true) : L.any p = true :=
  List.any_eq_true.2 ⟨x, List.mem_of_getElem? h, hp⟩
theorem drop_at {α : Type} {L : List α} {i : Nat} {x : α} (h : L[i]? = some x) : L.drop i = x :: L.drop (i + 1) := by
  obtain ⟨hi, rfl⟩ := List.getElem?_eq_some_iff.1 h
  exact List.drop_eq_getElem_cons hi
theorem okInit_is (x : InitT) (w : World) :
    Calls Tryz.prog 49 #[.agg #[.int .i64 x.l, .int .i64 x.v]] w fun e w' => e = .returned (.bool (initOk x)) ∧ On w w' := by
  have hL := fun W => isLocation_is x.l W
  unfold initOk
  generalize locOk x.l = b at hL ⊢
  go_enter Tryz.func49, Tryz.ntmps49
  go_wp2_with fail
  refine (hL _).mono ?_
  rintro e w1 ⟨rfl, rfl⟩
  go_wp2
  go_ret
  exact ⟨rfl, (On.refl w).alloc _⟩
set_option maxHeartbeats 1000000 in
theorem cloIni_is (x : InitT) (B : Nat) (w : World) (hB : B < w.heap.size) (hc : w.cell? ⟨B, 0, none⟩ = some (.func (.func 49) #[] #[])) :
    Calls Tryz.prog 81 #[.agg #[.int .i64 x.l, .int .i64 x.v], .pointer (some ⟨B, 0, none⟩)] w fun e w' => e = .returned (.bool (!initOk x)) ∧ On w w' := by
  have hO := fun W => okInit_is x W
  have hne : B ≠ w.heap.size := by omega
  generalize initOk x = b at hO ⊢
  cases b
  all_goals
    go_enter Tryz.func81, Tryz.ntmps81
    go_wp2_with (go_at_call 49; refine (hO _).mono ?_; rintro e w1 ⟨rfl, k1⟩)
    go_ret
    exact ⟨rfl, ((On.refl w).alloc _).trans k1⟩
set_option maxHeartbeats 2000000 in
theorem idxIni_is (L : List InitT) (a : Option Addr) (c B : Nat) (w : World) (h : Rd iniC 2 w (.slice a L.length c) L) (hB : B < w.heap.size) (hc : w.cell? ⟨B, 0, none⟩ = some (.func (.func 49) #[] #[])) :
    Calls Tryz.prog 107 #[.slice a L.length c, .func (.func 81) #[] #[.pointer (some ⟨B, 0, none⟩)]] w fun e w' => ∃ r : Int, e = .returned (.int .i64 r) ∧ decide (0 ≤ r) = L.any (fun x => !initOk x) ∧ On w w' := by
  obtain ⟨a', c', hv, hcc, hm, hr⟩ := h
  simp only [Value.slice.injEq] at hv
  obtain ⟨rfl, _, rfl⟩ := hv
  go_enter Tryz.func107, Tryz.ntmps107
  go_wp2
  go_loopg [5, 8] L.length (fun gg _ s8 wr => ∃ n : Nat, n ≤ L.length ∧ gg = L.length - n ∧ s8 = .int .i64 n ∧ Hid (On w wr) ∧ Hid (L.any (fun x => !initOk x) = (L.drop n).any (fun x => !initOk x)))
  case atStart => exact ⟨0, Nat.zero_le _, rfl, rfl, On.refl w, rfl⟩
  case round =>
    obtain ⟨n, hn, hk, rfl, hon, hany⟩ := hrel
    rcases Nat.lt_or_ge n L.length with hlt | hge
    · obtain ⟨x, hx⟩ : ∃ x, L[n]? = some x := ⟨_, List.getElem?_eq_getElem hlt⟩
      obtain ⟨g, off, rfl, hg, hcell⟩ := hr (by omega)
      have u0 : wr.cell? ⟨g, off + n * 2, none⟩ = _ := (hon.out.cell (p := ⟨g, off + n * 2, none⟩) hg).trans (hcell n x 0 _ hx rfl)
      have u1 : wr.cell? ⟨g, off + n * 2 + 1, none⟩ = _ := (hon.out.cell (p := ⟨g, off + n * 2 + 1, none⟩) hg).trans (hcell n x 1 _ hx rfl)
      have hg' := Nat.lt_of_lt_of_le hg hon.out.size
      have hcl := cloIni_is x B wr (Nat.lt_of_lt_of_le hB hon.out.size) ((hon.out.cell (p := ⟨B, 0, none⟩) hB).trans hc)
      have hd : Hid (L.drop n = x :: L.drop (n + 1)) := drop_at hx
      have hx' : Hid (L[n]? = some x) := hx
      clear hcell hr hc hx
      cases hq : initOk x with
      | true =>
        rw [hq] at hcl
        go_wp2_with (go_at_call 81; refine hcl.mono ?_; rintro e w1 ⟨rfl, k1⟩)
        go_roundg (L.length - (n + 1))
        case measure => omega
        case rel => exact ⟨n + 1, by omega, rfl, by go_num, hon.out.trans k1, by rw [hany.out, hd.out, List.any_cons, hq]; rfl⟩
      | false =>
        rw [hq] at hcl
        go_wp2_with (go_at_call 81; refine hcl.mono ?_; rintro e w1 ⟨rfl, k1⟩)
        go_ret
        exact ⟨n, rfl, by rw [any_here hx'.out (by rw [hq]; rfl)]; simp, hon.out.trans k1⟩
    · go_wp2
      go_ret
      exact ⟨-1, rfl, by rw [hany.out, List.drop_of_length_le hge]; rfl, hon.out⟩
set_option maxHeartbeats 1000000 in
theorem conIni_is (L : List InitT) (a : Option Addr) (c B : Nat) (w : World) (h : Rd iniC 2 w (.slice a L.length c) L) (hB : B < w.heap.size) (hc : w.cell? ⟨B, 0, none⟩ = some (.func (.func 49) #[] #[])) :
    Calls Tryz.prog 80 #[.slice a L.length c, .func (.func 81) #[] #[.pointer (some ⟨B, 0, none⟩)]] w fun e w' => e = .returned (.bool (L.any (fun x => !initOk x))) ∧ On w w' := by
  have hI := idxIni_is L a c B w h hB hc
  generalize L.any (fun x => !initOk x) = b at hI ⊢
  go_enter Tryz.func80, Tryz.ntmps80
  go_wp2_with (go_at_call 107; refine hI.mono ?_; rintro e w1 ⟨r, rfl, hr, k1⟩)
  go_ret
  exact ⟨rfl, k1⟩
theorem all_not {α : Type} (p : α → Bool) (L : List α) : (!L.any (fun x => !p x)) = L.all p := by
  induction L with
  | nil => rfl
  | cons x L ih => simp only [List.any_cons, List.all_cons, ← ih]; cases p x <;> simp
set_option maxHeartbeats 1000000 in
theorem allIni_is (L : List InitT) (a : Option Addr) (c : Nat) (w : World) (h : Rd iniC 2 w (.slice a L.length c) L) :
    Calls Tryz.prog 48 #[.slice a L.length c, .func (.func 49) #[] #[]] w fun e w' => e = .returned (.bool (L.all initOk)) ∧ On w w' := by
  rw [← all_not]
  have hI := fun T => conIni_is L a c w.heap.size (w.alloc (.cells #[.func (.func 49) #[] #[]] T)) (h.on ((On.refl w).alloc _)) (by simp) (by simp)
  generalize L.any (fun x => !initOk x) = b at hI ⊢
  cases b
  all_goals
    go_enter Tryz.func48, Tryz.ntmps48
    go_wp2_with (go_at_call 80; refine (hI _).mono ?_; rintro e w1 ⟨rfl, k1⟩)
    go_ret
    exact ⟨rfl, ((On.refl w).alloc _).trans k1⟩
end Go.Proofs.YtmnpcbcnjnklnaaGreatDoor.Wl

namespace Go.Proofs.YtmnpcbcnjnklnaaGreatDoor.Wl
open Go.RowKit

theorem ret_bool {a b : Bool} (h : a = b) : Ending.returned (.bool a) = .returned (.bool b) := by rw [h]
theorem count_is (n : Nat) (hn : n < 67108864) (w : World) :
    Calls Tryz.prog 54 #[.int .u32 n] w fun e w' => e = .returned (.int .i64 (cntN n)) ∧ On w w' := by
  go_enter Tryz.func54, Tryz.ntmps54
  go_wp2_with (go_at_call 88; refine (ones_is n hn _).mono ?_; rintro e w1 ⟨rfl, kk, rfl⟩)
  go_ret
  exact ⟨rfl, (On.refl w).drewN kk⟩

set_option maxHeartbeats 1000000 in
set_option maxRecDepth 8000 in
theorem threadsBig_is (LL : List (List InsT)) (a : Option Addr) (c : Nat) (w : World) (h : Rd2 insC 9 w (.slice a LL.length c) LL) :
    Calls Tryz.prog 53 #[.slice a LL.length c] w fun e w' => e = .returned (.bool (thrBig LL)) ∧ w' = w := by
  obtain ⟨_, _, _, _, hm⟩ := h.slice
  have HR : Hid (Rd2 insC 9 w (.slice a LL.length c) LL) := h
  clear h
  obtain ⟨B, hB⟩ : ∃ B, B = thrBig LL := ⟨_, rfl⟩
  rw [← hB]
  unfold thrBig at hB
  rcases Nat.eq_zero_or_pos LL.length with h0 | h0
  · rw [h0]
    rw [h0] at hB
    simp at hB
    subst hB
    go_enter Tryz.func53, Tryz.ntmps53
    go_wp2
    go_ret
    exact ⟨rfl, rfl⟩
  · have z0 : ((LL.length : Int) == 0) = false := by simpa using (by omega : ¬ (LL.length : Int) = 0)
    have z1 : (LL.length == 0) = false := by simpa using (by intro h; subst h; simp at h0 : ¬ LL = [])
    rw [z1, Bool.false_or] at hB
    by_cases h4 : 4 < LL.length
    · rw [decide_eq_true h4, Bool.true_or] at hB
      subst hB
      clear z1
      go_enter Tryz.func53, Tryz.ntmps53
      go_wp2
      go_ret
      exact ⟨rfl, rfl⟩
    · rw [decide_eq_false h4, Bool.false_or] at hB
      have HB : Hid (B = (LL.any (fun L => decide (10 < L.length)) || decide (24 < LL.foldl (fun n L => n + L.length) 0))) := hB
      clear hB z1
      go_enter Tryz.func53, Tryz.ntmps53
      go_wp2
      go_loopg [3, 16] LL.length (fun gg s3 s16 wr => ∃ n s : Nat, n ≤ LL.length ∧ gg = LL.length - n ∧ s16 = .int .i64 n ∧ s3 = .int .i64 s ∧ s ≤ 10 * n ∧ wr = w ∧ Hid (B = ((LL.drop n).any (fun L => decide (10 < L.length)) || decide (24 < (LL.drop n).foldl (fun n L => n + L.length) s))))
      case atStart => exact ⟨0, 0, Nat.zero_le _, rfl, rfl, rfl, Nat.le_refl _, rfl, HB⟩
      case round =>
        clear HB
        obtain ⟨n, s, hn, hk, rfl, rfl, hs, rfl, HB⟩ := hrel
        rcases Nat.lt_or_ge n LL.length with hlt | hge
        · obtain ⟨x, hx⟩ : ∃ x, LL[n]? = some x := ⟨_, List.getElem?_eq_getElem hlt⟩
          obtain ⟨g, off, rfl, hg, ax, cx, u0, hxm, _⟩ := HR.out.row hx
          have hd : Hid (LL.drop n = x :: LL.drop (n + 1)) := drop_at hx
          clear hx
          by_cases h10 : 10 < x.length
          · have hb : B = true := by rw [HB.out, hd.out, List.any_cons, decide_eq_true h10]; rfl
            subst hb
            go_wp2
            go_ret
            exact ⟨rfl, rfl⟩
          · have HB2 : Hid (B = ((LL.drop (n + 1)).any (fun L => decide (10 < L.length)) || decide (24 < (LL.drop (n + 1)).foldl (fun n L => n + L.length) (s + x.length)))) := by
              show B = _
              rw [HB.out, hd.out, List.any_cons, decide_eq_false h10, Bool.false_or, List.foldl_cons]
            clear HB hd
            go_wp2
            go_roundg (LL.length - (n + 1))
            case measure => omega
            case rel => exact ⟨n + 1, s + x.length, by omega, rfl, by go_num, by go_num, by omega, rfl, HB2⟩
        · have hb : B = decide (24 < s) := by rw [HB.out, List.drop_of_length_le hge]; rfl
          clear HB
          by_cases h24 : 24 < s
          · obtain rfl : B = true := hb.trans (decide_eq_true h24)
            clear hb
            go_wp2
            go_ret
            exact ⟨ret_bool (decide_eq_true (by omega)), rfl⟩
          · obtain rfl : B = false := hb.trans (decide_eq_false h24)
            clear hb
            go_wp2
            go_ret
            exact ⟨ret_bool (decide_eq_false (by omega)), rfl⟩

set_option maxHeartbeats 1000000 in
set_option maxRecDepth 8000 in
theorem condBig_is (k : Int) (LL : List (List AtomT)) (a : Option Addr) (c : Nat) (w : World) (h : Rd2 atomC 4 w (.slice a LL.length c) LL) :
    Calls Tryz.prog 55 #[.agg #[.int .i64 k, .slice a LL.length c]] w fun e w' => e = .returned (.bool (condBig LL)) ∧ On w w' := by
  obtain ⟨_, _, _, _, hm⟩ := h.slice
  obtain ⟨W0, hW0⟩ : ∃ W0, W0 = w.alloc (.cells #[.int .i64 k, .slice a LL.length c] 26) := ⟨_, rfl⟩
  have HO : Hid (On w W0) := by rw [hW0]; exact (On.refl w).alloc _
  have HR : Hid (Rd2 atomC 4 W0 (.slice a LL.length c) LL) := h.on HO.out
  have BK : Bk W0 w.heap.size #[.int .i64 k, .slice a LL.length c] := by rw [hW0]; exact Bk.new w _ _
  have x1 := BK.at (i := 1) rfl
  have s1 := BK.lt
  clear h
  obtain ⟨B, hB⟩ : ∃ B, B = condBig LL := ⟨_, rfl⟩
  rw [← hB]
  unfold condBig at hB
  have HB : Hid (B = (LL.any (fun L => decide (8 < L.length)) || decide (8 < LL.length))) := hB
  clear hB BK
  go_enter Tryz.func55, Tryz.ntmps55
  go_wp2
  rw [← hW0]
  clear hW0
  go_loopg [8] LL.length (fun gg s8 wr => ∃ n : Nat, n ≤ LL.length ∧ gg = LL.length - n ∧ s8 = .int .i64 n ∧ wr = W0 ∧ Hid (B = ((LL.drop n).any (fun L => decide (8 < L.length)) || decide (8 < LL.length))))
  case atStart => exact ⟨0, Nat.zero_le _, rfl, rfl, rfl, HB⟩
  case round =>
    clear HB
    obtain ⟨n, hn, hk, rfl, rfl, HB⟩ := hrel
    rcases Nat.lt_or_ge n LL.length with hlt | hge
    · obtain ⟨x, hx⟩ : ∃ x, LL[n]? = some x := ⟨_, List.getElem?_eq_getElem hlt⟩
      obtain ⟨g, off, rfl, hg, ax, cx, u0, hxm, _⟩ := HR.out.row hx
      have hd : Hid (LL.drop n = x :: LL.drop (n + 1)) := drop_at hx
      clear hx
      by_cases h10 : 8 < x.length
      · have hb : B = true := by rw [HB.out, hd.out, List.any_cons, decide_eq_true h10]; rfl
        subst hb
        go_wp2
        go_ret
        exact ⟨rfl, HO.out⟩
      · have HB2 : Hid (B = ((LL.drop (n + 1)).any (fun L => decide (8 < L.length)) || decide (8 < LL.length))) := by
          show B = _
          rw [HB.out, hd.out, List.any_cons, decide_eq_false h10, Bool.false_or]
        clear HB hd
        go_wp2
        go_roundg (LL.length - (n + 1))
        case measure => omega
        case rel => exact ⟨n + 1, by omega, rfl, by go_num, rfl, HB2⟩
    · have hb : B = decide (8 < LL.length) := by rw [HB.out, List.drop_of_length_le hge]; rfl
      clear HB
      by_cases h24 : 8 < LL.length
      · obtain rfl : B = true := hb.trans (decide_eq_true h24)
        clear hb
        go_wp2
        go_ret
        exact ⟨ret_bool (decide_eq_true (by omega)), HO.out⟩
      · obtain rfl : B = false := hb.trans (decide_eq_false h24)
        clear hb
        go_wp2
        go_ret
        exact ⟨ret_bool (decide_eq_false (by omega)), HO.out⟩
end Go.Proofs.YtmnpcbcnjnklnaaGreatDoor.Wl
