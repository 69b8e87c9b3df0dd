/- slices.IndexFunc, slices.ContainsFunc and print.all over the initial values. -/
import Derived.Test.YtplihlmejnohnaaGreatDoorJ03Gen0
import Derived.Test.YtplihlmejnohnaaGreatDoorJ02OwnR
import Derived.Test.YtplihlmejnohnaaGreatDoorJ07OkLeaf
import Derived.Deep.LoopGhost
namespace Go.Proofs.YtplihlmejnohnaaGreatDoor
open Go.RowKit

theorem okInit_is (x : InitT) (w : World) :
    Calls Tryz.prog 109 #[.agg #[.int .i64 x.l, .int .i64 x.v]] w fun e w' => e = .returned (.bool (initOk x)) ∧ On w w' := by
  have hL := fun W => isLocation_is x.l W
  unfold initOk
  generalize locOk x.l = b at hL ⊢
  go_enter Tryz.func109, Tryz.ntmps109
  go_wp2_with fail
  refine (hL _).mono ?_
  rintro e w1 ⟨rfl, rfl⟩
  go_wp2
  go_ret
  exact ⟨rfl, (On.refl w).alloc _⟩
set_option maxHeartbeats 1000000 in
theorem cloIni_is (x : InitT) (B : Nat) (w : World) (hB : B < w.heap.size) (hc : w.cell? ⟨B, 0, none⟩ = some (.func (.func 109) #[] #[])) :
    Calls Tryz.prog 128 #[.agg #[.int .i64 x.l, .int .i64 x.v], .pointer (some ⟨B, 0, none⟩)] w fun e w' => e = .returned (.bool (!initOk x)) ∧ On w w' := by
  have hO := fun W => okInit_is x W
  have hne : B ≠ w.heap.size := by omega
  generalize initOk x = b at hO ⊢
  cases b
  all_goals
    go_enter Tryz.func128, Tryz.ntmps128
    go_wp2_with (go_at_call 109; refine (hO _).mono ?_; rintro e w1 ⟨rfl, k1⟩)
    go_ret
    exact ⟨rfl, ((On.refl w).alloc _).trans k1⟩
set_option maxHeartbeats 2000000 in
theorem idxIni_is (L : List InitT) (a : Option Addr) (c B : Nat) (w : World) (h : Rd iniC 2 w (.slice a L.length c) L) (hB : B < w.heap.size) (hc : w.cell? ⟨B, 0, none⟩ = some (.func (.func 109) #[] #[])) :
    Calls Tryz.prog 142 #[.slice a L.length c, .func (.func 128) #[] #[.pointer (some ⟨B, 0, none⟩)]] w fun e w' => ∃ r : Int, e = .returned (.int .i64 r) ∧ decide (0 ≤ r) = L.any (fun x => !initOk x) ∧ On w w' := by
  obtain ⟨a', c', hv, hcc, hm, hr⟩ := h
  simp only [Value.slice.injEq] at hv
  obtain ⟨rfl, _, rfl⟩ := hv
  go_enter Tryz.func142, Tryz.ntmps142
  go_wp2
  go_loopg [5, 8] L.length (fun gg _ s8 wr => ∃ n : Nat, n ≤ L.length ∧ gg = L.length - n ∧ s8 = .int .i64 n ∧ Hid (On w wr) ∧ Hid (L.any (fun x => !initOk x) = (L.drop n).any (fun x => !initOk x)))
  case atStart => exact ⟨0, Nat.zero_le _, rfl, rfl, On.refl w, rfl⟩
  case round =>
    obtain ⟨n, hn, hk, rfl, hon, hany⟩ := hrel
    rcases Nat.lt_or_ge n L.length with hlt | hge
    · obtain ⟨x, hx⟩ : ∃ x, L[n]? = some x := ⟨_, List.getElem?_eq_getElem hlt⟩
      obtain ⟨g, off, rfl, hg, hcell⟩ := hr (by omega)
      have u0 : wr.cell? ⟨g, off + n * 2, none⟩ = _ := (hon.out.cell (p := ⟨g, off + n * 2, none⟩) hg).trans (hcell n x 0 _ hx rfl)
      have u1 : wr.cell? ⟨g, off + n * 2 + 1, none⟩ = _ := (hon.out.cell (p := ⟨g, off + n * 2 + 1, none⟩) hg).trans (hcell n x 1 _ hx rfl)
      have hg' := Nat.lt_of_lt_of_le hg hon.out.size
      have hcl := cloIni_is x B wr (Nat.lt_of_lt_of_le hB hon.out.size) ((hon.out.cell (p := ⟨B, 0, none⟩) hB).trans hc)
      have hd : Hid (L.drop n = x :: L.drop (n + 1)) := drop_at hx
      have hx' : Hid (L[n]? = some x) := hx
      clear hcell hr hc hx
      cases hq : initOk x with
      | true =>
        rw [hq] at hcl
        go_wp2_with (go_at_call 128; refine hcl.mono ?_; rintro e w1 ⟨rfl, k1⟩)
        go_roundg (L.length - (n + 1))
        case measure => omega
        case rel => exact ⟨n + 1, by omega, rfl, by go_num, hon.out.trans k1, by rw [hany.out, hd.out, List.any_cons, hq]; rfl⟩
      | false =>
        rw [hq] at hcl
        go_wp2_with (go_at_call 128; refine hcl.mono ?_; rintro e w1 ⟨rfl, k1⟩)
        go_ret
        exact ⟨n, rfl, by rw [any_here hx'.out (by rw [hq]; rfl)]; simp, hon.out.trans k1⟩
    · go_wp2
      go_ret
      exact ⟨-1, rfl, by rw [hany.out, List.drop_of_length_le hge]; rfl, hon.out⟩
set_option maxHeartbeats 1000000 in
theorem conIni_is (L : List InitT) (a : Option Addr) (c B : Nat) (w : World) (h : Rd iniC 2 w (.slice a L.length c) L) (hB : B < w.heap.size) (hc : w.cell? ⟨B, 0, none⟩ = some (.func (.func 109) #[] #[])) :
    Calls Tryz.prog 127 #[.slice a L.length c, .func (.func 128) #[] #[.pointer (some ⟨B, 0, none⟩)]] w fun e w' => e = .returned (.bool (L.any (fun x => !initOk x))) ∧ On w w' := by
  have hI := idxIni_is L a c B w h hB hc
  generalize L.any (fun x => !initOk x) = b at hI ⊢
  go_enter Tryz.func127, Tryz.ntmps127
  go_wp2_with (go_at_call 142; refine hI.mono ?_; rintro e w1 ⟨r, rfl, hr, k1⟩)
  go_ret
  exact ⟨rfl, k1⟩
set_option maxHeartbeats 1000000 in
theorem allIni_is (L : List InitT) (a : Option Addr) (c : Nat) (w : World) (h : Rd iniC 2 w (.slice a L.length c) L) :
    Calls Tryz.prog 108 #[.slice a L.length c, .func (.func 109) #[] #[]] w fun e w' => e = .returned (.bool (L.all initOk)) ∧ On w w' := by
  rw [← all_not]
  have hI := fun T => conIni_is L a c w.heap.size (w.alloc (.cells #[.func (.func 109) #[] #[]] T)) (h.on ((On.refl w).alloc _)) (by simp) (by simp)
  generalize L.any (fun x => !initOk x) = b at hI ⊢
  cases b
  all_goals
    go_enter Tryz.func108, Tryz.ntmps108
    go_wp2_with (go_at_call 127; refine (hI _).mono ?_; rintro e w1 ⟨rfl, k1⟩)
    go_ret
    exact ⟨rfl, ((On.refl w).alloc _).trans k1⟩
end Go.Proofs.YtplihlmejnohnaaGreatDoor

namespace Go.Proofs.YtplihlmejnohnaaGreatDoor
open Go.RowKit

theorem count_is (n : Nat) (hn : n < 67108864) (w : World) :
    Calls Tryz.prog 114 #[.int .u32 n] w fun e w' => e = .returned (.int .i64 (cntN n)) ∧ On w w' := by
  go_enter Tryz.func114, Tryz.ntmps114
  go_wp2_with (go_at_call 135; refine (wones_is n hn _).mono ?_; rintro e w1 ⟨rfl, kk, rfl⟩)
  go_ret
  exact ⟨rfl, (On.refl w).drewN kk⟩

set_option maxHeartbeats 1000000 in
set_option maxRecDepth 8000 in
theorem threadsBig_is (LL : List (List InsT)) (a : Option Addr) (c : Nat) (w : World) (h : Rd2 insC 9 w (.slice a LL.length c) LL) :
    Calls Tryz.prog 113 #[.slice a LL.length c] w fun e w' => e = .returned (.bool (thrBig LL)) ∧ w' = w := by
  obtain ⟨_, _, _, _, hm⟩ := h.slice
  have HR : Hid (Rd2 insC 9 w (.slice a LL.length c) LL) := h
  clear h
  obtain ⟨B, hB⟩ : ∃ B, B = thrBig LL := ⟨_, rfl⟩
  rw [← hB]
  unfold thrBig at hB
  rcases Nat.eq_zero_or_pos LL.length with h0 | h0
  · rw [h0]
    rw [h0] at hB
    simp at hB
    subst hB
    go_enter Tryz.func113, Tryz.ntmps113
    go_wp2
    go_ret
    exact ⟨rfl, rfl⟩
  · have z0 : ((LL.length : Int) == 0) = false := by simpa using (by omega : ¬ (LL.length : Int) = 0)
    have z1 : (LL.length == 0) = false := by simpa using (by intro h; subst h; simp at h0 : ¬ LL = [])
    rw [z1, Bool.false_or] at hB
    by_cases h4 : 4 < LL.length
    · rw [decide_eq_true h4, Bool.true_or] at hB
      subst hB
      clear z1
      go_enter Tryz.func113, Tryz.ntmps113
      go_wp2
      go_ret
      exact ⟨rfl, rfl⟩
    · rw [decide_eq_false h4, Bool.false_or] at hB
      have HB : Hid (B = (LL.any (fun L => decide (10 < L.length)) || decide (24 < LL.foldl (fun n L => n + L.length) 0))) := hB
      clear hB z1
      go_enter Tryz.func113, Tryz.ntmps113
      go_wp2
      go_loopg [3, 16] LL.length (fun gg s3 s16 wr => ∃ n s : Nat, n ≤ LL.length ∧ gg = LL.length - n ∧ s16 = .int .i64 n ∧ s3 = .int .i64 s ∧ s ≤ 10 * n ∧ wr = w ∧ Hid (B = ((LL.drop n).any (fun L => decide (10 < L.length)) || decide (24 < (LL.drop n).foldl (fun n L => n + L.length) s))))
      case atStart => exact ⟨0, 0, Nat.zero_le _, rfl, rfl, rfl, Nat.le_refl _, rfl, HB⟩
      case round =>
        clear HB
        obtain ⟨n, s, hn, hk, rfl, rfl, hs, rfl, HB⟩ := hrel
        rcases Nat.lt_or_ge n LL.length with hlt | hge
        · obtain ⟨x, hx⟩ : ∃ x, LL[n]? = some x := ⟨_, List.getElem?_eq_getElem hlt⟩
          obtain ⟨g, off, rfl, hg, ax, cx, u0, hxm, _⟩ := HR.out.row hx
          have hd : Hid (LL.drop n = x :: LL.drop (n + 1)) := drop_at hx
          clear hx
          by_cases h10 : 10 < x.length
          · have hb : B = true := by rw [HB.out, hd.out, List.any_cons, decide_eq_true h10]; rfl
            subst hb
            go_wp2
            go_ret
            exact ⟨rfl, rfl⟩
          · have HB2 : Hid (B = ((LL.drop (n + 1)).any (fun L => decide (10 < L.length)) || decide (24 < (LL.drop (n + 1)).foldl (fun n L => n + L.length) (s + x.length)))) := by
              show B = _
              rw [HB.out, hd.out, List.any_cons, decide_eq_false h10, Bool.false_or, List.foldl_cons]
            clear HB hd
            go_wp2
            go_roundg (LL.length - (n + 1))
            case measure => omega
            case rel => exact ⟨n + 1, s + x.length, by omega, rfl, by go_num, by go_num, by omega, rfl, HB2⟩
        · have hb : B = decide (24 < s) := by rw [HB.out, List.drop_of_length_le hge]; rfl
          clear HB
          by_cases h24 : 24 < s
          · obtain rfl : B = true := hb.trans (decide_eq_true h24)
            clear hb
            go_wp2
            go_ret
            exact ⟨ret_bool (decide_eq_true (by omega)), rfl⟩
          · obtain rfl : B = false := hb.trans (decide_eq_false h24)
            clear hb
            go_wp2
            go_ret
            exact ⟨ret_bool (decide_eq_false (by omega)), rfl⟩

set_option maxHeartbeats 1000000 in
set_option maxRecDepth 8000 in
theorem condBig_is (k : Int) (LL : List (List AtomT)) (a : Option Addr) (c : Nat) (w : World) (h : Rd2 atomC 4 w (.slice a LL.length c) LL) :
    Calls Tryz.prog 115 #[.agg #[.int .i64 k, .slice a LL.length c]] w fun e w' => e = .returned (.bool (condBig LL)) ∧ On w w' := by
  obtain ⟨_, _, _, _, hm⟩ := h.slice
  obtain ⟨W0, hW0⟩ : ∃ W0, W0 = w.alloc (.cells #[.int .i64 k, .slice a LL.length c] 66) := ⟨_, rfl⟩
  have HO : Hid (On w W0) := by rw [hW0]; exact (On.refl w).alloc _
  have HR : Hid (Rd2 atomC 4 W0 (.slice a LL.length c) LL) := h.on HO.out
  have BK : Bk W0 w.heap.size #[.int .i64 k, .slice a LL.length c] := by rw [hW0]; exact Bk.new w _ _
  have x1 := BK.at (i := 1) rfl
  have s1 := BK.lt
  clear h
  obtain ⟨B, hB⟩ : ∃ B, B = condBig LL := ⟨_, rfl⟩
  rw [← hB]
  unfold condBig at hB
  have HB : Hid (B = (LL.any (fun L => decide (8 < L.length)) || decide (8 < LL.length))) := hB
  clear hB BK
  go_enter Tryz.func115, Tryz.ntmps115
  go_wp2
  rw [← hW0]
  clear hW0
  go_loopg [8] LL.length (fun gg s8 wr => ∃ n : Nat, n ≤ LL.length ∧ gg = LL.length - n ∧ s8 = .int .i64 n ∧ wr = W0 ∧ Hid (B = ((LL.drop n).any (fun L => decide (8 < L.length)) || decide (8 < LL.length))))
  case atStart => exact ⟨0, Nat.zero_le _, rfl, rfl, rfl, HB⟩
  case round =>
    clear HB
    obtain ⟨n, hn, hk, rfl, rfl, HB⟩ := hrel
    rcases Nat.lt_or_ge n LL.length with hlt | hge
    · obtain ⟨x, hx⟩ : ∃ x, LL[n]? = some x := ⟨_, List.getElem?_eq_getElem hlt⟩
      obtain ⟨g, off, rfl, hg, ax, cx, u0, hxm, _⟩ := HR.out.row hx
      have hd : Hid (LL.drop n = x :: LL.drop (n + 1)) := drop_at hx
      clear hx
      by_cases h10 : 8 < x.length
      · have hb : B = true := by rw [HB.out, hd.out, List.any_cons, decide_eq_true h10]; rfl
        subst hb
        go_wp2
        go_ret
        exact ⟨rfl, HO.out⟩
      · have HB2 : Hid (B = ((LL.drop (n + 1)).any (fun L => decide (8 < L.length)) || decide (8 < LL.length))) := by
          show B = _
          rw [HB.out, hd.out, List.any_cons, decide_eq_false h10, Bool.false_or]
        clear HB hd
        go_wp2
        go_roundg (LL.length - (n + 1))
        case measure => omega
        case rel => exact ⟨n + 1, by omega, rfl, by go_num, rfl, HB2⟩
    · have hb : B = decide (8 < LL.length) := by rw [HB.out, List.drop_of_length_le hge]; rfl
      clear HB
      by_cases h24 : 8 < LL.length
      · obtain rfl : B = true := hb.trans (decide_eq_true h24)
        clear hb
        go_wp2
        go_ret
        exact ⟨ret_bool (decide_eq_true (by omega)), HO.out⟩
      · obtain rfl : B = false := hb.trans (decide_eq_false h24)
        clear hb
        go_wp2
        go_ret
        exact ⟨ret_bool (decide_eq_false (by omega)), HO.out⟩
end Go.Proofs.YtplihlmejnohnaaGreatDoor

namespace Go.Proofs.YtplihlmejnohnaaGreatDoor
open Go.RowKit

set_option maxHeartbeats 2000000 in
set_option maxRecDepth 8000 in
theorem twice_is (L : List InitT) (a : Option Addr) (c : Nat) (w : World) (h : Rd iniC 2 w (.slice a L.length c) L) :
    Calls Tryz.prog 95 #[.slice a L.length c] w fun e w' => e = .returned (.bool (twiceFrom 0 L)) ∧ On w w' := by
  obtain ⟨_, _, _, _, hm⟩ := h.slice
  have HR : Hid (Rd iniC 2 w (.slice a L.length c) L) := h
  clear h
  obtain ⟨B, hB⟩ : ∃ B, B = twiceFrom 0 L := ⟨_, rfl⟩
  rw [← hB]
  have HB : Hid (B = twiceFrom 0 (L.drop 0)) := hB
  clear hB
  go_enter Tryz.func95, Tryz.ntmps95
  go_wp2
  go_loopg [3, 9] L.length (fun gg s3 s9 wr => ∃ n s : Nat, n ≤ L.length ∧ gg = L.length - n ∧ s9 = .int .i64 n ∧ s3 = .int .u32 s ∧ s < 67108864 ∧ Hid (On w wr) ∧ Hid (B = twiceFrom s (L.drop n)))
  case atStart => exact ⟨0, 0, Nat.zero_le _, rfl, rfl, rfl, by decide, On.refl w, HB⟩
  case round =>
    clear HB
    obtain ⟨n, s, hn, hk, rfl, rfl, hs, HO, HB⟩ := hrel
    rcases Nat.lt_or_ge n L.length with hlt | hge
    · obtain ⟨x, hx⟩ : ∃ x, L[n]? = some x := ⟨_, List.getElem?_eq_getElem hlt⟩
      obtain ⟨g, off, rfl, hg, hcell⟩ := (HR.out.on HO.out).at hx
      have u0 : wr.cell? ⟨g, off + n * 2, none⟩ = _ := hcell 0 _ rfl
      have u1 : wr.cell? ⟨g, off + n * 2 + 1, none⟩ = _ := hcell 1 _ rfl
      have hd : Hid (L.drop n = x :: L.drop (n + 1)) := drop_at hx
      have hW := fun W => wwith_is s x.l hs W
      have hwl := withL_lt hs x.l
      clear hx hcell
      have HB2 : Hid (B = if withL s x.l == s then true else twiceFrom (withL s x.l) (L.drop (n + 1))) := by
        show B = _
        rw [HB.out, hd.out, twiceFrom]
      generalize withL s x.l = s' at *
      by_cases h1 : s' = s
      · have hb : B = true := by rw [HB2.out, h1]; simp
        subst hb
        subst h1
        go_wp2_with (go_at_call 116; refine (hW _).mono ?_; rintro e w1 ⟨rfl, rfl⟩)
        go_ret
        exact ⟨rfl, HO.out.trans (by repeat' (first | exact On.refl _ | refine On.alloc ?_ _ | refine On.setNew ?_ (Nat.le_refl _) _))⟩
      · have hb : Hid (B = twiceFrom s' (L.drop (n + 1))) := by
          show B = _
          rw [HB2.out]; simp [h1]
        have hne : ((s' : Int) == s) = false := by simpa using (by omega : ¬ (s' : Int) = s)
        go_wp2_with (go_at_call 116; refine (hW _).mono ?_; rintro e w1 ⟨rfl, rfl⟩)
        go_roundg (L.length - (n + 1))
        case measure => omega
        case rel => exact ⟨n + 1, s', by omega, rfl, by go_num, rfl, hwl, HO.out.trans (by repeat' (first | exact On.refl _ | refine On.alloc ?_ _ | refine On.setNew ?_ (Nat.le_refl _) _)), hb⟩
    · have hb : B = false := by rw [HB.out, List.drop_of_length_le hge]; rfl
      subst hb
      go_wp2
      go_ret
      exact ⟨rfl, HO.out⟩

set_option maxHeartbeats 4000000 in
set_option maxRecDepth 8000 in
theorem skips_is (L : List InsT) (a : Option Addr) (c : Nat) (w : World) (h : Rd insC 9 w (.slice a L.length c) L) :
    Calls Tryz.prog 117 #[.slice a L.length c] w fun e w' => e = .returned (.bool (skipBad L)) ∧ On w w' := by
  obtain ⟨_, _, _, _, hm⟩ := h.slice
  have HR : Hid (Rd insC 9 w (.slice a L.length c) L) := h
  clear h
  obtain ⟨B, hB⟩ : ∃ B, B = skipBad L := ⟨_, rfl⟩
  rw [← hB]
  have HB : Hid (B = skipBad (L.drop 0)) := hB
  clear hB
  go_enter Tryz.func117, Tryz.ntmps117
  go_wp2
  go_loopg [8] L.length (fun gg s8 wr => ∃ n : Nat, n ≤ L.length ∧ gg = L.length - n ∧ s8 = .int .i64 n ∧ Hid (On w wr) ∧ Hid (B = skipBad (L.drop n)))
  case atStart => exact ⟨0, Nat.zero_le _, rfl, rfl, On.refl w, HB⟩
  case round =>
    clear HB
    obtain ⟨n, hn, hk, rfl, HO, HB⟩ := hrel
    rcases Nat.lt_or_ge n L.length with hlt | hge
    · obtain ⟨x, hx⟩ : ∃ x, L[n]? = some x := ⟨_, List.getElem?_eq_getElem hlt⟩
      obtain ⟨g, off, rfl, hg, hcell⟩ := (HR.out.on HO.out).at hx
      have hd : Hid (L.drop n = x :: L.drop (n + 1)) := drop_at hx
      obtain ⟨k, r, l, ⟨ar, av⟩, o, ⟨br, bv⟩, m⟩ := x
      have u0 : wr.cell? ⟨g, off + n * 9, none⟩ = _ := hcell 0 _ rfl
      have u1 : wr.cell? ⟨g, off + n * 9 + 1, none⟩ = _ := hcell 1 _ rfl
      have u2 : wr.cell? ⟨g, off + n * 9 + 2, none⟩ = _ := hcell 2 _ rfl
      have u3 : wr.cell? ⟨g, off + n * 9 + 3, none⟩ = _ := hcell 3 _ rfl
      have u4 : wr.cell? ⟨g, off + n * 9 + 4, none⟩ = _ := hcell 4 _ rfl
      have u5 : wr.cell? ⟨g, off + n * 9 + 5, none⟩ = _ := hcell 5 _ rfl
      have u6 : wr.cell? ⟨g, off + n * 9 + 6, none⟩ = _ := hcell 6 _ rfl
      have u7 : wr.cell? ⟨g, off + n * 9 + 7, none⟩ = _ := hcell 7 _ rfl
      have u8 : wr.cell? ⟨g, off + n * 9 + 8, none⟩ = _ := hcell 8 _ rfl
      simp only at u0 u1 u2 u3 u4 u5 u6 u7 u8
      clear hx hcell
      have HB2 : Hid (B = ((k == 6 && (m == 0 || decide (((L.drop (n + 1)).length : Int) < m))) || skipBad (L.drop (n + 1)))) := by
        show B = _
        rw [HB.out, hd.out, skipBad]
      have hlen : (L.drop (n + 1)).length = L.length - (n + 1) := List.length_drop
      clear HB hd
      by_cases h6 : k = 6
      · subst h6
        by_cases h0 : m = 0
        · have hb : B = true := by rw [HB2.out, h0]; rfl
          subst hb
          subst h0
          go_wp2
          go_ret
          exact ⟨rfl, HO.out.trans (by repeat' (first | exact On.refl _ | refine On.alloc ?_ _ | refine On.setNew ?_ (Nat.le_refl _) _))⟩
        · have m0 : (m == 0) = false := by simpa using h0
          by_cases hlm : ((L.length : Int) - n - 1 < m)
          · have hb : B = true := by
              rw [HB2.out, m0, hlen, decide_eq_true (by omega)]; rfl
            subst hb
            clear HB2 hlen
            go_wp2
            go_ret
            exact ⟨rfl, HO.out.trans (by repeat' (first | exact On.refl _ | refine On.alloc ?_ _ | refine On.setNew ?_ (Nat.le_refl _) _))⟩
          · have hb : Hid (B = skipBad (L.drop (n + 1))) := by
              show B = _
              rw [HB2.out, m0, hlen, decide_eq_false (by omega)]; rfl
            clear HB2 hlen
            go_wp2
            go_roundg (L.length - (n + 1))
            case measure => omega
            case rel => exact ⟨n + 1, by omega, rfl, by go_num, HO.out.trans (by repeat' (first | exact On.refl _ | refine On.alloc ?_ _ | refine On.setNew ?_ (Nat.le_refl _) _)), hb⟩
      · have k6 : (k == 6) = false := by simpa using h6
        have hb : Hid (B = skipBad (L.drop (n + 1))) := by
          show B = _
          rw [HB2.out, k6]; rfl
        clear HB2 hlen
        go_wp2
        go_roundg (L.length - (n + 1))
        case measure => omega
        case rel => exact ⟨n + 1, by omega, rfl, by go_num, HO.out.trans (by repeat' (first | exact On.refl _ | refine On.alloc ?_ _ | refine On.setNew ?_ (Nat.le_refl _) _)), hb⟩
    · have hb : B = false := by rw [HB.out, List.drop_of_length_le hge]; rfl
      subst hb
      go_wp2
      go_ret
      exact ⟨rfl, HO.out⟩
end Go.Proofs.YtplihlmejnohnaaGreatDoor

namespace Go.Proofs.YtplihlmejnohnaaGreatDoor
open Go.RowKit

/-- The signs' texts lie where num.Sign looks. -/
def signTexts : List ByteArray := [⟨#[]⟩, ⟨#[43]⟩, ⟨#[45]⟩, ⟨#[42]⟩, ⟨#[38]⟩, ⟨#[124]⟩, ⟨#[94]⟩, ⟨#[60, 60]⟩, ⟨#[62, 62]⟩, ⟨#[61, 61]⟩, ⟨#[33, 61]⟩, ⟨#[60]⟩]
structure Lw (w : World) : Prop where
  sgs : w.var? Tryz.prog "jacquard/num.signs" = some (signTexts.map Value.string).toArray
theorem gSgs : Tryz.prog.globalNamed "jacquard/num.signs" = some 4 := by kernel_rfl
theorem lt_of_var {w : World} {g : Nat} {n : String} {cs : Array Value} (hg : Tryz.prog.globalNamed n = some g) (h : w.var? Tryz.prog n = some cs) : g < w.heap.size := by
  unfold World.var? at h
  simp only [hg, Option.bind_some] at h
  rcases Nat.lt_or_ge g w.heap.size with h' | h'
  · exact h'
  · simp [Array.getElem?_eq_none h'] at h
theorem Lw.on {w w' : World} (h : Lw w) (k : On w w') : Lw w' := ⟨var?_below k gSgs (lt_of_var gSgs h.sgs) h.sgs⟩
def sgn (k : Nat) : ByteArray := signTexts.getD k ⟨#[]⟩
theorem cell_sign {w : World} (hw : Lw w) (i : Nat) (h : i < 12) : w.cell? ⟨4, i, none⟩ = some (.string (signTexts.getD i ⟨#[]⟩)) := by
  have h0 := World.var?_cell gSgs hw.sgs i
  rw [h0]
  match i, h with
  | 0, _ | 1, _ | 2, _ | 3, _ | 4, _ | 5, _ | 6, _ | 7, _ | 8, _ | 9, _ | 10, _ | 11, _ => rfl
  | n + 12, h => omega
set_option maxHeartbeats 400000 in
theorem sign_yes (n : Nat) (h1 : 1 ≤ n) (h2 : n ≤ 11) (w : World) (hw : Lw w) :
    Calls Tryz.prog 154 #[.int .i64 n] w fun e w' => e = .returned (.string (sgn n)) ∧ w' = w := by
  have hc := cell_sign hw n (by omega)
  have hl := lt_of_var gSgs hw.sgs
  clear hw
  go_enter Tryz.func154, Tryz.ntmps154
  go_wp2
  go_ret
  exact ⟨rfl, rfl⟩
set_option maxHeartbeats 400000 in
theorem sign_no (n : Int) (h : n < 1 ∨ 11 < n) (w : World) :
    Calls Tryz.prog 154 #[.int .i64 n] w fun e w' => e = .returned (.string ⟨#[]⟩) ∧ w' = w := by
  by_cases h1 : n < 1
  · go_enter Tryz.func154, Tryz.ntmps154
    go_wp2
    go_ret
    exact ⟨rfl, rfl⟩
  · have h2 : 11 < n := by omega
    go_enter Tryz.func154, Tryz.ntmps154
    go_wp2
    go_ret
    exact ⟨rfl, rfl⟩
theorem sgn_ne : ∀ k : Fin 11, ¬ (sgn (k.val + 1)).toList = [] := by decide +kernel
set_option maxHeartbeats 1000000 in
theorem okSecond_is (op : Int) (b : Opd) (w : World) (hw : Lw w) :
    Calls Tryz.prog 148 #[.int .i64 op, .agg #[.int .i64 b.r, .int .i64 b.v]] w fun e w' => e = .returned (.bool (secOk op b)) ∧ On w w' := by
  obtain ⟨r, v⟩ := b
  unfold secOk
  simp only
  have hlw : ∀ o, Lw (w.alloc o) := fun o => hw.on ((On.refl w).alloc o)
  cases h0 : (op == 0) with
  | true =>
    clear hlw hw
    go_enter Tryz.func148, Tryz.ntmps148
    go_wp2
    all_goals (try go_ret)
    all_goals exact ⟨by simp_all, (On.refl w).alloc _⟩
  | false =>
    by_cases hs : 1 ≤ op ∧ op ≤ 11
    · obtain ⟨n, rfl⟩ : ∃ n : Nat, op = n := ⟨op.toNat, by omega⟩
      have hS := fun o => sign_yes n (by omega) (by omega) (w.alloc o) (hlw o)
      have hne : ¬ (sgn n).toList = [] := by have := sgn_ne ⟨n - 1, by omega⟩; simp only [show n - 1 + 1 = n by omega] at this; exact this
      have hO := fun W => okOperand_is ⟨r, v⟩ W
      have hso : signOk (n : Int) = true := by unfold signOk; simp; omega
      rw [hso]
      generalize sgn n = X at hS hne
      clear hlw hw hso
      go_enter Tryz.func148, Tryz.ntmps148
      go_wp2_with (first | (go_at_call 154; refine (hS _).mono ?_; rintro e w1 ⟨rfl, rfl⟩) | (go_at_call 146; refine (hO _).mono ?_; rintro e w2 ⟨rfl, k2⟩))
      all_goals (try go_ret)
      all_goals exact ⟨by simp [hne], ((On.refl w).alloc _).trans k2⟩
    · have hS := fun W => sign_no op (by omega) W
      have hso : signOk op = false := by unfold signOk; simp; omega
      rw [hso]
      clear hlw hw hso
      go_enter Tryz.func148, Tryz.ntmps148
      go_wp2_with (go_at_call 154; refine (hS _).mono ?_; rintro e w1 ⟨rfl, rfl⟩)
      all_goals (try go_ret)
      all_goals exact ⟨by simp, (On.refl w).alloc _⟩

end Go.Proofs.YtplihlmejnohnaaGreatDoor
