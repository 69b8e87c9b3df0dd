/- Which atoms may be: print.okAtom. -/
import Derived.Test.YtplihlmejnohnaaGreatDoorJ08OkIns
namespace Go.Proofs.YtplihlmejnohnaaGreatDoor
open Go.RowKit

set_option linter.unusedSimpArgs false in
set_option maxHeartbeats 1000000 in
set_option maxRecDepth 8000 in
theorem okAtom_is (x : AtomT) (w : World) :
    Calls Tryz.prog 152 #[.agg #[.int .i64 x.t, .int .i64 x.r, .int .i64 x.l, .int .i64 x.v]] w fun e w' => e = .returned (.bool (atomOk x)) ∧ On w w' := by
  obtain ⟨t, r, l, v⟩ := x
  unfold atomOk
  simp only
  have hL := fun W => isLocation_is l W
  have hR := fun W => isRegister_is r W
  cases h1 : (t == -1) with
  | true =>
    obtain rfl : t = -1 := by simpa using h1
    clear h1
    by_cases h2 : r = 0
    · subst h2
      go_enter Tryz.func152, Tryz.ntmps152
      go_wp2_with fail
      refine (hL _).mono ?_
      rintro e w1 ⟨rfl, rfl⟩
      go_wp2
      all_goals (try go_ret)
      all_goals exact ⟨by simp, (On.refl w).alloc _⟩
    · have b2 : (r == 0) = false := by simp [h2]
      go_enter Tryz.func152, Tryz.ntmps152
      go_wp2
      all_goals (try go_ret)
      all_goals exact ⟨by simp [h2], (On.refl w).alloc _⟩
  | false =>
    by_cases h2 : l = 0
    · subst h2
      by_cases h3 : 0 ≤ t
      · by_cases h4 : t ≤ 9
        · go_enter Tryz.func152, Tryz.ntmps152
          go_wp2_with fail
          refine (hR _).mono ?_
          rintro e w1 ⟨rfl, rfl⟩
          go_wp2
          all_goals (try go_ret)
          all_goals exact ⟨by simp [h3, h4], (On.refl w).alloc _⟩
        · go_enter Tryz.func152, Tryz.ntmps152
          go_wp2
          all_goals (try go_ret)
          all_goals exact ⟨by simp; intros; omega, (On.refl w).alloc _⟩
      · go_enter Tryz.func152, Tryz.ntmps152
        go_wp2
        all_goals (try go_ret)
        all_goals exact ⟨by simp; intros; omega, (On.refl w).alloc _⟩
    · have b2 : (l == 0) = false := by simp [h2]
      go_enter Tryz.func152, Tryz.ntmps152
      go_wp2
      all_goals (try go_ret)
      all_goals exact ⟨by simp [h2], (On.refl w).alloc _⟩
end Go.Proofs.YtplihlmejnohnaaGreatDoor

namespace Go.Proofs.YtplihlmejnohnaaGreatDoor
open Go.RowKit

set_option maxHeartbeats 1000000 in
theorem cloAtom_is (x : AtomT) (B : Nat) (w : World) (hB : B < w.heap.size) (hc : w.cell? ⟨B, 0, none⟩ = some (.func (.func 152) #[] #[])) :
    Calls Tryz.prog 157 #[.agg #[.int .i64 x.t, .int .i64 x.r, .int .i64 x.l, .int .i64 x.v], .pointer (some ⟨B, 0, none⟩)] w fun e w' => e = .returned (.bool (!atomOk x)) ∧ On w w' := by
  have hO := fun W => okAtom_is x W
  have hne : B ≠ w.heap.size := by omega
  generalize atomOk x = b at hO ⊢
  cases b
  all_goals
    go_enter Tryz.func157, Tryz.ntmps157
    go_wp2_with (go_at_call 152; refine (hO _).mono ?_; rintro e w1 ⟨rfl, k1⟩)
    go_ret
    exact ⟨rfl, ((On.refl w).alloc _).trans k1⟩
set_option maxHeartbeats 2000000 in
theorem idxAtom_is (L : List AtomT) (a : Option Addr) (c B : Nat) (w : World) (h : Rd atomC 4 w (.slice a L.length c) L) (hB : B < w.heap.size) (hc : w.cell? ⟨B, 0, none⟩ = some (.func (.func 152) #[] #[])) :
    Calls Tryz.prog 158 #[.slice a L.length c, .func (.func 157) #[] #[.pointer (some ⟨B, 0, none⟩)]] w fun e w' => ∃ r : Int, e = .returned (.int .i64 r) ∧ decide (0 ≤ r) = L.any (fun x => !atomOk x) ∧ On w w' := by
  obtain ⟨a', c', hv, hcc, hm, hr⟩ := h
  simp only [Value.slice.injEq] at hv
  obtain ⟨rfl, _, rfl⟩ := hv
  go_enter Tryz.func158, Tryz.ntmps158
  go_wp2
  go_loopg [5, 8] L.length (fun gg _ s8 wr => ∃ n : Nat, n ≤ L.length ∧ gg = L.length - n ∧ s8 = .int .i64 n ∧ Hid (On w wr) ∧ Hid (L.any (fun x => !atomOk x) = (L.drop n).any (fun x => !atomOk x)))
  case atStart => exact ⟨0, Nat.zero_le _, rfl, rfl, On.refl w, rfl⟩
  case round =>
    obtain ⟨n, hn, hk, rfl, hon, hany⟩ := hrel
    rcases Nat.lt_or_ge n L.length with hlt | hge
    · obtain ⟨x, hx⟩ : ∃ x, L[n]? = some x := ⟨_, List.getElem?_eq_getElem hlt⟩
      obtain ⟨g, off, rfl, hg, hcell⟩ := hr (by omega)
      have u0 : wr.cell? ⟨g, off + n * 4, none⟩ = _ := (hon.out.cell (p := ⟨g, off + n * 4, none⟩) hg).trans (hcell n x 0 _ hx rfl)
      have u1 : wr.cell? ⟨g, off + n * 4 + 1, none⟩ = _ := (hon.out.cell (p := ⟨g, off + n * 4 + 1, none⟩) hg).trans (hcell n x 1 _ hx rfl)
      have u2 : wr.cell? ⟨g, off + n * 4 + 2, none⟩ = _ := (hon.out.cell (p := ⟨g, off + n * 4 + 2, none⟩) hg).trans (hcell n x 2 _ hx rfl)
      have u3 : wr.cell? ⟨g, off + n * 4 + 3, none⟩ = _ := (hon.out.cell (p := ⟨g, off + n * 4 + 3, none⟩) hg).trans (hcell n x 3 _ hx rfl)
      have hg' := Nat.lt_of_lt_of_le hg hon.out.size
      have hcl := cloAtom_is x B wr (Nat.lt_of_lt_of_le hB hon.out.size) ((hon.out.cell (p := ⟨B, 0, none⟩) hB).trans hc)
      have hd : Hid (L.drop n = x :: L.drop (n + 1)) := drop_at hx
      have hx' : Hid (L[n]? = some x) := hx
      clear hcell hr hc hx
      cases hq : atomOk x with
      | true =>
        rw [hq] at hcl
        go_wp2_with (go_at_call 157; refine hcl.mono ?_; rintro e w1 ⟨rfl, k1⟩)
        go_roundg (L.length - (n + 1))
        case measure => omega
        case rel => exact ⟨n + 1, by omega, rfl, by go_num, hon.out.trans k1, by rw [hany.out, hd.out, List.any_cons, hq]; rfl⟩
      | false =>
        rw [hq] at hcl
        go_wp2_with (go_at_call 157; refine hcl.mono ?_; rintro e w1 ⟨rfl, k1⟩)
        go_ret
        exact ⟨n, rfl, by rw [any_here hx'.out (by rw [hq]; rfl)]; simp, hon.out.trans k1⟩
    · go_wp2
      go_ret
      exact ⟨-1, rfl, by rw [hany.out, List.drop_of_length_le hge]; rfl, hon.out⟩
set_option maxHeartbeats 1000000 in
theorem conAtom_is (L : List AtomT) (a : Option Addr) (c B : Nat) (w : World) (h : Rd atomC 4 w (.slice a L.length c) L) (hB : B < w.heap.size) (hc : w.cell? ⟨B, 0, none⟩ = some (.func (.func 152) #[] #[])) :
    Calls Tryz.prog 156 #[.slice a L.length c, .func (.func 157) #[] #[.pointer (some ⟨B, 0, none⟩)]] w fun e w' => e = .returned (.bool (L.any (fun x => !atomOk x))) ∧ On w w' := by
  have hI := idxAtom_is L a c B w h hB hc
  generalize L.any (fun x => !atomOk x) = b at hI ⊢
  go_enter Tryz.func156, Tryz.ntmps156
  go_wp2_with (go_at_call 158; refine hI.mono ?_; rintro e w1 ⟨r, rfl, hr, k1⟩)
  go_ret
  exact ⟨rfl, k1⟩
set_option maxHeartbeats 1000000 in
theorem allAtom_is (L : List AtomT) (a : Option Addr) (c : Nat) (w : World) (h : Rd atomC 4 w (.slice a L.length c) L) :
    Calls Tryz.prog 151 #[.slice a L.length c, .func (.func 152) #[] #[]] w fun e w' => e = .returned (.bool (L.all atomOk)) ∧ On w w' := by
  rw [← all_not]
  have hI := fun T => conAtom_is L a c w.heap.size (w.alloc (.cells #[.func (.func 152) #[] #[]] T)) (h.on ((On.refl w).alloc _)) (by simp) (by simp)
  generalize L.any (fun x => !atomOk x) = b at hI ⊢
  cases b
  all_goals
    go_enter Tryz.func151, Tryz.ntmps151
    go_wp2_with (go_at_call 156; refine (hI _).mono ?_; rintro e w1 ⟨rfl, k1⟩)
    go_ret
    exact ⟨rfl, ((On.refl w).alloc _).trans k1⟩
theorem okRow_is (L : List AtomT) (a : Option Addr) (c : Nat) (w : World) (h : Rd atomC 4 w (.slice a L.length c) L) :
    Calls Tryz.prog 134 #[.slice a L.length c] w fun e w' => e = .returned (.bool (rowOk L)) ∧ On w w' := by
  have hI := allAtom_is L a c w h
  have hm := h.slice
  obtain ⟨_, _, _, _, hm⟩ := hm
  unfold rowOk
  generalize L.all atomOk = b at hI ⊢
  clear h
  rcases Nat.eq_zero_or_pos L.length with h0 | h0
  · rw [h0] at hI ⊢
    go_enter Tryz.func134, Tryz.ntmps134
    go_wp2
    go_ret
    exact ⟨rfl, On.refl w⟩
  · have h0' : decide (0 < L.length) = true := by simpa using h0
    rw [h0']
    go_enter Tryz.func134, Tryz.ntmps134
    go_wp2_with (go_at_call 151; refine hI.mono ?_; rintro e w1 ⟨rfl, k1⟩)
    go_ret
    exact ⟨rfl, k1⟩
set_option maxHeartbeats 1000000 in
theorem cloRow_is (L : List AtomT) (a : Option Addr) (c B : Nat) (w : World) (h : Rd atomC 4 w (.slice a L.length c) L) (hB : B < w.heap.size) (hc : w.cell? ⟨B, 0, none⟩ = some (.func (.func 134) #[] #[])) :
    Calls Tryz.prog 150 #[.slice a L.length c, .pointer (some ⟨B, 0, none⟩)] w fun e w' => e = .returned (.bool (!rowOk L)) ∧ On w w' := by
  have hO := okRow_is L a c w h
  have _ := hB
  generalize rowOk L = b at hO ⊢
  clear h
  cases b
  all_goals
    go_enter Tryz.func150, Tryz.ntmps150
    go_wp2_with (go_at_call 134; refine hO.mono ?_; rintro e w1 ⟨rfl, k1⟩)
    go_ret
    exact ⟨rfl, k1⟩
set_option maxHeartbeats 2000000 in
set_option maxRecDepth 8000 in
theorem idxRow_is (LL : List (List AtomT)) (a : Option Addr) (c B : Nat) (w : World) (h : Rd2 atomC 4 w (.slice a LL.length c) LL) (hB : B < w.heap.size) (hc : w.cell? ⟨B, 0, none⟩ = some (.func (.func 134) #[] #[])) :
    Calls Tryz.prog 155 #[.slice a LL.length c, .func (.func 150) #[] #[.pointer (some ⟨B, 0, none⟩)]] w fun e w' => ∃ r : Int, e = .returned (.int .i64 r) ∧ decide (0 ≤ r) = LL.any (fun x => !rowOk x) ∧ On w w' := by
  obtain ⟨vs, hvl, ⟨a', c', hv, hcc, hm, hr⟩, hin⟩ := h
  simp only [Value.slice.injEq] at hv
  obtain ⟨rfl, hvl', rfl⟩ := hv
  clear hvl'
  rw [hvl] at hm hr
  have HR : Hid _ := hr
  have HIN : Hid _ := hin
  have HV : Hid _ := hvl
  clear hcc hr hin hvl
  go_enter Tryz.func155, Tryz.ntmps155
  go_wp2
  go_loopg [5, 8] LL.length (fun gg _ s8 wr => ∃ n : Nat, n ≤ LL.length ∧ gg = LL.length - n ∧ s8 = .int .i64 n ∧ Hid (On w wr) ∧ Hid (LL.any (fun x => !rowOk x) = (LL.drop n).any (fun x => !rowOk x)))
  case atStart => exact ⟨0, Nat.zero_le _, rfl, rfl, On.refl w, rfl⟩
  case round =>
    obtain ⟨n, hn, hk, rfl, hon, hany⟩ := hrel
    rcases Nat.lt_or_ge n LL.length with hlt | hge
    · obtain ⟨x, hx⟩ : ∃ x, LL[n]? = some x := ⟨_, List.getElem?_eq_getElem hlt⟩
      obtain ⟨u, hu⟩ : ∃ u, vs[n]? = some u := ⟨_, List.getElem?_eq_getElem (by rw [HV.out]; exact hlt)⟩
      obtain ⟨g, off, rfl, hg, hcell⟩ := HR.out (by omega)
      have hrd := (HIN.out n u x hu hx).on hon.out
      obtain ⟨ax, cx, rfl, _, _⟩ := hrd.slice
      have u0 : wr.cell? ⟨g, off + n, none⟩ = some (.slice ax x.length cx) := (hon.out.cell (p := ⟨g, off + n, none⟩) hg).trans (by have := hcell n _ 0 _ hu rfl; simpa using this)
      have hg' := Nat.lt_of_lt_of_le hg hon.out.size
      have hcl := cloRow_is x ax cx B wr hrd (Nat.lt_of_lt_of_le hB hon.out.size) ((hon.out.cell (p := ⟨B, 0, none⟩) hB).trans hc)
      have hd : Hid (LL.drop n = x :: LL.drop (n + 1)) := drop_at hx
      have hx' : Hid (LL[n]? = some x) := hx
      clear hcell hc hx hrd hu
      cases hq : rowOk x with
      | true =>
        rw [hq] at hcl
        go_wp2_with (go_at_call 150; refine hcl.mono ?_; rintro e w1 ⟨rfl, k1⟩)
        go_roundg (LL.length - (n + 1))
        case measure => omega
        case rel => exact ⟨n + 1, by omega, rfl, by go_num, hon.out.trans k1, by rw [hany.out, hd.out, List.any_cons, hq]; rfl⟩
      | false =>
        rw [hq] at hcl
        go_wp2_with (go_at_call 150; refine hcl.mono ?_; rintro e w1 ⟨rfl, k1⟩)
        go_ret
        exact ⟨n, rfl, by rw [any_here hx'.out (by rw [hq]; rfl)]; simp, hon.out.trans k1⟩
    · go_wp2
      go_ret
      exact ⟨-1, rfl, by rw [hany.out, List.drop_of_length_le hge]; rfl, hon.out⟩
set_option maxHeartbeats 1000000 in
theorem conRow_is (L : List (List AtomT)) (a : Option Addr) (c B : Nat) (w : World) (h : Rd2 atomC 4 w (.slice a L.length c) L) (hB : B < w.heap.size) (hc : w.cell? ⟨B, 0, none⟩ = some (.func (.func 134) #[] #[])) :
    Calls Tryz.prog 149 #[.slice a L.length c, .func (.func 150) #[] #[.pointer (some ⟨B, 0, none⟩)]] w fun e w' => e = .returned (.bool (L.any (fun x => !rowOk x))) ∧ On w w' := by
  have hI := idxRow_is L a c B w h hB hc
  generalize L.any (fun x => !rowOk x) = b at hI ⊢
  clear h
  go_enter Tryz.func149, Tryz.ntmps149
  go_wp2_with (go_at_call 155; refine hI.mono ?_; rintro e w1 ⟨r, rfl, hr, k1⟩)
  go_ret
  exact ⟨rfl, k1⟩
set_option maxHeartbeats 1000000 in
theorem allRow_is (L : List (List AtomT)) (a : Option Addr) (c : Nat) (w : World) (h : Rd2 atomC 4 w (.slice a L.length c) L) :
    Calls Tryz.prog 133 #[.slice a L.length c, .func (.func 134) #[] #[]] w fun e w' => e = .returned (.bool (L.all rowOk)) ∧ On w w' := by
  rw [← all_not]
  have hI := fun T => conRow_is L a c w.heap.size (w.alloc (.cells #[.func (.func 134) #[] #[]] T)) (h.on ((On.refl w).alloc _)) (by simp) (by simp)
  generalize L.any (fun x => !rowOk x) = b at hI ⊢
  clear h
  cases b
  all_goals
    go_enter Tryz.func133, Tryz.ntmps133
    go_wp2_with (go_at_call 149; refine (hI _).mono ?_; rintro e w1 ⟨rfl, k1⟩)
    go_ret
    exact ⟨rfl, ((On.refl w).alloc _).trans k1⟩
end Go.Proofs.YtplihlmejnohnaaGreatDoor
