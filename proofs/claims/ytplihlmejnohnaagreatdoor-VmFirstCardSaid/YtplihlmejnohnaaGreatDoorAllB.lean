/- print.all over instructions and threads. -/
import Derived.Test.YtplihlmejnohnaaGreatDoorJ08OkIns
import Derived.Test.YtplihlmejnohnaaGreatDoorOkInsW
namespace Go.Proofs.YtplihlmejnohnaaGreatDoor
open Go.RowKit

set_option maxHeartbeats 1000000 in
theorem cloIns_is (x : InsT) (B : Nat) (w : World) (lw : Lw w) (hB : B < w.heap.size) (hc : w.cell? ⟨B, 0, none⟩ = some (.func (.func 132) #[] #[])) :
    Calls Tryz.prog 145 #[.agg #[.int .i64 x.k, .int .i64 x.r, .int .i64 x.l, .int .i64 x.a.r, .int .i64 x.a.v, .int .i64 x.o, .int .i64 x.b.r, .int .i64 x.b.v, .int .i64 x.n], .pointer (some ⟨B, 0, none⟩)] w fun e w' => e = .returned (.bool (!insOk x)) ∧ On w w' := by
  have hO := fun T => okIns_is x (w.alloc T) (lw.on ((On.refl w).alloc T))
  have hne : B ≠ w.heap.size := by omega
  generalize insOk x = b at hO ⊢
  cases b
  all_goals
    go_enter Tryz.func145, Tryz.ntmps145
    go_wp2_with (go_at_call 132; refine (hO _).mono ?_; rintro e w1 ⟨rfl, k1⟩)
    go_ret
    exact ⟨rfl, ((On.refl w).alloc _).trans k1⟩
set_option maxHeartbeats 2000000 in
theorem idxIns_is (L : List InsT) (a : Option Addr) (c B : Nat) (w : World) (lw : Lw w) (h : Rd insC 9 w (.slice a L.length c) L) (hB : B < w.heap.size) (hc : w.cell? ⟨B, 0, none⟩ = some (.func (.func 132) #[] #[])) :
    Calls Tryz.prog 153 #[.slice a L.length c, .func (.func 145) #[] #[.pointer (some ⟨B, 0, none⟩)]] w fun e w' => ∃ r : Int, e = .returned (.int .i64 r) ∧ decide (0 ≤ r) = L.any (fun x => !insOk x) ∧ On w w' := by
  obtain ⟨a', c', hv, hcc, hm, hr⟩ := h
  simp only [Value.slice.injEq] at hv
  obtain ⟨rfl, _, rfl⟩ := hv
  go_enter Tryz.func153, Tryz.ntmps153
  go_wp2
  go_loopg [5, 8] L.length (fun gg _ s8 wr => ∃ n : Nat, n ≤ L.length ∧ gg = L.length - n ∧ s8 = .int .i64 n ∧ Hid (On w wr) ∧ Hid (L.any (fun x => !insOk x) = (L.drop n).any (fun x => !insOk x)))
  case atStart => exact ⟨0, Nat.zero_le _, rfl, rfl, On.refl w, rfl⟩
  case round =>
    obtain ⟨n, hn, hk, rfl, hon, hany⟩ := hrel
    rcases Nat.lt_or_ge n L.length with hlt | hge
    · obtain ⟨x, hx⟩ : ∃ x, L[n]? = some x := ⟨_, List.getElem?_eq_getElem hlt⟩
      obtain ⟨g, off, rfl, hg, hcell⟩ := hr (by omega)
      have u0 : wr.cell? ⟨g, off + n * 9, none⟩ = _ := (hon.out.cell (p := ⟨g, off + n * 9, none⟩) hg).trans (hcell n x 0 _ hx rfl)
      have u1 : wr.cell? ⟨g, off + n * 9 + 1, none⟩ = _ := (hon.out.cell (p := ⟨g, off + n * 9 + 1, none⟩) hg).trans (hcell n x 1 _ hx rfl)
      have u2 : wr.cell? ⟨g, off + n * 9 + 2, none⟩ = _ := (hon.out.cell (p := ⟨g, off + n * 9 + 2, none⟩) hg).trans (hcell n x 2 _ hx rfl)
      have u3 : wr.cell? ⟨g, off + n * 9 + 3, none⟩ = _ := (hon.out.cell (p := ⟨g, off + n * 9 + 3, none⟩) hg).trans (hcell n x 3 _ hx rfl)
      have u4 : wr.cell? ⟨g, off + n * 9 + 4, none⟩ = _ := (hon.out.cell (p := ⟨g, off + n * 9 + 4, none⟩) hg).trans (hcell n x 4 _ hx rfl)
      have u5 : wr.cell? ⟨g, off + n * 9 + 5, none⟩ = _ := (hon.out.cell (p := ⟨g, off + n * 9 + 5, none⟩) hg).trans (hcell n x 5 _ hx rfl)
      have u6 : wr.cell? ⟨g, off + n * 9 + 6, none⟩ = _ := (hon.out.cell (p := ⟨g, off + n * 9 + 6, none⟩) hg).trans (hcell n x 6 _ hx rfl)
      have u7 : wr.cell? ⟨g, off + n * 9 + 7, none⟩ = _ := (hon.out.cell (p := ⟨g, off + n * 9 + 7, none⟩) hg).trans (hcell n x 7 _ hx rfl)
      have u8 : wr.cell? ⟨g, off + n * 9 + 8, none⟩ = _ := (hon.out.cell (p := ⟨g, off + n * 9 + 8, none⟩) hg).trans (hcell n x 8 _ hx rfl)
      have hg' := Nat.lt_of_lt_of_le hg hon.out.size
      have hcl := cloIns_is x B wr (lw.on hon.out) (Nat.lt_of_lt_of_le hB hon.out.size) ((hon.out.cell (p := ⟨B, 0, none⟩) hB).trans hc)
      have hd : Hid (L.drop n = x :: L.drop (n + 1)) := drop_at hx
      have hx' : Hid (L[n]? = some x) := hx
      clear hcell hr hc hx
      cases hq : insOk x with
      | true =>
        rw [hq] at hcl
        go_wp2_with (go_at_call 145; refine hcl.mono ?_; rintro e w1 ⟨rfl, k1⟩)
        go_roundg (L.length - (n + 1))
        case measure => omega
        case rel => exact ⟨n + 1, by omega, rfl, by go_num, hon.out.trans k1, by rw [hany.out, hd.out, List.any_cons, hq]; rfl⟩
      | false =>
        rw [hq] at hcl
        go_wp2_with (go_at_call 145; refine hcl.mono ?_; rintro e w1 ⟨rfl, k1⟩)
        go_ret
        exact ⟨n, rfl, by rw [any_here hx'.out (by rw [hq]; rfl)]; simp, hon.out.trans k1⟩
    · go_wp2
      go_ret
      exact ⟨-1, rfl, by rw [hany.out, List.drop_of_length_le hge]; rfl, hon.out⟩
set_option maxHeartbeats 1000000 in
theorem conIns_is (L : List InsT) (a : Option Addr) (c B : Nat) (w : World) (lw : Lw w) (h : Rd insC 9 w (.slice a L.length c) L) (hB : B < w.heap.size) (hc : w.cell? ⟨B, 0, none⟩ = some (.func (.func 132) #[] #[])) :
    Calls Tryz.prog 144 #[.slice a L.length c, .func (.func 145) #[] #[.pointer (some ⟨B, 0, none⟩)]] w fun e w' => e = .returned (.bool (L.any (fun x => !insOk x))) ∧ On w w' := by
  have hI := idxIns_is L a c B w lw h hB hc
  generalize L.any (fun x => !insOk x) = b at hI ⊢
  go_enter Tryz.func144, Tryz.ntmps144
  go_wp2_with (go_at_call 153; refine hI.mono ?_; rintro e w1 ⟨r, rfl, hr, k1⟩)
  go_ret
  exact ⟨rfl, k1⟩
set_option maxHeartbeats 1000000 in
theorem allIns_is (L : List InsT) (a : Option Addr) (c : Nat) (w : World) (lw : Lw w) (h : Rd insC 9 w (.slice a L.length c) L) :
    Calls Tryz.prog 131 #[.slice a L.length c, .func (.func 132) #[] #[]] w fun e w' => e = .returned (.bool (L.all insOk)) ∧ On w w' := by
  rw [← all_not]
  have hI := fun T => conIns_is L a c w.heap.size (w.alloc (.cells #[.func (.func 132) #[] #[]] T)) (lw.on ((On.refl w).alloc _)) (h.on ((On.refl w).alloc _)) (by simp) (by simp)
  generalize L.any (fun x => !insOk x) = b at hI ⊢
  cases b
  all_goals
    go_enter Tryz.func131, Tryz.ntmps131
    go_wp2_with (go_at_call 144; refine (hI _).mono ?_; rintro e w1 ⟨rfl, k1⟩)
    go_ret
    exact ⟨rfl, ((On.refl w).alloc _).trans k1⟩
theorem okThread_is (L : List InsT) (a : Option Addr) (c : Nat) (w : World) (lw : Lw w) (h : Rd insC 9 w (.slice a L.length c) L) :
    Calls Tryz.prog 111 #[.slice a L.length c] w fun e w' => e = .returned (.bool (threadOk L)) ∧ On w w' := by
  have hI := allIns_is L a c w lw h
  unfold threadOk
  generalize L.all insOk = b at hI ⊢
  clear h
  go_enter Tryz.func111, Tryz.ntmps111
  go_wp2_with (go_at_call 131; refine hI.mono ?_; rintro e w1 ⟨rfl, k1⟩)
  go_ret
  exact ⟨rfl, k1⟩
set_option maxHeartbeats 1000000 in
theorem cloThr_is (L : List InsT) (a : Option Addr) (c B : Nat) (w : World) (lw : Lw w) (h : Rd insC 9 w (.slice a L.length c) L) (hB : B < w.heap.size) (hc : w.cell? ⟨B, 0, none⟩ = some (.func (.func 111) #[] #[])) :
    Calls Tryz.prog 130 #[.slice a L.length c, .pointer (some ⟨B, 0, none⟩)] w fun e w' => e = .returned (.bool (!threadOk L)) ∧ On w w' := by
  have hO := okThread_is L a c w lw h
  have _ := hB
  generalize threadOk L = b at hO ⊢
  clear h
  cases b
  all_goals
    go_enter Tryz.func130, Tryz.ntmps130
    go_wp2_with (go_at_call 111; refine hO.mono ?_; rintro e w1 ⟨rfl, k1⟩)
    go_ret
    exact ⟨rfl, k1⟩
set_option maxHeartbeats 2000000 in
set_option maxRecDepth 8000 in
theorem idxThr_is (LL : List (List InsT)) (a : Option Addr) (c B : Nat) (w : World) (lw : Lw w) (h : Rd2 insC 9 w (.slice a LL.length c) LL) (hB : B < w.heap.size) (hc : w.cell? ⟨B, 0, none⟩ = some (.func (.func 111) #[] #[])) :
    Calls Tryz.prog 143 #[.slice a LL.length c, .func (.func 130) #[] #[.pointer (some ⟨B, 0, none⟩)]] w fun e w' => ∃ r : Int, e = .returned (.int .i64 r) ∧ decide (0 ≤ r) = LL.any (fun x => !threadOk x) ∧ On w w' := by
  obtain ⟨vs, hvl, ⟨a', c', hv, hcc, hm, hr⟩, hin⟩ := h
  simp only [Value.slice.injEq] at hv
  obtain ⟨rfl, hvl', rfl⟩ := hv
  clear hvl'
  rw [hvl] at hm hr
  have HR : Hid _ := hr
  have HIN : Hid _ := hin
  have HV : Hid _ := hvl
  clear hcc hr hin hvl
  go_enter Tryz.func143, Tryz.ntmps143
  go_wp2
  go_loopg [5, 8] LL.length (fun gg _ s8 wr => ∃ n : Nat, n ≤ LL.length ∧ gg = LL.length - n ∧ s8 = .int .i64 n ∧ Hid (On w wr) ∧ Hid (LL.any (fun x => !threadOk x) = (LL.drop n).any (fun x => !threadOk x)))
  case atStart => exact ⟨0, Nat.zero_le _, rfl, rfl, On.refl w, rfl⟩
  case round =>
    obtain ⟨n, hn, hk, rfl, hon, hany⟩ := hrel
    rcases Nat.lt_or_ge n LL.length with hlt | hge
    · obtain ⟨x, hx⟩ : ∃ x, LL[n]? = some x := ⟨_, List.getElem?_eq_getElem hlt⟩
      obtain ⟨u, hu⟩ : ∃ u, vs[n]? = some u := ⟨_, List.getElem?_eq_getElem (by rw [HV.out]; exact hlt)⟩
      obtain ⟨g, off, rfl, hg, hcell⟩ := HR.out (by omega)
      have hrd := (HIN.out n u x hu hx).on hon.out
      obtain ⟨ax, cx, rfl, _, _⟩ := hrd.slice
      have u0 : wr.cell? ⟨g, off + n, none⟩ = some (.slice ax x.length cx) := (hon.out.cell (p := ⟨g, off + n, none⟩) hg).trans (by have := hcell n _ 0 _ hu rfl; simpa using this)
      have hg' := Nat.lt_of_lt_of_le hg hon.out.size
      have hcl := cloThr_is x ax cx B wr (lw.on hon.out) hrd (Nat.lt_of_lt_of_le hB hon.out.size) ((hon.out.cell (p := ⟨B, 0, none⟩) hB).trans hc)
      have hd : Hid (LL.drop n = x :: LL.drop (n + 1)) := drop_at hx
      have hx' : Hid (LL[n]? = some x) := hx
      clear hcell hc hx hrd hu
      cases hq : threadOk x with
      | true =>
        rw [hq] at hcl
        go_wp2_with (go_at_call 130; refine hcl.mono ?_; rintro e w1 ⟨rfl, k1⟩)
        go_roundg (LL.length - (n + 1))
        case measure => omega
        case rel => exact ⟨n + 1, by omega, rfl, by go_num, hon.out.trans k1, by rw [hany.out, hd.out, List.any_cons, hq]; rfl⟩
      | false =>
        rw [hq] at hcl
        go_wp2_with (go_at_call 130; refine hcl.mono ?_; rintro e w1 ⟨rfl, k1⟩)
        go_ret
        exact ⟨n, rfl, by rw [any_here hx'.out (by rw [hq]; rfl)]; simp, hon.out.trans k1⟩
    · go_wp2
      go_ret
      exact ⟨-1, rfl, by rw [hany.out, List.drop_of_length_le hge]; rfl, hon.out⟩
set_option maxHeartbeats 1000000 in
theorem conThr_is (L : List (List InsT)) (a : Option Addr) (c B : Nat) (w : World) (lw : Lw w) (h : Rd2 insC 9 w (.slice a L.length c) L) (hB : B < w.heap.size) (hc : w.cell? ⟨B, 0, none⟩ = some (.func (.func 111) #[] #[])) :
    Calls Tryz.prog 129 #[.slice a L.length c, .func (.func 130) #[] #[.pointer (some ⟨B, 0, none⟩)]] w fun e w' => e = .returned (.bool (L.any (fun x => !threadOk x))) ∧ On w w' := by
  have hI := idxThr_is L a c B w lw h hB hc
  generalize L.any (fun x => !threadOk x) = b at hI ⊢
  clear h
  go_enter Tryz.func129, Tryz.ntmps129
  go_wp2_with (go_at_call 143; refine hI.mono ?_; rintro e w1 ⟨r, rfl, hr, k1⟩)
  go_ret
  exact ⟨rfl, k1⟩
set_option maxHeartbeats 1000000 in
theorem allThr_is (L : List (List InsT)) (a : Option Addr) (c : Nat) (w : World) (lw : Lw w) (h : Rd2 insC 9 w (.slice a L.length c) L) :
    Calls Tryz.prog 110 #[.slice a L.length c, .func (.func 111) #[] #[]] w fun e w' => e = .returned (.bool (L.all threadOk)) ∧ On w w' := by
  rw [← all_not]
  have hI := fun T => conThr_is L a c w.heap.size (w.alloc (.cells #[.func (.func 111) #[] #[]] T)) (lw.on ((On.refl w).alloc _)) (h.on ((On.refl w).alloc _)) (by simp) (by simp)
  generalize L.any (fun x => !threadOk x) = b at hI ⊢
  clear h
  cases b
  all_goals
    go_enter Tryz.func110, Tryz.ntmps110
    go_wp2_with (go_at_call 129; refine (hI _).mono ?_; rintro e w1 ⟨rfl, k1⟩)
    go_ret
    exact ⟨rfl, ((On.refl w).alloc _).trans k1⟩
end Go.Proofs.YtplihlmejnohnaaGreatDoor
