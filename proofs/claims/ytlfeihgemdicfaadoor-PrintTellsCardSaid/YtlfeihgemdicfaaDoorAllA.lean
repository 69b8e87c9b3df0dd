/- slices.IndexFunc, slices.ContainsFunc and print.all over the initial values. -/
import Derived.Test.YtlfeihgemdicfaaDoorJ10Gen0
import Derived.Test.YtlfeihgemdicfaaDoorJ03Puts
import Derived.Test.YtlfeihgemdicfaaDoorJ00OkLeaf
import Derived.Deep.LoopGhost
namespace Go.Proofs.YtlfeihgemdicfaaDoor
open Go.RowKit

theorem okInit_is (x : InitT) (w : World) :
    Calls Tryd.prog 33 #[.agg #[.int .i64 x.l, .int .i64 x.v]] w fun e w' => e = .returned (.bool (initOk x)) ∧ On w w' := by
  have hL := fun W => isLocation_is x.l W
  unfold initOk
  generalize locOk x.l = b at hL ⊢
  go_enter Tryd.func33, Tryd.ntmps33
  go_wp2_with fail
  refine (hL _).mono ?_
  rintro e w1 ⟨rfl, rfl⟩
  go_wp2
  go_ret
  exact ⟨rfl, (On.refl w).alloc _⟩
set_option maxHeartbeats 1000000 in
theorem cloIni_is (x : InitT) (B : Nat) (w : World) (hB : B < w.heap.size) (hc : w.cell? ⟨B, 0, none⟩ = some (.func (.func 33) #[] #[])) :
    Calls Tryd.prog 55 #[.agg #[.int .i64 x.l, .int .i64 x.v], .pointer (some ⟨B, 0, none⟩)] w fun e w' => e = .returned (.bool (!initOk x)) ∧ On w w' := by
  have hO := fun W => okInit_is x W
  have hne : B ≠ w.heap.size := by omega
  generalize initOk x = b at hO ⊢
  cases b
  all_goals
    go_enter Tryd.func55, Tryd.ntmps55
    go_wp2_with (go_at_call 33; refine (hO _).mono ?_; rintro e w1 ⟨rfl, k1⟩)
    go_ret
    exact ⟨rfl, ((On.refl w).alloc _).trans k1⟩
set_option maxHeartbeats 2000000 in
theorem idxIni_is (L : List InitT) (a : Option Addr) (c B : Nat) (w : World) (h : Rd iniC 2 w (.slice a L.length c) L) (hB : B < w.heap.size) (hc : w.cell? ⟨B, 0, none⟩ = some (.func (.func 33) #[] #[])) :
    Calls Tryd.prog 77 #[.slice a L.length c, .func (.func 55) #[] #[.pointer (some ⟨B, 0, none⟩)]] w fun e w' => ∃ r : Int, e = .returned (.int .i64 r) ∧ decide (0 ≤ r) = L.any (fun x => !initOk x) ∧ On w w' := by
  obtain ⟨a', c', hv, hcc, hm, hr⟩ := h
  simp only [Value.slice.injEq] at hv
  obtain ⟨rfl, _, rfl⟩ := hv
  go_enter Tryd.func77, Tryd.ntmps77
  go_wp2
  go_loopg [5, 8] L.length (fun gg _ s8 wr => ∃ n : Nat, n ≤ L.length ∧ gg = L.length - n ∧ s8 = .int .i64 n ∧ Hid (On w wr) ∧ Hid (L.any (fun x => !initOk x) = (L.drop n).any (fun x => !initOk x)))
  case atStart => exact ⟨0, Nat.zero_le _, rfl, rfl, On.refl w, rfl⟩
  case round =>
    obtain ⟨n, hn, hk, rfl, hon, hany⟩ := hrel
    rcases Nat.lt_or_ge n L.length with hlt | hge
    · obtain ⟨x, hx⟩ : ∃ x, L[n]? = some x := ⟨_, List.getElem?_eq_getElem hlt⟩
      obtain ⟨g, off, rfl, hg, hcell⟩ := hr (by omega)
      have u0 : wr.cell? ⟨g, off + n * 2, none⟩ = _ := (hon.out.cell (p := ⟨g, off + n * 2, none⟩) hg).trans (hcell n x 0 _ hx rfl)
      have u1 : wr.cell? ⟨g, off + n * 2 + 1, none⟩ = _ := (hon.out.cell (p := ⟨g, off + n * 2 + 1, none⟩) hg).trans (hcell n x 1 _ hx rfl)
      have hg' := Nat.lt_of_lt_of_le hg hon.out.size
      have hcl := cloIni_is x B wr (Nat.lt_of_lt_of_le hB hon.out.size) ((hon.out.cell (p := ⟨B, 0, none⟩) hB).trans hc)
      have hd : Hid (L.drop n = x :: L.drop (n + 1)) := drop_at hx
      have hx' : Hid (L[n]? = some x) := hx
      clear hcell hr hc hx
      cases hq : initOk x with
      | true =>
        rw [hq] at hcl
        go_wp2_with (go_at_call 55; refine hcl.mono ?_; rintro e w1 ⟨rfl, k1⟩)
        go_roundg (L.length - (n + 1))
        case measure => omega
        case rel => exact ⟨n + 1, by omega, rfl, by go_num, hon.out.trans k1, by rw [hany.out, hd.out, List.any_cons, hq]; rfl⟩
      | false =>
        rw [hq] at hcl
        go_wp2_with (go_at_call 55; refine hcl.mono ?_; rintro e w1 ⟨rfl, k1⟩)
        go_ret
        exact ⟨n, rfl, by rw [any_here hx'.out (by rw [hq]; rfl)]; simp, hon.out.trans k1⟩
    · go_wp2
      go_ret
      exact ⟨-1, rfl, by rw [hany.out, List.drop_of_length_le hge]; rfl, hon.out⟩
set_option maxHeartbeats 1000000 in
theorem conIni_is (L : List InitT) (a : Option Addr) (c B : Nat) (w : World) (h : Rd iniC 2 w (.slice a L.length c) L) (hB : B < w.heap.size) (hc : w.cell? ⟨B, 0, none⟩ = some (.func (.func 33) #[] #[])) :
    Calls Tryd.prog 54 #[.slice a L.length c, .func (.func 55) #[] #[.pointer (some ⟨B, 0, none⟩)]] w fun e w' => e = .returned (.bool (L.any (fun x => !initOk x))) ∧ On w w' := by
  have hI := idxIni_is L a c B w h hB hc
  generalize L.any (fun x => !initOk x) = b at hI ⊢
  go_enter Tryd.func54, Tryd.ntmps54
  go_wp2_with (go_at_call 77; refine hI.mono ?_; rintro e w1 ⟨r, rfl, hr, k1⟩)
  go_ret
  exact ⟨rfl, k1⟩
set_option maxHeartbeats 1000000 in
theorem allIni_is (L : List InitT) (a : Option Addr) (c : Nat) (w : World) (h : Rd iniC 2 w (.slice a L.length c) L) :
    Calls Tryd.prog 32 #[.slice a L.length c, .func (.func 33) #[] #[]] w fun e w' => e = .returned (.bool (L.all initOk)) ∧ On w w' := by
  rw [← all_not]
  have hI := fun T => conIni_is L a c w.heap.size (w.alloc (.cells #[.func (.func 33) #[] #[]] T)) (h.on ((On.refl w).alloc _)) (by simp) (by simp)
  generalize L.any (fun x => !initOk x) = b at hI ⊢
  cases b
  all_goals
    go_enter Tryd.func32, Tryd.ntmps32
    go_wp2_with (go_at_call 54; refine (hI _).mono ?_; rintro e w1 ⟨rfl, k1⟩)
    go_ret
    exact ⟨rfl, ((On.refl w).alloc _).trans k1⟩
end Go.Proofs.YtlfeihgemdicfaaDoor
