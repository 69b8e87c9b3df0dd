/- print.Ok for every test that lies in memory. -/
import Derived.Test.YtlfeihgemdicfaaDoorAllB
import Derived.Test.YtlfeihgemdicfaaDoorAllC
import Derived.Test.YtlfeihgemdicfaaDoorWordW
namespace Go.Proofs.YtlfeihgemdicfaaDoor
open Go.RowKit

set_option maxHeartbeats 1000000 in
set_option maxRecDepth 8000 in
theorem okCond_is (c : CondT) (a : Option Addr) (cc : Nat) (w : World) (h : Rd2 atomC 4 w (.slice a c.any.length cc) c.any) :
    Calls Tryd.prog 36 #[.agg #[.int .i64 c.k, .slice a c.any.length cc]] w fun e w' => e = .returned (.bool (condOk c)) ∧ On w w' := by
  obtain ⟨k, LL⟩ := c
  have hI := fun T => allRow_is LL a cc (w.alloc T) (h.on ((On.refl w).alloc T))
  obtain ⟨_, _, _, _, hm⟩ := h.slice
  unfold condOk
  simp only at hI hm ⊢
  generalize LL.all rowOk = b at hI ⊢
  clear h
  have hl : (LL.length == 0) = decide (LL.length = 0) := rfl
  by_cases h0 : k = 0
  · subst h0
    rcases Nat.eq_zero_or_pos LL.length with hz | hz
    · rw [hz]
      go_enter Tryd.func36, Tryd.ntmps36
      go_wp2
      go_ret
      exact ⟨rfl, (On.refl w).alloc _⟩
    · have hz' : ((LL.length : Int) == 0) = false := by simpa using (by omega : ¬ (LL.length : Int) = 0)
      have hz2 : (LL.length == 0) = false := by rw [hl]; exact decide_eq_false (by omega)
      have e1 : (if (0 : Int) == 0 then LL.length == 0 else if (0 : Int) == 1 || (0 : Int) == 2 then decide (0 < LL.length) && b else false) = false := by rw [hz2]; rfl
      rw [e1]
      clear e1 hz2 hl
      go_enter Tryd.func36, Tryd.ntmps36
      go_wp2
      go_ret
      exact ⟨rfl, (On.refl w).alloc _⟩
  · have b0 : (k == 0) = false := by simpa using h0
    by_cases h12 : k = 1 ∨ k = 2
    · have b1 : (k == 1 || k == 2) = true := by simpa using h12
      have e1 : (if k == 0 then LL.length == 0 else if k == 1 || k == 2 then decide (0 < LL.length) && b else false) = (decide (0 < LL.length) && b) := by rw [b0, b1]; rfl
      rw [e1]
      clear e1 b1 hl
      rcases Nat.eq_zero_or_pos LL.length with hz | hz
      · rw [hz]
        rcases h12 with rfl | rfl
        all_goals
          go_enter Tryd.func36, Tryd.ntmps36
          go_wp2
          go_ret
          exact ⟨rfl, (On.refl w).alloc _⟩
      · rw [decide_eq_true hz]
        rcases h12 with rfl | rfl
        all_goals
          go_enter Tryd.func36, Tryd.ntmps36
          go_wp2_with (go_at_call 59; refine (hI _).mono ?_; rintro e w1 ⟨rfl, k1⟩)
          go_ret
          exact ⟨rfl, ((On.refl w).alloc _).trans k1⟩
    · have h1 : ¬ k = 1 := fun h => h12 (Or.inl h)
      have h2 : ¬ k = 2 := fun h => h12 (Or.inr h)
      have b1 : (k == 1) = false := by simpa using h1
      have b2 : (k == 2) = false := by simpa using h2
      go_enter Tryd.func36, Tryd.ntmps36
      go_wp2
      go_ret
      exact ⟨by simp, (On.refl w).alloc _⟩

set_option maxHeartbeats 2000000 in
set_option maxRecDepth 8000 in
theorem ok_is (t : TestT) (v : Value) (w : World) (lw : Lw w) (h : TestRd w v t) :
    Calls Tryd.prog 11 #[v] w fun e w' => e = .returned (.bool (testOk t)) ∧ On w w' := by
  obtain ⟨a1, c1, a2, c2, a3, c3, rfl, hn, r1, r2, r3⟩ := h.ex
  clear h
  have hW := fun W => isWord_is t.name W hn
  have hI := fun W (k : On w W) => allIni_is t.ini a1 c1 W (r1.on k)
  have hT := fun W (k : On w W) => allThr_is t.thr a2 c2 W (lw.on k) (r2.on k)
  have hC := fun W (k : On w W) => okCond_is t.cond a3 c3 W (r3.on k)
  have k0 : ∀ T, On w (w.alloc T) := fun T => (On.refl w).alloc T
  have bk : ∀ cs T, Bk (w.alloc (.cells cs T)) w.heap.size cs := fun cs T => Bk.new w cs T
  unfold testOk
  clear r1 r2 r3 lw hn
  generalize t.ini.all initOk = b2 at hI ⊢
  generalize t.thr.all threadOk = b3 at hT ⊢
  generalize condOk t.cond = b4 at hC ⊢
  generalize wordOk t.name = b1 at hW ⊢
  generalize t.ini.length = m1 at hI ⊢
  generalize t.thr.length = m2 at hT ⊢
  generalize t.cond.any.length = m3 at hC ⊢
  generalize t.cond.k = kk at hC ⊢
  generalize t.name = nm at hW ⊢
  cases b1 with
  | false =>
    go_enter Tryd.func11, Tryd.ntmps11
    go_wp2_with (go_at_call 31; refine (hW _).mono ?_; rintro e w1 ⟨rfl, k1⟩)
    go_ret
    exact ⟨rfl, (k0 _).trans k1⟩
  | true =>
    go_enter Tryd.func11, Tryd.ntmps11
    go_wp2_with fail
    refine (hW _).mono ?_
    rintro e w1 ⟨rfl, k1⟩
    have B1 := (bk _ _).on k1
    have K1 : Hid (On w w1) := (k0 _).trans k1
    have x1 := B1.at (i := 1) rfl
    have s1 := B1.lt
    clear hW k1 bk k0
    cases b2 with
    | false =>
      go_wp2_with (go_at_call 32; refine (hI _ K1.out).mono ?_; rintro e w2 ⟨rfl, k2⟩)
      go_ret
      exact ⟨rfl, K1.out.trans k2⟩
    | true =>
      go_wp2_with fail
      refine (hI _ K1.out).mono ?_
      rintro e w2 ⟨rfl, k2⟩
      have B2 := B1.on k2
      have K2 : Hid (On w w2) := K1.out.trans k2
      have x2 := B2.at (i := 2) rfl
      have s2 := B2.lt
      clear hI k2 K1 B1 x1 s1
      cases b3 with
      | false =>
        go_wp2_with (go_at_call 34; refine (hT _ K2.out).mono ?_; rintro e w3 ⟨rfl, k3⟩)
        go_ret
        exact ⟨rfl, K2.out.trans k3⟩
      | true =>
        go_wp2_with fail
        refine (hT _ K2.out).mono ?_
        rintro e w3 ⟨rfl, k3⟩
        have B3 := B2.on k3
        have K3 : Hid (On w w3) := K2.out.trans k3
        have x3 := B3.at (i := 3) rfl
        have x4 := B3.at (i := 4) rfl
        have s3 := B3.lt
        clear hT k3 K2 B2 x2 s2
        go_wp2_with (go_at_call 36; refine (hC _ K3.out).mono ?_; rintro e w4 ⟨rfl, k4⟩)
        go_ret
        exact ⟨rfl, K3.out.trans k4⟩
end Go.Proofs.YtlfeihgemdicfaaDoor
