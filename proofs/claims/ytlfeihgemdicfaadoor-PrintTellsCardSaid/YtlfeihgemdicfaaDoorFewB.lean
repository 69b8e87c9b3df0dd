/- Few: what it says of a test's sizes. -/
import Derived.Test.YtlfeihgemdicfaaDoorJ10Gen0
namespace Go.Proofs.YtlfeihgemdicfaaDoor
open Go.RowKit

/-- Few enough to be looked at. -/
structure FewT (t : TestT) : Prop where
  nm : t.name.size ≤ 60
  l1 : t.ini.length ≤ 40
  l2 : t.thr.length ≤ 6
  l3 : ∀ L ∈ t.thr, L.length ≤ 30
  l4 : t.cond.any.length ≤ 12
  l5 : ∀ r ∈ t.cond.any, r.length ≤ 12
theorem all_to {α : Type} {L : List (List α)} {m : Nat} (h : ∀ i x, i < L.length → L[i]? = some x → x.length ≤ m) : ∀ x ∈ L, x.length ≤ m := fun x hx => by
  obtain ⟨i, hi, e⟩ := List.mem_iff_getElem.1 hx
  exact h i x hi (by rw [List.getElem?_eq_getElem hi, e])
theorem all_next {α : Type} {L : List (List α)} {n m : Nat} {y : List α} (h : ∀ i x, i < n → L[i]? = some x → x.length ≤ m) (hy : L[n]? = some y) (hl : ¬ m < y.length) : ∀ i x, i < n + 1 → L[i]? = some x → x.length ≤ m := fun i x hi hx => by
  rcases Nat.lt_or_ge i n with h1 | h1
  · exact h i x h1 hx
  · have : i = n := by omega
    subst this
    rw [hx] at hy
    obtain rfl := Option.some.inj hy
    omega
def FewAns (P : Prop) (w w' : World) (e : Ending) : Prop := ∃ b : Bool, e = .returned (.bool b) ∧ (b = true → P) ∧ On w w'
theorem FewAns.no {P : Prop} {w w' : World} (k : On w w') : FewAns P w w' (.returned (.bool false)) := ⟨false, rfl, fun h => (by cases h), k⟩
theorem FewAns.yes {P : Prop} {w w' : World} (h : P) (k : On w w') : FewAns P w w' (.returned (.bool true)) := ⟨true, rfl, fun _ => h, k⟩
set_option maxHeartbeats 4000000 in
set_option maxRecDepth 8000 in
theorem fewB_is (t : TestT) (v : Value) (w : World) (h : TestRd w v t) :
    Calls Tryd.prog 10 #[v] w fun e w' => FewAns (FewT t) w w' e := by
  obtain ⟨a1, c1, a2, c2, a3, c3, rfl, hnm, r1, r2, r3⟩ := h.ex
  clear h
  obtain ⟨_, _, _, _, hm1⟩ := r1.slice
  obtain ⟨_, _, _, _, hm2⟩ := r2.slice
  obtain ⟨_, _, _, _, hm3⟩ := r3.slice
  have R2 : Hid (Rd2 insC 9 w (.slice a2 t.thr.length c2) t.thr) := r2
  have R3 : Hid (Rd2 atomC 4 w (.slice a3 t.cond.any.length c3) t.cond.any) := r3
  clear r1 r2 r3
  obtain ⟨P, hP⟩ : ∃ P : Prop, P = FewT t := ⟨_, rfl⟩
  have HP : Hid (t.name.size ≤ 60 → t.ini.length ≤ 40 → t.thr.length ≤ 6 → (∀ L ∈ t.thr, L.length ≤ 30) → t.cond.any.length ≤ 12 → (∀ r ∈ t.cond.any, r.length ≤ 12) → P) := fun h1 h2 h3 h4 h5 h6 => by rw [hP]; exact ⟨h1, h2, h3, h4, h5, h6⟩
  rw [← hP]
  clear hP
  generalize t.name = nm at *
  generalize t.cond.k = kk at *
  generalize t.ini.length = n1 at *
  generalize t.thr = THR at *
  generalize t.cond.any = ANY at *
  have K0 : Hid (∀ T cs, On w (w.alloc (.cells cs T))) := fun T cs => (On.refl w).alloc _
  by_cases p1 : 6 < THR.length
  · go_enter Tryd.func10, Tryd.ntmps10
    go_wp2
    go_ret
    exact FewAns.no (K0.out _ _)
  by_cases p2 : 40 < n1
  · go_enter Tryd.func10, Tryd.ntmps10
    go_wp2
    go_ret
    exact FewAns.no (K0.out _ _)
  by_cases p3 : 60 < nm.size
  · go_enter Tryd.func10, Tryd.ntmps10
    go_wp2
    go_ret
    exact FewAns.no (K0.out _ _)
  by_cases p4 : 12 < ANY.length
  · go_enter Tryd.func10, Tryd.ntmps10
    go_wp2
    go_ret
    exact FewAns.no (K0.out _ _)
  go_enter Tryd.func10, Tryd.ntmps10
  go_wp2
  go_loopg [3] THR.length (fun gg s3 wq => ∃ n : Nat, n ≤ THR.length ∧ gg = THR.length - n ∧ s3 = .int .i64 n ∧ Hid (On w wq) ∧ Bk wq w.heap.size #[.string nm, .slice a1 n1 c1, .slice a2 THR.length c2, .int .i64 kk, .slice a3 ANY.length c3] ∧ Hid (∀ i x, i < n → THR[i]? = some x → x.length ≤ 30))
  case atStart => exact ⟨0, Nat.zero_le _, rfl, rfl, K0.out _ _, Bk.new w _ _, fun i x h _ => absurd h (Nat.not_lt_zero i)⟩
  case round =>
    obtain ⟨n, hn, hk, rfl, HO, TB, HC⟩ := hrel
    have t2 := TB.at (i := 2) rfl
    have tl := TB.lt
    rcases Nat.lt_or_ge n THR.length with hlt | hge
    · obtain ⟨x, hx⟩ : ∃ x, THR[n]? = some x := ⟨_, List.getElem?_eq_getElem hlt⟩
      obtain ⟨g, off, rfl, hg, ax, cx, u0, hxm, _⟩ := (R2.out.on HO.out).row hx
      by_cases h30 : 30 < x.length
      · clear hx
        go_wp2
        go_ret
        exact FewAns.no HO.out
      · have HC2 : Hid (∀ i x, i < n + 1 → THR[i]? = some x → x.length ≤ 30) := all_next HC.out hx h30
        clear hx
        go_wp2
        go_roundg (THR.length - (n + 1))
        case measure => omega
        case rel => exact ⟨n + 1, hlt, rfl, by congr 1, HO, TB, HC2⟩
    · have hnn : ¬ n < THR.length := by omega
      obtain rfl : n = THR.length := by omega
      have HT30 : Hid (∀ L ∈ THR, L.length ≤ 30) := all_to HC.out
      clear HC
      go_wp2
      go_loopg [4] ANY.length (fun gg s4 wq => ∃ n : Nat, n ≤ ANY.length ∧ gg = ANY.length - n ∧ s4 = .int .i64 n ∧ Hid (On w wq) ∧ Bk wq w.heap.size #[.string nm, .slice a1 n1 c1, .slice a2 THR.length c2, .int .i64 kk, .slice a3 ANY.length c3] ∧ Hid (∀ i x, i < n → ANY[i]? = some x → x.length ≤ 12))
      case atStart => exact ⟨0, Nat.zero_le _, rfl, rfl, HO, TB, fun i x h _ => absurd h (Nat.not_lt_zero i)⟩
      case round =>
        clear t2 tl HO TB hnn hge hk hn
        obtain ⟨m, hn, hk, rfl, HO, TB, HC⟩ := hrel
        have t4 := TB.at (i := 4) rfl
        have tl := TB.lt
        rcases Nat.lt_or_ge m ANY.length with hlt | hge
        · obtain ⟨x, hx⟩ : ∃ x, ANY[m]? = some x := ⟨_, List.getElem?_eq_getElem hlt⟩
          obtain ⟨g, off, rfl, hg, ax, cx, u0, hxm, _⟩ := (R3.out.on HO.out).row hx
          by_cases h30 : 12 < x.length
          · clear hx
            go_wp2
            go_ret
            exact FewAns.no HO.out
          · have HC2 : Hid (∀ i x, i < m + 1 → ANY[i]? = some x → x.length ≤ 12) := all_next HC.out hx h30
            clear hx
            go_wp2
            go_roundg (ANY.length - (m + 1))
            case measure => omega
            case rel => exact ⟨m + 1, hlt, rfl, by congr 1, HO, TB, HC2⟩
        · have hnn : ¬ m < ANY.length := by omega
          obtain rfl : m = ANY.length := by omega
          have HF : P := HP.out (by omega) (by omega) (by omega) HT30.out (by omega) (all_to HC.out)
          clear HC
          go_wp2
          go_ret
          exact FewAns.yes HF HO.out
end Go.Proofs.YtlfeihgemdicfaaDoor
