/- Few: it answers, yes or no. -/
import Derived.Test.YtengdlchglkkjaaDoorCheckD
namespace Go.Proofs.YtengdlchglkkjaaDoor
open Go.RowKit

set_option maxHeartbeats 4000000 in
set_option maxRecDepth 8000 in
theorem few_is (t : TestT) (v : Value) (w : World) (h : TestRd w v t) :
    Calls Tryd.prog 6 #[v] w fun e w' => ∃ b : Bool, e = .returned (.bool b) ∧ On w w' := by
  obtain ⟨a1, c1, a2, c2, a3, c3, rfl, hnm, r1, r2, r3⟩ := h.ex
  clear h
  obtain ⟨_, _, _, _, hm1⟩ := r1.slice
  obtain ⟨_, _, _, _, hm2⟩ := r2.slice
  obtain ⟨_, _, _, _, hm3⟩ := r3.slice
  have R2 : Hid (Rd2 insC 9 w (.slice a2 t.thr.length c2) t.thr) := r2
  have R3 : Hid (Rd2 atomC 4 w (.slice a3 t.cond.any.length c3) t.cond.any) := r3
  clear r1 r2 r3
  generalize t.name = nm at *
  generalize t.cond.k = kk at *
  generalize t.ini.length = n1 at *
  generalize t.thr = THR at *
  generalize t.cond.any = ANY at *
  have K0 : Hid (∀ T cs, On w (w.alloc (.cells cs T))) := fun T cs => (On.refl w).alloc _
  by_cases p1 : 6 < THR.length
  · go_enter Tryd.func6, Tryd.ntmps6
    go_wp2
    go_ret
    first | exact ⟨Or.inl rfl, K0.out _ _⟩ | exact ⟨_, rfl, K0.out _ _⟩
  by_cases p2 : 40 < n1
  · go_enter Tryd.func6, Tryd.ntmps6
    go_wp2
    go_ret
    first | exact ⟨Or.inl rfl, K0.out _ _⟩ | exact ⟨_, rfl, K0.out _ _⟩
  by_cases p3 : 60 < nm.size
  · go_enter Tryd.func6, Tryd.ntmps6
    go_wp2
    go_ret
    first | exact ⟨Or.inl rfl, K0.out _ _⟩ | exact ⟨_, rfl, K0.out _ _⟩
  by_cases p4 : 12 < ANY.length
  · go_enter Tryd.func6, Tryd.ntmps6
    go_wp2
    go_ret
    first | exact ⟨Or.inl rfl, K0.out _ _⟩ | exact ⟨_, rfl, K0.out _ _⟩
  go_enter Tryd.func6, Tryd.ntmps6
  go_wp2
  go_loopg [3] THR.length (fun gg s3 wq => ∃ n : Nat, n ≤ THR.length ∧ gg = THR.length - n ∧ s3 = .int .i64 n ∧ Hid (On w wq) ∧ Bk wq w.heap.size #[.string nm, .slice a1 n1 c1, .slice a2 THR.length c2, .int .i64 kk, .slice a3 ANY.length c3])
  case atStart => exact ⟨0, Nat.zero_le _, rfl, rfl, K0.out _ _, Bk.new w _ _⟩
  case round =>
    obtain ⟨n, hn, hk, rfl, HO, TB⟩ := hrel
    have t2 := TB.at (i := 2) rfl
    have tl := TB.lt
    rcases Nat.lt_or_ge n THR.length with hlt | hge
    · obtain ⟨x, hx⟩ : ∃ x, THR[n]? = some x := ⟨_, List.getElem?_eq_getElem hlt⟩
      obtain ⟨g, off, rfl, hg, ax, cx, u0, hxm, _⟩ := (R2.out.on HO.out).row hx
      clear hx
      by_cases h30 : 30 < x.length
      · go_wp2
        go_ret
        first | exact ⟨Or.inl rfl, HO.out⟩ | exact ⟨_, rfl, HO.out⟩
      · go_wp2
        go_roundg (THR.length - (n + 1))
        case measure => omega
        case rel => exact ⟨n + 1, hlt, rfl, by congr 1, HO, TB⟩
    · have hnn : ¬ n < THR.length := by omega
      go_wp2
      go_loopg [4] ANY.length (fun gg s4 wq => ∃ n : Nat, n ≤ ANY.length ∧ gg = ANY.length - n ∧ s4 = .int .i64 n ∧ Hid (On w wq) ∧ Bk wq w.heap.size #[.string nm, .slice a1 n1 c1, .slice a2 THR.length c2, .int .i64 kk, .slice a3 ANY.length c3])
      case atStart => exact ⟨0, Nat.zero_le _, rfl, rfl, HO, TB⟩
      case round =>
        clear t2 tl HO TB hnn hge hk hn
        obtain ⟨m, hn, hk, rfl, HO, TB⟩ := hrel
        have t4 := TB.at (i := 4) rfl
        have tl := TB.lt
        rcases Nat.lt_or_ge m ANY.length with hlt | hge
        · obtain ⟨x, hx⟩ : ∃ x, ANY[m]? = some x := ⟨_, List.getElem?_eq_getElem hlt⟩
          obtain ⟨g, off, rfl, hg, ax, cx, u0, hxm, _⟩ := (R3.out.on HO.out).row hx
          clear hx
          by_cases h30 : 12 < x.length
          · go_wp2
            go_ret
            first | exact ⟨Or.inl rfl, HO.out⟩ | exact ⟨_, rfl, HO.out⟩
          · go_wp2
            go_roundg (ANY.length - (m + 1))
            case measure => omega
            case rel => exact ⟨m + 1, hlt, rfl, by congr 1, HO, TB⟩
        · have hnn : ¬ m < ANY.length := by omega
          go_wp2
          go_ret
          first | exact ⟨Or.inr rfl, HO.out⟩ | exact ⟨_, rfl, HO.out⟩
end Go.Proofs.YtengdlchglkkjaaDoor
