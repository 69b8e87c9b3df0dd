/- Rows of events that are the same, held against each other. -/
import Derived.Test.YtkglmhclpgfngaaEvB
import Derived.Test.YtkglmhclpgfngaaEqs2
import Derived.BigQuiet
namespace Go.Proofs.Ytkglmhclpgfngaa
open Go.RowKit

theorem eqEv_same (w : World) (x0 x1 x2 x3 x4 x5 : Int) :
    (Op.equalIn 10000 23 (.agg #[.int .i64 x0, .int .i64 x1, .int .i64 x2, .int .i64 x3, .int .i64 x4, .int .i64 x5]) (.agg #[.int .i64 x0, .int .i64 x1, .int .i64 x2, .int .i64 x3, .int .i64 x4, .int .i64 x5])).run Try.prog w = .ok true w := by
  go_simp
theorem rd_ev {w : World} {E : List EvT} {a : Option Addr} {c : Nat} (h : Rd evC 6 w (.slice a E.length c) E) {n : Nat} {x : EvT} (hx : E[n]? = some x) :
    ∃ g off, a = some ⟨g, off, none⟩ ∧ g < w.heap.size ∧ w.cell? ⟨g, off + n * 6, none⟩ = some (.int .i64 x.t) ∧ w.cell? ⟨g, off + n * 6 + 1, none⟩ = some (.int .i64 x.i) ∧ w.cell? ⟨g, off + n * 6 + 2, none⟩ = some (.int .i64 x.k) ∧ w.cell? ⟨g, off + n * 6 + 3, none⟩ = some (.int .i64 x.l) ∧ w.cell? ⟨g, off + n * 6 + 4, none⟩ = some (.int .i64 x.r) ∧ w.cell? ⟨g, off + n * 6 + 5, none⟩ = some (.int .i64 x.w) := by
  obtain ⟨g, off, ha, hg, hc⟩ := h.at hx
  exact ⟨g, off, ha, hg, hc 0 _ rfl, hc 1 _ rfl, hc 2 _ rfl, hc 3 _ rfl, hc 4 _ rfl, hc 5 _ rfl⟩
set_option maxHeartbeats 2000000 in
theorem sEqual_is (E : List EvT) (a : Option Addr) (c : Nat) (b : Option Addr) (d : Nat) (w : World) (h : Rd evC 6 w (.slice a E.length c) E) (h' : Rd evC 6 w (.slice b E.length d) E) :
    Calls Try.prog 37 #[.slice a E.length c, .slice b E.length d] w fun e w' => e = .returned (.bool true) ∧ On w w' := by
  obtain ⟨_, _, _, _, hm⟩ := h.slice
  have HA : Hid (Rd evC 6 w (.slice a E.length c) E) := h
  have HB : Hid (Rd evC 6 w (.slice b E.length d) E) := h'
  have hE := fun W => eqEv_same W
  clear h h'
  go_enter Try.func37, Try.ntmps37
  go_wp2
  go_loopg [13] E.length (fun gg s13 wq => ∃ n : Nat, n ≤ E.length ∧ gg = E.length - n ∧ s13 = .int .i64 n ∧ Hid (On w wq))
  case atStart => exact ⟨0, Nat.zero_le _, rfl, rfl, On.refl w⟩
  case round =>
    obtain ⟨n, hn, hk, rfl, HO⟩ := hrel
    rcases Nat.lt_or_ge n E.length with hlt | hge
    · obtain ⟨x, hx⟩ : ∃ x, E[n]? = some x := ⟨_, List.getElem?_eq_getElem hlt⟩
      obtain ⟨g1, o1, rfl, hg1, p0, p1, p2, p3, p4, p5⟩ := rd_ev (HA.out.on HO.out) hx
      obtain ⟨g2, o2, rfl, hg2, q0, q1, q2, q3, q4, q5⟩ := rd_ev (HB.out.on HO.out) hx
      have bn0 : (0 : Int) ≤ (n : Int) := by omega
      have bn1 : (n : Int) < (E.length : Int) := by omega
      have hEx := fun W => hE W x.t x.i x.k x.l x.r x.w
      clear hx hE
      go_wp2
      go_quiet (fail)
      go_wp2
      go_roundg (E.length - (n + 1))
      case measure => omega
      case rel => exact ⟨n + 1, by omega, rfl, by go_num, On.drewN HO.out _⟩
    · obtain rfl : n = E.length := by omega
      go_wp2
      go_ret
      exact ⟨rfl, HO.out⟩
theorem evSame_is (E : List EvT) (a : Option Addr) (c : Nat) (b : Option Addr) (d : Nat) (w : World) (h : Rd evC 6 w (.slice a E.length c) E) (h' : Rd evC 6 w (.slice b E.length d) E) :
    Calls Try.prog 16 #[.slice a E.length c, .slice b E.length d] w fun e w' => e = .returned (.bool true) ∧ On w w' := by
  have hS := sEqual_is E a c b d w h h'
  clear h h'
  go_enter Try.func16, Try.ntmps16
  go_wp2_with fail
  refine hS.mono ?_
  rintro _ w1 ⟨rfl, k1⟩
  go_wp2
  go_ret
  exact ⟨rfl, k1⟩
end Go.Proofs.Ytkglmhclpgfngaa
