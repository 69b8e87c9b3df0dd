/- The walk of the law ParseFirst, case by case. -/
import Derived.Test.YtnfmagafajpmpaaDoorFirstP
import Derived.Test.YtnfmagafajpmpaaDoorParseAwake
import Derived.Test.YtnfmagafajpmpaaDoorRefNextW
import Derived.Test.YtnfmagafajpmpaaDoorMath
namespace Go.Proofs.YtnfmagafajpmpaaDoor
open Go.RowKit

theorem parse_at (s : ByteArray) (hs : s.size ≤ 140737488351232) {c q : Nat} (h : (parseP s).2 = (c, q)) (w : World) (hw : Lw w) :
    Calls Tryd.prog 4 #[.string s] w fun e w' => ∃ n a1 m1 c1 a2 m2 c2 k a3 m3 c3, e = .returned (.tuple #[.agg #[.string n, .slice a1 m1 c1, .slice a2 m2 c2, .int .i64 k, .slice a3 m3 c3], .agg #[.int .i64 c, .int .i64 q]]) ∧ On w w' := by
  refine (parseGo_is s hs w hw).mono ?_
  rintro e w' ⟨v, rfl, ⟨a1, m1, c1, a2, m2, c2, a3, m3, c3, rfl, _, _, _⟩, k⟩
  rw [h]
  exact ⟨_, a1, m1, c1, a2, m2, c2, _, a3, m3, c3, rfl, k⟩

set_option linter.unusedVariables false
set_option maxHeartbeats 1000000 in
set_option maxRecDepth 40000 in
theorem first_ok (s u : ByteArray) (c p : Nat) (hs : s.size ≤ 140737488351232) (hu : u.size ≤ 140737488351232) (hA : (parseP s).2 = (c, p)) (h0 : ((c : Int) == 0) = true) (w : World) (hw : Lw w) :
    Calls Tryd.prog 3 #[.string s, .string u] w fun e w' => e = .returned (.bool true) ∧ On w w' := by
  have hPA := fun W (h : Lw W) => parse_at s hs hA W h
  clear hA
  go_enter Tryd.func3, Tryd.ntmps3
  go_wp2_with fail
  refine (hPA _ hw).mono ?_
  rintro e w1 ⟨n, a1, m1, c1, a2, m2, c2, q, a3, m3, c3, rfl, k1⟩
  have W1 : Hid (On w w1) := k1
  clear k1
  go_wp2_with fail
  refine (awake_any _ (hw.on ((W1.out.alloc _).alloc _))).mono ?_
  rintro e w3 ⟨rfl, k3⟩
  have W3 : Hid (On w w3) := ((W1.out.alloc _).alloc _).trans k3
  clear k3 W1
  go_wp2
  all_goals (try go_ret)
  all_goals exact ⟨rfl, W3.out⟩

set_option maxHeartbeats 1000000 in
set_option maxRecDepth 40000 in
theorem first_long (s u : ByteArray) (c p : Nat) (hs : s.size ≤ 140737488351232) (hu : u.size ≤ 140737488351232) (hA : (parseP s).2 = (c, p)) (h0 : ((c : Int) == 0) = false) (h1 : ((c : Int) == 2) = true) (w : World) (hw : Lw w) :
    Calls Tryd.prog 3 #[.string s, .string u] w fun e w' => e = .returned (.bool true) ∧ On w w' := by
  have hPA := fun W (h : Lw W) => parse_at s hs hA W h
  clear hA
  go_enter Tryd.func3, Tryd.ntmps3
  go_wp2_with fail
  refine (hPA _ hw).mono ?_
  rintro e w1 ⟨n, a1, m1, c1, a2, m2, c2, q, a3, m3, c3, rfl, k1⟩
  have W1 : Hid (On w w1) := k1
  clear k1
  go_wp2_with fail
  refine (awake_any _ (hw.on ((W1.out.alloc _).alloc _))).mono ?_
  rintro e w3 ⟨rfl, k3⟩
  have W3 : Hid (On w w3) := ((W1.out.alloc _).alloc _).trans k3
  clear k3 W1
  go_wp2
  all_goals (try go_ret)
  all_goals exact ⟨rfl, W3.out⟩

set_option maxHeartbeats 1000000 in
set_option maxRecDepth 40000 in
theorem first_much (s u : ByteArray) (c p : Nat) (hs : s.size ≤ 140737488351232) (hu : u.size ≤ 140737488351232) (hA : (parseP s).2 = (c, p)) (h0 : ((c : Int) == 0) = false) (h1 : ((c : Int) == 2) = false) (h2 : 3900 < (s.size : Int) + (u.size : Int)) (w : World) (hw : Lw w) :
    Calls Tryd.prog 3 #[.string s, .string u] w fun e w' => e = .returned (.bool true) ∧ On w w' := by
  have hPA := fun W (h : Lw W) => parse_at s hs hA W h
  clear hA
  go_enter Tryd.func3, Tryd.ntmps3
  go_wp2_with fail
  refine (hPA _ hw).mono ?_
  rintro e w1 ⟨n, a1, m1, c1, a2, m2, c2, q, a3, m3, c3, rfl, k1⟩
  have W1 : Hid (On w w1) := k1
  clear k1
  go_wp2_with fail
  refine (awake_any _ (hw.on ((W1.out.alloc _).alloc _))).mono ?_
  rintro e w3 ⟨rfl, k3⟩
  have W3 : Hid (On w w3) := ((W1.out.alloc _).alloc _).trans k3
  clear k3 W1
  go_wp2
  all_goals (try go_ret)
  all_goals exact ⟨rfl, W3.out⟩

set_option maxHeartbeats 1000000 in
set_option maxRecDepth 40000 in
theorem first_end (s u : ByteArray) (c p : Nat) (hs : s.size ≤ 140737488351232) (hu : u.size ≤ 140737488351232) (hA : (parseP s).2 = (c, p)) (h0 : ((c : Int) == 0) = false) (h1 : ((c : Int) == 2) = false) (h2 : (s.size : Int) + (u.size : Int) ≤ 3900) (h3 : (s.size : Int) ≤ (p : Int)) (w : World) (hw : Lw w) :
    Calls Tryd.prog 3 #[.string s, .string u] w fun e w' => e = .returned (.bool true) ∧ On w w' := by
  have hPA := fun W (h : Lw W) => parse_at s hs hA W h
  clear hA
  go_enter Tryd.func3, Tryd.ntmps3
  go_wp2_with fail
  refine (hPA _ hw).mono ?_
  rintro e w1 ⟨n, a1, m1, c1, a2, m2, c2, q, a3, m3, c3, rfl, k1⟩
  have W1 : Hid (On w w1) := k1
  clear k1
  go_wp2_with fail
  refine (awake_any _ (hw.on ((W1.out.alloc _).alloc _))).mono ?_
  rintro e w3 ⟨rfl, k3⟩
  have W3 : Hid (On w w3) := ((W1.out.alloc _).alloc _).trans k3
  clear k3 W1
  go_wp2
  all_goals (try go_ret)
  all_goals exact ⟨rfl, W3.out⟩

set_option maxHeartbeats 1000000 in
set_option maxRecDepth 40000 in
theorem first_tok (s u : ByteArray) (c p : Nat) (hs : s.size ≤ 140737488351232) (hu : u.size ≤ 140737488351232) (hA : (parseP s).2 = (c, p)) (h0 : ((c : Int) == 0) = false) (h1 : ((c : Int) == 2) = false) (h2 : (s.size : Int) + (u.size : Int) ≤ 3900) (h3 : (p : Int) < (s.size : Int)) (he : eC pB s p = 0) (w : World) (hw : Lw w) :
    Calls Tryd.prog 3 #[.string s, .string u] w fun e w' => e = .returned (.bool true) ∧ On w w' := by
  have hPA := fun W (h : Lw W) => parse_at s hs hA W h
  have hc : c ≠ 0 := by rintro rfl; cases h0
  have hp : p < s.size := by omega
  obtain ⟨hF, hFz⟩ := first_is (u := u) (by omega) hc hA hp
  obtain ⟨n1, n2, _⟩ := first_n (by omega) hc hA hp
  have hNx := fun W => rnext_is s p hs (Nat.le_of_lt hp) W
  have eN : firstN s p = to s p := by unfold firstN; rw [if_pos he]
  rw [eN] at hF hFz n1 n2
  unfold tkV rtoV erV at hNx
  simp only [he, if_true] at hNx
  obtain ⟨T, hT⟩ : ∃ T, to s p = T := ⟨_, rfl⟩
  simp only [hT] at hNx hF hFz n1 n2
  clear eN hT he
  have hPB := fun W (h : Lw W) => parse_at _ (Nat.le_trans hFz (by decide)) hF W h
  clear hA hF hFz hc
  go_enter Tryd.func3, Tryd.ntmps3
  go_wp2_with fail
  refine (hPA _ hw).mono ?_
  rintro e w1 ⟨n, a1, m1, c1, a2, m2, c2, q, a3, m3, c3, rfl, k1⟩
  have W1 : Hid (On w w1) := k1
  clear k1
  go_wp2_with fail
  refine (hNx _).mono ?_
  rintro e w2 ⟨rfl, k2⟩
  have W2 : Hid (On w w2) := ((W1.out.alloc _).alloc _).trans k2
  have B2 := (Bk.new2 w1 (.cells #[.string n, .slice a1 m1 c1, .slice a2 m2 c2, .int .i64 q, .slice a3 m3 c3] 28) #[.int .i64 c, .int .i64 p] 31).on k2
  clear k2 W1 hNx
  go_wp2_with fail
  refine (hPB _ (hw.on ((W2.out.alloc _).alloc _))).mono ?_
  rintro e w3 ⟨n', a1', m1', c1', a2', m2', c2', q', a3', m3', c3', rfl, k3⟩
  have W3 : Hid (On w w3) := ((W2.out.alloc _).alloc _).trans k3
  have B3 := ((B2.alloc _).alloc _).on k3
  have g0 : w3.cell? ⟨w1.heap.size + 1, 0, none⟩ = some (.int .i64 c) := B3.at rfl
  have g1 : w3.cell? ⟨w1.heap.size + 1, 1, none⟩ = some (.int .i64 p) := B3.at rfl
  have gl := B3.lt
  have gl1 := Nat.lt_succ_of_lt gl
  clear k3 W2 B2 B3
  go_wp2_with fail
  refine (awake_any _ (hw.on ((W3.out.alloc _).alloc _))).mono ?_
  rintro e w4 ⟨rfl, k4⟩
  have W4 : Hid (On w w4) := ((W3.out.alloc _).alloc _).trans k4
  clear k4 W3
  go_wp2
  all_goals (try go_ret)
  all_goals exact ⟨rfl, W4.out⟩

end Go.Proofs.YtnfmagafajpmpaaDoor
