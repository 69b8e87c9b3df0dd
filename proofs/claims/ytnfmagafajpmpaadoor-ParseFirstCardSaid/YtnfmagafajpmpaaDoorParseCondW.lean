/- A condition, as the parser takes it. -/
import Derived.Test.YtnfmagafajpmpaaDoorParseCond
namespace Go.Proofs.YtnfmagafajpmpaaDoor
open Go.RowKit

theorem own_setFar {w : World} {base k n N i : Nat} {e : TypeId} {v : Value} {xs : List Value} (h : w.ownsRow base e k v n xs) (hN : N < base) (u : Value) : (w.setCell ⟨N, i, none⟩ u).ownsRow base e k v n xs := by
  refine ⟨h.1, ?_⟩
  rcases h.2 with h2 | ⟨g, cap, cur, hv, hb, hh, r⟩
  · exact Or.inl h2
  · exact Or.inr ⟨g, cap, cur, hv, hb, (Below.heap_setCell _ _ _ _ (show g ≠ N by omega)).trans hh, r⟩
theorem Own2.setFar {α : Type} {C : α → List Value} {k : Nat} {eo ei : TypeId} {w : World} {base N i : Nat} {v : Value} {LL : List (List α)} (h : Own2 C k eo ei w base v LL) (hN : N < base) (u : Value) : Own2 C k eo ei (w.setCell ⟨N, i, none⟩ u) base v LL := by
  obtain ⟨vs, h1, h2, h3⟩ := h
  exact ⟨vs, h1, own_setFar h2 hN u, fun i u L a b => own_setFar (h3 i u L a b) hN _⟩

section
variable (w : World) (p l : Nat) (s : ByteArray) (S : St)
set_option maxHeartbeats 1000000
set_option maxRecDepth 8000
/-- What a condition's call leaves. -/
def CondPost (w : World) (p l : Nat) (s : ByteArray) (R : CondT × St) (e : Ending) (w' : World) : Prop :=
  ∃ a m c, e = .returned (.agg #[.int .i64 R.1.k, .slice a m c]) ∧ AnyAt w' (w.heap.size + 1) (.slice a m c) R.1.any ∧ Px w' p l s R.2 ∧ Wp p l w w'

theorem cond_exists (q1 : isX s xExists S = true) (h : Px w p l s S) :
    Calls Tryd.prog 24 #[.pointer (some ⟨p, 0, none⟩)] w (CondPost w p l s (⟨1, (rowsP s (nx s S)).1⟩, expS s xSemi (rowsP s (nx s S)).2)) := by
  have hx : ∀ o, Px (w.alloc o) p l s S := fun o => h.alloc o
  have hlp := h.lp
  have hll := h.ll
  clear h
  go_enter Tryd.func24, Tryd.ntmps24
  go_wp2_with fail
  refine (acc_yes _ p l s S xExists (ne_nil _ _) q1 (hx _)).mono ?_
  rintro e w1 ⟨rfl, h1, hw1⟩
  have B1 := (Bk.new w _ _).wp hw1 (by omega) (by omega)
  have W1 : Hid (Wp p l w w1) := ((Wp.refl p l w).alloc _).trans hw1
  clear hw1 hx
  have L1 := B1.lt
  go_wp2_with fail
  refine (partedRow_is _ p l s _ xOr (ne_nil _ _) h1).mono ?_
  rintro e w2 ⟨a, m, c, rfl, ho, h2, hw2⟩
  have B2 := B1.wp hw2 (by omega) (by omega)
  have W2 : Hid (Wp p l w w2) := W1.out.trans hw2
  clear hw2 B1 h1 W1
  go_wp2_with fail
  refine (expect_is _ p l s _ xSemi (ne_nil _ _) h2).mono ?_
  rintro e w3 ⟨rfl, h3, hw3⟩
  have ho2 := (ho.mono (show w.heap.size + 1 ≤ w1.heap.size from L1)).wp hw3 (by omega) (by omega)
  obtain ⟨T, hB⟩ := B2.wp hw3 (by omega) (by omega)
  have W3 : Hid (Wp p l w w3) := W2.out.trans hw3
  have dc0 : w3.cell? ⟨w.heap.size, 0, none⟩ = some (.int .i64 0) := by simp [World.cell?, hB]
  have dc1 : w3.cell? ⟨w.heap.size, 1, none⟩ = some (.slice none 0 0) := by simp [World.cell?, hB]
  have df0 : w3.frozen? ⟨w.heap.size, 0, none⟩ = false := by simp [World.frozen?, hB]
  have df1 : w3.frozen? ⟨w.heap.size, 1, none⟩ = false := by simp [World.frozen?, hB]
  clear hw3 B2 h2 hB ho W2
  go_wp2
  (try simp only [Exit.inBlock, Exit.then])
  refine bodyPost_ret (v := .agg #[.int .i64 1, .slice a m c]) ?_ rfl ⟨a, m, c, rfl, (ho2.setFar (Nat.lt_succ_self _) _).setFar (Nat.lt_succ_self _) _, ((h3.setFar hlp hll _).setFar hlp hll _), ((W3.out.setNew (Nat.le_refl _) _).setNew (Nat.le_refl _) _)⟩
  rw [results_cell rfl]
  go_simp

theorem cond_forall (q1 : isX s xExists S = false) (q2 : isX s xForall S = true) (h : Px w p l s S) :
    Calls Tryd.prog 24 #[.pointer (some ⟨p, 0, none⟩)] w (CondPost w p l s (⟨2, (rowsP s (nx s S)).1⟩, expS s xSemi (rowsP s (nx s S)).2)) := by
  have hx : ∀ o, Px (w.alloc o) p l s S := fun o => h.alloc o
  have hlp := h.lp
  have hll := h.ll
  clear h
  go_enter Tryd.func24, Tryd.ntmps24
  go_wp2_with fail
  refine (acc_no _ p l s S xExists (ne_nil _ _) q1 (hx _)).mono ?_
  rintro e w1 ⟨rfl, h1, hw1⟩
  have B1 := (Bk.new w _ _).wp hw1 (by omega) (by omega)
  have W1 : Hid (Wp p l w w1) := ((Wp.refl p l w).alloc _).trans hw1
  clear hw1 hx
  go_wp2_with fail
  refine (acc_yes _ p l s S xForall (ne_nil _ _) q2 h1).mono ?_
  rintro e w2 ⟨rfl, h2, hw2⟩
  have B2 := B1.wp hw2 (by omega) (by omega)
  have W2 : Hid (Wp p l w w2) := W1.out.trans hw2
  clear hw2 B1 h1 W1
  have L2 := B2.lt
  go_wp2_with fail
  refine (partedRow_is _ p l s _ xOr (ne_nil _ _) h2).mono ?_
  rintro e w3 ⟨a, m, c, rfl, ho, h3, hw3⟩
  have B3 := B2.wp hw3 (by omega) (by omega)
  have W3 : Hid (Wp p l w w3) := W2.out.trans hw3
  clear hw3 B2 h2 W2
  go_wp2_with fail
  refine (expect_is _ p l s _ xSemi (ne_nil _ _) h3).mono ?_
  rintro e w4 ⟨rfl, h4, hw4⟩
  have ho2 := (ho.mono (show w.heap.size + 1 ≤ w2.heap.size from L2)).wp hw4 (by omega) (by omega)
  obtain ⟨T, hB⟩ := B3.wp hw4 (by omega) (by omega)
  have W4 : Hid (Wp p l w w4) := W3.out.trans hw4
  have dc0 : w4.cell? ⟨w.heap.size, 0, none⟩ = some (.int .i64 0) := by simp [World.cell?, hB]
  have dc1 : w4.cell? ⟨w.heap.size, 1, none⟩ = some (.slice none 0 0) := by simp [World.cell?, hB]
  have df0 : w4.frozen? ⟨w.heap.size, 0, none⟩ = false := by simp [World.frozen?, hB]
  have df1 : w4.frozen? ⟨w.heap.size, 1, none⟩ = false := by simp [World.frozen?, hB]
  clear hw4 B3 h3 hB ho W3
  go_wp2
  (try simp only [Exit.inBlock, Exit.then])
  refine bodyPost_ret (v := .agg #[.int .i64 2, .slice a m c]) ?_ rfl ⟨a, m, c, rfl, (ho2.setFar (Nat.lt_succ_self _) _).setFar (Nat.lt_succ_self _) _, ((h4.setFar hlp hll _).setFar hlp hll _), ((W4.out.setNew (Nat.le_refl _) _).setNew (Nat.le_refl _) _)⟩
  rw [results_cell rfl]
  go_simp

theorem cond_none (q1 : isX s xExists S = false) (q2 : isX s xForall S = false) (h : Px w p l s S) :
    Calls Tryd.prog 24 #[.pointer (some ⟨p, 0, none⟩)] w (CondPost w p l s (⟨0, []⟩, S)) := by
  have hx : ∀ o, Px (w.alloc o) p l s S := fun o => h.alloc o
  have hlp := h.lp
  have hll := h.ll
  clear h
  go_enter Tryd.func24, Tryd.ntmps24
  go_wp2_with fail
  refine (acc_no _ p l s S xExists (ne_nil _ _) q1 (hx _)).mono ?_
  rintro e w1 ⟨rfl, h1, hw1⟩
  have B1 := (Bk.new w _ _).wp hw1 (by omega) (by omega)
  have W1 : Hid (Wp p l w w1) := ((Wp.refl p l w).alloc _).trans hw1
  clear hw1 hx
  go_wp2_with fail
  refine (acc_no _ p l s S xForall (ne_nil _ _) q2 h1).mono ?_
  rintro e w2 ⟨rfl, h2, hw2⟩
  obtain ⟨T, hB⟩ := B1.wp hw2 (by omega) (by omega)
  have W2 : Hid (Wp p l w w2) := W1.out.trans hw2
  have dc0 : w2.cell? ⟨w.heap.size, 0, none⟩ = some (.int .i64 0) := by simp [World.cell?, hB]
  have dc1 : w2.cell? ⟨w.heap.size, 1, none⟩ = some (.slice none 0 0) := by simp [World.cell?, hB]
  have df0 : w2.frozen? ⟨w.heap.size, 0, none⟩ = false := by simp [World.frozen?, hB]
  have df1 : w2.frozen? ⟨w.heap.size, 1, none⟩ = false := by simp [World.frozen?, hB]
  clear hw2 hB B1 h1 W1
  go_wp2
  (try simp only [Exit.inBlock, Exit.then])
  refine bodyPost_ret (v := .agg #[.int .i64 0, .slice none 0 0]) ?_ rfl ⟨none, 0, 0, rfl, Own2.nil _ _ _ _ _ _, ((h2.setFar hlp hll _).setFar hlp hll _), ((W2.out.setNew (Nat.le_refl _) _).setNew (Nat.le_refl _) _)⟩
  rw [results_cell rfl]
  go_simp

/-- A CONDITION. -/
theorem condition_is (h : Px w p l s S) :
    Calls Tryd.prog 24 #[.pointer (some ⟨p, 0, none⟩)] w (CondPost w p l s (condP s S)) := by
  unfold condP
  cases q1 : isX s xExists S with
  | true => exact cond_exists w p l s S q1 h
  | false =>
    cases q2 : isX s xForall S with
    | true => exact cond_forall w p l s S q1 q2 h
    | false => exact cond_none w p l s S q1 q2 h
end
end Go.Proofs.YtnfmagafajpmpaaDoor
