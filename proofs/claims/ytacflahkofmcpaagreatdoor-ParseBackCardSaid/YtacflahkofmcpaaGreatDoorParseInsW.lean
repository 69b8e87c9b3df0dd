/- An instruction, as the parser takes it. -/
import Derived.Test.YtacflahkofmcpaaGreatDoorParseIns
namespace Go.Proofs.YtacflahkofmcpaaGreatDoor
open Go.RowKit

section
variable (w : World) (p l : Nat) (s : ByteArray) (S : St)
set_option maxHeartbeats 1000000
set_option maxRecDepth 8000
/-- An instruction's value, parted. -/
theorem skip_at (h : Px w p l s S) :
    Calls Tryz.prog 120 #[.pointer (some ⟨p, 0, none⟩)] w fun e w' => e = .returned (.agg #[.int .i64 (skipP s S).1.k, .int .i64 (skipP s S).1.r, .int .i64 (skipP s S).1.l, .int .i64 (skipP s S).1.a.r, .int .i64 (skipP s S).1.a.v, .int .i64 (skipP s S).1.o, .int .i64 (skipP s S).1.b.r, .int .i64 (skipP s S).1.b.v, .int .i64 (skipP s S).1.n]) ∧ Px w' p l s (skipP s S).2 ∧ Wp p l w w' := skip_px w p l s S h
theorem set_at (r : Int) (h : Px w p l s S) :
    Calls Tryz.prog 122 #[.pointer (some ⟨p, 0, none⟩), .int .i64 r] w fun e w' => e = .returned (.agg #[.int .i64 (setP s r S).1.k, .int .i64 (setP s r S).1.r, .int .i64 (setP s r S).1.l, .int .i64 (setP s r S).1.a.r, .int .i64 (setP s r S).1.a.v, .int .i64 (setP s r S).1.o, .int .i64 (setP s r S).1.b.r, .int .i64 (setP s r S).1.b.v, .int .i64 (setP s r S).1.n]) ∧ Px w' p l s (setP s r S).2 ∧ Wp p l w w' := set_is w p l s S r h


theorem ins_store (q1 : isX s xStore S = true) (h : Px w p l s S) :
    Calls Tryz.prog 79 #[.pointer (some ⟨p, 0, none⟩)] w fun e w' => e = .returned (insA (storeP s (nx s S)).1) ∧ Px w' p l s (storeP s (nx s S)).2 ∧ Wp p l w w' := by
  have hx : ∀ o, Px (w.alloc o) p l s S := fun o => h.alloc o
  have hlp := h.lp
  have hll := h.ll
  clear h
  go_enter Tryz.func79, Tryz.ntmps79
  go_wp2_with fail
  refine (acc_yes _ p l s S xStore (ne_nil _ _) q1 (hx _)).mono ?_
  rintro e w1 ⟨rfl, h1, hw1⟩
  have B1 := (Bk.new w _ _).wp hw1 (by omega) (by omega)
  have W1 : Hid (Wp p l w w1) := ((Wp.refl p l w).alloc _).trans hw1
  clear hw1 hx
  go_wp2_with fail
  refine (location_is _ p l s _ h1).mono ?_
  rintro e w2 ⟨rfl, h2, hw2⟩
  have B2 := B1.wp hw2 (by omega) (by omega)
  have W2 : Hid (Wp p l w w2) := W1.out.trans hw2
  clear hw2 B1 h1 W1
  go_wp2_with fail
  refine (operand_at _ p l s _ h2).mono ?_
  rintro e w3 ⟨rfl, h3, hw3⟩
  have B3 := B2.wp hw3 (by omega) (by omega)
  have W3 : Hid (Wp p l w w3) := W2.out.trans hw3
  clear hw3 B2 h2 W2
  obtain ⟨T, hB⟩ := B3
  have dc0 : w3.cell? ⟨w.heap.size, 0, none⟩ = some (.int .i64 0) := by simp [World.cell?, hB]
  have dc1 : w3.cell? ⟨w.heap.size, 1, none⟩ = some (.int .i64 0) := by simp [World.cell?, hB]
  have dc2 : w3.cell? ⟨w.heap.size, 2, none⟩ = some (.int .i64 0) := by simp [World.cell?, hB]
  have dc3 : w3.cell? ⟨w.heap.size, 3, none⟩ = some (.int .i64 0) := by simp [World.cell?, hB]
  have dc4 : w3.cell? ⟨w.heap.size, 4, none⟩ = some (.int .i64 0) := by simp [World.cell?, hB]
  have dc5 : w3.cell? ⟨w.heap.size, 5, none⟩ = some (.int .i64 0) := by simp [World.cell?, hB]
  have dc6 : w3.cell? ⟨w.heap.size, 6, none⟩ = some (.int .i64 0) := by simp [World.cell?, hB]
  have dc7 : w3.cell? ⟨w.heap.size, 7, none⟩ = some (.int .i64 0) := by simp [World.cell?, hB]
  have dc8 : w3.cell? ⟨w.heap.size, 8, none⟩ = some (.int .i64 0) := by simp [World.cell?, hB]
  have df0 : w3.frozen? ⟨w.heap.size, 0, none⟩ = false := by simp [World.frozen?, hB]
  have df1 : w3.frozen? ⟨w.heap.size, 1, none⟩ = false := by simp [World.frozen?, hB]
  have df2 : w3.frozen? ⟨w.heap.size, 2, none⟩ = false := by simp [World.frozen?, hB]
  have df3 : w3.frozen? ⟨w.heap.size, 3, none⟩ = false := by simp [World.frozen?, hB]
  have df4 : w3.frozen? ⟨w.heap.size, 4, none⟩ = false := by simp [World.frozen?, hB]
  have df5 : w3.frozen? ⟨w.heap.size, 5, none⟩ = false := by simp [World.frozen?, hB]
  have df6 : w3.frozen? ⟨w.heap.size, 6, none⟩ = false := by simp [World.frozen?, hB]
  have df7 : w3.frozen? ⟨w.heap.size, 7, none⟩ = false := by simp [World.frozen?, hB]
  have df8 : w3.frozen? ⟨w.heap.size, 8, none⟩ = false := by simp [World.frozen?, hB]
  clear hB
  go_wp2
  (try simp only [Exit.inBlock, Exit.then])
  refine bodyPost_ret (v := insA (storeP s (nx s S)).1) ?_ rfl ⟨rfl, (((((((((h3.setFar hlp hll _).setFar hlp hll _).setFar hlp hll _).setFar hlp hll _).setFar hlp hll _).setFar hlp hll _).setFar hlp hll _).setFar hlp hll _).setFar hlp hll _), (((((((((W3.out.setNew (Nat.le_refl _) _).setNew (Nat.le_refl _) _).setNew (Nat.le_refl _) _).setNew (Nat.le_refl _) _).setNew (Nat.le_refl _) _).setNew (Nat.le_refl _) _).setNew (Nat.le_refl _) _).setNew (Nat.le_refl _) _).setNew (Nat.le_refl _) _)⟩
  rw [results_cell rfl]
  unfold insA storeP
  go_simp

theorem ins_fence (q1 : isX s xStore S = false) (q2 : isX s xFence S = true) (h : Px w p l s S) :
    Calls Tryz.prog 79 #[.pointer (some ⟨p, 0, none⟩)] w fun e w' => e = .returned (insA ⟨3, 0, 0, ⟨0, 0⟩, 0, ⟨0, 0⟩, 0⟩) ∧ Px w' p l s (nx s S) ∧ Wp p l w w' := by
  have hx : ∀ o, Px (w.alloc o) p l s S := fun o => h.alloc o
  have hlp := h.lp
  have hll := h.ll
  clear h
  go_enter Tryz.func79, Tryz.ntmps79
  go_wp2_with fail
  refine (acc_no _ p l s S xStore (ne_nil _ _) q1 (hx _)).mono ?_
  rintro e w1 ⟨rfl, h1, hw1⟩
  have B1 := (Bk.new w _ _).wp hw1 (by omega) (by omega)
  have W1 : Hid (Wp p l w w1) := ((Wp.refl p l w).alloc _).trans hw1
  clear hw1 hx
  go_wp2_with fail
  refine (acc_yes _ p l s S xFence (ne_nil _ _) q2 h1).mono ?_
  rintro e w2 ⟨rfl, h2, hw2⟩
  have B2 := B1.wp hw2 (by omega) (by omega)
  have W2 : Hid (Wp p l w w2) := W1.out.trans hw2
  clear hw2 B1 h1 W1
  obtain ⟨T, hB⟩ := B2
  have dc0 : w2.cell? ⟨w.heap.size, 0, none⟩ = some (.int .i64 0) := by simp [World.cell?, hB]
  have dc1 : w2.cell? ⟨w.heap.size, 1, none⟩ = some (.int .i64 0) := by simp [World.cell?, hB]
  have dc2 : w2.cell? ⟨w.heap.size, 2, none⟩ = some (.int .i64 0) := by simp [World.cell?, hB]
  have dc3 : w2.cell? ⟨w.heap.size, 3, none⟩ = some (.int .i64 0) := by simp [World.cell?, hB]
  have dc4 : w2.cell? ⟨w.heap.size, 4, none⟩ = some (.int .i64 0) := by simp [World.cell?, hB]
  have dc5 : w2.cell? ⟨w.heap.size, 5, none⟩ = some (.int .i64 0) := by simp [World.cell?, hB]
  have dc6 : w2.cell? ⟨w.heap.size, 6, none⟩ = some (.int .i64 0) := by simp [World.cell?, hB]
  have dc7 : w2.cell? ⟨w.heap.size, 7, none⟩ = some (.int .i64 0) := by simp [World.cell?, hB]
  have dc8 : w2.cell? ⟨w.heap.size, 8, none⟩ = some (.int .i64 0) := by simp [World.cell?, hB]
  have df0 : w2.frozen? ⟨w.heap.size, 0, none⟩ = false := by simp [World.frozen?, hB]
  have df1 : w2.frozen? ⟨w.heap.size, 1, none⟩ = false := by simp [World.frozen?, hB]
  have df2 : w2.frozen? ⟨w.heap.size, 2, none⟩ = false := by simp [World.frozen?, hB]
  have df3 : w2.frozen? ⟨w.heap.size, 3, none⟩ = false := by simp [World.frozen?, hB]
  have df4 : w2.frozen? ⟨w.heap.size, 4, none⟩ = false := by simp [World.frozen?, hB]
  have df5 : w2.frozen? ⟨w.heap.size, 5, none⟩ = false := by simp [World.frozen?, hB]
  have df6 : w2.frozen? ⟨w.heap.size, 6, none⟩ = false := by simp [World.frozen?, hB]
  have df7 : w2.frozen? ⟨w.heap.size, 7, none⟩ = false := by simp [World.frozen?, hB]
  have df8 : w2.frozen? ⟨w.heap.size, 8, none⟩ = false := by simp [World.frozen?, hB]
  clear hB
  go_wp2
  (try simp only [Exit.inBlock, Exit.then])
  refine bodyPost_ret (v := insA ⟨3, 0, 0, ⟨0, 0⟩, 0, ⟨0, 0⟩, 0⟩) ?_ rfl ⟨rfl, (((((((((h2.setFar hlp hll _).setFar hlp hll _).setFar hlp hll _).setFar hlp hll _).setFar hlp hll _).setFar hlp hll _).setFar hlp hll _).setFar hlp hll _).setFar hlp hll _), (((((((((W2.out.setNew (Nat.le_refl _) _).setNew (Nat.le_refl _) _).setNew (Nat.le_refl _) _).setNew (Nat.le_refl _) _).setNew (Nat.le_refl _) _).setNew (Nat.le_refl _) _).setNew (Nat.le_refl _) _).setNew (Nat.le_refl _) _).setNew (Nat.le_refl _) _)⟩
  rw [results_cell rfl]
  unfold insA
  go_simp

theorem ins_skip (q1 : isX s xStore S = false) (q2 : isX s xFence S = false) (q3 : isX s xSkip S = true) (h : Px w p l s S) :
    Calls Tryz.prog 79 #[.pointer (some ⟨p, 0, none⟩)] w fun e w' => e = .returned (insA (skipP s (nx s S)).1) ∧ Px w' p l s (skipP s (nx s S)).2 ∧ Wp p l w w' := by
  have hx : ∀ o, Px (w.alloc o) p l s S := fun o => h.alloc o
  have hlp := h.lp
  have hll := h.ll
  clear h
  go_enter Tryz.func79, Tryz.ntmps79
  go_wp2_with fail
  refine (acc_no _ p l s S xStore (ne_nil _ _) q1 (hx _)).mono ?_
  rintro e w1 ⟨rfl, h1, hw1⟩
  have B1 := (Bk.new w _ _).wp hw1 (by omega) (by omega)
  have W1 : Hid (Wp p l w w1) := ((Wp.refl p l w).alloc _).trans hw1
  clear hw1 hx
  go_wp2_with fail
  refine (acc_no _ p l s S xFence (ne_nil _ _) q2 h1).mono ?_
  rintro e w2 ⟨rfl, h2, hw2⟩
  have B2 := B1.wp hw2 (by omega) (by omega)
  have W2 : Hid (Wp p l w w2) := W1.out.trans hw2
  clear hw2 B1 h1 W1
  go_wp2_with fail
  refine (acc_yes _ p l s S xSkip (ne_nil _ _) q3 h2).mono ?_
  rintro e w3 ⟨rfl, h3, hw3⟩
  have B3 := B2.wp hw3 (by omega) (by omega)
  have W3 : Hid (Wp p l w w3) := W2.out.trans hw3
  clear hw3 B2 h2 W2
  go_wp2_with fail
  refine (skip_at _ p l s _ h3).mono ?_
  rintro e w4 ⟨rfl, h4, hw4⟩
  have B4 := B3.wp hw4 (by omega) (by omega)
  have W4 : Hid (Wp p l w w4) := W3.out.trans hw4
  clear hw4 B3 h3 W3
  obtain ⟨T, hB⟩ := B4
  have dc0 : w4.cell? ⟨w.heap.size, 0, none⟩ = some (.int .i64 0) := by simp [World.cell?, hB]
  have dc1 : w4.cell? ⟨w.heap.size, 1, none⟩ = some (.int .i64 0) := by simp [World.cell?, hB]
  have dc2 : w4.cell? ⟨w.heap.size, 2, none⟩ = some (.int .i64 0) := by simp [World.cell?, hB]
  have dc3 : w4.cell? ⟨w.heap.size, 3, none⟩ = some (.int .i64 0) := by simp [World.cell?, hB]
  have dc4 : w4.cell? ⟨w.heap.size, 4, none⟩ = some (.int .i64 0) := by simp [World.cell?, hB]
  have dc5 : w4.cell? ⟨w.heap.size, 5, none⟩ = some (.int .i64 0) := by simp [World.cell?, hB]
  have dc6 : w4.cell? ⟨w.heap.size, 6, none⟩ = some (.int .i64 0) := by simp [World.cell?, hB]
  have dc7 : w4.cell? ⟨w.heap.size, 7, none⟩ = some (.int .i64 0) := by simp [World.cell?, hB]
  have dc8 : w4.cell? ⟨w.heap.size, 8, none⟩ = some (.int .i64 0) := by simp [World.cell?, hB]
  have df0 : w4.frozen? ⟨w.heap.size, 0, none⟩ = false := by simp [World.frozen?, hB]
  have df1 : w4.frozen? ⟨w.heap.size, 1, none⟩ = false := by simp [World.frozen?, hB]
  have df2 : w4.frozen? ⟨w.heap.size, 2, none⟩ = false := by simp [World.frozen?, hB]
  have df3 : w4.frozen? ⟨w.heap.size, 3, none⟩ = false := by simp [World.frozen?, hB]
  have df4 : w4.frozen? ⟨w.heap.size, 4, none⟩ = false := by simp [World.frozen?, hB]
  have df5 : w4.frozen? ⟨w.heap.size, 5, none⟩ = false := by simp [World.frozen?, hB]
  have df6 : w4.frozen? ⟨w.heap.size, 6, none⟩ = false := by simp [World.frozen?, hB]
  have df7 : w4.frozen? ⟨w.heap.size, 7, none⟩ = false := by simp [World.frozen?, hB]
  have df8 : w4.frozen? ⟨w.heap.size, 8, none⟩ = false := by simp [World.frozen?, hB]
  clear hB
  go_wp2
  (try simp only [Exit.inBlock, Exit.then])
  refine bodyPost_ret (v := insA (skipP s (nx s S)).1) ?_ rfl ⟨rfl, (((((((((h4.setFar hlp hll _).setFar hlp hll _).setFar hlp hll _).setFar hlp hll _).setFar hlp hll _).setFar hlp hll _).setFar hlp hll _).setFar hlp hll _).setFar hlp hll _), (((((((((W4.out.setNew (Nat.le_refl _) _).setNew (Nat.le_refl _) _).setNew (Nat.le_refl _) _).setNew (Nat.le_refl _) _).setNew (Nat.le_refl _) _).setNew (Nat.le_refl _) _).setNew (Nat.le_refl _) _).setNew (Nat.le_refl _) _).setNew (Nat.le_refl _) _)⟩
  rw [results_cell rfl]
  unfold insA
  go_simp

theorem ins_load (q1 : isX s xStore S = false) (q2 : isX s xFence S = false) (q3 : isX s xSkip S = false) (q4 : isX s xLoad (expS s xEq (regP s S).2) = true) (h : Px w p l s S) :
    Calls Tryz.prog 79 #[.pointer (some ⟨p, 0, none⟩)] w fun e w' => e = .returned (insA (loadP s (regP s S).1 (nx s (expS s xEq (regP s S).2))).1) ∧ Px w' p l s (loadP s (regP s S).1 (nx s (expS s xEq (regP s S).2))).2 ∧ Wp p l w w' := by
  have hx : ∀ o, Px (w.alloc o) p l s S := fun o => h.alloc o
  have hlp := h.lp
  have hll := h.ll
  clear h
  go_enter Tryz.func79, Tryz.ntmps79
  go_wp2_with fail
  refine (acc_no _ p l s S xStore (ne_nil _ _) q1 (hx _)).mono ?_
  rintro e w1 ⟨rfl, h1, hw1⟩
  have B1 := (Bk.new w _ _).wp hw1 (by omega) (by omega)
  have W1 : Hid (Wp p l w w1) := ((Wp.refl p l w).alloc _).trans hw1
  clear hw1 hx
  go_wp2_with fail
  refine (acc_no _ p l s S xFence (ne_nil _ _) q2 h1).mono ?_
  rintro e w2 ⟨rfl, h2, hw2⟩
  have B2 := B1.wp hw2 (by omega) (by omega)
  have W2 : Hid (Wp p l w w2) := W1.out.trans hw2
  clear hw2 B1 h1 W1
  go_wp2_with fail
  refine (acc_no _ p l s S xSkip (ne_nil _ _) q3 h2).mono ?_
  rintro e w3 ⟨rfl, h3, hw3⟩
  have B3 := B2.wp hw3 (by omega) (by omega)
  have W3 : Hid (Wp p l w w3) := W2.out.trans hw3
  clear hw3 B2 h2 W2
  go_wp2_with fail
  refine (register_is _ p l s _ h3).mono ?_
  rintro e w4 ⟨rfl, h4, hw4⟩
  have B4 := B3.wp hw4 (by omega) (by omega)
  have W4 : Hid (Wp p l w w4) := W3.out.trans hw4
  clear hw4 B3 h3 W3
  go_wp2_with fail
  refine (expect_is _ p l s _ xEq (ne_nil _ _) h4).mono ?_
  rintro e w5 ⟨rfl, h5, hw5⟩
  have B5 := B4.wp hw5 (by omega) (by omega)
  have W5 : Hid (Wp p l w w5) := W4.out.trans hw5
  clear hw5 B4 h4 W4
  go_wp2_with fail
  refine (acc_yes _ p l s _ xLoad (ne_nil _ _) q4 h5).mono ?_
  rintro e w6 ⟨rfl, h6, hw6⟩
  have B6 := B5.wp hw6 (by omega) (by omega)
  have W6 : Hid (Wp p l w w6) := W5.out.trans hw6
  clear hw6 B5 h5 W5
  go_wp2_with fail
  refine (location_is _ p l s _ h6).mono ?_
  rintro e w7 ⟨rfl, h7, hw7⟩
  have B7 := B6.wp hw7 (by omega) (by omega)
  have W7 : Hid (Wp p l w w7) := W6.out.trans hw7
  clear hw7 B6 h6 W6
  obtain ⟨T, hB⟩ := B7
  have dc0 : w7.cell? ⟨w.heap.size, 0, none⟩ = some (.int .i64 0) := by simp [World.cell?, hB]
  have dc1 : w7.cell? ⟨w.heap.size, 1, none⟩ = some (.int .i64 0) := by simp [World.cell?, hB]
  have dc2 : w7.cell? ⟨w.heap.size, 2, none⟩ = some (.int .i64 0) := by simp [World.cell?, hB]
  have dc3 : w7.cell? ⟨w.heap.size, 3, none⟩ = some (.int .i64 0) := by simp [World.cell?, hB]
  have dc4 : w7.cell? ⟨w.heap.size, 4, none⟩ = some (.int .i64 0) := by simp [World.cell?, hB]
  have dc5 : w7.cell? ⟨w.heap.size, 5, none⟩ = some (.int .i64 0) := by simp [World.cell?, hB]
  have dc6 : w7.cell? ⟨w.heap.size, 6, none⟩ = some (.int .i64 0) := by simp [World.cell?, hB]
  have dc7 : w7.cell? ⟨w.heap.size, 7, none⟩ = some (.int .i64 0) := by simp [World.cell?, hB]
  have dc8 : w7.cell? ⟨w.heap.size, 8, none⟩ = some (.int .i64 0) := by simp [World.cell?, hB]
  have df0 : w7.frozen? ⟨w.heap.size, 0, none⟩ = false := by simp [World.frozen?, hB]
  have df1 : w7.frozen? ⟨w.heap.size, 1, none⟩ = false := by simp [World.frozen?, hB]
  have df2 : w7.frozen? ⟨w.heap.size, 2, none⟩ = false := by simp [World.frozen?, hB]
  have df3 : w7.frozen? ⟨w.heap.size, 3, none⟩ = false := by simp [World.frozen?, hB]
  have df4 : w7.frozen? ⟨w.heap.size, 4, none⟩ = false := by simp [World.frozen?, hB]
  have df5 : w7.frozen? ⟨w.heap.size, 5, none⟩ = false := by simp [World.frozen?, hB]
  have df6 : w7.frozen? ⟨w.heap.size, 6, none⟩ = false := by simp [World.frozen?, hB]
  have df7 : w7.frozen? ⟨w.heap.size, 7, none⟩ = false := by simp [World.frozen?, hB]
  have df8 : w7.frozen? ⟨w.heap.size, 8, none⟩ = false := by simp [World.frozen?, hB]
  clear hB
  go_wp2
  (try simp only [Exit.inBlock, Exit.then])
  refine bodyPost_ret (v := insA (loadP s (regP s S).1 (nx s (expS s xEq (regP s S).2))).1) ?_ rfl ⟨rfl, (((((((((h7.setFar hlp hll _).setFar hlp hll _).setFar hlp hll _).setFar hlp hll _).setFar hlp hll _).setFar hlp hll _).setFar hlp hll _).setFar hlp hll _).setFar hlp hll _), (((((((((W7.out.setNew (Nat.le_refl _) _).setNew (Nat.le_refl _) _).setNew (Nat.le_refl _) _).setNew (Nat.le_refl _) _).setNew (Nat.le_refl _) _).setNew (Nat.le_refl _) _).setNew (Nat.le_refl _) _).setNew (Nat.le_refl _) _).setNew (Nat.le_refl _) _)⟩
  rw [results_cell rfl]
  unfold insA loadP
  go_simp

theorem ins_cas (q1 : isX s xStore S = false) (q2 : isX s xFence S = false) (q3 : isX s xSkip S = false) (q4 : isX s xLoad (expS s xEq (regP s S).2) = false) (q5 : isX s xCas (expS s xEq (regP s S).2) = true) (h : Px w p l s S) :
    Calls Tryz.prog 79 #[.pointer (some ⟨p, 0, none⟩)] w fun e w' => e = .returned (insA (casP s (regP s S).1 (nx s (expS s xEq (regP s S).2))).1) ∧ Px w' p l s (casP s (regP s S).1 (nx s (expS s xEq (regP s S).2))).2 ∧ Wp p l w w' := by
  have hx : ∀ o, Px (w.alloc o) p l s S := fun o => h.alloc o
  have hlp := h.lp
  have hll := h.ll
  clear h
  go_enter Tryz.func79, Tryz.ntmps79
  go_wp2_with fail
  refine (acc_no _ p l s S xStore (ne_nil _ _) q1 (hx _)).mono ?_
  rintro e w1 ⟨rfl, h1, hw1⟩
  have B1 := (Bk.new w _ _).wp hw1 (by omega) (by omega)
  have W1 : Hid (Wp p l w w1) := ((Wp.refl p l w).alloc _).trans hw1
  clear hw1 hx
  go_wp2_with fail
  refine (acc_no _ p l s S xFence (ne_nil _ _) q2 h1).mono ?_
  rintro e w2 ⟨rfl, h2, hw2⟩
  have B2 := B1.wp hw2 (by omega) (by omega)
  have W2 : Hid (Wp p l w w2) := W1.out.trans hw2
  clear hw2 B1 h1 W1
  go_wp2_with fail
  refine (acc_no _ p l s S xSkip (ne_nil _ _) q3 h2).mono ?_
  rintro e w3 ⟨rfl, h3, hw3⟩
  have B3 := B2.wp hw3 (by omega) (by omega)
  have W3 : Hid (Wp p l w w3) := W2.out.trans hw3
  clear hw3 B2 h2 W2
  go_wp2_with fail
  refine (register_is _ p l s _ h3).mono ?_
  rintro e w4 ⟨rfl, h4, hw4⟩
  have B4 := B3.wp hw4 (by omega) (by omega)
  have W4 : Hid (Wp p l w w4) := W3.out.trans hw4
  clear hw4 B3 h3 W3
  go_wp2_with fail
  refine (expect_is _ p l s _ xEq (ne_nil _ _) h4).mono ?_
  rintro e w5 ⟨rfl, h5, hw5⟩
  have B5 := B4.wp hw5 (by omega) (by omega)
  have W5 : Hid (Wp p l w w5) := W4.out.trans hw5
  clear hw5 B4 h4 W4
  go_wp2_with fail
  refine (acc_no _ p l s _ xLoad (ne_nil _ _) q4 h5).mono ?_
  rintro e w6 ⟨rfl, h6, hw6⟩
  have B6 := B5.wp hw6 (by omega) (by omega)
  have W6 : Hid (Wp p l w w6) := W5.out.trans hw6
  clear hw6 B5 h5 W5
  go_wp2_with fail
  refine (acc_yes _ p l s _ xCas (ne_nil _ _) q5 h6).mono ?_
  rintro e w7 ⟨rfl, h7, hw7⟩
  have B7 := B6.wp hw7 (by omega) (by omega)
  have W7 : Hid (Wp p l w w7) := W6.out.trans hw7
  clear hw7 B6 h6 W6
  go_wp2_with fail
  refine (location_is _ p l s _ h7).mono ?_
  rintro e w8 ⟨rfl, h8, hw8⟩
  have B8 := B7.wp hw8 (by omega) (by omega)
  have W8 : Hid (Wp p l w w8) := W7.out.trans hw8
  clear hw8 B7 h7 W7
  go_wp2_with fail
  refine (operand_at _ p l s _ h8).mono ?_
  rintro e w9 ⟨rfl, h9, hw9⟩
  have B9 := B8.wp hw9 (by omega) (by omega)
  have W9 : Hid (Wp p l w w9) := W8.out.trans hw9
  clear hw9 B8 h8 W8
  go_wp2_with fail
  refine (operand_at _ p l s _ h9).mono ?_
  rintro e w10 ⟨rfl, h10, hw10⟩
  have B10 := B9.wp hw10 (by omega) (by omega)
  have W10 : Hid (Wp p l w w10) := W9.out.trans hw10
  clear hw10 B9 h9 W9
  obtain ⟨T, hB⟩ := B10
  have dc0 : w10.cell? ⟨w.heap.size, 0, none⟩ = some (.int .i64 0) := by simp [World.cell?, hB]
  have dc1 : w10.cell? ⟨w.heap.size, 1, none⟩ = some (.int .i64 0) := by simp [World.cell?, hB]
  have dc2 : w10.cell? ⟨w.heap.size, 2, none⟩ = some (.int .i64 0) := by simp [World.cell?, hB]
  have dc3 : w10.cell? ⟨w.heap.size, 3, none⟩ = some (.int .i64 0) := by simp [World.cell?, hB]
  have dc4 : w10.cell? ⟨w.heap.size, 4, none⟩ = some (.int .i64 0) := by simp [World.cell?, hB]
  have dc5 : w10.cell? ⟨w.heap.size, 5, none⟩ = some (.int .i64 0) := by simp [World.cell?, hB]
  have dc6 : w10.cell? ⟨w.heap.size, 6, none⟩ = some (.int .i64 0) := by simp [World.cell?, hB]
  have dc7 : w10.cell? ⟨w.heap.size, 7, none⟩ = some (.int .i64 0) := by simp [World.cell?, hB]
  have dc8 : w10.cell? ⟨w.heap.size, 8, none⟩ = some (.int .i64 0) := by simp [World.cell?, hB]
  have df0 : w10.frozen? ⟨w.heap.size, 0, none⟩ = false := by simp [World.frozen?, hB]
  have df1 : w10.frozen? ⟨w.heap.size, 1, none⟩ = false := by simp [World.frozen?, hB]
  have df2 : w10.frozen? ⟨w.heap.size, 2, none⟩ = false := by simp [World.frozen?, hB]
  have df3 : w10.frozen? ⟨w.heap.size, 3, none⟩ = false := by simp [World.frozen?, hB]
  have df4 : w10.frozen? ⟨w.heap.size, 4, none⟩ = false := by simp [World.frozen?, hB]
  have df5 : w10.frozen? ⟨w.heap.size, 5, none⟩ = false := by simp [World.frozen?, hB]
  have df6 : w10.frozen? ⟨w.heap.size, 6, none⟩ = false := by simp [World.frozen?, hB]
  have df7 : w10.frozen? ⟨w.heap.size, 7, none⟩ = false := by simp [World.frozen?, hB]
  have df8 : w10.frozen? ⟨w.heap.size, 8, none⟩ = false := by simp [World.frozen?, hB]
  clear hB
  go_wp2
  (try simp only [Exit.inBlock, Exit.then])
  refine bodyPost_ret (v := insA (casP s (regP s S).1 (nx s (expS s xEq (regP s S).2))).1) ?_ rfl ⟨rfl, (((((((((h10.setFar hlp hll _).setFar hlp hll _).setFar hlp hll _).setFar hlp hll _).setFar hlp hll _).setFar hlp hll _).setFar hlp hll _).setFar hlp hll _).setFar hlp hll _), (((((((((W10.out.setNew (Nat.le_refl _) _).setNew (Nat.le_refl _) _).setNew (Nat.le_refl _) _).setNew (Nat.le_refl _) _).setNew (Nat.le_refl _) _).setNew (Nat.le_refl _) _).setNew (Nat.le_refl _) _).setNew (Nat.le_refl _) _).setNew (Nat.le_refl _) _)⟩
  rw [results_cell rfl]
  unfold insA casP
  go_simp

theorem ins_set (q1 : isX s xStore S = false) (q2 : isX s xFence S = false) (q3 : isX s xSkip S = false) (q4 : isX s xLoad (expS s xEq (regP s S).2) = false) (q5 : isX s xCas (expS s xEq (regP s S).2) = false) (h : Px w p l s S) :
    Calls Tryz.prog 79 #[.pointer (some ⟨p, 0, none⟩)] w fun e w' => e = .returned (insA (setP s (regP s S).1 (expS s xEq (regP s S).2)).1) ∧ Px w' p l s (setP s (regP s S).1 (expS s xEq (regP s S).2)).2 ∧ Wp p l w w' := by
  have hx : ∀ o, Px (w.alloc o) p l s S := fun o => h.alloc o
  have hlp := h.lp
  have hll := h.ll
  clear h
  go_enter Tryz.func79, Tryz.ntmps79
  go_wp2_with fail
  refine (acc_no _ p l s S xStore (ne_nil _ _) q1 (hx _)).mono ?_
  rintro e w1 ⟨rfl, h1, hw1⟩
  have B1 := (Bk.new w _ _).wp hw1 (by omega) (by omega)
  have W1 : Hid (Wp p l w w1) := ((Wp.refl p l w).alloc _).trans hw1
  clear hw1 hx
  go_wp2_with fail
  refine (acc_no _ p l s S xFence (ne_nil _ _) q2 h1).mono ?_
  rintro e w2 ⟨rfl, h2, hw2⟩
  have B2 := B1.wp hw2 (by omega) (by omega)
  have W2 : Hid (Wp p l w w2) := W1.out.trans hw2
  clear hw2 B1 h1 W1
  go_wp2_with fail
  refine (acc_no _ p l s S xSkip (ne_nil _ _) q3 h2).mono ?_
  rintro e w3 ⟨rfl, h3, hw3⟩
  have B3 := B2.wp hw3 (by omega) (by omega)
  have W3 : Hid (Wp p l w w3) := W2.out.trans hw3
  clear hw3 B2 h2 W2
  go_wp2_with fail
  refine (register_is _ p l s _ h3).mono ?_
  rintro e w4 ⟨rfl, h4, hw4⟩
  have B4 := B3.wp hw4 (by omega) (by omega)
  have W4 : Hid (Wp p l w w4) := W3.out.trans hw4
  clear hw4 B3 h3 W3
  go_wp2_with fail
  refine (expect_is _ p l s _ xEq (ne_nil _ _) h4).mono ?_
  rintro e w5 ⟨rfl, h5, hw5⟩
  have B5 := B4.wp hw5 (by omega) (by omega)
  have W5 : Hid (Wp p l w w5) := W4.out.trans hw5
  clear hw5 B4 h4 W4
  go_wp2_with fail
  refine (acc_no _ p l s _ xLoad (ne_nil _ _) q4 h5).mono ?_
  rintro e w6 ⟨rfl, h6, hw6⟩
  have B6 := B5.wp hw6 (by omega) (by omega)
  have W6 : Hid (Wp p l w w6) := W5.out.trans hw6
  clear hw6 B5 h5 W5
  go_wp2_with fail
  refine (acc_no _ p l s _ xCas (ne_nil _ _) q5 h6).mono ?_
  rintro e w7 ⟨rfl, h7, hw7⟩
  have B7 := B6.wp hw7 (by omega) (by omega)
  have W7 : Hid (Wp p l w w7) := W6.out.trans hw7
  clear hw7 B6 h6 W6
  go_wp2_with fail
  refine (set_at _ p l s _ _ h7).mono ?_
  rintro e w8 ⟨rfl, h8, hw8⟩
  have B8 := B7.wp hw8 (by omega) (by omega)
  have W8 : Hid (Wp p l w w8) := W7.out.trans hw8
  clear hw8 B7 h7 W7
  obtain ⟨T, hB⟩ := B8
  have dc0 : w8.cell? ⟨w.heap.size, 0, none⟩ = some (.int .i64 0) := by simp [World.cell?, hB]
  have dc1 : w8.cell? ⟨w.heap.size, 1, none⟩ = some (.int .i64 0) := by simp [World.cell?, hB]
  have dc2 : w8.cell? ⟨w.heap.size, 2, none⟩ = some (.int .i64 0) := by simp [World.cell?, hB]
  have dc3 : w8.cell? ⟨w.heap.size, 3, none⟩ = some (.int .i64 0) := by simp [World.cell?, hB]
  have dc4 : w8.cell? ⟨w.heap.size, 4, none⟩ = some (.int .i64 0) := by simp [World.cell?, hB]
  have dc5 : w8.cell? ⟨w.heap.size, 5, none⟩ = some (.int .i64 0) := by simp [World.cell?, hB]
  have dc6 : w8.cell? ⟨w.heap.size, 6, none⟩ = some (.int .i64 0) := by simp [World.cell?, hB]
  have dc7 : w8.cell? ⟨w.heap.size, 7, none⟩ = some (.int .i64 0) := by simp [World.cell?, hB]
  have dc8 : w8.cell? ⟨w.heap.size, 8, none⟩ = some (.int .i64 0) := by simp [World.cell?, hB]
  have df0 : w8.frozen? ⟨w.heap.size, 0, none⟩ = false := by simp [World.frozen?, hB]
  have df1 : w8.frozen? ⟨w.heap.size, 1, none⟩ = false := by simp [World.frozen?, hB]
  have df2 : w8.frozen? ⟨w.heap.size, 2, none⟩ = false := by simp [World.frozen?, hB]
  have df3 : w8.frozen? ⟨w.heap.size, 3, none⟩ = false := by simp [World.frozen?, hB]
  have df4 : w8.frozen? ⟨w.heap.size, 4, none⟩ = false := by simp [World.frozen?, hB]
  have df5 : w8.frozen? ⟨w.heap.size, 5, none⟩ = false := by simp [World.frozen?, hB]
  have df6 : w8.frozen? ⟨w.heap.size, 6, none⟩ = false := by simp [World.frozen?, hB]
  have df7 : w8.frozen? ⟨w.heap.size, 7, none⟩ = false := by simp [World.frozen?, hB]
  have df8 : w8.frozen? ⟨w.heap.size, 8, none⟩ = false := by simp [World.frozen?, hB]
  clear hB
  go_wp2
  (try simp only [Exit.inBlock, Exit.then])
  refine bodyPost_ret (v := insA (setP s (regP s S).1 (expS s xEq (regP s S).2)).1) ?_ rfl ⟨rfl, (((((((((h8.setFar hlp hll _).setFar hlp hll _).setFar hlp hll _).setFar hlp hll _).setFar hlp hll _).setFar hlp hll _).setFar hlp hll _).setFar hlp hll _).setFar hlp hll _), (((((((((W8.out.setNew (Nat.le_refl _) _).setNew (Nat.le_refl _) _).setNew (Nat.le_refl _) _).setNew (Nat.le_refl _) _).setNew (Nat.le_refl _) _).setNew (Nat.le_refl _) _).setNew (Nat.le_refl _) _).setNew (Nat.le_refl _) _).setNew (Nat.le_refl _) _)⟩
  rw [results_cell rfl]
  unfold insA
  go_simp

/-- AN INSTRUCTION. -/
theorem instruction_is (h : Px w p l s S) :
    Calls Tryz.prog 79 #[.pointer (some ⟨p, 0, none⟩)] w fun e w' => e = .returned (insA (insP s S).1) ∧ Px w' p l s (insP s S).2 ∧ Wp p l w w' := by
  unfold insP asgP
  cases q1 : isX s xStore S with
  | true => exact ins_store w p l s S q1 h
  | false =>
    cases q2 : isX s xFence S with
    | true => exact ins_fence w p l s S q1 q2 h
    | false =>
      cases q3 : isX s xSkip S with
      | true => exact ins_skip w p l s S q1 q2 q3 h
      | false =>
        simp only [Bool.false_eq_true, if_false]
        cases q4 : isX s xLoad (expS s xEq (regP s S).2) with
        | true => exact ins_load w p l s S q1 q2 q3 q4 h
        | false =>
          cases q5 : isX s xCas (expS s xEq (regP s S).2) with
          | true => exact ins_cas w p l s S q1 q2 q3 q4 q5 h
          | false => exact ins_set w p l s S q1 q2 q3 q4 q5 h
end
end Go.Proofs.YtacflahkofmcpaaGreatDoor
