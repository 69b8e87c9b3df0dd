/- Blocks of initial values and of instructions, in memory. -/
import Derived.Test.YtnfmagafajpmpaaDoorParseRows
namespace Go.Proofs.YtnfmagafajpmpaaDoor
open Go.RowKit

def iniC (x : InitT) : List Value := [.int .i64 x.l, .int .i64 x.v]
theorem infoIni : (Tryd.prog.info? 68).map (fun i => (i.zero, i.size, i.bytes)) = some (some (.agg #[.int .i64 0, .int .i64 0]), 2, 16) := by kernel_rfl

section
variable (w : World) (p l : Nat) (s : ByteArray) (S : St)
set_option maxHeartbeats 1000000
set_option maxRecDepth 8000
theorem initial_at (h : Px w p l s S) :
    Calls Tryd.prog 21 #[.pointer (some ⟨p, 0, none⟩)] w fun e w' => e = .returned (.agg #[.int .i64 (iniP s S).1.l, .int .i64 (iniP s S).1.v]) ∧ Px w' p l s (iniP s S).2 ∧ Wp p l w w' := initial_is w p l s S h

theorem blockIni_is (h : Px w p l s S) :
    Calls Tryd.prog 20 #[.pointer (some ⟨p, 0, none⟩), .func (.func 21) #[] #[]] w fun e w' => ∃ v, e = .returned v ∧ w'.ownsRow w.heap.size 68 2 v (iniB s S).1.length ((iniB s S).1.flatMap iniC) ∧ Px w' p l s (iniB s S).2 ∧ Wp p l w w' := by
  obtain ⟨i0, hi, hz0, hz1, hz2⟩ := info_parts infoIni
  have hlp := h.lp
  have hll := h.ll
  have hsz := h.sz
  go_enter Tryd.func20, Tryd.ntmps20
  go_wp2_with fail
  refine (expect_is _ p l s S xOpen (ne_nil _ _) h).mono ?_
  rintro e w1 ⟨rfl, h1, hw1⟩
  have hS1 := hw1.size
  have hm1 := mS_exp s xOpen S
  have hmS : mS s S ≤ s.size + 1 := by cases S <;> simp [mS]
  go_wp2
  go_loopg [5] (mS s (expS s xOpen S)) (fun k v wr => ∃ (S' : St) (L : List InitT), k = mS s S' ∧ Px wr p l s S' ∧ wr.ownsRow w.heap.size 68 2 v L.length (L.flatMap iniC) ∧ L.length + mS s S' ≤ s.size + 2 ∧ (L ++ (blkP s (iniP s) S').1, (blkP s (iniP s) S').2) = iniB s S ∧ Wp p l w wr)
  case atStart => exact ⟨_, [], rfl, h1, World.ownsRow_nil _ _ _ _, by simp; omega, rfl, hw1⟩
  case round =>
    obtain ⟨S', L, hk, hpx, hown, hlen, heq, hwp⟩ := hrel
    clear h1 hw1 h
    have HE : Hid ((L ++ (blkP s (iniP s) S').1, (blkP s (iniP s) S').2) = iniB s S) := heq
    clear heq
    have hF := failed_is wr p l s S' hpx
    cases hB : flB S' with
    | true =>
      rw [hB] at hF
      have hE := blk_fl s (f := iniP s) hB
      have HB : Hid (blkP s (iniP s) S' = ([], S')) := hE
      clear hE hB
      go_wp2_with fail
      refine hF.mono ?_
      rintro e w2 ⟨rfl, rfl⟩
      go_wp2
      go_ret
      rw [← HE.out, HB.out]
      exact ⟨_, rfl, by simpa using hown, hpx, hwp⟩
    | false =>
      rw [hB] at hF
      cases hX : isX s xShut S' with
      | true =>
        have hE := blk_end s (f := iniP s) hB hX
        have HB : Hid (blkP s (iniP s) S' = ([], nx s S')) := hE
        clear hE hB
        go_wp2_with fail
        refine hF.mono ?_
        rintro e w2 ⟨rfl, rfl⟩
        go_wp2_with fail
        refine (acc_yes _ p l s S' xShut (ne_nil _ _) hX hpx).mono ?_
        rintro e w3 ⟨rfl, h3, hw3⟩
        go_wp2
        go_ret
        rw [← HE.out, HB.out]
        exact ⟨_, rfl, by simpa using own_wp hown hw3 hlp hll, h3, hwp.trans hw3⟩
      | false =>
        have hE := blk_on s (goes_ini s) hpx.vd hB hX
        have hLs := blk_less s (goes_ini s) hpx.vd hB
        have HB : Hid (blkP s (iniP s) S' = ((iniP s S').1 :: (blkP s (iniP s) (expS s xSemi (iniP s S').2)).1, (blkP s (iniP s) (expS s xSemi (iniP s S').2)).2)) := hE
        clear hE hB
        go_wp2_with fail
        refine hF.mono ?_
        rintro e w2 ⟨rfl, rfl⟩
        go_wp2_with fail
        refine (acc_no _ p l s S' xShut (ne_nil _ _) hX hpx).mono ?_
        rintro e w3 ⟨rfl, h3, hw3⟩
        go_wp2_with fail
        refine (initial_at _ p l s _ h3).mono ?_
        rintro e w4 ⟨rfl, h4, hw4⟩
        have hown4 := own_wp hown (hw3.trans hw4) hlp hll
        have hwp4 := (hwp.trans hw3).trans hw4
        have hS4 := hwp4.size
        have hlt : ∀ g, u5.ownBlock = some g → w.heap.size ≤ g := fun g hg => (hown4.lt g hg).1
        have HW : Hid (Wp p l w w4) := hwp4
        clear hw3 hw4 h3 hown hwp hpx hwp4 hF
        go_wp2_with (at_builtin; refine wpList_append_own _ rfl _ _ 22 rfl w.heap.size 68 i0 (.agg #[.int .i64 0, .int .i64 0]) 2 16 Tryd.underlying22 hi hz0 hz1 hz2 rfl (by decide) _ _ _ rfl (hown4.alloc _) ⟨w4.heap.size, 0, none⟩ 1 1 (iniC (iniP s S').1) rfl rfl ?c1 ?c2 ?c3 ?c4 ?c5 ?_)
        case c1 =>
          intro j u hu
          rw [new_cell]
          exact hu
        case c2 =>
          intro u hu
          simp only [iniC, List.mem_cons, List.not_mem_nil, or_false] at hu
          rcases hu with rfl | rfl <;> rfl
        case c3 => unfold maxLen; omega
        case c4 => omega
        case c5 => simp; omega
        intro v' w5 hown5 hg5 _
        have h5 := px_grown (h4.alloc _) hg5 hlp hll hlt
        have HW5 : Hid (Wp p l w w5) := wp_grown (HW.out.alloc _) hg5 (Nat.le_refl _) hlt
        clear hown4 h4 hg5 HW
        go_wp2_with fail
        refine (expect_is _ p l s _ xSemi (ne_nil _ _) h5).mono ?_
        rintro e w6 ⟨rfl, h6, hw6⟩
        go_wp2
        go_roundg (mS s (expS s xSemi (iniP s S').2))
        case measure => omega
        case rel =>
          refine ⟨_, L ++ [(iniP s S').1], rfl, h6, by simpa using own_wp hown5 hw6 hlp hll, by simp; omega, ?_, HW5.out.trans hw6⟩
          rw [← HE.out, HB.out]
          simp
end

def insC (x : InsT) : List Value := [.int .i64 x.k, .int .i64 x.r, .int .i64 x.l, .int .i64 x.a.r, .int .i64 x.a.v, .int .i64 x.o, .int .i64 x.b.r, .int .i64 x.b.v, .int .i64 x.n]
theorem infoIns : (Tryd.prog.info? 53).map (fun i => (i.zero, i.size, i.bytes)) = some (some (.agg #[.int .i64 0, .int .i64 0, .int .i64 0, .int .i64 0, .int .i64 0, .int .i64 0, .int .i64 0, .int .i64 0, .int .i64 0]), 9, 72) := by kernel_rfl

section
variable (w : World) (p l : Nat) (s : ByteArray) (S : St)
set_option maxHeartbeats 1000000
set_option maxRecDepth 8000
theorem instruction_at (h : Px w p l s S) :
    Calls Tryd.prog 23 #[.pointer (some ⟨p, 0, none⟩)] w fun e w' => e = .returned (.agg #[.int .i64 (insP s S).1.k, .int .i64 (insP s S).1.r, .int .i64 (insP s S).1.l, .int .i64 (insP s S).1.a.r, .int .i64 (insP s S).1.a.v, .int .i64 (insP s S).1.o, .int .i64 (insP s S).1.b.r, .int .i64 (insP s S).1.b.v, .int .i64 (insP s S).1.n]) ∧ Px w' p l s (insP s S).2 ∧ Wp p l w w' := instruction_is w p l s S h

theorem blockIns_is (h : Px w p l s S) :
    Calls Tryd.prog 22 #[.pointer (some ⟨p, 0, none⟩), .func (.func 23) #[] #[]] w fun e w' => ∃ v, e = .returned v ∧ w'.ownsRow w.heap.size 53 9 v (insB s S).1.length ((insB s S).1.flatMap insC) ∧ Px w' p l s (insB s S).2 ∧ Wp p l w w' := by
  obtain ⟨i0, hi, hz0, hz1, hz2⟩ := info_parts infoIns
  have hlp := h.lp
  have hll := h.ll
  have hsz := h.sz
  go_enter Tryd.func22, Tryd.ntmps22
  go_wp2_with fail
  refine (expect_is _ p l s S xOpen (ne_nil _ _) h).mono ?_
  rintro e w1 ⟨rfl, h1, hw1⟩
  have hS1 := hw1.size
  have hm1 := mS_exp s xOpen S
  have hmS : mS s S ≤ s.size + 1 := by cases S <;> simp [mS]
  go_wp2
  go_loopg [5] (mS s (expS s xOpen S)) (fun k v wr => ∃ (S' : St) (L : List InsT), k = mS s S' ∧ Px wr p l s S' ∧ wr.ownsRow w.heap.size 53 9 v L.length (L.flatMap insC) ∧ L.length + mS s S' ≤ s.size + 2 ∧ (L ++ (blkP s (insP s) S').1, (blkP s (insP s) S').2) = insB s S ∧ Wp p l w wr)
  case atStart => exact ⟨_, [], rfl, h1, World.ownsRow_nil _ _ _ _, by simp; omega, rfl, hw1⟩
  case round =>
    obtain ⟨S', L, hk, hpx, hown, hlen, heq, hwp⟩ := hrel
    clear h1 hw1 h
    have HE : Hid ((L ++ (blkP s (insP s) S').1, (blkP s (insP s) S').2) = insB s S) := heq
    clear heq
    have hF := failed_is wr p l s S' hpx
    cases hB : flB S' with
    | true =>
      rw [hB] at hF
      have hE := blk_fl s (f := insP s) hB
      have HB : Hid (blkP s (insP s) S' = ([], S')) := hE
      clear hE hB
      go_wp2_with fail
      refine hF.mono ?_
      rintro e w2 ⟨rfl, rfl⟩
      go_wp2
      go_ret
      rw [← HE.out, HB.out]
      exact ⟨_, rfl, by simpa using hown, hpx, hwp⟩
    | false =>
      rw [hB] at hF
      cases hX : isX s xShut S' with
      | true =>
        have hE := blk_end s (f := insP s) hB hX
        have HB : Hid (blkP s (insP s) S' = ([], nx s S')) := hE
        clear hE hB
        go_wp2_with fail
        refine hF.mono ?_
        rintro e w2 ⟨rfl, rfl⟩
        go_wp2_with fail
        refine (acc_yes _ p l s S' xShut (ne_nil _ _) hX hpx).mono ?_
        rintro e w3 ⟨rfl, h3, hw3⟩
        go_wp2
        go_ret
        rw [← HE.out, HB.out]
        exact ⟨_, rfl, by simpa using own_wp hown hw3 hlp hll, h3, hwp.trans hw3⟩
      | false =>
        have hE := blk_on s (goes_ins s) hpx.vd hB hX
        have hLs := blk_less s (goes_ins s) hpx.vd hB
        have HB : Hid (blkP s (insP s) S' = ((insP s S').1 :: (blkP s (insP s) (expS s xSemi (insP s S').2)).1, (blkP s (insP s) (expS s xSemi (insP s S').2)).2)) := hE
        clear hE hB
        go_wp2_with fail
        refine hF.mono ?_
        rintro e w2 ⟨rfl, rfl⟩
        go_wp2_with fail
        refine (acc_no _ p l s S' xShut (ne_nil _ _) hX hpx).mono ?_
        rintro e w3 ⟨rfl, h3, hw3⟩
        go_wp2_with fail
        refine (instruction_at _ p l s _ h3).mono ?_
        rintro e w4 ⟨rfl, h4, hw4⟩
        have hown4 := own_wp hown (hw3.trans hw4) hlp hll
        have hwp4 := (hwp.trans hw3).trans hw4
        have hS4 := hwp4.size
        have hlt : ∀ g, u5.ownBlock = some g → w.heap.size ≤ g := fun g hg => (hown4.lt g hg).1
        have HW : Hid (Wp p l w w4) := hwp4
        clear hw3 hw4 h3 hown hwp hpx hwp4 hF
        go_wp2_with (at_builtin; refine wpList_append_own _ rfl _ _ 49 rfl w.heap.size 53 i0 (.agg #[.int .i64 0, .int .i64 0, .int .i64 0, .int .i64 0, .int .i64 0, .int .i64 0, .int .i64 0, .int .i64 0, .int .i64 0]) 9 72 Tryd.underlying49 hi hz0 hz1 hz2 rfl (by decide) _ _ _ rfl (hown4.alloc _) ⟨w4.heap.size, 0, none⟩ 1 1 (insC (insP s S').1) rfl rfl ?c1 ?c2 ?c3 ?c4 ?c5 ?_)
        case c1 =>
          intro j u hu
          rw [new_cell]
          exact hu
        case c2 =>
          intro u hu
          simp only [insC, List.mem_cons, List.not_mem_nil, or_false] at hu
          rcases hu with rfl | rfl | rfl | rfl | rfl | rfl | rfl | rfl | rfl <;> rfl
        case c3 => unfold maxLen; omega
        case c4 => omega
        case c5 => simp; omega
        intro v' w5 hown5 hg5 _
        have h5 := px_grown (h4.alloc _) hg5 hlp hll hlt
        have HW5 : Hid (Wp p l w w5) := wp_grown (HW.out.alloc _) hg5 (Nat.le_refl _) hlt
        clear hown4 h4 hg5 HW
        go_wp2_with fail
        refine (expect_is _ p l s _ xSemi (ne_nil _ _) h5).mono ?_
        rintro e w6 ⟨rfl, h6, hw6⟩
        go_wp2
        go_roundg (mS s (expS s xSemi (insP s S').2))
        case measure => omega
        case rel =>
          refine ⟨_, L ++ [(insP s S').1], rfl, h6, by simpa using own_wp hown5 hw6 hlp hll, by simp; omega, ?_, HW5.out.trans hw6⟩
          rw [← HE.out, HB.out]
          simp
end
end Go.Proofs.YtnfmagafajpmpaaDoor
