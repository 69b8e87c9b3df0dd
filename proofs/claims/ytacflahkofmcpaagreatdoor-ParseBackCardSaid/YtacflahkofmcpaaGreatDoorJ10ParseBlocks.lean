/- Rows of atoms and of rows, in memory. -/
import Derived.Test.YtacflahkofmcpaaGreatDoorParseInsW
import Derived.Test.YtacflahkofmcpaaGreatDoorJ09LexAllW
import Derived.Deep.LoopGhost
namespace Go.Proofs.YtacflahkofmcpaaGreatDoor
open Go.RowKit

theorem own_wp {w w' : World} {p l base k n : Nat} {e : TypeId} {v : Value} {xs : List Value} (h : w.ownsRow base e k v n xs) (kk : Wp p l w w') (hp : p < base) (hl : l < base) : w'.ownsRow base e k v n xs := by
  refine ⟨h.1, ?_⟩
  rcases h.2 with h2 | ⟨g, cap, cur, hv, hb, hh, r⟩
  · exact Or.inl h2
  · exact Or.inr ⟨g, cap, cur, hv, hb, (kk.block g (lt_of_block hh) (by omega) (by omega)).trans hh, r⟩
theorem own_mono {w : World} {base base' k n : Nat} {e : TypeId} {v : Value} {xs : List Value} (h : w.ownsRow base e k v n xs) (hb : base' ≤ base) : w.ownsRow base' e k v n xs := by
  refine ⟨h.1, ?_⟩
  rcases h.2 with h2 | ⟨g, cap, cur, hv, hg, r⟩
  · exact Or.inl h2
  · exact Or.inr ⟨g, cap, cur, hv, by omega, r⟩
/-- A row of one, just laid. -/
theorem own_one (w : World) (cs : Array Value) (e : TypeId) (k base : Nat) (hk : cs.size = k) (hb : base ≤ w.heap.size) : (w.alloc (.cells cs e)).ownsRow base e k (.slice (some ⟨w.heap.size, 0, none⟩) 1 1) 1 cs.toList := by
  refine ⟨by simp [hk], Or.inr ⟨w.heap.size, 1, cs, rfl, hb, heap_alloc_new w _, Nat.le_refl _, by decide, by simp [hk], ?_⟩⟩
  rw [List.take_of_length_le (by simp [hk])]
theorem new_cell (w : World) (cs : Array Value) (T : TypeId) (j : Nat) : (w.alloc (.cells cs T)).cell? ((⟨w.heap.size, 0, none⟩ : Addr).add j) = cs.toList[j]? := by
  rw [Addr.add_lit, cell_new _ _ _ _ _ rfl, Nat.zero_add, Array.getElem?_toList]
/-- Behind an append to a row of one's own. -/
theorem wp_grown {p l base : Nat} {w x y : World} {v : Value} (h : Wp p l w x) (hg : x.grownBy y v.ownBlock) (hb : w.heap.size ≤ base) (ho : ∀ g, v.ownBlock = some g → base ≤ g) : Wp p l w y :=
  ⟨hg.os.trans h.os, hg.tape.trans h.tape, hg.output.trans h.output, Nat.le_trans h.size hg.size, fun i hi a b => (hg.block i (Nat.lt_of_lt_of_le hi h.size) (fun e => by have := ho i e.symm; omega)).trans (h.block i hi a b)⟩
theorem px_grown {p l base : Nat} {x y : World} {v : Value} {s : ByteArray} {S : St} (h : Px x p l s S) (hg : x.grownBy y v.ownBlock) (hp : p < base) (hl : l < base) (ho : ∀ g, v.ownBlock = some g → base ≤ g) : Px y p l s S :=
  h.far hg.size fun i hi hk => hg.block i hi (fun e => by have := ho i e.symm; have := h.gp; omega)

def atomC (x : AtomT) : List Value := [.int .i64 x.t, .int .i64 x.r, .int .i64 x.l, .int .i64 x.v]
theorem infoAtom : (Tryz.prog.info? 58).map (fun i => (i.zero, i.size, i.bytes)) = some (some (.agg #[.int .i64 0, .int .i64 0, .int .i64 0, .int .i64 0]), 4, 32) := by kernel_rfl

section
variable (w : World) (p l : Nat) (s : ByteArray) (S : St)
set_option maxHeartbeats 1000000
set_option maxRecDepth 8000
theorem atom_at (h : Px w p l s S) :
    Calls Tryz.prog 160 #[.pointer (some ⟨p, 0, none⟩)] w fun e w' => e = .returned (.agg #[.int .i64 (atomP s S).1.t, .int .i64 (atomP s S).1.r, .int .i64 (atomP s S).1.l, .int .i64 (atomP s S).1.v]) ∧ Px w' p l s (atomP s S).2 ∧ Wp p l w w' := atom_is w p l s S h

theorem partedAtom_is (x : ByteArray) (hx : x.toList ≠ []) (h : Px w p l s S) :
    Calls Tryz.prog 159 #[.pointer (some ⟨p, 0, none⟩), .string x, .func (.func 160) #[] #[]] w fun e w' => ∃ v, e = .returned v ∧ w'.ownsRow w.heap.size 58 4 v (prtP s (atomP s) x S).1.length ((prtP s (atomP s) x S).1.flatMap atomC) ∧ Px w' p l s (prtP s (atomP s) x S).2 ∧ Wp p l w w' := by
  obtain ⟨i0, hi, hz0, hz1, hz2⟩ := info_parts infoAtom
  have hlp := h.lp
  have hll := h.ll
  have hsz := h.sz
  have hvd := h.vd
  go_enter Tryz.func159, Tryz.ntmps159
  go_wp2_with fail
  refine (atom_at _ p l s S h).mono ?_
  rintro e w1 ⟨rfl, h1, hw1⟩
  have hS1 := hw1.size
  have hm1 := mS_atom s S
  have hO1 := own_one w1 #[.int .i64 (atomP s S).1.t, .int .i64 (atomP s S).1.r, .int .i64 (atomP s S).1.l, .int .i64 (atomP s S).1.v] 58 4 w.heap.size rfl hS1
  have hP1 := h1.alloc (.cells #[.int .i64 (atomP s S).1.t, .int .i64 (atomP s S).1.r, .int .i64 (atomP s S).1.l, .int .i64 (atomP s S).1.v] 58)
  have hW1 := hw1.alloc (.cells #[.int .i64 (atomP s S).1.t, .int .i64 (atomP s S).1.r, .int .i64 (atomP s S).1.l, .int .i64 (atomP s S).1.v] 58)
  have hmS : mS s S ≤ s.size + 1 := by cases S <;> simp [mS]
  go_wp2
  go_loopg [7] (mS s (atomP s S).2) (fun k v wr => ∃ (S' : St) (L : List AtomT), k = mS s S' ∧ Px wr p l s S' ∧ wr.ownsRow w.heap.size 58 4 v L.length (L.flatMap atomC) ∧ L.length + mS s S' ≤ s.size + 2 ∧ (L ++ (moreP s (atomP s) x S').1, (moreP s (atomP s) x S').2) = prtP s (atomP s) x S ∧ Wp p l w wr)
  case atStart => exact ⟨_, [(atomP s S).1], rfl, hP1, hO1, by simp; omega, rfl, hW1⟩
  case round =>
    obtain ⟨S', L, hk, hpx, hown, hlen, heq, hwp⟩ := hrel
    clear hP1 hO1 hW1 h1 hw1 h
    have HE : Hid ((L ++ (moreP s (atomP s) x S').1, (moreP s (atomP s) x S').2) = prtP s (atomP s) x S) := heq
    clear heq
    cases hX : isX s x S' with
    | false =>
      go_wp2_with fail
      refine (acc_no _ p l s S' x hx hX hpx).mono ?_
      rintro e w2 ⟨rfl, h2, hw2⟩
      go_wp2
      go_ret
      rw [← HE.out, more_end s hX]
      exact ⟨_, rfl, by simpa using own_wp hown hw2 hlp hll, h2, hwp.trans hw2⟩
    | true =>
      have hOn := more_on s (goes_atom s) hx hpx.vd hX
      have hL := prt_less s (goes_atom s) hx hpx.vd hX
      have HO : Hid (moreP s (atomP s) x S' = ((atomP s (nx s S')).1 :: (moreP s (atomP s) x (atomP s (nx s S')).2).1, (moreP s (atomP s) x (atomP s (nx s S')).2).2)) := hOn
      clear hOn
      go_wp2_with fail
      refine (acc_yes _ p l s S' x hx hX hpx).mono ?_
      rintro e w2 ⟨rfl, h2, hw2⟩
      go_wp2_with fail
      refine (atom_at _ p l s _ h2).mono ?_
      rintro e w3 ⟨rfl, h3, hw3⟩
      have hown3 := own_wp hown (hw2.trans hw3) hlp hll
      have hwp3 := (hwp.trans hw2).trans hw3
      have hS3 := hwp3.size
      have hlt : ∀ g, u7.ownBlock = some g → w.heap.size ≤ g := fun g hg => (hown3.lt g hg).1
      have HW : Hid (Wp p l w w3) := hwp3
      clear hw2 hw3 h2 hown hwp hpx hwp3
      go_wp2_with (at_builtin; refine wpList_append_own _ rfl _ _ 59 rfl w.heap.size 58 i0 (.agg #[.int .i64 0, .int .i64 0, .int .i64 0, .int .i64 0]) 4 32 Tryz.underlying59 hi hz0 hz1 hz2 rfl (by decide) _ _ _ rfl (hown3.alloc _) ⟨w3.heap.size, 0, none⟩ 1 1 (atomC (atomP s (nx s S')).1) rfl rfl ?c1 ?c2 ?c3 ?c4 ?c5 ?_)
      case c1 =>
        intro j u hu
        rw [new_cell]
        exact hu
      case c2 =>
        intro u hu
        simp only [atomC, List.mem_cons, List.not_mem_nil, or_false] at hu
        rcases hu with rfl | rfl | rfl | rfl <;> rfl
      case c3 => unfold maxLen; omega
      case c4 => omega
      case c5 => simp; omega
      intro v' w4 hown4 hg4 _
      go_wp2
      go_roundg (mS s (atomP s (nx s S')).2)
      case measure => omega
      case rel =>
        refine ⟨_, L ++ [(atomP s (nx s S')).1], rfl, px_grown (h3.alloc _) hg4 hlp hll hlt, by simpa using hown4, by simp; omega, ?_, wp_grown (HW.out.alloc _) hg4 (Nat.le_refl _) hlt⟩
        rw [← HE.out, HO.out]
        simp
end
end Go.Proofs.YtacflahkofmcpaaGreatDoor

namespace Go.Proofs.YtacflahkofmcpaaGreatDoor
open Go.RowKit

def iniC (x : InitT) : List Value := [.int .i64 x.l, .int .i64 x.v]
theorem infoIni : (Tryz.prog.info? 55).map (fun i => (i.zero, i.size, i.bytes)) = some (some (.agg #[.int .i64 0, .int .i64 0]), 2, 16) := by kernel_rfl

section
variable (w : World) (p l : Nat) (s : ByteArray) (S : St)
set_option maxHeartbeats 1000000
set_option maxRecDepth 8000
theorem initial_at (h : Px w p l s S) :
    Calls Tryz.prog 77 #[.pointer (some ⟨p, 0, none⟩)] w fun e w' => e = .returned (.agg #[.int .i64 (iniP s S).1.l, .int .i64 (iniP s S).1.v]) ∧ Px w' p l s (iniP s S).2 ∧ Wp p l w w' := initial_is w p l s S h

theorem blockIni_is (h : Px w p l s S) :
    Calls Tryz.prog 76 #[.pointer (some ⟨p, 0, none⟩), .func (.func 77) #[] #[]] w fun e w' => ∃ v, e = .returned v ∧ w'.ownsRow w.heap.size 55 2 v (iniB s S).1.length ((iniB s S).1.flatMap iniC) ∧ Px w' p l s (iniB s S).2 ∧ Wp p l w w' := by
  obtain ⟨i0, hi, hz0, hz1, hz2⟩ := info_parts infoIni
  have hlp := h.lp
  have hll := h.ll
  have hsz := h.sz
  go_enter Tryz.func76, Tryz.ntmps76
  go_wp2_with fail
  refine (expect_is _ p l s S xOpen (ne_nil _ _) h).mono ?_
  rintro e w1 ⟨rfl, h1, hw1⟩
  have hS1 := hw1.size
  have hm1 := mS_exp s xOpen S
  have hmS : mS s S ≤ s.size + 1 := by cases S <;> simp [mS]
  go_wp2
  go_loopg [5] (mS s (expS s xOpen S)) (fun k v wr => ∃ (S' : St) (L : List InitT), k = mS s S' ∧ Px wr p l s S' ∧ wr.ownsRow w.heap.size 55 2 v L.length (L.flatMap iniC) ∧ L.length + mS s S' ≤ s.size + 2 ∧ (L ++ (blkP s (iniP s) S').1, (blkP s (iniP s) S').2) = iniB s S ∧ Wp p l w wr)
  case atStart => exact ⟨_, [], rfl, h1, World.ownsRow_nil _ _ _ _, by simp; omega, rfl, hw1⟩
  case round =>
    obtain ⟨S', L, hk, hpx, hown, hlen, heq, hwp⟩ := hrel
    clear h1 hw1 h
    have HE : Hid ((L ++ (blkP s (iniP s) S').1, (blkP s (iniP s) S').2) = iniB s S) := heq
    clear heq
    have hF := failed_is wr p l s S' hpx
    cases hB : flB S' with
    | true =>
      rw [hB] at hF
      have hE := blk_fl s (f := iniP s) hB
      have HB : Hid (blkP s (iniP s) S' = ([], S')) := hE
      clear hE hB
      go_wp2_with fail
      refine hF.mono ?_
      rintro e w2 ⟨rfl, rfl⟩
      go_wp2
      go_ret
      rw [← HE.out, HB.out]
      exact ⟨_, rfl, by simpa using hown, hpx, hwp⟩
    | false =>
      rw [hB] at hF
      cases hX : isX s xShut S' with
      | true =>
        have hE := blk_end s (f := iniP s) hB hX
        have HB : Hid (blkP s (iniP s) S' = ([], nx s S')) := hE
        clear hE hB
        go_wp2_with fail
        refine hF.mono ?_
        rintro e w2 ⟨rfl, rfl⟩
        go_wp2_with fail
        refine (acc_yes _ p l s S' xShut (ne_nil _ _) hX hpx).mono ?_
        rintro e w3 ⟨rfl, h3, hw3⟩
        go_wp2
        go_ret
        rw [← HE.out, HB.out]
        exact ⟨_, rfl, by simpa using own_wp hown hw3 hlp hll, h3, hwp.trans hw3⟩
      | false =>
        have hE := blk_on s (goes_ini s) hpx.vd hB hX
        have hLs := blk_less s (goes_ini s) hpx.vd hB
        have HB : Hid (blkP s (iniP s) S' = ((iniP s S').1 :: (blkP s (iniP s) (expS s xSemi (iniP s S').2)).1, (blkP s (iniP s) (expS s xSemi (iniP s S').2)).2)) := hE
        clear hE hB
        go_wp2_with fail
        refine hF.mono ?_
        rintro e w2 ⟨rfl, rfl⟩
        go_wp2_with fail
        refine (acc_no _ p l s S' xShut (ne_nil _ _) hX hpx).mono ?_
        rintro e w3 ⟨rfl, h3, hw3⟩
        go_wp2_with fail
        refine (initial_at _ p l s _ h3).mono ?_
        rintro e w4 ⟨rfl, h4, hw4⟩
        have hown4 := own_wp hown (hw3.trans hw4) hlp hll
        have hwp4 := (hwp.trans hw3).trans hw4
        have hS4 := hwp4.size
        have hlt : ∀ g, u5.ownBlock = some g → w.heap.size ≤ g := fun g hg => (hown4.lt g hg).1
        have HW : Hid (Wp p l w w4) := hwp4
        clear hw3 hw4 h3 hown hwp hpx hwp4 hF
        go_wp2_with (at_builtin; refine wpList_append_own _ rfl _ _ 22 rfl w.heap.size 55 i0 (.agg #[.int .i64 0, .int .i64 0]) 2 16 Tryz.underlying22 hi hz0 hz1 hz2 rfl (by decide) _ _ _ rfl (hown4.alloc _) ⟨w4.heap.size, 0, none⟩ 1 1 (iniC (iniP s S').1) rfl rfl ?c1 ?c2 ?c3 ?c4 ?c5 ?_)
        case c1 =>
          intro j u hu
          rw [new_cell]
          exact hu
        case c2 =>
          intro u hu
          simp only [iniC, List.mem_cons, List.not_mem_nil, or_false] at hu
          rcases hu with rfl | rfl <;> rfl
        case c3 => unfold maxLen; omega
        case c4 => omega
        case c5 => simp; omega
        intro v' w5 hown5 hg5 _
        have h5 := px_grown (h4.alloc _) hg5 hlp hll hlt
        have HW5 : Hid (Wp p l w w5) := wp_grown (HW.out.alloc _) hg5 (Nat.le_refl _) hlt
        clear hown4 h4 hg5 HW
        go_wp2_with fail
        refine (expect_is _ p l s _ xSemi (ne_nil _ _) h5).mono ?_
        rintro e w6 ⟨rfl, h6, hw6⟩
        go_wp2
        go_roundg (mS s (expS s xSemi (iniP s S').2))
        case measure => omega
        case rel =>
          refine ⟨_, L ++ [(iniP s S').1], rfl, h6, by simpa using own_wp hown5 hw6 hlp hll, by simp; omega, ?_, HW5.out.trans hw6⟩
          rw [← HE.out, HB.out]
          simp
end

def insC (x : InsT) : List Value := [.int .i64 x.k, .int .i64 x.r, .int .i64 x.l, .int .i64 x.a.r, .int .i64 x.a.v, .int .i64 x.o, .int .i64 x.b.r, .int .i64 x.b.v, .int .i64 x.n]
theorem infoIns : (Tryz.prog.info? 52).map (fun i => (i.zero, i.size, i.bytes)) = some (some (.agg #[.int .i64 0, .int .i64 0, .int .i64 0, .int .i64 0, .int .i64 0, .int .i64 0, .int .i64 0, .int .i64 0, .int .i64 0]), 9, 72) := by kernel_rfl

section
variable (w : World) (p l : Nat) (s : ByteArray) (S : St)
set_option maxHeartbeats 1000000
set_option maxRecDepth 8000
theorem instruction_at (h : Px w p l s S) :
    Calls Tryz.prog 79 #[.pointer (some ⟨p, 0, none⟩)] w fun e w' => e = .returned (.agg #[.int .i64 (insP s S).1.k, .int .i64 (insP s S).1.r, .int .i64 (insP s S).1.l, .int .i64 (insP s S).1.a.r, .int .i64 (insP s S).1.a.v, .int .i64 (insP s S).1.o, .int .i64 (insP s S).1.b.r, .int .i64 (insP s S).1.b.v, .int .i64 (insP s S).1.n]) ∧ Px w' p l s (insP s S).2 ∧ Wp p l w w' := instruction_is w p l s S h

theorem blockIns_is (h : Px w p l s S) :
    Calls Tryz.prog 78 #[.pointer (some ⟨p, 0, none⟩), .func (.func 79) #[] #[]] w fun e w' => ∃ v, e = .returned v ∧ w'.ownsRow w.heap.size 52 9 v (insB s S).1.length ((insB s S).1.flatMap insC) ∧ Px w' p l s (insB s S).2 ∧ Wp p l w w' := by
  obtain ⟨i0, hi, hz0, hz1, hz2⟩ := info_parts infoIns
  have hlp := h.lp
  have hll := h.ll
  have hsz := h.sz
  go_enter Tryz.func78, Tryz.ntmps78
  go_wp2_with fail
  refine (expect_is _ p l s S xOpen (ne_nil _ _) h).mono ?_
  rintro e w1 ⟨rfl, h1, hw1⟩
  have hS1 := hw1.size
  have hm1 := mS_exp s xOpen S
  have hmS : mS s S ≤ s.size + 1 := by cases S <;> simp [mS]
  go_wp2
  go_loopg [5] (mS s (expS s xOpen S)) (fun k v wr => ∃ (S' : St) (L : List InsT), k = mS s S' ∧ Px wr p l s S' ∧ wr.ownsRow w.heap.size 52 9 v L.length (L.flatMap insC) ∧ L.length + mS s S' ≤ s.size + 2 ∧ (L ++ (blkP s (insP s) S').1, (blkP s (insP s) S').2) = insB s S ∧ Wp p l w wr)
  case atStart => exact ⟨_, [], rfl, h1, World.ownsRow_nil _ _ _ _, by simp; omega, rfl, hw1⟩
  case round =>
    obtain ⟨S', L, hk, hpx, hown, hlen, heq, hwp⟩ := hrel
    clear h1 hw1 h
    have HE : Hid ((L ++ (blkP s (insP s) S').1, (blkP s (insP s) S').2) = insB s S) := heq
    clear heq
    have hF := failed_is wr p l s S' hpx
    cases hB : flB S' with
    | true =>
      rw [hB] at hF
      have hE := blk_fl s (f := insP s) hB
      have HB : Hid (blkP s (insP s) S' = ([], S')) := hE
      clear hE hB
      go_wp2_with fail
      refine hF.mono ?_
      rintro e w2 ⟨rfl, rfl⟩
      go_wp2
      go_ret
      rw [← HE.out, HB.out]
      exact ⟨_, rfl, by simpa using hown, hpx, hwp⟩
    | false =>
      rw [hB] at hF
      cases hX : isX s xShut S' with
      | true =>
        have hE := blk_end s (f := insP s) hB hX
        have HB : Hid (blkP s (insP s) S' = ([], nx s S')) := hE
        clear hE hB
        go_wp2_with fail
        refine hF.mono ?_
        rintro e w2 ⟨rfl, rfl⟩
        go_wp2_with fail
        refine (acc_yes _ p l s S' xShut (ne_nil _ _) hX hpx).mono ?_
        rintro e w3 ⟨rfl, h3, hw3⟩
        go_wp2
        go_ret
        rw [← HE.out, HB.out]
        exact ⟨_, rfl, by simpa using own_wp hown hw3 hlp hll, h3, hwp.trans hw3⟩
      | false =>
        have hE := blk_on s (goes_ins s) hpx.vd hB hX
        have hLs := blk_less s (goes_ins s) hpx.vd hB
        have HB : Hid (blkP s (insP s) S' = ((insP s S').1 :: (blkP s (insP s) (expS s xSemi (insP s S').2)).1, (blkP s (insP s) (expS s xSemi (insP s S').2)).2)) := hE
        clear hE hB
        go_wp2_with fail
        refine hF.mono ?_
        rintro e w2 ⟨rfl, rfl⟩
        go_wp2_with fail
        refine (acc_no _ p l s S' xShut (ne_nil _ _) hX hpx).mono ?_
        rintro e w3 ⟨rfl, h3, hw3⟩
        go_wp2_with fail
        refine (instruction_at _ p l s _ h3).mono ?_
        rintro e w4 ⟨rfl, h4, hw4⟩
        have hown4 := own_wp hown (hw3.trans hw4) hlp hll
        have hwp4 := (hwp.trans hw3).trans hw4
        have hS4 := hwp4.size
        have hlt : ∀ g, u5.ownBlock = some g → w.heap.size ≤ g := fun g hg => (hown4.lt g hg).1
        have HW : Hid (Wp p l w w4) := hwp4
        clear hw3 hw4 h3 hown hwp hpx hwp4 hF
        go_wp2_with (at_builtin; refine wpList_append_own _ rfl _ _ 48 rfl w.heap.size 52 i0 (.agg #[.int .i64 0, .int .i64 0, .int .i64 0, .int .i64 0, .int .i64 0, .int .i64 0, .int .i64 0, .int .i64 0, .int .i64 0]) 9 72 Tryz.underlying48 hi hz0 hz1 hz2 rfl (by decide) _ _ _ rfl (hown4.alloc _) ⟨w4.heap.size, 0, none⟩ 1 1 (insC (insP s S').1) rfl rfl ?c1 ?c2 ?c3 ?c4 ?c5 ?_)
        case c1 =>
          intro j u hu
          rw [new_cell]
          exact hu
        case c2 =>
          intro u hu
          simp only [insC, List.mem_cons, List.not_mem_nil, or_false] at hu
          rcases hu with rfl | rfl | rfl | rfl | rfl | rfl | rfl | rfl | rfl <;> rfl
        case c3 => unfold maxLen; omega
        case c4 => omega
        case c5 => simp; omega
        intro v' w5 hown5 hg5 _
        have h5 := px_grown (h4.alloc _) hg5 hlp hll hlt
        have HW5 : Hid (Wp p l w w5) := wp_grown (HW.out.alloc _) hg5 (Nat.le_refl _) hlt
        clear hown4 h4 hg5 HW
        go_wp2_with fail
        refine (expect_is _ p l s _ xSemi (ne_nil _ _) h5).mono ?_
        rintro e w6 ⟨rfl, h6, hw6⟩
        go_wp2
        go_roundg (mS s (expS s xSemi (insP s S').2))
        case measure => omega
        case rel =>
          refine ⟨_, L ++ [(insP s S').1], rfl, h6, by simpa using own_wp hown5 hw6 hlp hll, by simp; omega, ?_, HW5.out.trans hw6⟩
          rw [← HE.out, HB.out]
          simp
end
end Go.Proofs.YtacflahkofmcpaaGreatDoor
