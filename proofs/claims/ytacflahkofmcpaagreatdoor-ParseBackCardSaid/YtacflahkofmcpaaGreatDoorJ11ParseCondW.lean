/- Rows of rows, conditions. -/
import Derived.Test.YtacflahkofmcpaaGreatDoorJ10ParseBlocks
namespace Go.Proofs.YtacflahkofmcpaaGreatDoor
open Go.RowKit

theorem own_slice {w : World} {base k n : Nat} {e : TypeId} {v : Value} {xs : List Value} (h : w.ownsRow base e k v n xs) : ∃ a m c, v = .slice a m c := by
  rcases h.2 with ⟨hv, _⟩ | ⟨g, cap, cur, hv, _⟩
  · exact ⟨_, _, _, hv⟩
  · exact ⟨_, _, _, hv⟩
theorem own_far {w w' : World} {b1 b2 k1 k2 n m : Nat} {eo ei : TypeId} {u v : Value} {xs ys : List Value} (h : w.ownsRow b1 ei k1 u n xs) (ho : w.ownsRow b2 eo k2 v m ys) (hne : eo ≠ ei) (hg : w.grownBy w' v.ownBlock) : w'.ownsRow b1 ei k1 u n xs := by
  refine ⟨h.1, ?_⟩
  rcases h.2 with h2 | ⟨g, cap, cur, hv, hb, hh, r⟩
  · exact Or.inl h2
  · refine Or.inr ⟨g, cap, cur, hv, hb, (hg.block g (lt_of_block hh) (fun e => ?_)).trans hh, r⟩
    rcases ho.2 with ⟨hv2, _⟩ | ⟨g2, cap2, cur2, hv2, hb2, hh2, _⟩
    · rw [hv2] at e; cases e
    · rw [hv2] at e
      simp only [Value.ownBlock, Option.some.injEq] at e
      subst e
      rw [hh] at hh2
      simp only [Option.some.injEq, Obj.cells.injEq] at hh2
      exact hne hh2.2.1.symm

/-- v holds rows of rows. -/
def Own2 {α : Type} (C : α → List Value) (k : Nat) (eo ei : TypeId) (w : World) (base : Nat) (v : Value) (LL : List (List α)) : Prop :=
  ∃ vs : List Value, vs.length = LL.length ∧ w.ownsRow base eo 1 v LL.length vs ∧ ∀ (i : Nat) (u : Value) (L : List α), vs[i]? = some u → LL[i]? = some L → w.ownsRow base ei k u L.length (L.flatMap C)
section
variable {α : Type} {C : α → List Value} {k : Nat} {eo ei : TypeId} {w w' : World} {base : Nat} {v : Value} {LL : List (List α)}
theorem Own2.wp {p l : Nat} (h : Own2 C k eo ei w base v LL) (kk : Wp p l w w') (hp : p < base) (hl : l < base) : Own2 C k eo ei w' base v LL := by
  obtain ⟨vs, h1, h2, h3⟩ := h
  exact ⟨vs, h1, own_wp h2 kk hp hl, fun i u L a b => own_wp (h3 i u L a b) kk hp hl⟩
theorem Own2.mono {base' : Nat} (h : Own2 C k eo ei w base v LL) (hb : base' ≤ base) : Own2 C k eo ei w base' v LL := by
  obtain ⟨vs, h1, h2, h3⟩ := h
  exact ⟨vs, h1, own_mono h2 hb, fun i u L a b => own_mono (h3 i u L a b) hb⟩
theorem Own2.nil (C : α → List Value) (k : Nat) (eo ei : TypeId) (w : World) (base : Nat) : Own2 C k eo ei w base (.slice none 0 0) [] :=
  ⟨[], rfl, World.ownsRow_nil _ _ _ _, fun i u L a _ => by simp at a⟩
theorem Own2.one {u : Value} {L : List α} (h : w.ownsRow base ei k u L.length (L.flatMap C)) (hb : base ≤ w.heap.size) : Own2 C k eo ei (w.alloc (.cells #[u] eo)) base (.slice (some ⟨w.heap.size, 0, none⟩) 1 1) [L] := by
  refine ⟨[u], rfl, own_one w #[u] eo 1 base rfl hb, fun i u' L' a b => ?_⟩
  have hi : i = 0 := by
    rcases Nat.eq_zero_or_pos i with h0 | h0
    · exact h0
    · rw [List.getElem?_eq_none (by simp; omega)] at a; cases a
  subst hi
  simp only [List.getElem?_cons_zero, Option.some.injEq] at a b
  subst a; subst b
  exact h.alloc _
/-- One row more. -/
theorem Own2.snoc {vs : List Value} {v' u : Value} {L : List α} (hn : vs.length = LL.length) (ho : w.ownsRow base eo 1 v LL.length vs) (hs : ∀ (i : Nat) (u : Value) (L : List α), vs[i]? = some u → LL[i]? = some L → w.ownsRow base ei k u L.length (L.flatMap C))
    (hne : eo ≠ ei) (hg : w.grownBy w' v.ownBlock) (ho' : w'.ownsRow base eo 1 v' (LL.length + 1) (vs ++ [u])) (hu : w.ownsRow base ei k u L.length (L.flatMap C)) : Own2 C k eo ei w' base v' (LL ++ [L]) := by
  refine ⟨vs ++ [u], by simp [hn], by simpa using ho', fun i x M a b => ?_⟩
  rcases Nat.lt_or_ge i vs.length with h | h
  · rw [List.getElem?_append_left h] at a
    rw [List.getElem?_append_left (by omega)] at b
    exact own_far (hs i x M a b) ho hne hg
  · have hi : i = vs.length := by
      rcases Nat.lt_or_ge vs.length i with h' | h'
      · rw [List.getElem?_eq_none (by simp; omega)] at a; cases a
      · omega
    subst hi
    simp only [List.getElem?_concat_length, Option.some.injEq] at a
    rw [hn] at b
    simp only [List.getElem?_concat_length, Option.some.injEq] at b
    subst a; subst b
    exact own_far hu ho hne hg
theorem Own2.slice (h : Own2 C k eo ei w base v LL) : ∃ a m c, v = .slice a m c := by
  obtain ⟨vs, _, h2, _⟩ := h
  exact own_slice h2
end

theorem infoRow : (Tryz.prog.info? 59).map (fun i => (i.zero, i.size, i.bytes)) = some (some (.slice none 0 0), 1, 24) := by kernel_rfl
abbrev AnyAt (w : World) (base : Nat) (v : Value) (LL : List (List AtomT)) : Prop := Own2 atomC 4 59 58 w base v LL

section
variable (w : World) (p l : Nat) (s : ByteArray) (S : St)
set_option maxHeartbeats 1000000
set_option maxRecDepth 8000
theorem row_is (h : Px w p l s S) :
    Calls Tryz.prog 124 #[.pointer (some ⟨p, 0, none⟩)] w fun e w' => ∃ a m c, e = .returned (.slice a m c) ∧ w'.ownsRow w.heap.size 58 4 (.slice a m c) (rowP s S).1.length ((rowP s S).1.flatMap atomC) ∧ Px w' p l s (rowP s S).2 ∧ Wp p l w w' := by
  have hR := partedAtom_is w p l s S xAnd (ne_nil _ _) h
  clear h
  go_enter Tryz.func124, Tryz.ntmps124
  go_wp2_with fail
  refine hR.mono ?_
  rintro e w1 ⟨v, rfl, ho, h1, hw1⟩
  obtain ⟨a, m, c, rfl⟩ := own_slice ho
  go_wp2
  go_ret
  exact ⟨a, m, c, rfl, ho, h1, hw1⟩

theorem partedRow_is (x : ByteArray) (hx : x.toList ≠ []) (h : Px w p l s S) :
    Calls Tryz.prog 123 #[.pointer (some ⟨p, 0, none⟩), .string x, .func (.func 124) #[] #[]] w fun e w' => ∃ a m c, e = .returned (.slice a m c) ∧ AnyAt w' w.heap.size (.slice a m c) (prtP s (rowP s) x S).1 ∧ Px w' p l s (prtP s (rowP s) x S).2 ∧ Wp p l w w' := by
  obtain ⟨i0, hi, hz0, hz1, hz2⟩ := info_parts infoRow
  have hlp := h.lp
  have hll := h.ll
  have hsz := h.sz
  have hvd := h.vd
  go_enter Tryz.func123, Tryz.ntmps123
  go_wp2_with fail
  refine (row_is _ p l s S h).mono ?_
  rintro e w1 ⟨a1, m1, c1, rfl, ho1, h1, hw1⟩
  have hS1 := hw1.size
  have hm1 := (goes_row s).m S
  have hO1 : AnyAt (w1.alloc (.cells #[.slice a1 m1 c1] 59)) w.heap.size (.slice (some ⟨w1.heap.size, 0, none⟩) 1 1) [(rowP s S).1] := Own2.one ho1 hS1
  have hP1 := h1.alloc (.cells #[.slice a1 m1 c1] 59)
  have hW1 := hw1.alloc (.cells #[.slice a1 m1 c1] 59)
  have hmS : mS s S ≤ s.size + 1 := by cases S <;> simp [mS]
  go_wp2
  go_loopg [7] (mS s (rowP s S).2) (fun k v wr => ∃ (S' : St) (L : List (List AtomT)), k = mS s S' ∧ Px wr p l s S' ∧ AnyAt wr w.heap.size v L ∧ L.length + mS s S' ≤ s.size + 2 ∧ (L ++ (moreP s (rowP s) x S').1, (moreP s (rowP s) x S').2) = prtP s (rowP s) x S ∧ Wp p l w wr)
  case atStart => exact ⟨_, [(rowP s S).1], rfl, hP1, hO1, by simp; omega, rfl, hW1⟩
  case round =>
    obtain ⟨S', L, hk, hpx, hown, hlen, heq, hwp⟩ := hrel
    clear hP1 hO1 hW1 h1 hw1 h ho1
    have HE : Hid ((L ++ (moreP s (rowP s) x S').1, (moreP s (rowP s) x S').2) = prtP s (rowP s) x S) := heq
    clear heq
    cases hX : isX s x S' with
    | false =>
      obtain ⟨a7, m7, c7, rfl⟩ := hown.slice
      go_wp2_with fail
      refine (acc_no _ p l s S' x hx hX hpx).mono ?_
      rintro e w2 ⟨rfl, h2, hw2⟩
      go_wp2
      go_ret
      rw [← HE.out, more_end s hX]
      exact ⟨_, _, _, rfl, by simpa using hown.wp hw2 hlp hll, h2, hwp.trans hw2⟩
    | true =>
      have hOn := more_on s (goes_row s) hx hpx.vd hX
      have hL := prt_less s (goes_row s) hx hpx.vd hX
      have HO : Hid (moreP s (rowP s) x S' = ((rowP s (nx s S')).1 :: (moreP s (rowP s) x (rowP s (nx s S')).2).1, (moreP s (rowP s) x (rowP s (nx s S')).2).2)) := hOn
      clear hOn
      go_wp2_with fail
      refine (acc_yes _ p l s S' x hx hX hpx).mono ?_
      rintro e w2 ⟨rfl, h2, hw2⟩
      go_wp2_with fail
      refine (row_is _ p l s _ h2).mono ?_
      rintro e w3 ⟨a3, m3, c3, rfl, ho3, h3, hw3⟩
      have hown3 := hown.wp (hw2.trans hw3) hlp hll
      have hwp3 := (hwp.trans hw2).trans hw3
      have hS3 := hwp3.size
      have ho3' := own_mono ho3 (hwp.trans hw2).size
      obtain ⟨vs, hn3, hov, hin⟩ := hown3
      have hlt : ∀ g, u7.ownBlock = some g → w.heap.size ≤ g := fun g hg => (hov.lt g hg).1
      have HW : Hid (Wp p l w w3) := hwp3
      clear hw2 hw3 h2 hown hwp hpx hwp3 ho3
      go_wp2_with (at_builtin; refine wpList_append_own _ rfl _ _ 24 rfl w.heap.size 59 i0 (.slice none 0 0) 1 24 Tryz.underlying24 hi hz0 hz1 hz2 rfl (by decide) _ _ _ rfl (hov.alloc _) ⟨w3.heap.size, 0, none⟩ 1 1 [.slice a3 m3 c3] rfl rfl ?c1 ?c2 ?c3 ?c4 ?c5 ?_)
      case c1 =>
        intro j u hu
        rw [new_cell]
        exact hu
      case c2 =>
        intro u hu
        simp only [List.mem_cons, List.not_mem_nil, or_false] at hu
        subst hu
        rfl
      case c3 => unfold maxLen; omega
      case c4 => omega
      case c5 => simp; omega
      intro v' w4 hown4 hg4 _
      go_wp2
      go_roundg (mS s (rowP s (nx s S')).2)
      case measure => omega
      case rel =>
        refine ⟨_, L ++ [(rowP s (nx s S')).1], rfl, px_grown (h3.alloc _) hg4 hlp hll hlt, ?_, by simp; omega, ?_, wp_grown (HW.out.alloc _) hg4 (Nat.le_refl _) hlt⟩
        · exact Own2.snoc hn3 (hov.alloc _) (fun i u M a b => (hin i u M a b).alloc _) (by decide) hg4 hown4 (ho3'.alloc _)
        · rw [← HE.out, HO.out]
          simp
end
end Go.Proofs.YtacflahkofmcpaaGreatDoor

namespace Go.Proofs.YtacflahkofmcpaaGreatDoor
open Go.RowKit

theorem own_setFar {w : World} {base k n N i : Nat} {e : TypeId} {v : Value} {xs : List Value} (h : w.ownsRow base e k v n xs) (hN : N < base) (u : Value) : (w.setCell ⟨N, i, none⟩ u).ownsRow base e k v n xs := by
  refine ⟨h.1, ?_⟩
  rcases h.2 with h2 | ⟨g, cap, cur, hv, hb, hh, r⟩
  · exact Or.inl h2
  · exact Or.inr ⟨g, cap, cur, hv, hb, (Below.heap_setCell _ _ _ _ (show g ≠ N by omega)).trans hh, r⟩
theorem Own2.setFar {α : Type} {C : α → List Value} {k : Nat} {eo ei : TypeId} {w : World} {base N i : Nat} {v : Value} {LL : List (List α)} (h : Own2 C k eo ei w base v LL) (hN : N < base) (u : Value) : Own2 C k eo ei (w.setCell ⟨N, i, none⟩ u) base v LL := by
  obtain ⟨vs, h1, h2, h3⟩ := h
  exact ⟨vs, h1, own_setFar h2 hN u, fun i u L a b => own_setFar (h3 i u L a b) hN _⟩

section
variable (w : World) (p l : Nat) (s : ByteArray) (S : St)
set_option maxHeartbeats 1000000
set_option maxRecDepth 8000
/-- What a condition's call leaves. -/
def CondPost (w : World) (p l : Nat) (s : ByteArray) (R : CondT × St) (e : Ending) (w' : World) : Prop :=
  ∃ a m c, e = .returned (.agg #[.int .i64 R.1.k, .slice a m c]) ∧ AnyAt w' (w.heap.size + 1) (.slice a m c) R.1.any ∧ Px w' p l s R.2 ∧ Wp p l w w'

theorem cond_exists (q1 : isX s xExists S = true) (h : Px w p l s S) :
    Calls Tryz.prog 80 #[.pointer (some ⟨p, 0, none⟩)] w (CondPost w p l s (⟨1, (rowsP s (nx s S)).1⟩, expS s xSemi (rowsP s (nx s S)).2)) := by
  have hx : ∀ o, Px (w.alloc o) p l s S := fun o => h.alloc o
  have hlp := h.lp
  have hll := h.ll
  clear h
  go_enter Tryz.func80, Tryz.ntmps80
  go_wp2_with fail
  refine (acc_yes _ p l s S xExists (ne_nil _ _) q1 (hx _)).mono ?_
  rintro e w1 ⟨rfl, h1, hw1⟩
  have B1 := (Bk.new w _ _).wp hw1 (by omega) (by omega)
  have W1 : Hid (Wp p l w w1) := ((Wp.refl p l w).alloc _).trans hw1
  clear hw1 hx
  have L1 := B1.lt
  go_wp2_with fail
  refine (partedRow_is _ p l s _ xOr (ne_nil _ _) h1).mono ?_
  rintro e w2 ⟨a, m, c, rfl, ho, h2, hw2⟩
  have B2 := B1.wp hw2 (by omega) (by omega)
  have W2 : Hid (Wp p l w w2) := W1.out.trans hw2
  clear hw2 B1 h1 W1
  go_wp2_with fail
  refine (expect_is _ p l s _ xSemi (ne_nil _ _) h2).mono ?_
  rintro e w3 ⟨rfl, h3, hw3⟩
  have ho2 := (ho.mono (show w.heap.size + 1 ≤ w1.heap.size from L1)).wp hw3 (by omega) (by omega)
  obtain ⟨T, hB⟩ := B2.wp hw3 (by omega) (by omega)
  have W3 : Hid (Wp p l w w3) := W2.out.trans hw3
  have dc0 : w3.cell? ⟨w.heap.size, 0, none⟩ = some (.int .i64 0) := by simp [World.cell?, hB]
  have dc1 : w3.cell? ⟨w.heap.size, 1, none⟩ = some (.slice none 0 0) := by simp [World.cell?, hB]
  have df0 : w3.frozen? ⟨w.heap.size, 0, none⟩ = false := by simp [World.frozen?, hB]
  have df1 : w3.frozen? ⟨w.heap.size, 1, none⟩ = false := by simp [World.frozen?, hB]
  clear hw3 B2 h2 hB ho W2
  go_wp2
  (try simp only [Exit.inBlock, Exit.then])
  refine bodyPost_ret (v := .agg #[.int .i64 1, .slice a m c]) ?_ rfl ⟨a, m, c, rfl, (ho2.setFar (Nat.lt_succ_self _) _).setFar (Nat.lt_succ_self _) _, ((h3.setFar hlp hll _).setFar hlp hll _), ((W3.out.setNew (Nat.le_refl _) _).setNew (Nat.le_refl _) _)⟩
  rw [results_cell rfl]
  go_simp

theorem cond_forall (q1 : isX s xExists S = false) (q2 : isX s xForall S = true) (h : Px w p l s S) :
    Calls Tryz.prog 80 #[.pointer (some ⟨p, 0, none⟩)] w (CondPost w p l s (⟨2, (rowsP s (nx s S)).1⟩, expS s xSemi (rowsP s (nx s S)).2)) := by
  have hx : ∀ o, Px (w.alloc o) p l s S := fun o => h.alloc o
  have hlp := h.lp
  have hll := h.ll
  clear h
  go_enter Tryz.func80, Tryz.ntmps80
  go_wp2_with fail
  refine (acc_no _ p l s S xExists (ne_nil _ _) q1 (hx _)).mono ?_
  rintro e w1 ⟨rfl, h1, hw1⟩
  have B1 := (Bk.new w _ _).wp hw1 (by omega) (by omega)
  have W1 : Hid (Wp p l w w1) := ((Wp.refl p l w).alloc _).trans hw1
  clear hw1 hx
  go_wp2_with fail
  refine (acc_yes _ p l s S xForall (ne_nil _ _) q2 h1).mono ?_
  rintro e w2 ⟨rfl, h2, hw2⟩
  have B2 := B1.wp hw2 (by omega) (by omega)
  have W2 : Hid (Wp p l w w2) := W1.out.trans hw2
  clear hw2 B1 h1 W1
  have L2 := B2.lt
  go_wp2_with fail
  refine (partedRow_is _ p l s _ xOr (ne_nil _ _) h2).mono ?_
  rintro e w3 ⟨a, m, c, rfl, ho, h3, hw3⟩
  have B3 := B2.wp hw3 (by omega) (by omega)
  have W3 : Hid (Wp p l w w3) := W2.out.trans hw3
  clear hw3 B2 h2 W2
  go_wp2_with fail
  refine (expect_is _ p l s _ xSemi (ne_nil _ _) h3).mono ?_
  rintro e w4 ⟨rfl, h4, hw4⟩
  have ho2 := (ho.mono (show w.heap.size + 1 ≤ w2.heap.size from L2)).wp hw4 (by omega) (by omega)
  obtain ⟨T, hB⟩ := B3.wp hw4 (by omega) (by omega)
  have W4 : Hid (Wp p l w w4) := W3.out.trans hw4
  have dc0 : w4.cell? ⟨w.heap.size, 0, none⟩ = some (.int .i64 0) := by simp [World.cell?, hB]
  have dc1 : w4.cell? ⟨w.heap.size, 1, none⟩ = some (.slice none 0 0) := by simp [World.cell?, hB]
  have df0 : w4.frozen? ⟨w.heap.size, 0, none⟩ = false := by simp [World.frozen?, hB]
  have df1 : w4.frozen? ⟨w.heap.size, 1, none⟩ = false := by simp [World.frozen?, hB]
  clear hw4 B3 h3 hB ho W3
  go_wp2
  (try simp only [Exit.inBlock, Exit.then])
  refine bodyPost_ret (v := .agg #[.int .i64 2, .slice a m c]) ?_ rfl ⟨a, m, c, rfl, (ho2.setFar (Nat.lt_succ_self _) _).setFar (Nat.lt_succ_self _) _, ((h4.setFar hlp hll _).setFar hlp hll _), ((W4.out.setNew (Nat.le_refl _) _).setNew (Nat.le_refl _) _)⟩
  rw [results_cell rfl]
  go_simp

theorem cond_none (q1 : isX s xExists S = false) (q2 : isX s xForall S = false) (h : Px w p l s S) :
    Calls Tryz.prog 80 #[.pointer (some ⟨p, 0, none⟩)] w (CondPost w p l s (⟨0, []⟩, S)) := by
  have hx : ∀ o, Px (w.alloc o) p l s S := fun o => h.alloc o
  have hlp := h.lp
  have hll := h.ll
  clear h
  go_enter Tryz.func80, Tryz.ntmps80
  go_wp2_with fail
  refine (acc_no _ p l s S xExists (ne_nil _ _) q1 (hx _)).mono ?_
  rintro e w1 ⟨rfl, h1, hw1⟩
  have B1 := (Bk.new w _ _).wp hw1 (by omega) (by omega)
  have W1 : Hid (Wp p l w w1) := ((Wp.refl p l w).alloc _).trans hw1
  clear hw1 hx
  go_wp2_with fail
  refine (acc_no _ p l s S xForall (ne_nil _ _) q2 h1).mono ?_
  rintro e w2 ⟨rfl, h2, hw2⟩
  obtain ⟨T, hB⟩ := B1.wp hw2 (by omega) (by omega)
  have W2 : Hid (Wp p l w w2) := W1.out.trans hw2
  have dc0 : w2.cell? ⟨w.heap.size, 0, none⟩ = some (.int .i64 0) := by simp [World.cell?, hB]
  have dc1 : w2.cell? ⟨w.heap.size, 1, none⟩ = some (.slice none 0 0) := by simp [World.cell?, hB]
  have df0 : w2.frozen? ⟨w.heap.size, 0, none⟩ = false := by simp [World.frozen?, hB]
  have df1 : w2.frozen? ⟨w.heap.size, 1, none⟩ = false := by simp [World.frozen?, hB]
  clear hw2 hB B1 h1 W1
  go_wp2
  (try simp only [Exit.inBlock, Exit.then])
  refine bodyPost_ret (v := .agg #[.int .i64 0, .slice none 0 0]) ?_ rfl ⟨none, 0, 0, rfl, Own2.nil _ _ _ _ _ _, ((h2.setFar hlp hll _).setFar hlp hll _), ((W2.out.setNew (Nat.le_refl _) _).setNew (Nat.le_refl _) _)⟩
  rw [results_cell rfl]
  go_simp

/-- A CONDITION. -/
theorem condition_is (h : Px w p l s S) :
    Calls Tryz.prog 80 #[.pointer (some ⟨p, 0, none⟩)] w (CondPost w p l s (condP s S)) := by
  unfold condP
  cases q1 : isX s xExists S with
  | true => exact cond_exists w p l s S q1 h
  | false =>
    cases q2 : isX s xForall S with
    | true => exact cond_forall w p l s S q1 q2 h
    | false => exact cond_none w p l s S q1 q2 h
end
end Go.Proofs.YtacflahkofmcpaaGreatDoor
