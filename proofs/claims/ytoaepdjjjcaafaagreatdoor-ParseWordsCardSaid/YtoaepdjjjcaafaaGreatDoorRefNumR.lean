/- Numbers and operands, as the document's reader takes them (behind look). -/
import Derived.Test.YtoaepdjjjcaafaaGreatDoorRefBase
import Derived.Test.YtoaepdjjjcaafaaGreatDoorRefVal
import Derived.Test.YtoaepdjjjcaafaaGreatDoorNumeral
namespace Go.Proofs.YtoaepdjjjcaafaaGreatDoor
open Go.RowKit

section
variable (w : World) (r : Nat) (s : ByteArray) (S : St)
set_option maxHeartbeats 1000000
set_option maxRecDepth 8000
theorem rnum_is (hL : LookOk) (hs : s.size ≤ 4000) (o : Bool) (h : Rx w r s S o) :
    Calls Tryz.prog 23 #[.pointer (some ⟨r, 0, none⟩)] w fun e w' => e = .returned (.int .i64 (numP s S).1) ∧ (∃ o', Rx w' r s (numP s S).2 o') ∧ (∀ a, S = .ok a → kd s a = 2 → Bk w' r (rdC s (to s a) (kd s a) (tx s a) (pl s a) (to s a) 0 0)) ∧ ((∀ a, S = .ok a → kd s a ≠ 2) → Lk w' r s (numP s S).2) ∧ Wr r w w' := by
  have hK := hL w r s S o hs h
  clear h
  cases S with
  | error er =>
    obtain ⟨c, p⟩ := er
    have hE : numP s (.error (c, p)) = (0, .error (c, p)) := by unfold numP; rw [if_neg (by simp [tokX, pB_nil])]; rfl
    rw [hE]
    simp only [lkA] at hK
    go_enter Tryz.func23, Tryz.ntmps23
    go_wp2_with fail
    refine hK.mono ?_
    rintro e w1 ⟨rfl, h1, hw1⟩
    obtain ⟨hc, c6, hlt⟩ := h1.err
    have hq : ((c : Int) != 0) = true := by simp; omega
    have hF := fun o => rfail_is (w1.alloc o) r s (.error (c, p)) 6 (by decide) (h1.alloc o)
    go_wp2_with (go_at_call 27; refine (hF _).mono ?_; rintro e w2 ⟨rfl, h2, hw2⟩)
    all_goals (try go_ret)
    all_goals exact ⟨rfl, h2.rx, (fun a h => by cases h), fun _ => h2, (hw1.alloc _).trans hw2⟩
  | ok a =>
    simp only [lkA] at hK
    by_cases hk : kd s a = 2
    · have hq : ((kd s a : Int) != 2) = false := by rw [hk]; rfl
      have HK2 : Hid (kd s a = 2) := hk
      clear hk
      obtain ⟨R, hR⟩ : ∃ R, R = numP s (.ok a) := ⟨_, rfl⟩
      rw [← hR]
      have HR : Hid (R = numP s (.ok a)) := hR
      clear hR
      go_enter Tryz.func23, Tryz.ntmps23
      go_wp2_with fail
      refine hK.mono ?_
      rintro e w1 ⟨rfl, h1, hw1⟩
      obtain ⟨hle, he, hb⟩ := h1.good
      have hp := kind_num he HK2.out
      have hE : R = (pN (tx s a), nx s (.ok a)) := by rw [HR.out]; unfold numP; rw [if_pos (show pB (tokX s (.ok a)) = true from hp)]; rfl
      have HE : Hid (R = (pN (tx s a), nx s (.ok a))) := hE
      obtain ⟨r0, r1, r2, r3, r4, r5, r6, r7, r8, r9, r10, r11, r12, r13, r14, r15⟩ := rFacts hb
      have hG := fun o => go1_is (w1.alloc o) r s a hle (hb.alloc o)
      have htz : ((tx s a).size : Int) ≤ 9223372036854775807 := by have := tokX_size (S := .ok a) hs; simp only [tokX] at this; omega
      have hV := fun W => rparse_val (tx s a) htz W
      simp only [hp] at hV
      have HW : Hid (Wr r w w1) := hw1
      clear hb h1 hK hw1 hp hE HR
      go_wp2_with fail
      refine (hG _).mono ?_
      rintro e w2 ⟨rfl, h2, h3, hw2⟩
      have hT : w2.heap[w1.heap.size]? = some (.cells #[.int .i64 (kd s a), .string (tx s a), .int .i64 (pl s a)] 56 (0, 0)) := (hw2.block w1.heap.size (by simp) (by simp; omega)).trans (heap_alloc_new w1 _)
      have t1 : w2.cell? ⟨w1.heap.size, 1, none⟩ = some (.string (tx s a)) := by simp [World.cell?, hT]
      clear hT
      go_wp2_with fail
      refine (hV _).mono ?_
      rintro e w2' ⟨v, rfl, hv, rfl⟩
      obtain rfl := hv trivial
      go_wp2
      all_goals (try go_ret)
      all_goals
        obtain rfl := HE.out
        refine ⟨rfl, ⟨true, h2⟩, fun a' ha' _ => ?_, fun h => absurd HK2.out (h a rfl), (HW.out.alloc _).trans hw2⟩
        obtain rfl : a = a' := by simpa using ha'
        exact h3
    · have hq : ((kd s a : Int) != 2) = true := by simp; omega
      have hn : pB (tokX s (.ok a)) = false := by
        cases hh : pB (tokX s (.ok a)) with
        | false => rfl
        | true => exact absurd (num_kind hh) hk
      have hE : numP s (.ok a) = (0, flS s 6 (.ok a)) := by unfold numP; rw [hn]; rfl
      have HK2 : Hid (¬ kd s a = 2) := hk
      rw [hE]
      clear hk hn hE
      go_enter Tryz.func23, Tryz.ntmps23
      go_wp2_with fail
      refine hK.mono ?_
      rintro e w1 ⟨rfl, h1, hw1⟩
      obtain ⟨hle, he, hb⟩ := h1.good
      obtain ⟨r0, r1, r2, r3, r4, r5, r6, r7, r8, r9, r10, r11, r12, r13, r14, r15⟩ := rFacts hb
      have hF := fun o => rfail_is (w1.alloc o) r s (.ok a) 6 (by decide) (h1.alloc o)
      have HW : Hid (Wr r w w1) := hw1
      clear hb hK hw1 h1
      go_wp2_with (go_at_call 27; refine (hF _).mono ?_; rintro e w2 ⟨rfl, h2, hw2⟩)
      all_goals (try go_ret)
      all_goals
        refine ⟨rfl, h2.rx, fun a' ha' hk' => ?_, fun _ => h2, (HW.out.alloc _).trans hw2⟩
        obtain rfl : a = a' := by simpa using ha'
        exact absurd hk' HK2.out
end
end Go.Proofs.YtoaepdjjjcaafaaGreatDoor

namespace Go.Proofs.YtoaepdjjjcaafaaGreatDoor
open Go.RowKit

theorem Bk.wr {w w' : World} {N b : Nat} {cs : Array Value} (h : Bk w N cs) (k : Wr b w w') (hne : N ≠ b) : Bk w' N cs := by
  obtain ⟨T, e⟩ := h
  exact ⟨T, (k.block N (lt_of_block e) (by simpa using hne)).trans e⟩
theorem Rx.alloc {w : World} {r : Nat} {s : ByteArray} {S : St} {o : Bool} (h : Rx w r s S o) (ob : Obj) : Rx (w.alloc ob) r s S o := by
  obtain ⟨a, k, x, q, t, c, e, hb, rest⟩ := h
  exact ⟨a, k, x, q, t, c, e, hb.alloc ob, rest⟩
theorem Rx.setFar {w : World} {r N i : Nat} {s : ByteArray} {S : St} {o : Bool} (h : Rx w r s S o) (hne : r ≠ N) (u : Value) : Rx (w.setCell ⟨N, i, none⟩ u) r s S o := by
  obtain ⟨a, k, x, q, t, c, e, hb, rest⟩ := h
  exact ⟨a, k, x, q, t, c, e, hb.setFar hne i u, rest⟩
theorem Rx.lt {w : World} {r : Nat} {s : ByteArray} {S : St} {o : Bool} (h : Rx w r s S o) : r < w.heap.size := by
  obtain ⟨a, k, x, q, t, c, e, hb, rest⟩ := h
  exact hb.lt

section
variable (w : World) (r : Nat) (s : ByteArray) (S : St)
set_option maxHeartbeats 1000000
set_option maxRecDepth 8000
theorem roperand_is (hL : LookOk) (hs : s.size ≤ 4000) (o : Bool) (h : Rx w r s S o) :
    Calls Tryz.prog 46 #[.pointer (some ⟨r, 0, none⟩)] w fun e w' => e = .returned (.agg #[.int .i64 (opdP s S).1.r, .int .i64 (opdP s S).1.v]) ∧ (∃ o', Rx w' r s (opdP s S).2 o') ∧ Wr r w w' := by
  have hlt := h.lt
  have hK := fun ob => hL (w.alloc ob) r s S o hs (h.alloc ob)
  clear h
  have hNn : w.heap.size ≠ r := by omega
  by_cases hk : tokK s S = 2
  · obtain ⟨a, rfl⟩ : ∃ a, S = .ok a := by
      cases S with
      | ok a => exact ⟨a, rfl⟩
      | error e => simp [tokK] at hk
    have hE : opdP s (.ok a) = (⟨-1, (numP s (.ok a)).1⟩, (numP s (.ok a)).2) := by unfold opdP; rw [if_pos hk]
    have hq : ((kd s a : Int) == 2) = true := by rw [show kd s a = 2 from hk]; rfl
    rw [hE]
    simp only [lkA] at hK
    clear hE hk
    go_enter Tryz.func46, Tryz.ntmps46
    go_wp2_with fail
    refine (hK _).mono ?_
    rintro e w1 ⟨rfl, h1, hw1⟩
    have B1 := (Bk.new w _ _).wr hw1 hNn
    have W1 : Hid (Wr r w w1) := ((Wr.refl r w).alloc _).trans hw1
    obtain ⟨hle, he, hb⟩ := h1.good
    obtain ⟨r0, r1, r2, r3, r4, r5, r6, r7, r8, r9, r10, r11, r12, r13, r14, r15⟩ := rFacts hb
    obtain ⟨o1, hx1⟩ := h1.rx
    have hM := fun ob => rnum_is (w1.alloc ob) r s (.ok a) hL hs o1 (hx1.alloc ob)
    clear hb h1 hK hw1 hx1
    go_wp2_with fail
    refine (hM _).mono ?_
    rintro e w2 ⟨rfl, ⟨o2, h2⟩, _, _, hw2⟩
    obtain ⟨T, hB⟩ := (B1.alloc _).wr hw2 hNn
    have dc0 : w2.cell? ⟨w.heap.size, 0, none⟩ = some (.int .i64 0) := by simp [World.cell?, hB]
    have dc1 : w2.cell? ⟨w.heap.size, 1, none⟩ = some (.int .i64 0) := by simp [World.cell?, hB]
    have df0 : w2.frozen? ⟨w.heap.size, 0, none⟩ = false := by simp [World.frozen?, hB]
    have df1 : w2.frozen? ⟨w.heap.size, 1, none⟩ = false := by simp [World.frozen?, hB]
    have W2 : Hid (Wr r w w2) := (W1.out.alloc _).trans hw2
    clear hB B1 W1 hw2 hM
    go_wp2
    (try simp only [Exit.inBlock, Exit.then])
    refine bodyPost_ret (v := .agg #[.int .i64 (-1), .int .i64 (numP s (.ok a)).1]) ?_ rfl ⟨rfl, ⟨o2, (h2.setFar (by omega) _).setFar (by omega) _⟩, (W2.out.setNew (Nat.le_refl _) _).setNew (Nat.le_refl _) _⟩
    rw [results_cell rfl]
    go_simp
  · have hE : opdP s S = (⟨(regP s S).1, 0⟩, (regP s S).2) := by unfold opdP; rw [if_neg hk]
    rw [hE]
    cases S with
    | ok a =>
      have hq : ((kd s a : Int) == 2) = false := by rw [beq_eq_false_iff_ne]; have h' : ¬ kd s a = 2 := hk; omega
      simp only [lkA] at hK
      clear hE hk
      go_enter Tryz.func46, Tryz.ntmps46
      go_wp2_with fail
      refine (hK _).mono ?_
      rintro e w1 ⟨rfl, h1, hw1⟩
      have B1 := (Bk.new w _ _).wr hw1 hNn
      have W1 : Hid (Wr r w w1) := ((Wr.refl r w).alloc _).trans hw1
      obtain ⟨hle, he, hb⟩ := h1.good
      obtain ⟨r0, r1, r2, r3, r4, r5, r6, r7, r8, r9, r10, r11, r12, r13, r14, r15⟩ := rFacts hb
      obtain ⟨o1, hx1⟩ := h1.rx
      have hM := fun ob => register_at (w1.alloc ob) r s (.ok a) hL hs o1 (hx1.alloc ob)
      clear hb h1 hK hw1 hx1
      go_wp2_with fail
      refine (hM _).mono ?_
      rintro e w2 ⟨rfl, ⟨o2, h2⟩, hw2⟩
      obtain ⟨T, hB⟩ := (B1.alloc _).wr hw2 hNn
      have dc0 : w2.cell? ⟨w.heap.size, 0, none⟩ = some (.int .i64 0) := by simp [World.cell?, hB]
      have dc1 : w2.cell? ⟨w.heap.size, 1, none⟩ = some (.int .i64 0) := by simp [World.cell?, hB]
      have df0 : w2.frozen? ⟨w.heap.size, 0, none⟩ = false := by simp [World.frozen?, hB]
      have df1 : w2.frozen? ⟨w.heap.size, 1, none⟩ = false := by simp [World.frozen?, hB]
      have W2 : Hid (Wr r w w2) := (W1.out.alloc _).trans hw2
      clear hB B1 W1 hw2 hM
      go_wp2
      (try simp only [Exit.inBlock, Exit.then])
      refine bodyPost_ret (v := .agg #[.int .i64 (regP s (.ok a)).1, .int .i64 0]) ?_ rfl ⟨rfl, ⟨o2, (h2.setFar (by omega) _).setFar (by omega) _⟩, (W2.out.setNew (Nat.le_refl _) _).setNew (Nat.le_refl _) _⟩
      rw [results_cell rfl]
      go_simp
    | error er =>
      obtain ⟨c, p⟩ := er
      simp only [lkA] at hK
      clear hE hk
      go_enter Tryz.func46, Tryz.ntmps46
      go_wp2_with fail
      refine (hK _).mono ?_
      rintro e w1 ⟨rfl, h1, hw1⟩
      have B1 := (Bk.new w _ _).wr hw1 hNn
      have W1 : Hid (Wr r w w1) := ((Wr.refl r w).alloc _).trans hw1
      obtain ⟨hc, c6, hlt1⟩ := h1.err
      have hq : ((c : Int) == 0) = false := by rw [beq_eq_false_iff_ne]; omega
      obtain ⟨o1, hx1⟩ := h1.rx
      have hM := fun ob => register_at (w1.alloc ob) r s (.error (c, p)) hL hs o1 (hx1.alloc ob)
      clear h1 hK hw1 hx1
      go_wp2_with fail
      refine (hM _).mono ?_
      rintro e w2 ⟨rfl, ⟨o2, h2⟩, hw2⟩
      obtain ⟨T, hB⟩ := (B1.alloc _).wr hw2 hNn
      have dc0 : w2.cell? ⟨w.heap.size, 0, none⟩ = some (.int .i64 0) := by simp [World.cell?, hB]
      have dc1 : w2.cell? ⟨w.heap.size, 1, none⟩ = some (.int .i64 0) := by simp [World.cell?, hB]
      have df0 : w2.frozen? ⟨w.heap.size, 0, none⟩ = false := by simp [World.frozen?, hB]
      have df1 : w2.frozen? ⟨w.heap.size, 1, none⟩ = false := by simp [World.frozen?, hB]
      have W2 : Hid (Wr r w w2) := (W1.out.alloc _).trans hw2
      clear hB B1 W1 hw2 hM
      go_wp2
      (try simp only [Exit.inBlock, Exit.then])
      refine bodyPost_ret (v := .agg #[.int .i64 (regP s (.error (c, p))).1, .int .i64 0]) ?_ rfl ⟨rfl, ⟨o2, (h2.setFar (by omega) _).setFar (by omega) _⟩, (W2.out.setNew (Nat.le_refl _) _).setNew (Nat.le_refl _) _⟩
      rw [results_cell rfl]
      go_simp
end
end Go.Proofs.YtoaepdjjjcaafaaGreatDoor

namespace Go.Proofs.YtoaepdjjjcaafaaGreatDoor

theorem noNum {s x : ByteArray} {c : UInt8} {r : List UInt8} (hx : x.data.toList = c :: r) (hd : digN c.toNat = false) (h45 : (c.toNat == 45) = false) : NoNum s x := by
  intro a he h
  have hl : (tx s a).data.toList = c :: r := (beq_iff_eq.1 h).trans hx
  have hpos : 0 < (tx s a).size := by rw [size_list, hl]; simp
  have h0 : bN s (pl s a) = c.toNat := by
    rw [← tx_hd hpos]
    unfold bN suf
    rw [List.drop_zero, hl]
    rfl
  have hlt : pl s a < s.size := by
    rcases Nat.lt_or_ge (pl s a) s.size with h' | h'
    · exact h'
    · rw [tx_list, suf_ge h'] at hl
      simp at hl
  have hk := kind_at hlt
  have hn := eC_kd he
  have e : kd s a = kind (suf s (pl s a)) := rfl
  rw [h0, hd, h45] at hk
  rw [e, hk] at hn ⊢
  simp only [Bool.false_eq_true, if_false, Bool.false_and] at hn ⊢
  split
  · exact Or.inl rfl
  · rename_i h1
    rw [if_neg h1] at hn
    split
    · exact Or.inr rfl
    · rename_i h2
      rw [if_neg h2] at hn
      split
      · exact Or.inr rfl
      · rename_i h3
        rw [if_neg h3] at hn
        exact absurd rfl hn

section
variable (s : ByteArray)
theorem nnTest : NoNum s xTest := noNum rfl (by decide) (by decide)
theorem nnInit : NoNum s xInit := noNum rfl (by decide) (by decide)
theorem nnThread : NoNum s xThread := noNum rfl (by decide) (by decide)
theorem nnExists : NoNum s xExists := noNum rfl (by decide) (by decide)
theorem nnForall : NoNum s xForall := noNum rfl (by decide) (by decide)
theorem nnStore : NoNum s xStore := noNum rfl (by decide) (by decide)
theorem nnFence : NoNum s xFence := noNum rfl (by decide) (by decide)
theorem nnSkip : NoNum s xSkip := noNum rfl (by decide) (by decide)
theorem nnLoad : NoNum s xLoad := noNum rfl (by decide) (by decide)
theorem nnCas : NoNum s xCas := noNum rfl (by decide) (by decide)
theorem nnIf : NoNum s xIf := noNum rfl (by decide) (by decide)
theorem nnEq : NoNum s xEq := noNum rfl (by decide) (by decide)
theorem nnEqq : NoNum s xEqq := noNum rfl (by decide) (by decide)
theorem nnColon : NoNum s xColon := noNum rfl (by decide) (by decide)
theorem nnSemi : NoNum s xSemi := noNum rfl (by decide) (by decide)
theorem nnOpen : NoNum s xOpen := noNum rfl (by decide) (by decide)
theorem nnShut : NoNum s xShut := noNum rfl (by decide) (by decide)
theorem nnAnd : NoNum s xAnd := noNum rfl (by decide) (by decide)
theorem nnOr : NoNum s xOr := noNum rfl (by decide) (by decide)
end
end Go.Proofs.YtoaepdjjjcaafaaGreatDoor
