/- Operands, as the document's reader takes them (behind look). -/
import Derived.Test.YtacflahkofmcpaaGreatDoorJ18RefNumR
import Derived.Test.YtacflahkofmcpaaGreatDoorJ10OpW
namespace Go.Proofs.YtacflahkofmcpaaGreatDoor
open Go.RowKit

theorem Bk.wr {w w' : World} {N b : Nat} {cs : Array Value} (h : Bk w N cs) (k : Wr b w w') (hne : N ≠ b) : Bk w' N cs := by
  obtain ⟨T, e⟩ := h
  exact ⟨T, (k.block N (lt_of_block e) (by simpa using hne)).trans e⟩
theorem Rx.alloc {w : World} {r : Nat} {s : ByteArray} {S : St} {o : Bool} (h : Rx w r s S o) (ob : Obj) : Rx (w.alloc ob) r s S o := by
  obtain ⟨a, k, x, q, t, c, e, hb, rest⟩ := h
  exact ⟨a, k, x, q, t, c, e, hb.alloc ob, rest⟩
theorem Rx.setFar {w : World} {r N i : Nat} {s : ByteArray} {S : St} {o : Bool} (h : Rx w r s S o) (hne : r ≠ N) (u : Value) : Rx (w.setCell ⟨N, i, none⟩ u) r s S o := by
  obtain ⟨a, k, x, q, t, c, e, hb, rest⟩ := h
  exact ⟨a, k, x, q, t, c, e, hb.setFar hne i u, rest⟩
theorem Rx.lt {w : World} {r : Nat} {s : ByteArray} {S : St} {o : Bool} (h : Rx w r s S o) : r < w.heap.size := by
  obtain ⟨a, k, x, q, t, c, e, hb, rest⟩ := h
  exact hb.lt

section
variable (w : World) (r : Nat) (s : ByteArray) (S : St)
set_option maxHeartbeats 1000000
set_option maxRecDepth 8000
theorem roperand_is (hL : LookOk) (hs : s.size ≤ 4000) (o : Bool) (h : Rx w r s S o) :
    Calls Tryz.prog 83 #[.pointer (some ⟨r, 0, none⟩)] w fun e w' => e = .returned (.agg #[.int .i64 (opdP s S).1.r, .int .i64 (opdP s S).1.v]) ∧ (∃ o', Rx w' r s (opdP s S).2 o') ∧ Wr r w w' := by
  have hlt := h.lt
  have hK := fun ob => hL (w.alloc ob) r s S o hs (h.alloc ob)
  clear h
  have hNn : w.heap.size ≠ r := by omega
  by_cases hk : tokK s S = 2
  · obtain ⟨a, rfl⟩ : ∃ a, S = .ok a := by
      cases S with
      | ok a => exact ⟨a, rfl⟩
      | error e => simp [tokK] at hk
    have hE : opdP s (.ok a) = (⟨-1, (numP s (.ok a)).1⟩, (numP s (.ok a)).2) := by unfold opdP; rw [if_pos hk]
    have hq : ((kd s a : Int) == 2) = true := by rw [show kd s a = 2 from hk]; rfl
    rw [hE]
    simp only [lkA] at hK
    clear hE hk
    go_enter Tryz.func83, Tryz.ntmps83
    go_wp2_with fail
    refine (hK _).mono ?_
    rintro e w1 ⟨rfl, h1, hw1⟩
    have B1 := (Bk.new w _ _).wr hw1 hNn
    have W1 : Hid (Wr r w w1) := ((Wr.refl r w).alloc _).trans hw1
    obtain ⟨hle, he, hb⟩ := h1.good
    obtain ⟨r0, r1, r2, r3, r4, r5, r6, r7, r8, r9, r10, r11, r12, r13, r14, r15⟩ := rFacts hb
    obtain ⟨o1, hx1⟩ := h1.rx
    have hM := fun ob => rnum_is (w1.alloc ob) r s (.ok a) hL hs o1 (hx1.alloc ob)
    clear hb h1 hK hw1 hx1
    go_wp2_with fail
    refine (hM _).mono ?_
    rintro e w2 ⟨rfl, ⟨o2, h2⟩, _, _, hw2⟩
    obtain ⟨T, hB⟩ := (B1.alloc _).wr hw2 hNn
    have dc0 : w2.cell? ⟨w.heap.size, 0, none⟩ = some (.int .i64 0) := by simp [World.cell?, hB]
    have dc1 : w2.cell? ⟨w.heap.size, 1, none⟩ = some (.int .i64 0) := by simp [World.cell?, hB]
    have df0 : w2.frozen? ⟨w.heap.size, 0, none⟩ = false := by simp [World.frozen?, hB]
    have df1 : w2.frozen? ⟨w.heap.size, 1, none⟩ = false := by simp [World.frozen?, hB]
    have W2 : Hid (Wr r w w2) := (W1.out.alloc _).trans hw2
    clear hB B1 W1 hw2 hM
    go_wp2
    (try simp only [Exit.inBlock, Exit.then])
    refine bodyPost_ret (v := .agg #[.int .i64 (-1), .int .i64 (numP s (.ok a)).1]) ?_ rfl ⟨rfl, ⟨o2, (h2.setFar (by omega) _).setFar (by omega) _⟩, (W2.out.setNew (Nat.le_refl _) _).setNew (Nat.le_refl _) _⟩
    rw [results_cell rfl]
    go_simp
  · have hE : opdP s S = (⟨(regP s S).1, 0⟩, (regP s S).2) := by unfold opdP; rw [if_neg hk]
    rw [hE]
    cases S with
    | ok a =>
      have hq : ((kd s a : Int) == 2) = false := by rw [beq_eq_false_iff_ne]; have h' : ¬ kd s a = 2 := hk; omega
      simp only [lkA] at hK
      clear hE hk
      go_enter Tryz.func83, Tryz.ntmps83
      go_wp2_with fail
      refine (hK _).mono ?_
      rintro e w1 ⟨rfl, h1, hw1⟩
      have B1 := (Bk.new w _ _).wr hw1 hNn
      have W1 : Hid (Wr r w w1) := ((Wr.refl r w).alloc _).trans hw1
      obtain ⟨hle, he, hb⟩ := h1.good
      obtain ⟨r0, r1, r2, r3, r4, r5, r6, r7, r8, r9, r10, r11, r12, r13, r14, r15⟩ := rFacts hb
      obtain ⟨o1, hx1⟩ := h1.rx
      have hM := fun ob => register_at (w1.alloc ob) r s (.ok a) hL hs o1 (hx1.alloc ob)
      clear hb h1 hK hw1 hx1
      go_wp2_with fail
      refine (hM _).mono ?_
      rintro e w2 ⟨rfl, ⟨o2, h2⟩, hw2⟩
      obtain ⟨T, hB⟩ := (B1.alloc _).wr hw2 hNn
      have dc0 : w2.cell? ⟨w.heap.size, 0, none⟩ = some (.int .i64 0) := by simp [World.cell?, hB]
      have dc1 : w2.cell? ⟨w.heap.size, 1, none⟩ = some (.int .i64 0) := by simp [World.cell?, hB]
      have df0 : w2.frozen? ⟨w.heap.size, 0, none⟩ = false := by simp [World.frozen?, hB]
      have df1 : w2.frozen? ⟨w.heap.size, 1, none⟩ = false := by simp [World.frozen?, hB]
      have W2 : Hid (Wr r w w2) := (W1.out.alloc _).trans hw2
      clear hB B1 W1 hw2 hM
      go_wp2
      (try simp only [Exit.inBlock, Exit.then])
      refine bodyPost_ret (v := .agg #[.int .i64 (regP s (.ok a)).1, .int .i64 0]) ?_ rfl ⟨rfl, ⟨o2, (h2.setFar (by omega) _).setFar (by omega) _⟩, (W2.out.setNew (Nat.le_refl _) _).setNew (Nat.le_refl _) _⟩
      rw [results_cell rfl]
      go_simp
    | error er =>
      obtain ⟨c, p⟩ := er
      simp only [lkA] at hK
      clear hE hk
      go_enter Tryz.func83, Tryz.ntmps83
      go_wp2_with fail
      refine (hK _).mono ?_
      rintro e w1 ⟨rfl, h1, hw1⟩
      have B1 := (Bk.new w _ _).wr hw1 hNn
      have W1 : Hid (Wr r w w1) := ((Wr.refl r w).alloc _).trans hw1
      obtain ⟨hc, c6, hlt1⟩ := h1.err
      have hq : ((c : Int) == 0) = false := by rw [beq_eq_false_iff_ne]; omega
      obtain ⟨o1, hx1⟩ := h1.rx
      have hM := fun ob => register_at (w1.alloc ob) r s (.error (c, p)) hL hs o1 (hx1.alloc ob)
      clear h1 hK hw1 hx1
      go_wp2_with fail
      refine (hM _).mono ?_
      rintro e w2 ⟨rfl, ⟨o2, h2⟩, hw2⟩
      obtain ⟨T, hB⟩ := (B1.alloc _).wr hw2 hNn
      have dc0 : w2.cell? ⟨w.heap.size, 0, none⟩ = some (.int .i64 0) := by simp [World.cell?, hB]
      have dc1 : w2.cell? ⟨w.heap.size, 1, none⟩ = some (.int .i64 0) := by simp [World.cell?, hB]
      have df0 : w2.frozen? ⟨w.heap.size, 0, none⟩ = false := by simp [World.frozen?, hB]
      have df1 : w2.frozen? ⟨w.heap.size, 1, none⟩ = false := by simp [World.frozen?, hB]
      have W2 : Hid (Wr r w w2) := (W1.out.alloc _).trans hw2
      clear hB B1 W1 hw2 hM
      go_wp2
      (try simp only [Exit.inBlock, Exit.then])
      refine bodyPost_ret (v := .agg #[.int .i64 (regP s (.error (c, p))).1, .int .i64 0]) ?_ rfl ⟨rfl, ⟨o2, (h2.setFar (by omega) _).setFar (by omega) _⟩, (W2.out.setNew (Nat.le_refl _) _).setNew (Nat.le_refl _) _⟩
      rw [results_cell rfl]
      go_simp
end
end Go.Proofs.YtacflahkofmcpaaGreatDoor

namespace Go.Proofs.YtacflahkofmcpaaGreatDoor

theorem noNum {s x : ByteArray} {c : UInt8} {r : List UInt8} (hx : x.data.toList = c :: r) (hd : digN c.toNat = false) (h45 : (c.toNat == 45) = false) : NoNum s x := by
  intro a he h
  have hl : (tx s a).data.toList = c :: r := (beq_iff_eq.1 h).trans hx
  have hpos : 0 < (tx s a).size := by rw [size_list, hl]; simp
  have h0 : bN s (pl s a) = c.toNat := by
    rw [← tx_hd hpos]
    unfold bN suf
    rw [List.drop_zero, hl]
    rfl
  have hlt : pl s a < s.size := by
    rcases Nat.lt_or_ge (pl s a) s.size with h' | h'
    · exact h'
    · rw [tx_list, suf_ge h'] at hl
      simp at hl
  have hk := kind_at hlt
  have hn := eC_kd he
  have e : kd s a = kind (suf s (pl s a)) := rfl
  rw [h0, hd, h45] at hk
  rw [e, hk] at hn ⊢
  simp only [Bool.false_eq_true, if_false, Bool.false_and] at hn ⊢
  split
  · exact Or.inl rfl
  · rename_i h1
    rw [if_neg h1] at hn
    split
    · exact Or.inr rfl
    · rename_i h2
      rw [if_neg h2] at hn
      split
      · exact Or.inr rfl
      · rename_i h3
        rw [if_neg h3] at hn
        exact absurd rfl hn

section
variable (s : ByteArray)
theorem nnTest : NoNum s xTest := noNum rfl (by decide) (by decide)
theorem nnInit : NoNum s xInit := noNum rfl (by decide) (by decide)
theorem nnThread : NoNum s xThread := noNum rfl (by decide) (by decide)
theorem nnExists : NoNum s xExists := noNum rfl (by decide) (by decide)
theorem nnForall : NoNum s xForall := noNum rfl (by decide) (by decide)
theorem nnStore : NoNum s xStore := noNum rfl (by decide) (by decide)
theorem nnFence : NoNum s xFence := noNum rfl (by decide) (by decide)
theorem nnSkip : NoNum s xSkip := noNum rfl (by decide) (by decide)
theorem nnLoad : NoNum s xLoad := noNum rfl (by decide) (by decide)
theorem nnCas : NoNum s xCas := noNum rfl (by decide) (by decide)
theorem nnIf : NoNum s xIf := noNum rfl (by decide) (by decide)
theorem nnEq : NoNum s xEq := noNum rfl (by decide) (by decide)
theorem nnEqq : NoNum s xEqq := noNum rfl (by decide) (by decide)
theorem nnColon : NoNum s xColon := noNum rfl (by decide) (by decide)
theorem nnSemi : NoNum s xSemi := noNum rfl (by decide) (by decide)
theorem nnOpen : NoNum s xOpen := noNum rfl (by decide) (by decide)
theorem nnShut : NoNum s xShut := noNum rfl (by decide) (by decide)
theorem nnAnd : NoNum s xAnd := noNum rfl (by decide) (by decide)
theorem nnOr : NoNum s xOr := noNum rfl (by decide) (by decide)
end
end Go.Proofs.YtacflahkofmcpaaGreatDoor

namespace Go.Proofs.YtacflahkofmcpaaGreatDoor
open Go.RowKit

theorem alloc_cell (w : World) (cs : Array Value) (t : TypeId) (k : Nat) : (w.alloc (.cells cs t)).cell? ⟨w.heap.size, k, none⟩ = cs[k]? := by
  simp only [World.cell?, World.alloc, Array.getElem?_push_size]
  rfl

theorem rsigns (w : World) :
    Calls Tryz.prog 113 #[] w fun e w' => e = .returned (.slice (some ⟨w.heap.size, 0, none⟩) 11 11) ∧ On w w' ∧ ∀ k, k < 11 → w'.cell? ⟨w.heap.size, k, none⟩ = some (.string (sgn (k + 1))) := by
  go_enter Tryz.func113, Tryz.ntmps113
  go_wp2
  go_ret
  refine ⟨rfl, Below.alloc (Below.refl _ _) (Nat.le_refl _) _, fun k hk => ?_⟩
  rw [alloc_cell]
  match k, hk with
  | 0, _ | 1, _ | 2, _ | 3, _ | 4, _ | 5, _ | 6, _ | 7, _ | 8, _ | 9, _ | 10, _ => rfl
  | n + 11, h => omega

set_option maxHeartbeats 400000 in
theorem rop_any (s : ByteArray) (r : Nat) (h1 : 1 ≤ r) (h2 : r ≤ 12) (hlt : ∀ k, 1 ≤ k → k < r → ((sgn k).toList == s.toList) = false) (heq : r ≤ 11 → ((sgn r).toList == s.toList) = true) (w : World) :
    Calls Tryz.prog 85 #[.string s] w fun e w' => e = .returned (.tuple #[.int .i64 (if r ≤ 11 then r else 0), .bool (decide (r ≤ 11))]) ∧ On w w' := by
  have hR := rsigns w
  go_enter Tryz.func85, Tryz.ntmps85
  go_wp2_with (go_at_call 113; refine hR.mono ?_; rintro e w1 ⟨rfl, k1, hc⟩)
  clear hR
  go_loop [5] (fun i => ∃ k : Nat, k + 1 ≤ r ∧ i = .int .i64 k) (fun i => 12 - (intOf i).toNat)
  case atStart => exact ⟨0, h1, rfl⟩
  case round =>
    obtain ⟨k, k2, rfl⟩ := hrel
    by_cases hk : k + 1 < r
    · have e1 := hlt (k + 1) (by omega) hk
      have e2 := hc k (by omega)
      clear hlt heq hc
      go_wp2
      go_round
      case rel => exact ⟨k + 1, by omega, by go_num⟩
      case measure => simp [intOf]; omega
    · obtain rfl : k + 1 = r := by omega
      by_cases h11 : k + 1 ≤ 11
      · have e1 := heq h11
        have e2 := hc k (by omega)
        clear hlt heq hc
        go_wp2
        go_ret2
        exact ⟨by simp, k1⟩
      · clear hlt heq hc
        go_wp2
        go_ret2
        exact ⟨by simp, k1⟩

theorem rop_is (s : ByteArray) (w : World) :
    Calls Tryz.prog 85 #[.string s] w fun e w' => e = .returned (.tuple #[.int .i64 (opV s), .bool (opB s)]) ∧ On w w' :=
  have h := opFrom_is s 11 (by omega)
  rop_any s (opR s) h.1 h.2.1 h.2.2.1 h.2.2.2 w
end Go.Proofs.YtacflahkofmcpaaGreatDoor
