/- skipComment and skip: to where a token begins. -/
import Derived.Test.YtnfmagafajpmpaaDoorLexBase
import Derived.Deep.LoopGhost
namespace Go.Proofs.YtnfmagafajpmpaaDoor
open Go.RowKit

/-- All up to the place was looked at, and at most one byte more. -/
structure Inv (s : ByteArray) (a r : Nat) : Prop where
  h1 : a ≤ r
  h2 : r ≤ a + 1
  h3 : r ≤ s.size
  h4 : a ≤ s.size

theorem Inv.look {s : ByteArray} {a r : Nat} (h : Inv s a r) : Inv s a (rd s r (a + 0)) := by
  obtain ⟨h1, h2, h3, h4⟩ := h
  unfold rd
  split
  · exact ⟨by omega, by omega, by omega, by omega⟩
  · exact ⟨h1, h2, h3, h4⟩
theorem Inv.step {s : ByteArray} {a r : Nat} (h : Inv s a r) (hl : a < s.size) : Inv s (a + 1) (rd s r (a + 0)) := by
  obtain ⟨h1, h2, h3, h4⟩ := h
  unfold rd
  rw [if_pos (by omega)]
  exact ⟨by omega, by omega, by omega, by omega⟩

set_option maxHeartbeats 400000 in
theorem skipComment_is (w : World) (b : Nat) (s : ByteArray) (a r : Nat) (hs : s.size ≤ 140737488351232) (hi : Inv s a r) (hl : Lx w b s a r) :
    Calls Tryd.prog 51 #[.pointer (some ⟨b, 0, none⟩)] w fun e w' => e = .returned (.tuple #[]) ∧ ∃ a' r', a ≤ a' ∧ (bN s a ≠ 10 → a < s.size → a < a') ∧ Inv s a' r' ∧ a' + gap false (suf s a') = a + gap true (suf s a) ∧ Lx w' b s a' r' ∧ Wr b w w' := by
  go_enter Tryd.func51, Tryd.ntmps51
  go_wp2
  go_loopg [] (s.size - a) (fun k wr => ∃ a' r', k = s.size - a' ∧ a ≤ a' ∧ Inv s a' r' ∧ a' + gap true (suf s a') = a + gap true (suf s a) ∧ Lx wr b s a' r' ∧ Wr b w wr)
  case atStart => exact ⟨a, r, rfl, Nat.le_refl _, hi, rfl, hl, Wr.refl _ _⟩
  case round =>
    obtain ⟨a', r', hk, haa, hinv, hg, hlx, hwr⟩ := hrel
    have hE := atEnd_is wr b s a' r' hlx
    by_cases he : a' = s.size
    · have e1 : decide (a' = s.size) = true := by simp [he]
      rw [e1] at hE
      clear hlx e1
      go_wp2_with (go_at_call 49; refine hE.mono ?_; rintro e w1 ⟨rfl, hlx1, hw1⟩)
      go_end0
      exact ⟨rfl, a', r', haa, fun _ h => by omega, hinv, by rw [← hg, gap_over _ (by omega), gap_over _ (by omega)], hlx1, hwr.trans hw1⟩
    · have e1 : decide (a' = s.size) = false := by simp [he]
      rw [e1] at hE
      have hlt : a' < s.size := by have := hinv.h4; omega
      have hK : ∀ w1, Lx w1 b s a' r' → Calls Tryd.prog 50 #[.pointer (some ⟨b, 0, none⟩), .int .i64 0] w1 fun e w' => e = .returned (.int .u8 (bN s (a' + 0))) ∧ Lx w' b s a' (rd s r' (a' + 0)) ∧ Wr b w1 w' :=
        fun w1 h => look_is w1 b s a' r' 0 hs hinv.h4 (by omega) h
      clear hlx e1
      by_cases hc : bN s a' = 10
      · have e2 : ((bN s (a' + 0) : Int) != 10) = false := by rw [Nat.add_zero, hc]; rfl
        go_wp2_with (first | (go_at_call 49; refine hE.mono ?_; rintro e w1 ⟨rfl, hlx1, hw1⟩) | (go_at_call 50; refine (hK _ hlx1).mono ?_; rintro e w2 ⟨rfl, hlx2, hw2⟩))
        go_end0
        exact ⟨rfl, a', _, haa, fun h1 _ => Nat.lt_of_le_of_ne haa (fun h2 => h1 (by rw [h2]; exact hc)), hinv.look, by rw [← hg, gap_line hlt hc], hlx2, (hwr.trans hw1).trans hw2⟩
      · have e2 : ((bN s (a' + 0) : Int) != 10) = true := by rw [Nat.add_zero]; simp; omega
        have hbd : a' ≤ 140737488351232 := by omega
        go_wp2_with (first | (go_at_call 49; refine hE.mono ?_; rintro e w1 ⟨rfl, hlx1, hw1⟩) | (go_at_call 50; refine (hK _ hlx1).mono ?_; rintro e w2 ⟨rfl, hlx2, hw2⟩; have d1 := hlx2.c1; have d2 := hlx2.f1))
        go_roundg (s.size - (a' + 1))
        case measure => omega
        case rel => exact ⟨a' + 1, _, rfl, by omega, hinv.step hlt, by rw [← hg, gap_note hlt hc]; omega, hlx2.to1 (by omega), ((hwr.trans hw1).trans hw2).set _⟩

set_option maxHeartbeats 800000 in
theorem skip_is (w : World) (b : Nat) (s : ByteArray) (a r : Nat) (hs : s.size ≤ 140737488351232) (hi : Inv s a r) (hl : Lx w b s a r) :
    Calls Tryd.prog 37 #[.pointer (some ⟨b, 0, none⟩)] w fun e w' => e = .returned (.tuple #[]) ∧ ∃ r', Inv s (pl s a) r' ∧ Lx w' b s (pl s a) r' ∧ Wr b w w' := by
  go_enter Tryd.func37, Tryd.ntmps37
  go_wp2
  go_loopg [] (s.size - a) (fun k wr => ∃ a' r', k = s.size - a' ∧ Inv s a' r' ∧ a' + gap false (suf s a') = pl s a ∧ Lx wr b s a' r' ∧ Wr b w wr)
  case atStart => exact ⟨a, r, rfl, hi, rfl, hl, Wr.refl _ _⟩
  case round =>
    obtain ⟨a', r', hk, hinv, hg, hlx, hwr⟩ := hrel
    have hE := atEnd_is wr b s a' r' hlx
    have Hg : Hid (a' + gap false (suf s a') = pl s a) := hg
    clear hg
    by_cases he : a' = s.size
    · have e1 : decide (a' = s.size) = true := by simp [he]
      rw [e1] at hE
      clear hlx e1
      go_wp2_with (go_at_call 49; refine hE.mono ?_; rintro e w1 ⟨rfl, hlx1, hw1⟩)
      go_end0
      have e2 : pl s a = a' := by rw [← Hg.out, gap_over _ (by omega)]; rfl
      rw [e2]
      exact ⟨rfl, r', hinv, hlx1, hwr.trans hw1⟩
    · have e1 : decide (a' = s.size) = false := by simp [he]
      rw [e1] at hE
      have hlt : a' < s.size := by have := hinv.h4; omega
      have hK : ∀ w1, Lx w1 b s a' r' → Calls Tryd.prog 50 #[.pointer (some ⟨b, 0, none⟩), .int .i64 0] w1 fun e w' => e = .returned (.int .u8 (bN s (a' + 0))) ∧ Lx w' b s a' (rd s r' (a' + 0)) ∧ Wr b w1 w' :=
        fun w1 h => look_is w1 b s a' r' 0 hs hinv.h4 (by omega) h
      clear hlx e1
      rw [Nat.add_zero] at hK
      by_cases hc : bN s a' = 35
      · have e2 : ((bN s a' : Int) == 35) = true := by rw [hc]; rfl
        have hi2 := hinv.look
        rw [Nat.add_zero] at hi2
        have hC : ∀ w1, Lx w1 b s a' (rd s r' a') → Calls Tryd.prog 51 #[.pointer (some ⟨b, 0, none⟩)] w1 fun e w' => e = .returned (.tuple #[]) ∧ ∃ a2 r2, a' ≤ a2 ∧ (bN s a' ≠ 10 → a' < s.size → a' < a2) ∧ Inv s a2 r2 ∧ a2 + gap false (suf s a2) = a' + gap true (suf s a') ∧ Lx w' b s a2 r2 ∧ Wr b w1 w' :=
          fun w1 h => skipComment_is w1 b s a' _ hs hi2 h
        go_wp2_with (first | (go_at_call 49; refine hE.mono ?_; rintro e w1 ⟨rfl, hlx1, hw1⟩) | (go_at_call 50; refine (hK _ hlx1).mono ?_; rintro e w2 ⟨rfl, hlx2, hw2⟩) | (go_at_call 51; refine (hC _ hlx2).mono ?_; rintro e w3 ⟨rfl, HX⟩))
        obtain ⟨a2, r2, q1, q2, q3, q4, q5, q6⟩ := HX
        have q7 := q2 (by omega) hlt
        go_roundg (s.size - a2)
        case measure => have := q3.h4; omega
        case rel => exact ⟨a2, r2, rfl, q3, by rw [q4, ← Hg.out, gap_hash hlt hc], q5, ((hwr.trans hw1).trans hw2).trans q6⟩
      · have e2 : ((bN s a' : Int) == 35) = false := by rw [beq_eq_false_iff_ne]; omega
        have hB : ∀ w1, Calls Tryd.prog 52 #[.int .u64 4294968832, .int .u8 (bN s a')] w1 fun e w' => e = .returned (.bool (blN (bN s a'))) ∧ w' = w1 := fun w1 => hasBl_is _ (bN_255 s a') w1
        by_cases hb : blN (bN s a') = true
        · rw [hb] at hB
          have hbd : a' ≤ 140737488351232 := by omega
          go_wp2_with (first | (go_at_call 49; refine hE.mono ?_; rintro e w1 ⟨rfl, hlx1, hw1⟩) | (go_at_call 50; refine (hK _ hlx1).mono ?_; rintro e w2 ⟨rfl, hlx2, hw2⟩; have d1 := hlx2.c1; have d2 := hlx2.f1) | (go_at_call 52; refine (hB _).mono ?_; rintro e w3 ⟨rfl, rfl⟩))
          go_roundg (s.size - (a' + 1))
          case measure => omega
          case rel => exact ⟨a' + 1, _, rfl, hinv.step hlt, by rw [← Hg.out, gap_blank hlt hc hb]; omega, hlx2.to1 (by omega), ((hwr.trans hw1).trans hw2).set _⟩
        · have hb' : blN (bN s a') = false := by simpa using hb
          rw [hb'] at hB
          go_wp2_with (first | (go_at_call 49; refine hE.mono ?_; rintro e w1 ⟨rfl, hlx1, hw1⟩) | (go_at_call 50; refine (hK _ hlx1).mono ?_; rintro e w2 ⟨rfl, hlx2, hw2⟩) | (go_at_call 52; refine (hB _).mono ?_; rintro e w3 ⟨rfl, rfl⟩))
          (try simp only [Exit.inBlock, Exit.then])
          refine bodyPost_ret (results_none rfl _ _ _) rfl ?_
          have e3 : pl s a = a' := by rw [← Hg.out, gap_stop hlt hc hb']; rfl
          rw [e3]
          have hi2 := hinv.look
          rw [Nat.add_zero] at hi2
          exact ⟨rfl, _, hi2, hlx2, (hwr.trans hw1).trans hw2⟩
end Go.Proofs.YtnfmagafajpmpaaDoor
