/- skipComment and skip: to where a token begins. -/
import Derived.Test.YtmnpcbcnjnklnaaGreatDoorJ04LexBase
import Derived.Deep.LoopGhost
namespace Go.Proofs.YtmnpcbcnjnklnaaGreatDoor
open Go.RowKit

/-- All up to the place was looked at, and at most one byte more. -/
structure Inv (s : ByteArray) (a r : Nat) : Prop where
  h1 : a ≤ r
  h2 : r ≤ a + 1
  h3 : r ≤ s.size
  h4 : a ≤ s.size

theorem Inv.look {s : ByteArray} {a r : Nat} (h : Inv s a r) : Inv s a (rd s r (a + 0)) := by
  obtain ⟨h1, h2, h3, h4⟩ := h
  unfold rd
  split
  · exact ⟨by omega, by omega, by omega, by omega⟩
  · exact ⟨h1, h2, h3, h4⟩
theorem Inv.step {s : ByteArray} {a r : Nat} (h : Inv s a r) (hl : a < s.size) : Inv s (a + 1) (rd s r (a + 0)) := by
  obtain ⟨h1, h2, h3, h4⟩ := h
  unfold rd
  rw [if_pos (by omega)]
  exact ⟨by omega, by omega, by omega, by omega⟩

set_option maxHeartbeats 400000 in
theorem skipComment_is (w : World) (b : Nat) (s : ByteArray) (a r : Nat) (hs : s.size ≤ 140737488351232) (hi : Inv s a r) (hl : Lx w b s a r) :
    Calls Tryz.prog 120 #[.pointer (some ⟨b, 0, none⟩)] w fun e w' => e = .returned (.tuple #[]) ∧ ∃ a' r', a ≤ a' ∧ (bN s a ≠ 10 → a < s.size → a < a') ∧ Inv s a' r' ∧ a' + gap false (suf s a') = a + gap true (suf s a) ∧ Lx w' b s a' r' ∧ Wr b w w' := by
  go_enter Tryz.func120, Tryz.ntmps120
  go_wp2
  go_loopg [] (s.size - a) (fun k wr => ∃ a' r', k = s.size - a' ∧ a ≤ a' ∧ Inv s a' r' ∧ a' + gap true (suf s a') = a + gap true (suf s a) ∧ Lx wr b s a' r' ∧ Wr b w wr)
  case atStart => exact ⟨a, r, rfl, Nat.le_refl _, hi, rfl, hl, Wr.refl _ _⟩
  case round =>
    obtain ⟨a', r', hk, haa, hinv, hg, hlx, hwr⟩ := hrel
    have hE := atEnd_is wr b s a' r' hlx
    by_cases he : a' = s.size
    · have e1 : decide (a' = s.size) = true := by simp [he]
      rw [e1] at hE
      clear hlx e1
      go_wp2_with (go_at_call 118; refine hE.mono ?_; rintro e w1 ⟨rfl, hlx1, hw1⟩)
      go_end0
      exact ⟨rfl, a', r', haa, fun _ h => by omega, hinv, by rw [← hg, gap_over _ (by omega), gap_over _ (by omega)], hlx1, hwr.trans hw1⟩
    · have e1 : decide (a' = s.size) = false := by simp [he]
      rw [e1] at hE
      have hlt : a' < s.size := by have := hinv.h4; omega
      have hK : ∀ w1, Lx w1 b s a' r' → Calls Tryz.prog 119 #[.pointer (some ⟨b, 0, none⟩), .int .i64 0] w1 fun e w' => e = .returned (.int .u8 (bN s (a' + 0))) ∧ Lx w' b s a' (rd s r' (a' + 0)) ∧ Wr b w1 w' :=
        fun w1 h => look_is w1 b s a' r' 0 hs hinv.h4 (by omega) h
      clear hlx e1
      by_cases hc : bN s a' = 10
      · have e2 : ((bN s (a' + 0) : Int) != 10) = false := by rw [Nat.add_zero, hc]; rfl
        go_wp2_with (first | (go_at_call 118; refine hE.mono ?_; rintro e w1 ⟨rfl, hlx1, hw1⟩) | (go_at_call 119; refine (hK _ hlx1).mono ?_; rintro e w2 ⟨rfl, hlx2, hw2⟩))
        go_end0
        exact ⟨rfl, a', _, haa, fun h1 _ => Nat.lt_of_le_of_ne haa (fun h2 => h1 (by rw [h2]; exact hc)), hinv.look, by rw [← hg, gap_line hlt hc], hlx2, (hwr.trans hw1).trans hw2⟩
      · have e2 : ((bN s (a' + 0) : Int) != 10) = true := by rw [Nat.add_zero]; simp; omega
        have hbd : a' ≤ 140737488351232 := by omega
        go_wp2_with (first | (go_at_call 118; refine hE.mono ?_; rintro e w1 ⟨rfl, hlx1, hw1⟩) | (go_at_call 119; refine (hK _ hlx1).mono ?_; rintro e w2 ⟨rfl, hlx2, hw2⟩; have d1 := hlx2.c1; have d2 := hlx2.f1))
        go_roundg (s.size - (a' + 1))
        case measure => omega
        case rel => exact ⟨a' + 1, _, rfl, by omega, hinv.step hlt, by rw [← hg, gap_note hlt hc]; omega, hlx2.to1 (by omega), ((hwr.trans hw1).trans hw2).set _⟩

set_option maxHeartbeats 800000 in
theorem skip_is (w : World) (b : Nat) (s : ByteArray) (a r : Nat) (hs : s.size ≤ 140737488351232) (hi : Inv s a r) (hl : Lx w b s a r) :
    Calls Tryz.prog 95 #[.pointer (some ⟨b, 0, none⟩)] w fun e w' => e = .returned (.tuple #[]) ∧ ∃ r', Inv s (pl s a) r' ∧ Lx w' b s (pl s a) r' ∧ Wr b w w' := by
  go_enter Tryz.func95, Tryz.ntmps95
  go_wp2
  go_loopg [] (s.size - a) (fun k wr => ∃ a' r', k = s.size - a' ∧ Inv s a' r' ∧ a' + gap false (suf s a') = pl s a ∧ Lx wr b s a' r' ∧ Wr b w wr)
  case atStart => exact ⟨a, r, rfl, hi, rfl, hl, Wr.refl _ _⟩
  case round =>
    obtain ⟨a', r', hk, hinv, hg, hlx, hwr⟩ := hrel
    have hE := atEnd_is wr b s a' r' hlx
    have Hg : Hid (a' + gap false (suf s a') = pl s a) := hg
    clear hg
    by_cases he : a' = s.size
    · have e1 : decide (a' = s.size) = true := by simp [he]
      rw [e1] at hE
      clear hlx e1
      go_wp2_with (go_at_call 118; refine hE.mono ?_; rintro e w1 ⟨rfl, hlx1, hw1⟩)
      go_end0
      have e2 : pl s a = a' := by rw [← Hg.out, gap_over _ (by omega)]; rfl
      rw [e2]
      exact ⟨rfl, r', hinv, hlx1, hwr.trans hw1⟩
    · have e1 : decide (a' = s.size) = false := by simp [he]
      rw [e1] at hE
      have hlt : a' < s.size := by have := hinv.h4; omega
      have hK : ∀ w1, Lx w1 b s a' r' → Calls Tryz.prog 119 #[.pointer (some ⟨b, 0, none⟩), .int .i64 0] w1 fun e w' => e = .returned (.int .u8 (bN s (a' + 0))) ∧ Lx w' b s a' (rd s r' (a' + 0)) ∧ Wr b w1 w' :=
        fun w1 h => look_is w1 b s a' r' 0 hs hinv.h4 (by omega) h
      clear hlx e1
      rw [Nat.add_zero] at hK
      by_cases hc : bN s a' = 35
      · have e2 : ((bN s a' : Int) == 35) = true := by rw [hc]; rfl
        have hi2 := hinv.look
        rw [Nat.add_zero] at hi2
        have hC : ∀ w1, Lx w1 b s a' (rd s r' a') → Calls Tryz.prog 120 #[.pointer (some ⟨b, 0, none⟩)] w1 fun e w' => e = .returned (.tuple #[]) ∧ ∃ a2 r2, a' ≤ a2 ∧ (bN s a' ≠ 10 → a' < s.size → a' < a2) ∧ Inv s a2 r2 ∧ a2 + gap false (suf s a2) = a' + gap true (suf s a') ∧ Lx w' b s a2 r2 ∧ Wr b w1 w' :=
          fun w1 h => skipComment_is w1 b s a' _ hs hi2 h
        go_wp2_with (first | (go_at_call 118; refine hE.mono ?_; rintro e w1 ⟨rfl, hlx1, hw1⟩) | (go_at_call 119; refine (hK _ hlx1).mono ?_; rintro e w2 ⟨rfl, hlx2, hw2⟩) | (go_at_call 120; refine (hC _ hlx2).mono ?_; rintro e w3 ⟨rfl, HX⟩))
        obtain ⟨a2, r2, q1, q2, q3, q4, q5, q6⟩ := HX
        have q7 := q2 (by omega) hlt
        go_roundg (s.size - a2)
        case measure => have := q3.h4; omega
        case rel => exact ⟨a2, r2, rfl, q3, by rw [q4, ← Hg.out, gap_hash hlt hc], q5, ((hwr.trans hw1).trans hw2).trans q6⟩
      · have e2 : ((bN s a' : Int) == 35) = false := by rw [beq_eq_false_iff_ne]; omega
        have hB : ∀ w1, Calls Tryz.prog 121 #[.int .u64 4294968832, .int .u8 (bN s a')] w1 fun e w' => e = .returned (.bool (blN (bN s a'))) ∧ w' = w1 := fun w1 => hasBl_is _ (bN_255 s a') w1
        by_cases hb : blN (bN s a') = true
        · rw [hb] at hB
          have hbd : a' ≤ 140737488351232 := by omega
          go_wp2_with (first | (go_at_call 118; refine hE.mono ?_; rintro e w1 ⟨rfl, hlx1, hw1⟩) | (go_at_call 119; refine (hK _ hlx1).mono ?_; rintro e w2 ⟨rfl, hlx2, hw2⟩; have d1 := hlx2.c1; have d2 := hlx2.f1) | (go_at_call 121; refine (hB _).mono ?_; rintro e w3 ⟨rfl, rfl⟩))
          go_roundg (s.size - (a' + 1))
          case measure => omega
          case rel => exact ⟨a' + 1, _, rfl, hinv.step hlt, by rw [← Hg.out, gap_blank hlt hc hb]; omega, hlx2.to1 (by omega), ((hwr.trans hw1).trans hw2).set _⟩
        · have hb' : blN (bN s a') = false := by simpa using hb
          rw [hb'] at hB
          go_wp2_with (first | (go_at_call 118; refine hE.mono ?_; rintro e w1 ⟨rfl, hlx1, hw1⟩) | (go_at_call 119; refine (hK _ hlx1).mono ?_; rintro e w2 ⟨rfl, hlx2, hw2⟩) | (go_at_call 121; refine (hB _).mono ?_; rintro e w3 ⟨rfl, rfl⟩))
          (try simp only [Exit.inBlock, Exit.then])
          refine bodyPost_ret (results_none rfl _ _ _) rfl ?_
          have e3 : pl s a = a' := by rw [← Hg.out, gap_stop hlt hc hb']; rfl
          rw [e3]
          have hi2 := hinv.look
          rw [Nat.add_zero] at hi2
          exact ⟨rfl, _, hi2, hlx2, (hwr.trans hw1).trans hw2⟩
end Go.Proofs.YtmnpcbcnjnklnaaGreatDoor

namespace Go.Proofs.YtmnpcbcnjnklnaaGreatDoor
open Go.RowKit

theorem word_lt {s : ByteArray} {i : Nat} (h : wordN (bN s i) = true) : i < s.size := by
  rcases Nat.lt_or_ge i s.size with h' | h'
  · exact h'
  · rw [bN_ge h'] at h; simp [wordN, letN, digN] at h

set_option maxHeartbeats 400000 in
theorem run_is (w : World) (b : Nat) (s : ByteArray) (a r z : Nat) (hs : s.size ≤ 140737488351232) (ha : a ≤ s.size) (hi : Inv s (a + z) r) (hl : Lx w b s a r) :
    Calls Tryz.prog 123 #[.pointer (some ⟨b, 0, none⟩), .int .i64 z] w fun e w' => e = .returned (.int .i64 ((z + runL (suf s (a + z)) : Nat) : Int)) ∧ ∃ r', Inv s (a + (z + runL (suf s (a + z)))) r' ∧ Lx w' b s a r' ∧ Wr b w w' := by
  obtain ⟨Z, hZ⟩ : ∃ Z, Z = z + runL (suf s (a + z)) := ⟨_, rfl⟩
  rw [← hZ]
  go_enter Tryz.func123, Tryz.ntmps123
  go_wp2
  go_loopg [1] (s.size - (a + z)) (fun k v wr => ∃ z' r' : Nat, v = .int .i64 z' ∧ k = s.size - (a + z') ∧ Inv s (a + z') r' ∧ z' + runL (suf s (a + z')) = Z ∧ Lx wr b s a r' ∧ Wr b w wr)
  case atStart => exact ⟨z, r, rfl, rfl, hi, hZ.symm, hl, Wr.refl _ _⟩
  case round =>
    obtain ⟨z', r', rfl, hk, hinv, hg, hlx, hwr⟩ := hrel
    have Hg : Hid (z' + runL (suf s (a + z')) = Z) := hg
    have HZ : Hid (Z = z + runL (suf s (a + z))) := hZ
    clear hg hZ
    have h4 := hinv.h4
    have hK := look_is wr b s a r' z' hs ha (by omega) hlx
    have hL : ∀ w1, Calls Tryz.prog 122 #[.int .u8 (bN s (a + z'))] w1 fun e w' => e = .returned (.bool (letN (bN s (a + z')))) ∧ w' = w1 := fun w1 => isLetter_is _ (bN_255 s _) w1
    have hD : ∀ w1, Calls Tryz.prog 124 #[.int .u8 (bN s (a + z'))] w1 fun e w' => e = .returned (.bool (digN (bN s (a + z')))) ∧ w' = w1 := fun w1 => isDigit_is _ (bN_255 s _) w1
    clear hlx
    by_cases h1 : letN (bN s (a + z')) = true
    · have hw : wordN (bN s (a + z')) = true := by unfold wordN; rw [h1]; rfl
      have hlt := word_lt hw
      have hbd : z' ≤ 140737488351232 := by omega
      rw [h1] at hL
      go_wp2_with (first | (go_at_call 119; refine hK.mono ?_; rintro e w1 ⟨rfl, hlx1, hw1⟩) | (go_at_call 122; refine (hL _).mono ?_; rintro e w3 ⟨rfl, rfl⟩) | (go_at_call 124; refine (hD _).mono ?_; rintro e w3 ⟨rfl, rfl⟩))
      go_roundg (s.size - (a + (z' + 1)))
      case measure => omega
      case rel => exact ⟨z' + 1, _, by go_num, rfl, hinv.step hlt, by rw [← Hg.out, run_on hw, Nat.add_assoc z']; rfl, hlx1, hwr.trans hw1⟩
    · have h1' : letN (bN s (a + z')) = false := by simpa using h1
      rw [h1'] at hL
      by_cases h2 : digN (bN s (a + z')) = true
      · have hw : wordN (bN s (a + z')) = true := by unfold wordN; rw [h2]; simp
        have hlt := word_lt hw
        have hbd : z' ≤ 140737488351232 := by omega
        rw [h2] at hD
        go_wp2_with (first | (go_at_call 119; refine hK.mono ?_; rintro e w1 ⟨rfl, hlx1, hw1⟩) | (go_at_call 122; refine (hL _).mono ?_; rintro e w3 ⟨rfl, rfl⟩) | (go_at_call 124; refine (hD _).mono ?_; rintro e w3 ⟨rfl, rfl⟩))
        go_roundg (s.size - (a + (z' + 1)))
        case measure => omega
        case rel => exact ⟨z' + 1, _, by go_num, rfl, hinv.step hlt, by rw [← Hg.out, run_on hw, Nat.add_assoc z']; rfl, hlx1, hwr.trans hw1⟩
      · have h2' : digN (bN s (a + z')) = false := by simpa using h2
        rw [h2'] at hD
        have hw : wordN (bN s (a + z')) = false := by unfold wordN; rw [h1', h2']; rfl
        go_wp2_with (first | (go_at_call 119; refine hK.mono ?_; rintro e w1 ⟨rfl, hlx1, hw1⟩) | (go_at_call 122; refine (hL _).mono ?_; rintro e w3 ⟨rfl, rfl⟩) | (go_at_call 124; refine (hD _).mono ?_; rintro e w3 ⟨rfl, rfl⟩))
        go_ret
        have e3 : Z = z' := by rw [← Hg.out, run_off hw]; rfl
        rw [e3]
        exact ⟨rfl, _, hinv.look, hlx1, hwr.trans hw1⟩

theorem ret_bool {x y : Bool} (h : x = y) : Ending.returned (.bool x) = .returned (.bool y) := by rw [h]

/-- May the next byte be looked at for a sign of two bytes? -/
def opens (n : Nat) : Bool := n == 60 || n == 62 || n == 61 || n == 33
theorem pair_opens {n m : Nat} (h : opens n = false) : pairN n m = false := by
  simp only [opens, Bool.or_eq_false_iff, beq_eq_false_iff_ne] at h
  unfold pairN
  simp only [Bool.or_eq_false_iff, Bool.and_eq_false_iff, beq_eq_false_iff_ne]
  omega

set_option maxHeartbeats 400000 in
theorem atPair_is (w : World) (b : Nat) (s : ByteArray) (a r c : Nat) (hs : s.size ≤ 140737488351232) (ha : a ≤ s.size) (hl : Lx w b s a r) :
    Calls Tryz.prog 125 #[.pointer (some ⟨b, 0, none⟩), .int .u8 c] w fun e w' => e = .returned (.bool (pairN c (bN s (a + 1)))) ∧ Lx w' b s a (if opens c then rd s r (a + 1) else r) ∧ Wr b w w' := by
  have hK : Calls Tryz.prog 119 #[.pointer (some ⟨b, 0, none⟩), .int .i64 1] w fun e w' => e = .returned (.int .u8 (bN s (a + 1))) ∧ Lx w' b s a (rd s r (a + 1)) ∧ Wr b w w' := look_is w b s a r 1 hs ha (by omega) hl
  have HL : Hid (Lx w b s a r) := hl
  clear hl ha hs
  generalize bN s (a + 1) = d at hK ⊢
  rcases (show c = 60 ∨ c = 62 ∨ c = 61 ∨ c = 33 ∨ opens c = false from by unfold opens; simp; omega) with h60 | h62 | h61 | h33 | ho
  · subst h60
    go_enter Tryz.func125, Tryz.ntmps125
    go_wp2_with (go_at_call 119; refine hK.mono ?_; rintro e w1 ⟨rfl, hlx1, hw1⟩)
    go_ret
    refine ⟨?_, hlx1, hw1⟩
    exact ret_bool (by rw [Bool.eq_iff_iff]; simp [pairN]; try omega)
  · subst h62
    go_enter Tryz.func125, Tryz.ntmps125
    go_wp2_with (go_at_call 119; refine hK.mono ?_; rintro e w1 ⟨rfl, hlx1, hw1⟩)
    go_ret
    refine ⟨?_, hlx1, hw1⟩
    exact ret_bool (by rw [Bool.eq_iff_iff]; simp [pairN]; try omega)
  · subst h61
    go_enter Tryz.func125, Tryz.ntmps125
    go_wp2_with (go_at_call 119; refine hK.mono ?_; rintro e w1 ⟨rfl, hlx1, hw1⟩)
    go_ret
    refine ⟨?_, hlx1, hw1⟩
    exact ret_bool (by rw [Bool.eq_iff_iff]; simp [pairN]; try omega)
  · subst h33
    go_enter Tryz.func125, Tryz.ntmps125
    go_wp2_with (go_at_call 119; refine hK.mono ?_; rintro e w1 ⟨rfl, hlx1, hw1⟩)
    go_ret
    refine ⟨?_, hlx1, hw1⟩
    exact ret_bool (by rw [Bool.eq_iff_iff]; simp [pairN]; try omega)
  · rw [pair_opens ho, ho]
    have ho' := ho
    simp only [opens, Bool.or_eq_false_iff, beq_eq_false_iff_ne] at ho'
    have e1 : ((c : Int) == 60) = false := by rw [beq_eq_false_iff_ne]; omega
    have e2 : ((c : Int) == 62) = false := by rw [beq_eq_false_iff_ne]; omega
    have e3 : ((c : Int) == 61) = false := by rw [beq_eq_false_iff_ne]; omega
    have e4 : ((c : Int) == 33) = false := by rw [beq_eq_false_iff_ne]; omega
    clear ho ho'
    go_enter Tryz.func125, Tryz.ntmps125
    go_wp2
    go_ret
    exact ⟨rfl, HL.out, Wr.refl _ _⟩

set_option maxHeartbeats 2000000 in
/-- What measure reads: past the token by one byte at most. -/
theorem measure_is (w : World) (b : Nat) (s : ByteArray) (a r : Nat) (hs : s.size ≤ 140737488351232) (hi : Inv s a r) (hl : Lx w b s a r) :
    Calls Tryz.prog 96 #[.pointer (some ⟨b, 0, none⟩)] w fun e w' => e = .returned (.tuple #[.int .i64 (kind (suf s a)), .int .i64 (tsize (suf s a))]) ∧ ∃ r', (kind (suf s a) ≠ 0 → Inv s (a + tsize (suf s a)) r') ∧ Lx w' b s a r' ∧ Wr b w w' := by
  have hE := atEnd_is w b s a r hl
  have h4 := hi.h4
  by_cases he : a = s.size
  · have e1 : decide (a = s.size) = true := by simp [he]
    have e2 : suf s a = [] := suf_ge (by omega)
    rw [e1] at hE
    rw [e2]
    clear hl e1 e2
    go_enter Tryz.func96, Tryz.ntmps96
    go_wp2_with (go_at_call 118; refine hE.mono ?_; rintro e w1 ⟨rfl, hlx1, hw1⟩)
    go_ret2
    exact ⟨rfl, r, fun _ => hi, hlx1, hw1⟩
  · have hlt : a < s.size := by omega
    have e1 : decide (a = s.size) = false := by simp [he]
    rw [e1] at hE
    rw [kind_at hlt, tsize_at hlt]
    have hK : ∀ w1, Lx w1 b s a r → Calls Tryz.prog 119 #[.pointer (some ⟨b, 0, none⟩), .int .i64 0] w1 fun e w' => e = .returned (.int .u8 (bN s a)) ∧ Lx w' b s a (rd s r a) ∧ Wr b w1 w' :=
      fun w1 h => look_is w1 b s a r 0 hs h4 (by omega) h
    have hK1 : ∀ w1, Lx w1 b s a (rd s r a) → Calls Tryz.prog 119 #[.pointer (some ⟨b, 0, none⟩), .int .i64 1] w1 fun e w' => e = .returned (.int .u8 (bN s (a + 1))) ∧ Lx w' b s a (rd s (rd s r a) (a + 1)) ∧ Wr b w1 w' :=
      fun w1 h => look_is w1 b s a _ 1 hs h4 (by omega) h
    have hL : ∀ w1, Calls Tryz.prog 122 #[.int .u8 (bN s a)] w1 fun e w' => e = .returned (.bool (letN (bN s a))) ∧ w' = w1 := fun w1 => isLetter_is _ (bN_255 s _) w1
    have hD : ∀ w1, Calls Tryz.prog 124 #[.int .u8 (bN s a)] w1 fun e w' => e = .returned (.bool (digN (bN s a))) ∧ w' = w1 := fun w1 => isDigit_is _ (bN_255 s _) w1
    have hD1 : ∀ w1, Calls Tryz.prog 124 #[.int .u8 (bN s (a + 1))] w1 fun e w' => e = .returned (.bool (digN (bN s (a + 1)))) ∧ w' = w1 := fun w1 => isDigit_is _ (bN_255 s _) w1
    have hO : ∀ w1, Calls Tryz.prog 126 #[.int .u8 (bN s a)] w1 fun e w' => e = .returned (.bool (oneN (bN s a))) ∧ w' = w1 := fun w1 => isSign_is _ (bN_255 s _) w1
    have hi1 : Inv s (a + 1) (rd s r a) := hi.step hlt
    have hR : ∀ w1, Lx w1 b s a (rd s r a) → Calls Tryz.prog 123 #[.pointer (some ⟨b, 0, none⟩), .int .i64 1] w1 fun e w' => e = .returned (.int .i64 ((1 + runL (suf s (a + 1)) : Nat) : Int)) ∧ ∃ r', Inv s (a + (1 + runL (suf s (a + 1)))) r' ∧ Lx w' b s a r' ∧ Wr b w1 w' :=
      fun w1 h => run_is w1 b s a _ 1 hs h4 hi1 h
    clear hl e1
    by_cases h1 : letN (bN s a) = true
    · simp only [h1, if_true]
      rw [h1] at hL
      go_enter Tryz.func96, Tryz.ntmps96
      go_wp2_with (first | (go_at_call 118; refine hE.mono ?_; rintro e w1 ⟨rfl, hlx1, hw1⟩) | (go_at_call 119; refine (hK _ hlx1).mono ?_; rintro e w2 ⟨rfl, hlx2, hw2⟩) | (go_at_call 122; refine (hL _).mono ?_; rintro e w3 ⟨rfl, rfl⟩) | (go_at_call 123; refine (hR _ hlx2).mono ?_; rintro e w4 ⟨rfl, HX⟩))
      go_ret2
      obtain ⟨r', q1, q2, q3⟩ := HX
      exact ⟨rfl, r', fun _ => q1, q2, (hw1.trans hw2).trans q3⟩
    · have h1' : letN (bN s a) = false := by simpa using h1
      rw [h1'] at hL
      clear h1
      by_cases h2 : digN (bN s a) = true
      · simp only [h1', h2, if_true, Bool.false_eq_true, if_false]
        rw [h2] at hD
        go_enter Tryz.func96, Tryz.ntmps96
        go_wp2_with (first | (go_at_call 118; refine hE.mono ?_; rintro e w1 ⟨rfl, hlx1, hw1⟩) | (go_at_call 119; refine (hK _ hlx1).mono ?_; rintro e w2 ⟨rfl, hlx2, hw2⟩) | (go_at_call 122; refine (hL _).mono ?_; rintro e w3 ⟨rfl, rfl⟩) | (go_at_call 124; refine (hD _).mono ?_; rintro e w3 ⟨rfl, rfl⟩) | (go_at_call 123; refine (hR _ hlx2).mono ?_; rintro e w5 ⟨rfl, HX⟩))
        go_ret2
        obtain ⟨r', q1, q2, q3⟩ := HX
        exact ⟨rfl, r', fun _ => q1, q2, (hw1.trans hw2).trans q3⟩
      · have h2' : digN (bN s a) = false := by simpa using h2
        rw [h2'] at hD
        clear h2
        by_cases h45 : bN s a = 45
        · have e45 : ((bN s a : Int) == 45) = true := by rw [h45]; rfl
          have b45 : (bN s a == 45) = true := by rw [h45]; rfl
          by_cases h3 : digN (bN s (a + 1)) = true
          · simp only [h1', h2', h3, b45, Bool.and_self, if_true, Bool.false_eq_true, if_false]
            rw [h3] at hD1
            have hw : wordN (bN s (a + 1)) = true := by unfold wordN; rw [h3]; simp
            have hlt1 := word_lt hw
            have hi2 : Inv s (a + 2) (rd s (rd s r a) (a + 1)) := hi1.step hlt1
            have hR2 : ∀ w1, Lx w1 b s a (rd s (rd s r a) (a + 1)) → Calls Tryz.prog 123 #[.pointer (some ⟨b, 0, none⟩), .int .i64 2] w1 fun e w' => e = .returned (.int .i64 ((2 + runL (suf s (a + 2)) : Nat) : Int)) ∧ ∃ r', Inv s (a + (2 + runL (suf s (a + 2)))) r' ∧ Lx w' b s a r' ∧ Wr b w1 w' :=
              fun w1 h => run_is w1 b s a _ 2 hs h4 hi2 h
            have e2 : 1 + runL (suf s (a + 1)) = 2 + runL (suf s (a + 2)) := by rw [run_on hw]; show 1 + (1 + runL (suf s (a + 2))) = _; omega
            rw [e2]
            clear h45 e2 hw h3 hR hi1
            go_enter Tryz.func96, Tryz.ntmps96
            go_wp2_with (first | (go_at_call 118; refine hE.mono ?_; rintro e w1 ⟨rfl, hlx1, hw1⟩) | (go_at_call 119; refine (hK1 _ hlx2).mono ?_; rintro e w4 ⟨rfl, hlx4, hw4⟩) | (go_at_call 119; refine (hK _ hlx1).mono ?_; rintro e w2 ⟨rfl, hlx2, hw2⟩) | (go_at_call 122; refine (hL _).mono ?_; rintro e w3 ⟨rfl, rfl⟩) | (go_at_call 124; have _h := hlx4; refine (hD1 _).mono ?_; rintro e w3 ⟨rfl, rfl⟩) | (go_at_call 124; refine (hD _).mono ?_; rintro e w3 ⟨rfl, rfl⟩) | (go_at_call 123; refine (hR2 _ hlx4).mono ?_; rintro e w5 ⟨rfl, HX⟩))
            go_ret2
            obtain ⟨r', q1, q2, q3⟩ := HX
            exact ⟨rfl, r', fun _ => q1, q2, ((hw1.trans hw2).trans hw4).trans q3⟩
          · have h3' : digN (bN s (a + 1)) = false := by simpa using h3
            have p45 : pairN (bN s a) (bN s (a + 1)) = false := by rw [h45]; exact pair_opens rfl
            have o45 : opens (bN s a) = false := by rw [h45]; rfl
            have g45 : oneN (bN s a) = true := by rw [h45]; rfl
            simp only [h1', h2', h3', b45, p45, g45, Bool.and_false, if_true, Bool.false_eq_true, if_false]
            rw [h3'] at hD1
            rw [g45] at hO
            have hP : ∀ w1, Lx w1 b s a (rd s (rd s r a) (a + 1)) → Calls Tryz.prog 125 #[.pointer (some ⟨b, 0, none⟩), .int .u8 (bN s a)] w1 fun e w' => e = .returned (.bool false) ∧ Lx w' b s a (rd s (rd s r a) (a + 1)) ∧ Wr b w1 w' := by
              intro w1 h
              have := atPair_is w1 b s a _ (bN s a) hs h4 h
              rw [p45, o45] at this
              exact this
            have hi2 : Inv s (a + 1) (rd s (rd s r a) (a + 1)) := hi1.look
            clear h45 h3 hR hi1 p45 o45 g45
            go_enter Tryz.func96, Tryz.ntmps96
            go_wp2_with (first | (go_at_call 118; refine hE.mono ?_; rintro e w1 ⟨rfl, hlx1, hw1⟩) | (go_at_call 119; refine (hK1 _ hlx2).mono ?_; rintro e w4 ⟨rfl, hlx4, hw4⟩) | (go_at_call 119; refine (hK _ hlx1).mono ?_; rintro e w2 ⟨rfl, hlx2, hw2⟩) | (go_at_call 122; refine (hL _).mono ?_; rintro e w3 ⟨rfl, rfl⟩) | (go_at_call 124; have _h := hlx4; refine (hD1 _).mono ?_; rintro e w3 ⟨rfl, rfl⟩) | (go_at_call 124; refine (hD _).mono ?_; rintro e w3 ⟨rfl, rfl⟩) | (go_at_call 125; refine (hP _ hlx4).mono ?_; rintro e w5 ⟨rfl, hlx5, hw5⟩) | (go_at_call 126; refine (hO _).mono ?_; rintro e w3 ⟨rfl, rfl⟩))
            go_ret2
            exact ⟨rfl, _, fun _ => hi2, hlx5, ((hw1.trans hw2).trans hw4).trans hw5⟩
        · have e45 : ((bN s a : Int) == 45) = false := by rw [beq_eq_false_iff_ne]; omega
          have b45 : (bN s a == 45) = false := by rw [beq_eq_false_iff_ne]; exact h45
          have hP : ∀ w1, Lx w1 b s a (rd s r a) → Calls Tryz.prog 125 #[.pointer (some ⟨b, 0, none⟩), .int .u8 (bN s a)] w1 fun e w' => e = .returned (.bool (pairN (bN s a) (bN s (a + 1)))) ∧ Lx w' b s a (if opens (bN s a) then rd s (rd s r a) (a + 1) else rd s r a) ∧ Wr b w1 w' :=
            fun w1 h => atPair_is w1 b s a _ (bN s a) hs h4 h
          by_cases h5 : pairN (bN s a) (bN s (a + 1)) = true
          · simp only [h1', h2', b45, h5, Bool.false_and, if_true, Bool.false_eq_true, if_false]
            have ho : opens (bN s a) = true := by
              cases ho : opens (bN s a) with
              | true => rfl
              | false => rw [pair_opens ho] at h5; cases h5
            have hlt1 : a + 1 < s.size := by
              rcases Nat.lt_or_ge (a + 1) s.size with h' | h'
              · exact h'
              · rw [bN_ge h'] at h5; simp [pairN] at h5
            have hi2 : Inv s (a + 2) (rd s (rd s r a) (a + 1)) := hi1.step hlt1
            rw [h5] at hP
            simp only [ho, if_true] at hP
            clear h45 h5 ho hR hK1
            go_enter Tryz.func96, Tryz.ntmps96
            go_wp2_with (first | (go_at_call 118; refine hE.mono ?_; rintro e w1 ⟨rfl, hlx1, hw1⟩) | (go_at_call 119; refine (hK _ hlx1).mono ?_; rintro e w2 ⟨rfl, hlx2, hw2⟩) | (go_at_call 122; refine (hL _).mono ?_; rintro e w3 ⟨rfl, rfl⟩) | (go_at_call 124; refine (hD _).mono ?_; rintro e w3 ⟨rfl, rfl⟩) | (go_at_call 125; refine (hP _ hlx2).mono ?_; rintro e w5 ⟨rfl, hlx5, hw5⟩))
            go_ret2
            exact ⟨rfl, _, fun _ => hi2, hlx5, (hw1.trans hw2).trans hw5⟩
          · have h5' : pairN (bN s a) (bN s (a + 1)) = false := by simpa using h5
            rw [h5'] at hP
            have hi2 : Inv s (a + 1) (if opens (bN s a) then rd s (rd s r a) (a + 1) else rd s r a) := by
              split
              · exact hi1.look
              · exact hi1
            generalize (if opens (bN s a) then rd s (rd s r a) (a + 1) else rd s r a) = r5 at *
            by_cases h6 : oneN (bN s a) = true
            · simp only [h1', h2', b45, h5', h6, Bool.false_and, if_true, Bool.false_eq_true, if_false]
              rw [h6] at hO
              clear h45 h5 hR hK1 h5' h6
              go_enter Tryz.func96, Tryz.ntmps96
              go_wp2_with (first | (go_at_call 118; refine hE.mono ?_; rintro e w1 ⟨rfl, hlx1, hw1⟩) | (go_at_call 119; refine (hK _ hlx1).mono ?_; rintro e w2 ⟨rfl, hlx2, hw2⟩) | (go_at_call 122; refine (hL _).mono ?_; rintro e w3 ⟨rfl, rfl⟩) | (go_at_call 124; refine (hD _).mono ?_; rintro e w3 ⟨rfl, rfl⟩) | (go_at_call 125; refine (hP _ hlx2).mono ?_; rintro e w5 ⟨rfl, hlx5, hw5⟩) | (go_at_call 126; refine (hO _).mono ?_; rintro e w3 ⟨rfl, rfl⟩))
              go_ret2
              exact ⟨rfl, _, fun _ => hi2, hlx5, (hw1.trans hw2).trans hw5⟩
            · have h6' : oneN (bN s a) = false := by simpa using h6
              simp only [h1', h2', b45, h5', h6', Bool.false_and, Bool.false_eq_true, if_false]
              rw [h6'] at hO
              clear h45 h5 hR hK1 h5' h6
              go_enter Tryz.func96, Tryz.ntmps96
              go_wp2_with (first | (go_at_call 118; refine hE.mono ?_; rintro e w1 ⟨rfl, hlx1, hw1⟩) | (go_at_call 119; refine (hK _ hlx1).mono ?_; rintro e w2 ⟨rfl, hlx2, hw2⟩) | (go_at_call 122; refine (hL _).mono ?_; rintro e w3 ⟨rfl, rfl⟩) | (go_at_call 124; refine (hD _).mono ?_; rintro e w3 ⟨rfl, rfl⟩) | (go_at_call 125; refine (hP _ hlx2).mono ?_; rintro e w5 ⟨rfl, hlx5, hw5⟩) | (go_at_call 126; refine (hO _).mono ?_; rintro e w3 ⟨rfl, rfl⟩))
              go_ret2
              exact ⟨rfl, _, fun h => absurd rfl h, hlx5, (hw1.trans hw2).trans hw5⟩
end Go.Proofs.YtmnpcbcnjnklnaaGreatDoor
