/- skipComment and skip: to where a token begins. -/
import Derived.Test.YtacflahkofmcpaaGreatDoorJ04LexBase
import Derived.Deep.LoopGhost
import Derived.Test.YtacflahkofmcpaaGreatDoorJ02Canon
import Derived.Laws.ResultCell
namespace Go.Proofs.YtacflahkofmcpaaGreatDoor
open Go.RowKit

/-- All up to the place was looked at, and at most one byte more. -/
structure Inv (s : ByteArray) (a r : Nat) : Prop where
  h1 : a ≤ r
  h2 : r ≤ a + 1
  h3 : r ≤ s.size
  h4 : a ≤ s.size

theorem Inv.look {s : ByteArray} {a r : Nat} (h : Inv s a r) : Inv s a (rd s r (a + 0)) := by
  obtain ⟨h1, h2, h3, h4⟩ := h
  unfold rd
  split
  · exact ⟨by omega, by omega, by omega, by omega⟩
  · exact ⟨h1, h2, h3, h4⟩
theorem Inv.step {s : ByteArray} {a r : Nat} (h : Inv s a r) (hl : a < s.size) : Inv s (a + 1) (rd s r (a + 0)) := by
  obtain ⟨h1, h2, h3, h4⟩ := h
  unfold rd
  rw [if_pos (by omega)]
  exact ⟨by omega, by omega, by omega, by omega⟩

set_option maxHeartbeats 400000 in
theorem skipComment_is (w : World) (b : Nat) (s : ByteArray) (a r : Nat) (hs : s.size ≤ 140737488351232) (hi : Inv s a r) (hl : Lx w b s a r) :
    Calls Tryz.prog 168 #[.pointer (some ⟨b, 0, none⟩)] w fun e w' => e = .returned (.tuple #[]) ∧ ∃ a' r', a ≤ a' ∧ (bN s a ≠ 10 → a < s.size → a < a') ∧ Inv s a' r' ∧ a' + gap false (suf s a') = a + gap true (suf s a) ∧ Lx w' b s a' r' ∧ Wr b w w' := by
  go_enter Tryz.func168, Tryz.ntmps168
  go_wp2
  go_loopg [] (s.size - a) (fun k wr => ∃ a' r', k = s.size - a' ∧ a ≤ a' ∧ Inv s a' r' ∧ a' + gap true (suf s a') = a + gap true (suf s a) ∧ Lx wr b s a' r' ∧ Wr b w wr)
  case atStart => exact ⟨a, r, rfl, Nat.le_refl _, hi, rfl, hl, Wr.refl _ _⟩
  case round =>
    obtain ⟨a', r', hk, haa, hinv, hg, hlx, hwr⟩ := hrel
    have hE := atEnd_is wr b s a' r' hlx
    by_cases he : a' = s.size
    · have e1 : decide (a' = s.size) = true := by simp [he]
      rw [e1] at hE
      clear hlx e1
      go_wp2_with (go_at_call 166; refine hE.mono ?_; rintro e w1 ⟨rfl, hlx1, hw1⟩)
      go_end0
      exact ⟨rfl, a', r', haa, fun _ h => by omega, hinv, by rw [← hg, gap_over _ (by omega), gap_over _ (by omega)], hlx1, hwr.trans hw1⟩
    · have e1 : decide (a' = s.size) = false := by simp [he]
      rw [e1] at hE
      have hlt : a' < s.size := by have := hinv.h4; omega
      have hK : ∀ w1, Lx w1 b s a' r' → Calls Tryz.prog 167 #[.pointer (some ⟨b, 0, none⟩), .int .i64 0] w1 fun e w' => e = .returned (.int .u8 (bN s (a' + 0))) ∧ Lx w' b s a' (rd s r' (a' + 0)) ∧ Wr b w1 w' :=
        fun w1 h => look_is w1 b s a' r' 0 hs hinv.h4 (by omega) h
      clear hlx e1
      by_cases hc : bN s a' = 10
      · have e2 : ((bN s (a' + 0) : Int) != 10) = false := by rw [Nat.add_zero, hc]; rfl
        go_wp2_with (first | (go_at_call 166; refine hE.mono ?_; rintro e w1 ⟨rfl, hlx1, hw1⟩) | (go_at_call 167; refine (hK _ hlx1).mono ?_; rintro e w2 ⟨rfl, hlx2, hw2⟩))
        go_end0
        exact ⟨rfl, a', _, haa, fun h1 _ => Nat.lt_of_le_of_ne haa (fun h2 => h1 (by rw [h2]; exact hc)), hinv.look, by rw [← hg, gap_line hlt hc], hlx2, (hwr.trans hw1).trans hw2⟩
      · have e2 : ((bN s (a' + 0) : Int) != 10) = true := by rw [Nat.add_zero]; simp; omega
        have hbd : a' ≤ 140737488351232 := by omega
        go_wp2_with (first | (go_at_call 166; refine hE.mono ?_; rintro e w1 ⟨rfl, hlx1, hw1⟩) | (go_at_call 167; refine (hK _ hlx1).mono ?_; rintro e w2 ⟨rfl, hlx2, hw2⟩; have d1 := hlx2.c1; have d2 := hlx2.f1))
        go_roundg (s.size - (a' + 1))
        case measure => omega
        case rel => exact ⟨a' + 1, _, rfl, by omega, hinv.step hlt, by rw [← hg, gap_note hlt hc]; omega, hlx2.to1 (by omega), ((hwr.trans hw1).trans hw2).set _⟩

set_option maxHeartbeats 800000 in
theorem skip_is (w : World) (b : Nat) (s : ByteArray) (a r : Nat) (hs : s.size ≤ 140737488351232) (hi : Inv s a r) (hl : Lx w b s a r) :
    Calls Tryz.prog 149 #[.pointer (some ⟨b, 0, none⟩)] w fun e w' => e = .returned (.tuple #[]) ∧ ∃ r', Inv s (pl s a) r' ∧ Lx w' b s (pl s a) r' ∧ Wr b w w' := by
  go_enter Tryz.func149, Tryz.ntmps149
  go_wp2
  go_loopg [] (s.size - a) (fun k wr => ∃ a' r', k = s.size - a' ∧ Inv s a' r' ∧ a' + gap false (suf s a') = pl s a ∧ Lx wr b s a' r' ∧ Wr b w wr)
  case atStart => exact ⟨a, r, rfl, hi, rfl, hl, Wr.refl _ _⟩
  case round =>
    obtain ⟨a', r', hk, hinv, hg, hlx, hwr⟩ := hrel
    have hE := atEnd_is wr b s a' r' hlx
    have Hg : Hid (a' + gap false (suf s a') = pl s a) := hg
    clear hg
    by_cases he : a' = s.size
    · have e1 : decide (a' = s.size) = true := by simp [he]
      rw [e1] at hE
      clear hlx e1
      go_wp2_with (go_at_call 166; refine hE.mono ?_; rintro e w1 ⟨rfl, hlx1, hw1⟩)
      go_end0
      have e2 : pl s a = a' := by rw [← Hg.out, gap_over _ (by omega)]; rfl
      rw [e2]
      exact ⟨rfl, r', hinv, hlx1, hwr.trans hw1⟩
    · have e1 : decide (a' = s.size) = false := by simp [he]
      rw [e1] at hE
      have hlt : a' < s.size := by have := hinv.h4; omega
      have hK : ∀ w1, Lx w1 b s a' r' → Calls Tryz.prog 167 #[.pointer (some ⟨b, 0, none⟩), .int .i64 0] w1 fun e w' => e = .returned (.int .u8 (bN s (a' + 0))) ∧ Lx w' b s a' (rd s r' (a' + 0)) ∧ Wr b w1 w' :=
        fun w1 h => look_is w1 b s a' r' 0 hs hinv.h4 (by omega) h
      clear hlx e1
      rw [Nat.add_zero] at hK
      by_cases hc : bN s a' = 35
      · have e2 : ((bN s a' : Int) == 35) = true := by rw [hc]; rfl
        have hi2 := hinv.look
        rw [Nat.add_zero] at hi2
        have hC : ∀ w1, Lx w1 b s a' (rd s r' a') → Calls Tryz.prog 168 #[.pointer (some ⟨b, 0, none⟩)] w1 fun e w' => e = .returned (.tuple #[]) ∧ ∃ a2 r2, a' ≤ a2 ∧ (bN s a' ≠ 10 → a' < s.size → a' < a2) ∧ Inv s a2 r2 ∧ a2 + gap false (suf s a2) = a' + gap true (suf s a') ∧ Lx w' b s a2 r2 ∧ Wr b w1 w' :=
          fun w1 h => skipComment_is w1 b s a' _ hs hi2 h
        go_wp2_with (first | (go_at_call 166; refine hE.mono ?_; rintro e w1 ⟨rfl, hlx1, hw1⟩) | (go_at_call 167; refine (hK _ hlx1).mono ?_; rintro e w2 ⟨rfl, hlx2, hw2⟩) | (go_at_call 168; refine (hC _ hlx2).mono ?_; rintro e w3 ⟨rfl, HX⟩))
        obtain ⟨a2, r2, q1, q2, q3, q4, q5, q6⟩ := HX
        have q7 := q2 (by omega) hlt
        go_roundg (s.size - a2)
        case measure => have := q3.h4; omega
        case rel => exact ⟨a2, r2, rfl, q3, by rw [q4, ← Hg.out, gap_hash hlt hc], q5, ((hwr.trans hw1).trans hw2).trans q6⟩
      · have e2 : ((bN s a' : Int) == 35) = false := by rw [beq_eq_false_iff_ne]; omega
        have hB : ∀ w1, Calls Tryz.prog 169 #[.int .u64 4294968832, .int .u8 (bN s a')] w1 fun e w' => e = .returned (.bool (blN (bN s a'))) ∧ w' = w1 := fun w1 => hasBl_is _ (bN_255 s a') w1
        by_cases hb : blN (bN s a') = true
        · rw [hb] at hB
          have hbd : a' ≤ 140737488351232 := by omega
          go_wp2_with (first | (go_at_call 166; refine hE.mono ?_; rintro e w1 ⟨rfl, hlx1, hw1⟩) | (go_at_call 167; refine (hK _ hlx1).mono ?_; rintro e w2 ⟨rfl, hlx2, hw2⟩; have d1 := hlx2.c1; have d2 := hlx2.f1) | (go_at_call 169; refine (hB _).mono ?_; rintro e w3 ⟨rfl, rfl⟩))
          go_roundg (s.size - (a' + 1))
          case measure => omega
          case rel => exact ⟨a' + 1, _, rfl, hinv.step hlt, by rw [← Hg.out, gap_blank hlt hc hb]; omega, hlx2.to1 (by omega), ((hwr.trans hw1).trans hw2).set _⟩
        · have hb' : blN (bN s a') = false := by simpa using hb
          rw [hb'] at hB
          go_wp2_with (first | (go_at_call 166; refine hE.mono ?_; rintro e w1 ⟨rfl, hlx1, hw1⟩) | (go_at_call 167; refine (hK _ hlx1).mono ?_; rintro e w2 ⟨rfl, hlx2, hw2⟩) | (go_at_call 169; refine (hB _).mono ?_; rintro e w3 ⟨rfl, rfl⟩))
          (try simp only [Exit.inBlock, Exit.then])
          refine bodyPost_ret (results_none rfl _ _ _) rfl ?_
          have e3 : pl s a = a' := by rw [← Hg.out, gap_stop hlt hc hb']; rfl
          rw [e3]
          have hi2 := hinv.look
          rw [Nat.add_zero] at hi2
          exact ⟨rfl, _, hi2, hlx2, (hwr.trans hw1).trans hw2⟩
end Go.Proofs.YtacflahkofmcpaaGreatDoor

namespace Go.Proofs.YtacflahkofmcpaaGreatDoor
open Go.RowKit

theorem word_lt {s : ByteArray} {i : Nat} (h : wordN (bN s i) = true) : i < s.size := by
  rcases Nat.lt_or_ge i s.size with h' | h'
  · exact h'
  · rw [bN_ge h'] at h; simp [wordN, letN, digN] at h

set_option maxHeartbeats 400000 in
theorem run_is (w : World) (b : Nat) (s : ByteArray) (a r z : Nat) (hs : s.size ≤ 140737488351232) (ha : a ≤ s.size) (hi : Inv s (a + z) r) (hl : Lx w b s a r) :
    Calls Tryz.prog 171 #[.pointer (some ⟨b, 0, none⟩), .int .i64 z] w fun e w' => e = .returned (.int .i64 ((z + runL (suf s (a + z)) : Nat) : Int)) ∧ ∃ r', Inv s (a + (z + runL (suf s (a + z)))) r' ∧ Lx w' b s a r' ∧ Wr b w w' := by
  obtain ⟨Z, hZ⟩ : ∃ Z, Z = z + runL (suf s (a + z)) := ⟨_, rfl⟩
  rw [← hZ]
  go_enter Tryz.func171, Tryz.ntmps171
  go_wp2
  go_loopg [1] (s.size - (a + z)) (fun k v wr => ∃ z' r' : Nat, v = .int .i64 z' ∧ k = s.size - (a + z') ∧ Inv s (a + z') r' ∧ z' + runL (suf s (a + z')) = Z ∧ Lx wr b s a r' ∧ Wr b w wr)
  case atStart => exact ⟨z, r, rfl, rfl, hi, hZ.symm, hl, Wr.refl _ _⟩
  case round =>
    obtain ⟨z', r', rfl, hk, hinv, hg, hlx, hwr⟩ := hrel
    have Hg : Hid (z' + runL (suf s (a + z')) = Z) := hg
    have HZ : Hid (Z = z + runL (suf s (a + z))) := hZ
    clear hg hZ
    have h4 := hinv.h4
    have hK := look_is wr b s a r' z' hs ha (by omega) hlx
    have hL : ∀ w1, Calls Tryz.prog 170 #[.int .u8 (bN s (a + z'))] w1 fun e w' => e = .returned (.bool (letN (bN s (a + z')))) ∧ w' = w1 := fun w1 => isLetter_is _ (bN_255 s _) w1
    have hD : ∀ w1, Calls Tryz.prog 172 #[.int .u8 (bN s (a + z'))] w1 fun e w' => e = .returned (.bool (digN (bN s (a + z')))) ∧ w' = w1 := fun w1 => isDigit_is _ (bN_255 s _) w1
    clear hlx
    by_cases h1 : letN (bN s (a + z')) = true
    · have hw : wordN (bN s (a + z')) = true := by unfold wordN; rw [h1]; rfl
      have hlt := word_lt hw
      have hbd : z' ≤ 140737488351232 := by omega
      rw [h1] at hL
      go_wp2_with (first | (go_at_call 167; refine hK.mono ?_; rintro e w1 ⟨rfl, hlx1, hw1⟩) | (go_at_call 170; refine (hL _).mono ?_; rintro e w3 ⟨rfl, rfl⟩) | (go_at_call 172; refine (hD _).mono ?_; rintro e w3 ⟨rfl, rfl⟩))
      go_roundg (s.size - (a + (z' + 1)))
      case measure => omega
      case rel => exact ⟨z' + 1, _, by go_num, rfl, hinv.step hlt, by rw [← Hg.out, run_on hw, Nat.add_assoc z']; rfl, hlx1, hwr.trans hw1⟩
    · have h1' : letN (bN s (a + z')) = false := by simpa using h1
      rw [h1'] at hL
      by_cases h2 : digN (bN s (a + z')) = true
      · have hw : wordN (bN s (a + z')) = true := by unfold wordN; rw [h2]; simp
        have hlt := word_lt hw
        have hbd : z' ≤ 140737488351232 := by omega
        rw [h2] at hD
        go_wp2_with (first | (go_at_call 167; refine hK.mono ?_; rintro e w1 ⟨rfl, hlx1, hw1⟩) | (go_at_call 170; refine (hL _).mono ?_; rintro e w3 ⟨rfl, rfl⟩) | (go_at_call 172; refine (hD _).mono ?_; rintro e w3 ⟨rfl, rfl⟩))
        go_roundg (s.size - (a + (z' + 1)))
        case measure => omega
        case rel => exact ⟨z' + 1, _, by go_num, rfl, hinv.step hlt, by rw [← Hg.out, run_on hw, Nat.add_assoc z']; rfl, hlx1, hwr.trans hw1⟩
      · have h2' : digN (bN s (a + z')) = false := by simpa using h2
        rw [h2'] at hD
        have hw : wordN (bN s (a + z')) = false := by unfold wordN; rw [h1', h2']; rfl
        go_wp2_with (first | (go_at_call 167; refine hK.mono ?_; rintro e w1 ⟨rfl, hlx1, hw1⟩) | (go_at_call 170; refine (hL _).mono ?_; rintro e w3 ⟨rfl, rfl⟩) | (go_at_call 172; refine (hD _).mono ?_; rintro e w3 ⟨rfl, rfl⟩))
        go_ret
        have e3 : Z = z' := by rw [← Hg.out, run_off hw]; rfl
        rw [e3]
        exact ⟨rfl, _, hinv.look, hlx1, hwr.trans hw1⟩

theorem ret_bool {x y : Bool} (h : x = y) : Ending.returned (.bool x) = .returned (.bool y) := by rw [h]

/-- May the next byte be looked at for a sign of two bytes? -/
def opens (n : Nat) : Bool := n == 60 || n == 62 || n == 61 || n == 33
theorem pair_opens {n m : Nat} (h : opens n = false) : pairN n m = false := by
  simp only [opens, Bool.or_eq_false_iff, beq_eq_false_iff_ne] at h
  unfold pairN
  simp only [Bool.or_eq_false_iff, Bool.and_eq_false_iff, beq_eq_false_iff_ne]
  omega

set_option maxHeartbeats 400000 in
theorem atPair_is (w : World) (b : Nat) (s : ByteArray) (a r c : Nat) (hs : s.size ≤ 140737488351232) (ha : a ≤ s.size) (hl : Lx w b s a r) :
    Calls Tryz.prog 173 #[.pointer (some ⟨b, 0, none⟩), .int .u8 c] w fun e w' => e = .returned (.bool (pairN c (bN s (a + 1)))) ∧ Lx w' b s a (if opens c then rd s r (a + 1) else r) ∧ Wr b w w' := by
  have hK : Calls Tryz.prog 167 #[.pointer (some ⟨b, 0, none⟩), .int .i64 1] w fun e w' => e = .returned (.int .u8 (bN s (a + 1))) ∧ Lx w' b s a (rd s r (a + 1)) ∧ Wr b w w' := look_is w b s a r 1 hs ha (by omega) hl
  have HL : Hid (Lx w b s a r) := hl
  clear hl ha hs
  generalize bN s (a + 1) = d at hK ⊢
  rcases (show c = 60 ∨ c = 62 ∨ c = 61 ∨ c = 33 ∨ opens c = false from by unfold opens; simp; omega) with h60 | h62 | h61 | h33 | ho
  · subst h60
    go_enter Tryz.func173, Tryz.ntmps173
    go_wp2_with (go_at_call 167; refine hK.mono ?_; rintro e w1 ⟨rfl, hlx1, hw1⟩)
    go_ret
    refine ⟨?_, hlx1, hw1⟩
    exact ret_bool (by rw [Bool.eq_iff_iff]; simp [pairN]; try omega)
  · subst h62
    go_enter Tryz.func173, Tryz.ntmps173
    go_wp2_with (go_at_call 167; refine hK.mono ?_; rintro e w1 ⟨rfl, hlx1, hw1⟩)
    go_ret
    refine ⟨?_, hlx1, hw1⟩
    exact ret_bool (by rw [Bool.eq_iff_iff]; simp [pairN]; try omega)
  · subst h61
    go_enter Tryz.func173, Tryz.ntmps173
    go_wp2_with (go_at_call 167; refine hK.mono ?_; rintro e w1 ⟨rfl, hlx1, hw1⟩)
    go_ret
    refine ⟨?_, hlx1, hw1⟩
    exact ret_bool (by rw [Bool.eq_iff_iff]; simp [pairN]; try omega)
  · subst h33
    go_enter Tryz.func173, Tryz.ntmps173
    go_wp2_with (go_at_call 167; refine hK.mono ?_; rintro e w1 ⟨rfl, hlx1, hw1⟩)
    go_ret
    refine ⟨?_, hlx1, hw1⟩
    exact ret_bool (by rw [Bool.eq_iff_iff]; simp [pairN]; try omega)
  · rw [pair_opens ho, ho]
    have ho' := ho
    simp only [opens, Bool.or_eq_false_iff, beq_eq_false_iff_ne] at ho'
    have e1 : ((c : Int) == 60) = false := by rw [beq_eq_false_iff_ne]; omega
    have e2 : ((c : Int) == 62) = false := by rw [beq_eq_false_iff_ne]; omega
    have e3 : ((c : Int) == 61) = false := by rw [beq_eq_false_iff_ne]; omega
    have e4 : ((c : Int) == 33) = false := by rw [beq_eq_false_iff_ne]; omega
    clear ho ho'
    go_enter Tryz.func173, Tryz.ntmps173
    go_wp2
    go_ret
    exact ⟨rfl, HL.out, Wr.refl _ _⟩

set_option maxHeartbeats 2000000 in
/-- What measure reads: past the token by one byte at most. -/
theorem measure_is (w : World) (b : Nat) (s : ByteArray) (a r : Nat) (hs : s.size ≤ 140737488351232) (hi : Inv s a r) (hl : Lx w b s a r) :
    Calls Tryz.prog 150 #[.pointer (some ⟨b, 0, none⟩)] w fun e w' => e = .returned (.tuple #[.int .i64 (kind (suf s a)), .int .i64 (tsize (suf s a))]) ∧ ∃ r', (kind (suf s a) ≠ 0 → Inv s (a + tsize (suf s a)) r') ∧ Lx w' b s a r' ∧ Wr b w w' := by
  have hE := atEnd_is w b s a r hl
  have h4 := hi.h4
  by_cases he : a = s.size
  · have e1 : decide (a = s.size) = true := by simp [he]
    have e2 : suf s a = [] := suf_ge (by omega)
    rw [e1] at hE
    rw [e2]
    clear hl e1 e2
    go_enter Tryz.func150, Tryz.ntmps150
    go_wp2_with (go_at_call 166; refine hE.mono ?_; rintro e w1 ⟨rfl, hlx1, hw1⟩)
    go_ret2
    exact ⟨rfl, r, fun _ => hi, hlx1, hw1⟩
  · have hlt : a < s.size := by omega
    have e1 : decide (a = s.size) = false := by simp [he]
    rw [e1] at hE
    rw [kind_at hlt, tsize_at hlt]
    have hK : ∀ w1, Lx w1 b s a r → Calls Tryz.prog 167 #[.pointer (some ⟨b, 0, none⟩), .int .i64 0] w1 fun e w' => e = .returned (.int .u8 (bN s a)) ∧ Lx w' b s a (rd s r a) ∧ Wr b w1 w' :=
      fun w1 h => look_is w1 b s a r 0 hs h4 (by omega) h
    have hK1 : ∀ w1, Lx w1 b s a (rd s r a) → Calls Tryz.prog 167 #[.pointer (some ⟨b, 0, none⟩), .int .i64 1] w1 fun e w' => e = .returned (.int .u8 (bN s (a + 1))) ∧ Lx w' b s a (rd s (rd s r a) (a + 1)) ∧ Wr b w1 w' :=
      fun w1 h => look_is w1 b s a _ 1 hs h4 (by omega) h
    have hL : ∀ w1, Calls Tryz.prog 170 #[.int .u8 (bN s a)] w1 fun e w' => e = .returned (.bool (letN (bN s a))) ∧ w' = w1 := fun w1 => isLetter_is _ (bN_255 s _) w1
    have hD : ∀ w1, Calls Tryz.prog 172 #[.int .u8 (bN s a)] w1 fun e w' => e = .returned (.bool (digN (bN s a))) ∧ w' = w1 := fun w1 => isDigit_is _ (bN_255 s _) w1
    have hD1 : ∀ w1, Calls Tryz.prog 172 #[.int .u8 (bN s (a + 1))] w1 fun e w' => e = .returned (.bool (digN (bN s (a + 1)))) ∧ w' = w1 := fun w1 => isDigit_is _ (bN_255 s _) w1
    have hO : ∀ w1, Calls Tryz.prog 174 #[.int .u8 (bN s a)] w1 fun e w' => e = .returned (.bool (oneN (bN s a))) ∧ w' = w1 := fun w1 => isSign_is _ (bN_255 s _) w1
    have hi1 : Inv s (a + 1) (rd s r a) := hi.step hlt
    have hR : ∀ w1, Lx w1 b s a (rd s r a) → Calls Tryz.prog 171 #[.pointer (some ⟨b, 0, none⟩), .int .i64 1] w1 fun e w' => e = .returned (.int .i64 ((1 + runL (suf s (a + 1)) : Nat) : Int)) ∧ ∃ r', Inv s (a + (1 + runL (suf s (a + 1)))) r' ∧ Lx w' b s a r' ∧ Wr b w1 w' :=
      fun w1 h => run_is w1 b s a _ 1 hs h4 hi1 h
    clear hl e1
    by_cases h1 : letN (bN s a) = true
    · simp only [h1, if_true]
      rw [h1] at hL
      go_enter Tryz.func150, Tryz.ntmps150
      go_wp2_with (first | (go_at_call 166; refine hE.mono ?_; rintro e w1 ⟨rfl, hlx1, hw1⟩) | (go_at_call 167; refine (hK _ hlx1).mono ?_; rintro e w2 ⟨rfl, hlx2, hw2⟩) | (go_at_call 170; refine (hL _).mono ?_; rintro e w3 ⟨rfl, rfl⟩) | (go_at_call 171; refine (hR _ hlx2).mono ?_; rintro e w4 ⟨rfl, HX⟩))
      go_ret2
      obtain ⟨r', q1, q2, q3⟩ := HX
      exact ⟨rfl, r', fun _ => q1, q2, (hw1.trans hw2).trans q3⟩
    · have h1' : letN (bN s a) = false := by simpa using h1
      rw [h1'] at hL
      clear h1
      by_cases h2 : digN (bN s a) = true
      · simp only [h1', h2, if_true, Bool.false_eq_true, if_false]
        rw [h2] at hD
        go_enter Tryz.func150, Tryz.ntmps150
        go_wp2_with (first | (go_at_call 166; refine hE.mono ?_; rintro e w1 ⟨rfl, hlx1, hw1⟩) | (go_at_call 167; refine (hK _ hlx1).mono ?_; rintro e w2 ⟨rfl, hlx2, hw2⟩) | (go_at_call 170; refine (hL _).mono ?_; rintro e w3 ⟨rfl, rfl⟩) | (go_at_call 172; refine (hD _).mono ?_; rintro e w3 ⟨rfl, rfl⟩) | (go_at_call 171; refine (hR _ hlx2).mono ?_; rintro e w5 ⟨rfl, HX⟩))
        go_ret2
        obtain ⟨r', q1, q2, q3⟩ := HX
        exact ⟨rfl, r', fun _ => q1, q2, (hw1.trans hw2).trans q3⟩
      · have h2' : digN (bN s a) = false := by simpa using h2
        rw [h2'] at hD
        clear h2
        by_cases h45 : bN s a = 45
        · have e45 : ((bN s a : Int) == 45) = true := by rw [h45]; rfl
          have b45 : (bN s a == 45) = true := by rw [h45]; rfl
          by_cases h3 : digN (bN s (a + 1)) = true
          · simp only [h1', h2', h3, b45, Bool.and_self, if_true, Bool.false_eq_true, if_false]
            rw [h3] at hD1
            have hw : wordN (bN s (a + 1)) = true := by unfold wordN; rw [h3]; simp
            have hlt1 := word_lt hw
            have hi2 : Inv s (a + 2) (rd s (rd s r a) (a + 1)) := hi1.step hlt1
            have hR2 : ∀ w1, Lx w1 b s a (rd s (rd s r a) (a + 1)) → Calls Tryz.prog 171 #[.pointer (some ⟨b, 0, none⟩), .int .i64 2] w1 fun e w' => e = .returned (.int .i64 ((2 + runL (suf s (a + 2)) : Nat) : Int)) ∧ ∃ r', Inv s (a + (2 + runL (suf s (a + 2)))) r' ∧ Lx w' b s a r' ∧ Wr b w1 w' :=
              fun w1 h => run_is w1 b s a _ 2 hs h4 hi2 h
            have e2 : 1 + runL (suf s (a + 1)) = 2 + runL (suf s (a + 2)) := by rw [run_on hw]; show 1 + (1 + runL (suf s (a + 2))) = _; omega
            rw [e2]
            clear h45 e2 hw h3 hR hi1
            go_enter Tryz.func150, Tryz.ntmps150
            go_wp2_with (first | (go_at_call 166; refine hE.mono ?_; rintro e w1 ⟨rfl, hlx1, hw1⟩) | (go_at_call 167; refine (hK1 _ hlx2).mono ?_; rintro e w4 ⟨rfl, hlx4, hw4⟩) | (go_at_call 167; refine (hK _ hlx1).mono ?_; rintro e w2 ⟨rfl, hlx2, hw2⟩) | (go_at_call 170; refine (hL _).mono ?_; rintro e w3 ⟨rfl, rfl⟩) | (go_at_call 172; have _h := hlx4; refine (hD1 _).mono ?_; rintro e w3 ⟨rfl, rfl⟩) | (go_at_call 172; refine (hD _).mono ?_; rintro e w3 ⟨rfl, rfl⟩) | (go_at_call 171; refine (hR2 _ hlx4).mono ?_; rintro e w5 ⟨rfl, HX⟩))
            go_ret2
            obtain ⟨r', q1, q2, q3⟩ := HX
            exact ⟨rfl, r', fun _ => q1, q2, ((hw1.trans hw2).trans hw4).trans q3⟩
          · have h3' : digN (bN s (a + 1)) = false := by simpa using h3
            have p45 : pairN (bN s a) (bN s (a + 1)) = false := by rw [h45]; exact pair_opens rfl
            have o45 : opens (bN s a) = false := by rw [h45]; rfl
            have g45 : oneN (bN s a) = true := by rw [h45]; rfl
            simp only [h1', h2', h3', b45, p45, g45, Bool.and_false, if_true, Bool.false_eq_true, if_false]
            rw [h3'] at hD1
            rw [g45] at hO
            have hP : ∀ w1, Lx w1 b s a (rd s (rd s r a) (a + 1)) → Calls Tryz.prog 173 #[.pointer (some ⟨b, 0, none⟩), .int .u8 (bN s a)] w1 fun e w' => e = .returned (.bool false) ∧ Lx w' b s a (rd s (rd s r a) (a + 1)) ∧ Wr b w1 w' := by
              intro w1 h
              have := atPair_is w1 b s a _ (bN s a) hs h4 h
              rw [p45, o45] at this
              exact this
            have hi2 : Inv s (a + 1) (rd s (rd s r a) (a + 1)) := hi1.look
            clear h45 h3 hR hi1 p45 o45 g45
            go_enter Tryz.func150, Tryz.ntmps150
            go_wp2_with (first | (go_at_call 166; refine hE.mono ?_; rintro e w1 ⟨rfl, hlx1, hw1⟩) | (go_at_call 167; refine (hK1 _ hlx2).mono ?_; rintro e w4 ⟨rfl, hlx4, hw4⟩) | (go_at_call 167; refine (hK _ hlx1).mono ?_; rintro e w2 ⟨rfl, hlx2, hw2⟩) | (go_at_call 170; refine (hL _).mono ?_; rintro e w3 ⟨rfl, rfl⟩) | (go_at_call 172; have _h := hlx4; refine (hD1 _).mono ?_; rintro e w3 ⟨rfl, rfl⟩) | (go_at_call 172; refine (hD _).mono ?_; rintro e w3 ⟨rfl, rfl⟩) | (go_at_call 173; refine (hP _ hlx4).mono ?_; rintro e w5 ⟨rfl, hlx5, hw5⟩) | (go_at_call 174; refine (hO _).mono ?_; rintro e w3 ⟨rfl, rfl⟩))
            go_ret2
            exact ⟨rfl, _, fun _ => hi2, hlx5, ((hw1.trans hw2).trans hw4).trans hw5⟩
        · have e45 : ((bN s a : Int) == 45) = false := by rw [beq_eq_false_iff_ne]; omega
          have b45 : (bN s a == 45) = false := by rw [beq_eq_false_iff_ne]; exact h45
          have hP : ∀ w1, Lx w1 b s a (rd s r a) → Calls Tryz.prog 173 #[.pointer (some ⟨b, 0, none⟩), .int .u8 (bN s a)] w1 fun e w' => e = .returned (.bool (pairN (bN s a) (bN s (a + 1)))) ∧ Lx w' b s a (if opens (bN s a) then rd s (rd s r a) (a + 1) else rd s r a) ∧ Wr b w1 w' :=
            fun w1 h => atPair_is w1 b s a _ (bN s a) hs h4 h
          by_cases h5 : pairN (bN s a) (bN s (a + 1)) = true
          · simp only [h1', h2', b45, h5, Bool.false_and, if_true, Bool.false_eq_true, if_false]
            have ho : opens (bN s a) = true := by
              cases ho : opens (bN s a) with
              | true => rfl
              | false => rw [pair_opens ho] at h5; cases h5
            have hlt1 : a + 1 < s.size := by
              rcases Nat.lt_or_ge (a + 1) s.size with h' | h'
              · exact h'
              · rw [bN_ge h'] at h5; simp [pairN] at h5
            have hi2 : Inv s (a + 2) (rd s (rd s r a) (a + 1)) := hi1.step hlt1
            rw [h5] at hP
            simp only [ho, if_true] at hP
            clear h45 h5 ho hR hK1
            go_enter Tryz.func150, Tryz.ntmps150
            go_wp2_with (first | (go_at_call 166; refine hE.mono ?_; rintro e w1 ⟨rfl, hlx1, hw1⟩) | (go_at_call 167; refine (hK _ hlx1).mono ?_; rintro e w2 ⟨rfl, hlx2, hw2⟩) | (go_at_call 170; refine (hL _).mono ?_; rintro e w3 ⟨rfl, rfl⟩) | (go_at_call 172; refine (hD _).mono ?_; rintro e w3 ⟨rfl, rfl⟩) | (go_at_call 173; refine (hP _ hlx2).mono ?_; rintro e w5 ⟨rfl, hlx5, hw5⟩))
            go_ret2
            exact ⟨rfl, _, fun _ => hi2, hlx5, (hw1.trans hw2).trans hw5⟩
          · have h5' : pairN (bN s a) (bN s (a + 1)) = false := by simpa using h5
            rw [h5'] at hP
            have hi2 : Inv s (a + 1) (if opens (bN s a) then rd s (rd s r a) (a + 1) else rd s r a) := by
              split
              · exact hi1.look
              · exact hi1
            generalize (if opens (bN s a) then rd s (rd s r a) (a + 1) else rd s r a) = r5 at *
            by_cases h6 : oneN (bN s a) = true
            · simp only [h1', h2', b45, h5', h6, Bool.false_and, if_true, Bool.false_eq_true, if_false]
              rw [h6] at hO
              clear h45 h5 hR hK1 h5' h6
              go_enter Tryz.func150, Tryz.ntmps150
              go_wp2_with (first | (go_at_call 166; refine hE.mono ?_; rintro e w1 ⟨rfl, hlx1, hw1⟩) | (go_at_call 167; refine (hK _ hlx1).mono ?_; rintro e w2 ⟨rfl, hlx2, hw2⟩) | (go_at_call 170; refine (hL _).mono ?_; rintro e w3 ⟨rfl, rfl⟩) | (go_at_call 172; refine (hD _).mono ?_; rintro e w3 ⟨rfl, rfl⟩) | (go_at_call 173; refine (hP _ hlx2).mono ?_; rintro e w5 ⟨rfl, hlx5, hw5⟩) | (go_at_call 174; refine (hO _).mono ?_; rintro e w3 ⟨rfl, rfl⟩))
              go_ret2
              exact ⟨rfl, _, fun _ => hi2, hlx5, (hw1.trans hw2).trans hw5⟩
            · have h6' : oneN (bN s a) = false := by simpa using h6
              simp only [h1', h2', b45, h5', h6', Bool.false_and, Bool.false_eq_true, if_false]
              rw [h6'] at hO
              clear h45 h5 hR hK1 h5' h6
              go_enter Tryz.func150, Tryz.ntmps150
              go_wp2_with (first | (go_at_call 166; refine hE.mono ?_; rintro e w1 ⟨rfl, hlx1, hw1⟩) | (go_at_call 167; refine (hK _ hlx1).mono ?_; rintro e w2 ⟨rfl, hlx2, hw2⟩) | (go_at_call 170; refine (hL _).mono ?_; rintro e w3 ⟨rfl, rfl⟩) | (go_at_call 172; refine (hD _).mono ?_; rintro e w3 ⟨rfl, rfl⟩) | (go_at_call 173; refine (hP _ hlx2).mono ?_; rintro e w5 ⟨rfl, hlx5, hw5⟩) | (go_at_call 174; refine (hO _).mono ?_; rintro e w3 ⟨rfl, rfl⟩))
              go_ret2
              exact ⟨rfl, _, fun h => absurd rfl h, hlx5, (hw1.trans hw2).trans hw5⟩
end Go.Proofs.YtacflahkofmcpaaGreatDoor

namespace Go.Proofs.YtacflahkofmcpaaGreatDoor
open Go.RowKit

theorem isNumber_is (x : ByteArray) (hx : x.size ≤ 281474976710656) (w : World) (hw : Lw w) :
    Calls Tryz.prog 151 #[.string x] w fun e w' => e = .returned (.bool (pB x)) ∧ On w w' := by
  have hP := parse_is x hx w hw
  clear hw
  go_enter Tryz.func151, Tryz.ntmps151
  go_wp2_with (go_at_call 155; refine hP.mono ?_; rintro e w1 ⟨rfl, hW1⟩)
  go_ret
  exact ⟨rfl, hW1⟩

theorem Wr.alloc {b : Nat} {x y : World} (h : Wr b x y) (o : Obj) : Wr b x (y.alloc o) := h.trans (World.grownBy_alloc _ _ _)
theorem Wr.setNew {b i N : Nat} {x y : World} (h : Wr b x y) (hN : x.heap.size ≤ N) (u : Value) : Wr b x (y.setCell ⟨N, i, none⟩ u) :=
  ⟨h.os, h.tape, h.output, by simpa [World.setCell] using h.size, fun k hk hne => (Below.heap_setCell _ _ _ _ (fun e => by simp at e; omega)).trans (h.block k hk hne)⟩
theorem Wr.on {b : Nat} {x y z : World} (h : Wr b x y) (k : On y z) : Wr b x z :=
  h.trans ⟨k.os, k.tape, k.output, k.size, fun i hi _ => k.block i hi⟩
theorem Wr.of_on {b : Nat} {x y : World} (k : On x y) : Wr b x y := (Wr.refl _ _).on k
theorem Lx.alloc {w : World} {b : Nat} {s : ByteArray} {a r : Nat} (h : Lx w b s a r) (o : Obj) : Lx (w.alloc o) b s a r := by
  obtain ⟨T, e⟩ := h.blk
  exact ⟨T, (Below.heap_alloc _ _ _ h.lt).trans e⟩
theorem Lx.on {w w' : World} {b : Nat} {s : ByteArray} {a r : Nat} (h : Lx w b s a r) (k : On w w') : Lx w' b s a r := by
  obtain ⟨T, e⟩ := h.blk
  exact ⟨T, (k.block b h.lt).trans e⟩
theorem Lx.far {w w' : World} {b b' : Nat} {s : ByteArray} {a r : Nat} (h : Lx w b s a r) (k : Wr b' w w') (hne : b ≠ b') : Lx w' b s a r := by
  obtain ⟨T, e⟩ := h.blk
  exact ⟨T, (k.block b h.lt (by simpa using hne)).trans e⟩
theorem Lx.setFar {w : World} {b N i : Nat} {s : ByteArray} {a r : Nat} (h : Lx w b s a r) (hne : b ≠ N) (u : Value) : Lx (w.setCell ⟨N, i, none⟩ u) b s a r := by
  obtain ⟨T, e⟩ := h.blk
  exact ⟨T, (Below.heap_setCell _ _ _ _ hne).trans e⟩

theorem var_wr {w w' : World} {b g : Nat} {n : String} {cs : Array Value} (k : Wr b w w') (hg : Tryz.prog.globalNamed n = some g) (hne : g ≠ b) (h : w.var? Tryz.prog n = some cs) : w'.var? Tryz.prog n = some cs := by
  have hlt := lt_of_var hg h
  unfold World.var? at h ⊢
  simp only [hg, Option.bind_some] at h ⊢
  rw [k.block g hlt (by simpa using hne)]
  exact h
theorem Lw.wr {w w' : World} {b : Nat} (h : Lw w) (k : Wr b w w') (hb : 6 ≤ b) : Lw w' := by
  refine ⟨var_wr k gTab (by omega) h.tab, ?_, ?_, var_wr k gSgs (by omega) h.sgs⟩
  · obtain ⟨tp, p, e⟩ := h.syn
    exact ⟨tp, p, var_wr k gSyn (by omega) e⟩
  · obtain ⟨tp, p, e⟩ := h.rng
    exact ⟨tp, p, var_wr k gRng (by omega) e⟩
theorem On.alloc {w w' : World} (h : On w w') (o : Obj) : On w (w'.alloc o) := Below.alloc h h.size o

theorem results_cells2 {fn : Func} {p u : Tmp} {tp tu : TypeId} (h : fn.results = #[.cell p tp, .cell u tu]) (tmps : Array Value) (P : Program) (w : World) :
    (results fn tmps).run P w =
      ((asAddr (tmps.getD p undef)).run P w).andThen fun a w₁ => ((loadVar tp a).run P w₁).andThen fun v w₂ => ((asAddr (tmps.getD u undef)).run P w₂).andThen fun a' w₃ => ((loadVar tu a').run P w₃).andThen fun v' w₄ => .ok (.tuple #[v, v']) w₄ := by
  simp only [results, h]
  simp [Sem.run_bind, Result.andThen]

/-- Two blocks that the call has laid for its results: a token's and an error's. -/
structure Rs (w : World) (N : Nat) : Prop where
  t : w.heap[N]? = some (.cells #[.int .i64 0, .string ⟨#[]⟩, .int .i64 0] 71 (0, 0))
  e : w.heap[N + 1]? = some (.cells #[.int .i64 0, .int .i64 0] 36 (0, 0))
theorem Rs.new (w : World) : Rs ((w.alloc (.cells #[.int .i64 0, .string ⟨#[]⟩, .int .i64 0] 71)).alloc (.cells #[.int .i64 0, .int .i64 0] 36)) w.heap.size := by
  refine ⟨?_, ?_⟩
  · rw [Below.heap_alloc _ _ _ (by simp)]
    exact heap_alloc_new _ _
  · have := heap_alloc_new (w.alloc (.cells #[.int .i64 0, .string ⟨#[]⟩, .int .i64 0] 71)) (.cells #[.int .i64 0, .int .i64 0] 36)
    simpa using this
theorem Rs.wr {w w' : World} {N b : Nat} (h : Rs w N) (k : Wr b w w') (hb : b < N) : Rs w' N :=
  ⟨(k.block N (lt_of_block h.t) (by simp; omega)).trans h.t, (k.block (N + 1) (lt_of_block h.e) (by simp; omega)).trans h.e⟩
theorem Rs.on {w w' : World} {N : Nat} (h : Rs w N) (k : On w w') : Rs w' N :=
  ⟨(k.block N (lt_of_block h.t)).trans h.t, (k.block (N + 1) (lt_of_block h.e)).trans h.e⟩
section
variable {w : World} {N : Nat}
theorem Rs.t0 (h : Rs w N) : w.cell? ⟨N, 0, none⟩ = some (.int .i64 0) := by simp [World.cell?, h.t]
theorem Rs.t1 (h : Rs w N) : w.cell? ⟨N, 1, none⟩ = some (.string ⟨#[]⟩) := by simp [World.cell?, h.t]
theorem Rs.t2 (h : Rs w N) : w.cell? ⟨N, 2, none⟩ = some (.int .i64 0) := by simp [World.cell?, h.t]
theorem Rs.e0 (h : Rs w N) : w.cell? ⟨N + 1, 0, none⟩ = some (.int .i64 0) := by simp [World.cell?, h.e]
theorem Rs.e1 (h : Rs w N) : w.cell? ⟨N + 1, 1, none⟩ = some (.int .i64 0) := by simp [World.cell?, h.e]
theorem Rs.ft (h : Rs w N) (i : Nat) : w.frozen? ⟨N, i, none⟩ = false := by simp [World.frozen?, h.t]
theorem Rs.fe (h : Rs w N) (i : Nat) : w.frozen? ⟨N + 1, i, none⟩ = false := by simp [World.frozen?, h.e]
theorem Rs.lt (h : Rs w N) : N + 1 < w.heap.size := lt_of_block h.e
end

section
variable (w : World) (b : Nat) (s : ByteArray) (a r p K z : Nat)
set_option maxHeartbeats 1000000
theorem take_none (hs : s.size ≤ 140737488351232) (hl : Lx w b s a r) (hp : p ≤ s.size) (hz : p + z ≤ s.size)
    (hS : ∀ w1, Lx w1 b s a r → Calls Tryz.prog 149 #[.pointer (some ⟨b, 0, none⟩)] w1 fun e w' => e = .returned (.tuple #[]) ∧ ∃ r', Inv s p r' ∧ Lx w' b s p r' ∧ Wr b w1 w')
    (hM : ∀ w1 r1, Inv s p r1 → Lx w1 b s p r1 → Calls Tryz.prog 150 #[.pointer (some ⟨b, 0, none⟩)] w1 fun e w' => e = .returned (.tuple #[.int .i64 0, .int .i64 z]) ∧ ∃ r', Lx w' b s p r' ∧ Wr b w1 w') :
    Calls Tryz.prog 114 #[.pointer (some ⟨b, 0, none⟩)] w fun e w' => e = .returned (.tuple #[.agg #[.int .i64 0, .string ⟨#[]⟩, .int .i64 0], .agg #[.int .i64 4, .int .i64 p]]) ∧ Wr b w w' := by
  have hR0 := Rs.new w
  have hb := hl.lt
  have hl0 := (hl.alloc (.cells #[.int .i64 0, .string ⟨#[]⟩, .int .i64 0] 71)).alloc (.cells #[.int .i64 0, .int .i64 0] 36)
  have hw0 : Wr b w ((w.alloc (.cells #[.int .i64 0, .string ⟨#[]⟩, .int .i64 0] 71)).alloc (.cells #[.int .i64 0, .int .i64 0] 36)) := ((Wr.refl b w).alloc _).alloc _
  go_enter Tryz.func114, Tryz.ntmps114
  go_wp2_with (first | (go_at_call 149; refine (hS _ hl0).mono ?_; rintro e w1 ⟨rfl, r1, hi1, hl1, hw1⟩) | (go_at_call 150; refine (hM _ _ hi1 hl1).mono ?_; rintro e w2 ⟨rfl, r2, hl2, hw2⟩))
  have hR2 := (hR0.wr hw1 hb).wr hw2 hb
  have c0 := hl2.c0
  have c1 := hl2.c1
  have t0 := hR2.t0
  have t1 := hR2.t1
  have t2 := hR2.t2
  have e0 := hR2.e0
  have e1 := hR2.e1
  have ft0 := hR2.ft 0
  have ft1 := hR2.ft 1
  have ft2 := hR2.ft 2
  have fe0 := hR2.fe 0
  have fe1 := hR2.fe 1
  go_region
  all_goals (try go_wp2)
  go_region
  all_goals (try go_wp2)
  all_goals (try simp only [Exit.inBlock, Exit.then])
  all_goals refine bodyPost_ret (v := .tuple #[.agg #[.int .i64 0, .string ⟨#[]⟩, .int .i64 0], .agg #[.int .i64 4, .int .i64 p]]) ?_ rfl ⟨rfl, ?_⟩
  · rw [results_cells2 rfl]
    go_simp
  · exact (((((((hw0.trans hw1).trans hw2).setNew (Nat.le_refl _) _).setNew (Nat.le_refl _) _).setNew (Nat.le_refl _) _).setNew (Nat.le_succ _) _).setNew (Nat.le_succ _) _).drew.drew

theorem take_bad (hs : s.size ≤ 140737488351232) (hl : Lx w b s a r) (hp : p ≤ s.size) (hz : p + z ≤ s.size) (hb3 : 6 ≤ b) (hw : Lw w) (hx : pB (s.extract p (p + z)) = false)
    (hS : ∀ w1, Lx w1 b s a r → Calls Tryz.prog 149 #[.pointer (some ⟨b, 0, none⟩)] w1 fun e w' => e = .returned (.tuple #[]) ∧ ∃ r', Inv s p r' ∧ Lx w' b s p r' ∧ Wr b w1 w')
    (hM : ∀ w1 r1, Inv s p r1 → Lx w1 b s p r1 → Calls Tryz.prog 150 #[.pointer (some ⟨b, 0, none⟩)] w1 fun e w' => e = .returned (.tuple #[.int .i64 2, .int .i64 z]) ∧ ∃ r', Inv s (p + z) r' ∧ Lx w' b s p r' ∧ Wr b w1 w') :
    Calls Tryz.prog 114 #[.pointer (some ⟨b, 0, none⟩)] w fun e w' => e = .returned (.tuple #[.agg #[.int .i64 0, .string ⟨#[]⟩, .int .i64 0], .agg #[.int .i64 5, .int .i64 p]]) ∧ Wr b w w' := by
  have hR0 := Rs.new w
  have hb := hl.lt
  have hl0 := (hl.alloc (.cells #[.int .i64 0, .string ⟨#[]⟩, .int .i64 0] 71)).alloc (.cells #[.int .i64 0, .int .i64 0] 36)
  have hw0 : Wr b w ((w.alloc (.cells #[.int .i64 0, .string ⟨#[]⟩, .int .i64 0] 71)).alloc (.cells #[.int .i64 0, .int .i64 0] 36)) := ((Wr.refl b w).alloc _).alloc _
  have hI : ∀ w1, Lw w1 → Calls Tryz.prog 151 #[.string (s.extract p (p + z))] w1 fun e w' => e = .returned (.bool false) ∧ On w1 w' := by
    intro w1 h
    have := isNumber_is (s.extract p (p + z)) (by rw [ByteArray.size_extract]; omega) w1 h
    rw [hx] at this
    exact this
  clear hx
  go_enter Tryz.func114, Tryz.ntmps114
  go_wp2_with (first | (go_at_call 149; refine (hS _ hl0).mono ?_; rintro e w1 ⟨rfl, r1, hi1, hl1, hw1⟩) | (go_at_call 150; refine (hM _ _ hi1 hl1).mono ?_; rintro e w2 ⟨rfl, r2, hi2, hl2, hw2⟩))
  have hR2 := (hR0.wr hw1 hb).wr hw2 hb
  have hL2 : Lw w2.drew := hw.wr ((hw0.trans hw1).trans hw2).drew hb3
  have HW : Hid (Wr b w w2) := (hw0.trans hw1).trans hw2
  have d0 := hl2.c0
  have d1 := hl2.c1
  clear hw
  go_region
  all_goals (try go_wp2_with (go_at_call 151; refine (hI _ hL2).mono ?_; rintro e w3 ⟨rfl, hw3⟩))
  have hl3 : Lx w3 b s p r2 := hl2.drew.on hw3
  have hR3 : Rs w3 w.heap.size := Rs.on (w := w2.drew) ⟨hR2.t, hR2.e⟩ hw3
  have c0 := hl3.c0
  have c1 := hl3.c1
  have f1 := hl3.f1
  have t0 := hR3.t0
  have t1 := hR3.t1
  have t2 := hR3.t2
  have e0 := hR3.e0
  have e1 := hR3.e1
  have ft0 := hR3.ft 0
  have ft1 := hR3.ft 1
  have ft2 := hR3.ft 2
  have fe0 := hR3.fe 0
  have fe1 := hR3.fe 1
  have hN := hR3.lt
  go_region
  all_goals (try go_wp2)
  all_goals (try simp only [Exit.inBlock, Exit.then])
  refine bodyPost_ret (v := .tuple #[.agg #[.int .i64 0, .string ⟨#[]⟩, .int .i64 0], .agg #[.int .i64 5, .int .i64 p]]) ?_ rfl ⟨rfl, ?_⟩
  · rw [results_cells2 rfl]
    go_simp
  · exact ((((((HW.out.drew.on hw3).setNew (Nat.le_refl _) _).setNew (Nat.le_refl _) _).setNew (Nat.le_refl _) _).setNew (Nat.le_succ _) _).setNew (Nat.le_succ _) _).drew

theorem take_num (hs : s.size ≤ 140737488351232) (hl : Lx w b s a r) (hp : p ≤ s.size) (hz : p + z ≤ s.size) (hb3 : 6 ≤ b) (hw : Lw w) (hx : pB (s.extract p (p + z)) = true)
    (hS : ∀ w1, Lx w1 b s a r → Calls Tryz.prog 149 #[.pointer (some ⟨b, 0, none⟩)] w1 fun e w' => e = .returned (.tuple #[]) ∧ ∃ r', Inv s p r' ∧ Lx w' b s p r' ∧ Wr b w1 w')
    (hM : ∀ w1 r1, Inv s p r1 → Lx w1 b s p r1 → Calls Tryz.prog 150 #[.pointer (some ⟨b, 0, none⟩)] w1 fun e w' => e = .returned (.tuple #[.int .i64 2, .int .i64 z]) ∧ ∃ r', Inv s (p + z) r' ∧ Lx w' b s p r' ∧ Wr b w1 w') :
    Calls Tryz.prog 114 #[.pointer (some ⟨b, 0, none⟩)] w fun e w' => e = .returned (.tuple #[.agg #[.int .i64 2, .string (s.extract p (p + z)), .int .i64 p], .agg #[.int .i64 0, .int .i64 0]]) ∧ ∃ r', Inv s (p + z) r' ∧ Lx w' b s (p + z) r' ∧ Wr b w w' := by
  have hR0 := Rs.new w
  have hb := hl.lt
  have hl0 := (hl.alloc (.cells #[.int .i64 0, .string ⟨#[]⟩, .int .i64 0] 71)).alloc (.cells #[.int .i64 0, .int .i64 0] 36)
  have hw0 : Wr b w ((w.alloc (.cells #[.int .i64 0, .string ⟨#[]⟩, .int .i64 0] 71)).alloc (.cells #[.int .i64 0, .int .i64 0] 36)) := ((Wr.refl b w).alloc _).alloc _
  have hI : ∀ w1, Lw w1 → Calls Tryz.prog 151 #[.string (s.extract p (p + z))] w1 fun e w' => e = .returned (.bool true) ∧ On w1 w' := by
    intro w1 h
    have := isNumber_is (s.extract p (p + z)) (by rw [ByteArray.size_extract]; omega) w1 h
    rw [hx] at this
    exact this
  clear hx
  go_enter Tryz.func114, Tryz.ntmps114
  go_wp2_with (first | (go_at_call 149; refine (hS _ hl0).mono ?_; rintro e w1 ⟨rfl, r1, hi1, hl1, hw1⟩) | (go_at_call 150; refine (hM _ _ hi1 hl1).mono ?_; rintro e w2 ⟨rfl, r2, hi2, hl2, hw2⟩))
  have hR2 := (hR0.wr hw1 hb).wr hw2 hb
  have hL2 : Lw w2.drew := hw.wr ((hw0.trans hw1).trans hw2).drew hb3
  have HW : Hid (Wr b w w2) := (hw0.trans hw1).trans hw2
  have d0 := hl2.c0
  have d1 := hl2.c1
  clear hw
  go_region
  all_goals (try go_wp2_with (first | (go_at_call 151; refine (hI _ hL2).mono ?_; rintro e w3 ⟨rfl, hw3⟩; have hl3 : Lx w3 b s p r2 := hl2.drew.on hw3; have hR3 : Rs w3 w.heap.size := Rs.on (w := w2.drew) ⟨hR2.t, hR2.e⟩ hw3; have c1 := hl3.c1; have f1 := hl3.f1; have hlb := hl3.lt; have hN := hR3.lt; have hN0 := Nat.lt_of_succ_lt hN; have t0 := hR3.t0; have t1 := hR3.t1; have t2 := hR3.t2; have e0 := hR3.e0; have e1 := hR3.e1; have ft0 := hR3.ft 0; have ft1 := hR3.ft 1; have ft2 := hR3.ft 2; have fe0 := hR3.fe 0; have fe1 := hR3.fe 1)))
  have hn0 : b ≠ w.heap.size := Nat.ne_of_lt hb
  have hn1 : b ≠ w.heap.size + 1 := Nat.ne_of_lt (Nat.lt_succ_of_lt hb)
  all_goals (try simp only [Exit.inBlock, Exit.then])
  refine bodyPost_ret (v := .tuple #[.agg #[.int .i64 2, .string (s.extract p (p + z)), .int .i64 p], .agg #[.int .i64 0, .int .i64 0]]) ?_ rfl ⟨rfl, r2, hi2, ?_, ?_⟩
  · rw [results_cells2 rfl]
    go_simp
  · exact ((((((hl3.to1 (n := p + z) (by omega)).setFar hn0 _).setFar hn0 _).setFar hn0 _).setFar hn1 _).setFar hn1 _).alloc _
  · exact (((((((HW.out.drew.on hw3).set _).setNew (Nat.le_refl _) _).setNew (Nat.le_refl _) _).setNew (Nat.le_refl _) _).setNew (Nat.le_succ _) _).setNew (Nat.le_succ _) _).alloc _

theorem take_word (hs : s.size ≤ 140737488351232) (hl : Lx w b s a r) (hp : p ≤ s.size) (hz : p + z ≤ s.size) (h0 : ((K : Int) == 0) = false) (h2 : ((K : Int) == 2) = false)
    (hS : ∀ w1, Lx w1 b s a r → Calls Tryz.prog 149 #[.pointer (some ⟨b, 0, none⟩)] w1 fun e w' => e = .returned (.tuple #[]) ∧ ∃ r', Inv s p r' ∧ Lx w' b s p r' ∧ Wr b w1 w')
    (hM : ∀ w1 r1, Inv s p r1 → Lx w1 b s p r1 → Calls Tryz.prog 150 #[.pointer (some ⟨b, 0, none⟩)] w1 fun e w' => e = .returned (.tuple #[.int .i64 K, .int .i64 z]) ∧ ∃ r', Inv s (p + z) r' ∧ Lx w' b s p r' ∧ Wr b w1 w') :
    Calls Tryz.prog 114 #[.pointer (some ⟨b, 0, none⟩)] w fun e w' => e = .returned (.tuple #[.agg #[.int .i64 K, .string (s.extract p (p + z)), .int .i64 p], .agg #[.int .i64 0, .int .i64 0]]) ∧ ∃ r', Inv s (p + z) r' ∧ Lx w' b s (p + z) r' ∧ Wr b w w' := by
  have hR0 := Rs.new w
  have hb := hl.lt
  have hl0 := (hl.alloc (.cells #[.int .i64 0, .string ⟨#[]⟩, .int .i64 0] 71)).alloc (.cells #[.int .i64 0, .int .i64 0] 36)
  have hw0 : Wr b w ((w.alloc (.cells #[.int .i64 0, .string ⟨#[]⟩, .int .i64 0] 71)).alloc (.cells #[.int .i64 0, .int .i64 0] 36)) := ((Wr.refl b w).alloc _).alloc _
  go_enter Tryz.func114, Tryz.ntmps114
  go_wp2_with (first | (go_at_call 149; refine (hS _ hl0).mono ?_; rintro e w1 ⟨rfl, r1, hi1, hl1, hw1⟩) | (go_at_call 150; refine (hM _ _ hi1 hl1).mono ?_; rintro e w2 ⟨rfl, r2, hi2, hl2, hw2⟩))
  have hR2 := (hR0.wr hw1 hb).wr hw2 hb
  have HW : Hid (Wr b w w2) := (hw0.trans hw1).trans hw2
  have c0 := hl2.c0
  have c1 := hl2.c1
  have f1 := hl2.f1
  have hlb := hl2.lt
  have hN := hR2.lt
  have hN0 := Nat.lt_of_succ_lt hN
  have t0 := hR2.t0
  have t1 := hR2.t1
  have t2 := hR2.t2
  have e0 := hR2.e0
  have e1 := hR2.e1
  have ft0 := hR2.ft 0
  have ft1 := hR2.ft 1
  have ft2 := hR2.ft 2
  have fe0 := hR2.fe 0
  have fe1 := hR2.fe 1
  go_region
  all_goals (try go_wp2)
  have hn0 : b ≠ w.heap.size := Nat.ne_of_lt hb
  have hn1 : b ≠ w.heap.size + 1 := Nat.ne_of_lt (Nat.lt_succ_of_lt hb)
  all_goals (try simp only [Exit.inBlock, Exit.then])
  refine bodyPost_ret (v := .tuple #[.agg #[.int .i64 K, .string (s.extract p (p + z)), .int .i64 p], .agg #[.int .i64 0, .int .i64 0]]) ?_ rfl ⟨rfl, r2, hi2, ?_, ?_⟩
  · rw [results_cells2 rfl]
    go_simp
  · exact (((((((hl2.to1 (x := (p : Int) + (z : Int)) (n := p + z) (by omega)).setFar hn0 _).setFar hn0 _).setFar hn0 _).setFar hn1 _).setFar hn1 _).alloc _).drew
  · exact ((((((((HW.out).set _).setNew (Nat.le_refl _) _).setNew (Nat.le_refl _) _).setNew (Nat.le_refl _) _).setNew (Nat.le_succ _) _).setNew (Nat.le_succ _) _).alloc _).drew
end

/-- What take and Next answer. -/
def tkV (s : ByteArray) (a : Nat) : Value := if eC pB s a = 0 then .agg #[.int .i64 (kd s a), .string (tx s a), .int .i64 (pl s a)] else .agg #[.int .i64 0, .string ⟨#[]⟩, .int .i64 0]
def erV (s : ByteArray) (a : Nat) : Value := if eC pB s a = 0 then .agg #[.int .i64 0, .int .i64 0] else .agg #[.int .i64 (eC pB s a), .int .i64 (pl s a)]

theorem take_is (w : World) (b : Nat) (s : ByteArray) (a r : Nat) (hs : s.size ≤ 140737488351232) (hi : Inv s a r) (hl : Lx w b s a r) (hb3 : 6 ≤ b) (hw : Lw w) :
    Calls Tryz.prog 114 #[.pointer (some ⟨b, 0, none⟩)] w fun e w' => e = .returned (.tuple #[tkV s a, erV s a]) ∧ (eC pB s a = 0 → ∃ r', Inv s (to s a) r' ∧ Lx w' b s (to s a) r') ∧ Wr b w w' := by
  have hS : ∀ w1, Lx w1 b s a r → Calls Tryz.prog 149 #[.pointer (some ⟨b, 0, none⟩)] w1 fun e w' => e = .returned (.tuple #[]) ∧ ∃ r', Inv s (pl s a) r' ∧ Lx w' b s (pl s a) r' ∧ Wr b w1 w' :=
    fun w1 h => skip_is w1 b s a r hs hi h
  have hM := fun w1 r1 (hi1 : Inv s (pl s a) r1) (h1 : Lx w1 b s (pl s a) r1) => measure_is w1 b s (pl s a) r1 hs hi1 h1
  have hp := pl_le (s := s) hi.h4
  have hz := to_le (s := s) hi.h4
  have ek : kind (suf s (pl s a)) = kd s a := rfl
  have ez : tsize (suf s (pl s a)) = sz s a := rfl
  rw [ek, ez] at hM
  unfold to at hz
  by_cases h0 : kd s a = 0
  · have e4 : eC pB s a = 4 := by unfold eC; rw [if_pos h0]
    refine (take_none w b s a r (pl s a) (sz s a) hs hl hp hz hS (fun w1 r1 i1 l1 => (hM w1 r1 i1 l1).mono fun e w' ⟨q1, r', _, q2, q3⟩ => ⟨by rw [q1, h0]; rfl, r', q2, q3⟩)).mono ?_
    rintro e w' ⟨rfl, hW⟩
    refine ⟨?_, fun h => by omega, hW⟩
    unfold tkV erV
    rw [e4]
    rfl
  · have hM' : ∀ w1 r1, Inv s (pl s a) r1 → Lx w1 b s (pl s a) r1 → Calls Tryz.prog 150 #[.pointer (some ⟨b, 0, none⟩)] w1 fun e w' => e = .returned (.tuple #[.int .i64 (kd s a), .int .i64 (sz s a)]) ∧ ∃ r', Inv s (pl s a + sz s a) r' ∧ Lx w' b s (pl s a) r' ∧ Wr b w1 w' :=
      fun w1 r1 i1 l1 => (hM w1 r1 i1 l1).mono fun e w' ⟨q1, r', q0, q2, q3⟩ => ⟨q1, r', q0 h0, q2, q3⟩
    by_cases h2 : kd s a = 2
    · have hM2 := hM'
      rw [h2] at hM2
      by_cases hx : pB (tx s a) = true
      · have e0 : eC pB s a = 0 := by unfold eC; rw [if_neg h0, if_neg (by rw [hx]; simp)]
        refine (take_num w b s a r (pl s a) (sz s a) hs hl hp hz hb3 hw hx hS hM2).mono ?_
        rintro e w' ⟨rfl, r', hi', hl', hW⟩
        refine ⟨?_, fun _ => ⟨r', hi', hl'⟩, hW⟩
        unfold tkV erV
        rw [if_pos e0, if_pos e0, h2]
        rfl
      · have hx' : pB (tx s a) = false := by simpa using hx
        have e5 : eC pB s a = 5 := by unfold eC; rw [if_neg h0, if_pos ⟨h2, hx'⟩]
        refine (take_bad w b s a r (pl s a) (sz s a) hs hl hp hz hb3 hw hx' hS hM2).mono ?_
        rintro e w' ⟨rfl, hW⟩
        refine ⟨?_, fun h => by omega, hW⟩
        unfold tkV erV
        rw [e5]
        rfl
    · have e0 : eC pB s a = 0 := by unfold eC; rw [if_neg h0, if_neg (fun h => h2 h.1)]
      refine (take_word w b s a r (pl s a) (kd s a) (sz s a) hs hl hp hz (by rw [beq_eq_false_iff_ne]; omega) (by rw [beq_eq_false_iff_ne]; omega) hS hM').mono ?_
      rintro e w' ⟨rfl, r', hi', hl', hW⟩
      refine ⟨?_, fun _ => ⟨r', hi', hl'⟩, hW⟩
      unfold tkV erV
      rw [if_pos e0, if_pos e0]
      rfl
end Go.Proofs.YtacflahkofmcpaaGreatDoor
