/- Words, locations and registers, as the document's reader takes them (behind look). -/
import Derived.Test.YtmnpcbcnjnklnaaGreatDoorJ19RefBase
namespace Go.Proofs.YtmnpcbcnjnklnaaGreatDoor
open Go.RowKit

section
variable (w : World) (r : Nat) (s : ByteArray) (S : St)
set_option maxHeartbeats 1000000
set_option maxRecDepth 8000
/-- Where an error was told its cells say so. -/
theorem Lk.err {w : World} {r : Nat} {s : ByteArray} {c p : Nat} (h : Lk w r s (.error (c, p))) : c ≠ 0 ∧ w.cell? ⟨r, 6, none⟩ = some (.int .i64 c) ∧ r < w.heap.size := by
  rcases h with ⟨a, ha, _⟩ | ⟨a, k, x, q, t, c', e, he, hc, ha, hb⟩
  · cases ha
  · obtain ⟨rfl, rfl⟩ : c = c' ∧ p = e := by simpa using he
    exact ⟨hc, hb.at rfl, hb.lt⟩
theorem Lk.good {w : World} {r : Nat} {s : ByteArray} {a : Nat} (h : Lk w r s (.ok a)) : a ≤ s.size ∧ eC pB s a = 0 ∧ Bk w r (rdC s a (kd s a) (tx s a) (pl s a) (to s a) 0 0) := by
  rcases h with ⟨a', ha, h1, h2, h3⟩ | ⟨a', k, x, q, t, c', e, he, _⟩
  · obtain rfl : a = a' := by simpa using ha
    exact ⟨h1, h2, h3⟩
  · cases he
theorem Lk.alloc {w : World} {r : Nat} {s : ByteArray} {S : St} (h : Lk w r s S) (o : Obj) : Lk (w.alloc o) r s S := by
  rcases h with ⟨a, h0, h1, h2, h3⟩ | ⟨a, k, x, q, t, c', e, h0, h1, h2, h3⟩
  · exact Or.inl ⟨a, h0, h1, h2, h3.alloc o⟩
  · exact Or.inr ⟨a, k, x, q, t, c', e, h0, h1, h2, h3.alloc o⟩

theorem word_is (hL : LookOk) (hs : s.size ≤ 4000) (o : Bool) (h : Rx w r s S o) :
    Calls Tryz.prog 24 #[.pointer (some ⟨r, 0, none⟩)] w fun e w' => e = .returned (.string (nameP s S).1) ∧ (∃ o', Rx w' r s (nameP s S).2 o') ∧ Wr r w w' := by
  have hK := hL w r s S o hs h
  clear h
  cases S with
  | error er =>
    obtain ⟨c, p⟩ := er
    have hE : nameP s (.error (c, p)) = (⟨#[]⟩, .error (c, p)) := by unfold nameP; rw [if_neg (by simp [tokK])]; rfl
    rw [hE]
    simp only [lkA] at hK
    go_enter Tryz.func24, Tryz.ntmps24
    go_wp2_with fail
    refine hK.mono ?_
    rintro e w1 ⟨rfl, h1, hw1⟩
    obtain ⟨hc, c6, hlt⟩ := h1.err
    have hq : ((c : Int) != 0) = true := by simp; omega
    have hF := fun o => rfail_is (w1.alloc o) r s (.error (c, p)) 6 (by decide) (h1.alloc o)
    go_wp2_with (go_at_call 32; refine (hF _).mono ?_; rintro e w2 ⟨rfl, h2, hw2⟩)
    all_goals (try go_ret)
    all_goals exact ⟨rfl, h2.rx, (hw1.alloc _).trans hw2⟩
  | ok a =>
    simp only [lkA] at hK
    unfold nameP
    by_cases hk : kd s a = 1
    · have hq : ((kd s a : Int) != 1) = false := by rw [hk]; rfl
      rw [if_pos (show tokK s (.ok a) = 1 from hk)]
      clear hk
      go_enter Tryz.func24, Tryz.ntmps24
      go_wp2_with fail
      refine hK.mono ?_
      rintro e w1 ⟨rfl, h1, hw1⟩
      obtain ⟨hle, he, hb⟩ := h1.good
      obtain ⟨r0, r1, r2, r3, r4, r5, r6, r7, r8, r9, r10, r11, r12, r13, r14, r15⟩ := rFacts hb
      have hG := fun o => go1_is (w1.alloc o) r s a hle (hb.alloc o)
      have L1 : r ≠ w1.heap.size := Nat.ne_of_lt r0
      have HW : Hid (Wr r w w1) := hw1
      clear hb h1 hK hw1
      go_wp2_with fail
      refine (hG _).mono ?_
      rintro e w2 ⟨rfl, h2, _, hw2⟩
      have hT : w2.heap[w1.heap.size]? = some (.cells #[.int .i64 (kd s a), .string (tx s a), .int .i64 (pl s a)] 55 (0, 0)) := (hw2.block w1.heap.size (by simp) (by simp; omega)).trans (heap_alloc_new w1 _)
      have t1 : w2.cell? ⟨w1.heap.size, 1, none⟩ = some (.string (tx s a)) := by simp [World.cell?, hT]
      clear hT
      go_wp2
      all_goals (try go_ret)
      all_goals exact ⟨rfl, ⟨true, h2⟩, (HW.out.alloc _).trans hw2⟩
    · have hq : ((kd s a : Int) != 1) = true := by simp; omega
      rw [if_neg (show ¬ tokK s (.ok a) = 1 from hk)]
      clear hk
      go_enter Tryz.func24, Tryz.ntmps24
      go_wp2_with fail
      refine hK.mono ?_
      rintro e w1 ⟨rfl, h1, hw1⟩
      obtain ⟨hle, he, hb⟩ := h1.good
      obtain ⟨r0, r1, r2, r3, r4, r5, r6, r7, r8, r9, r10, r11, r12, r13, r14, r15⟩ := rFacts hb
      have hF := fun o => rfail_is (w1.alloc o) r s (.ok a) 6 (by decide) (h1.alloc o)
      have HW : Hid (Wr r w w1) := hw1
      clear hb hK hw1 h1
      go_wp2_with (go_at_call 32; refine (hF _).mono ?_; rintro e w2 ⟨rfl, h2, hw2⟩)
      all_goals (try go_ret)
      all_goals exact ⟨rfl, h2.rx, (HW.out.alloc _).trans hw2⟩
end
end Go.Proofs.YtmnpcbcnjnklnaaGreatDoor

namespace Go.Proofs.YtmnpcbcnjnklnaaGreatDoor
open Go.RowKit

/-- What the document's reg answers. -/
def rregV (x : ByteArray) : Int := if regB x then (bN x 1 : Int) - 48 else -1
set_option maxHeartbeats 400000 in
theorem rreg_is (x : ByteArray) (w : World) :
    Calls Tryz.prog 89 #[.string x] w fun e w' => e = .returned (.int .i64 (rregV x)) ∧ w' = w := by
  unfold rregV
  by_cases h2 : x.size = 2
  · have e2 : ((x.size : Int) == 2) = true := by rw [h2]; rfl
    have l0 : 0 < x.size := by omega
    have l1 : 1 < x.size := by omega
    have b0 := bN_lt l0
    have b1 := bN_lt l1
    by_cases h0 : bN x 0 = 114
    · have q0 : ((x[0]).toNat : Int) = 114 := by omega
      by_cases h1 : 48 ≤ bN x 1
      · have q1 : 48 ≤ ((x[1]).toNat : Int) := by omega
        by_cases h3 : bN x 1 ≤ 51
        · have q3 : ((x[1]).toNat : Int) ≤ 51 := by omega
          have hB : regB x = true := by unfold regB; simp [h2, h0, h1, h3]
          have hw : IntKind.u8.wrap (((x[1]).toNat : Int) - 48) = ((x[1]).toNat : Int) - 48 := by rw [IntKind.wrap_u8]; omega
          rw [if_pos hB, b1]
          clear h0 h1 h3 hB b0 b1
          go_enter Tryz.func89, Tryz.ntmps89
          go_wp2
          all_goals (try go_ret)
          all_goals exact ⟨rfl, rfl⟩
        · have q3 : 51 < ((x[1]).toNat : Int) := by omega
          have hB : regB x = false := by unfold regB; simp; omega
          rw [if_neg (by rw [hB]; decide)]
          clear h0 h1 h3 hB b0 b1
          go_enter Tryz.func89, Tryz.ntmps89
          go_wp2
          all_goals (try go_ret)
          all_goals exact ⟨rfl, rfl⟩
      · have q1 : ((x[1]).toNat : Int) < 48 := by omega
        have hB : regB x = false := by unfold regB; simp; omega
        rw [if_neg (by rw [hB]; decide)]
        clear h0 h1 hB b0 b1
        go_enter Tryz.func89, Tryz.ntmps89
        go_wp2
        all_goals (try go_ret)
        all_goals exact ⟨rfl, rfl⟩
    · have q0 : (((x[0]).toNat : Int) == 114) = false := by rw [← b0, beq_eq_false_iff_ne]; omega
      have hB : regB x = false := by unfold regB; simp [h0]
      rw [if_neg (by rw [hB]; decide)]
      clear h0 hB b0 b1
      go_enter Tryz.func89, Tryz.ntmps89
      go_wp2
      all_goals (try go_ret)
      all_goals exact ⟨rfl, rfl⟩
  · have e2 : ((x.size : Int) == 2) = false := by rw [beq_eq_false_iff_ne]; omega
    have hB : regB x = false := by unfold regB; simp [h2]
    rw [if_neg (by rw [hB]; decide)]
    clear h2 hB
    go_enter Tryz.func89, Tryz.ntmps89
    go_wp2
    all_goals (try go_ret)
    all_goals exact ⟨rfl, rfl⟩

theorem named_7 (s : ByteArray) (v : Int) {a : Nat} (h : kd s a = 1) : namedP s v false (.ok a) = (0, flS s 7 (.ok a)) := by
  unfold namedP; rw [if_neg (by decide), if_pos (show tokK s (.ok a) = 1 from h)]
theorem named_6 (s : ByteArray) (v : Int) {a : Nat} (h : ¬ kd s a = 1) : namedP s v false (.ok a) = (0, flS s 6 (.ok a)) := by
  unfold namedP; rw [if_neg (by decide), if_neg (show ¬ tokK s (.ok a) = 1 from h)]
section
variable (w : World) (r : Nat) (s : ByteArray) (S : St)
set_option maxHeartbeats 1000000
set_option maxRecDepth 8000
theorem loc_is (hL : LookOk) (hs : s.size ≤ 4000) (o : Bool) (h : Rx w r s S o) :
    Calls Tryz.prog 27 #[.pointer (some ⟨r, 0, none⟩)] w fun e w' => e = .returned (.int .i64 (locP s S).1) ∧ (∃ o', Rx w' r s (locP s S).2 o') ∧ Wr r w w' := by
  have hK := hL w r s S o hs h
  clear h
  cases S with
  | error er =>
    obtain ⟨c, p⟩ := er
    have hE : locP s (.error (c, p)) = (0, .error (c, p)) := by unfold locP namedP; simp [tokK, tokX, locB_nil, flS]
    rw [hE]
    simp only [lkA] at hK
    go_enter Tryz.func27, Tryz.ntmps27
    go_wp2_with fail
    refine hK.mono ?_
    rintro e w1 ⟨rfl, h1, hw1⟩
    obtain ⟨hc, c6, hlt⟩ := h1.err
    have hq : ((c : Int) != 0) = true := by simp; omega
    go_wp2
    all_goals (try go_ret)
    all_goals exact ⟨rfl, (h1.alloc _).rx, hw1.alloc _⟩
  | ok a =>
    simp only [lkA] at hK
    have hP : locP s (.ok a) = namedP s (locV (kd s a) (tx s a)) (locB (kd s a) (tx s a)) (.ok a) := rfl
    by_cases hk : kd s a = 1
    · have hq : ((kd s a : Int) != 1) = false := by rw [hk]; rfl
      by_cases hz : (tx s a).size = 1
      · have hB : locB (kd s a) (tx s a) = true := by unfold locB; simp [hk, hz]
        have l0 : 0 < (tx s a).size := by omega
        have hV : locV (kd s a) (tx s a) = (((tx s a)[0]).toNat : Int) := by unfold locV; rw [if_pos hB, bN_lt l0]
        have hE : locP s (.ok a) = ((((tx s a)[0]).toNat : Int), nx s (.ok a)) := by rw [hP, hB, hV]; rfl
        have hqz : (((tx s a).size : Int) != 1) = false := by rw [hz]; rfl
        have hwr : wrap64 (((tx s a)[0]).toNat : Int) = (((tx s a)[0]).toNat : Int) := by
          have := UInt8.toNat_lt ((tx s a)[0])
          unfold wrap64
          omega
        rw [hE]
        clear hk hB hV hE hP
        go_enter Tryz.func27, Tryz.ntmps27
        go_wp2_with fail
        refine hK.mono ?_
        rintro e w1 ⟨rfl, h1, hw1⟩
        obtain ⟨hle, he, hb⟩ := h1.good
        obtain ⟨r0, r1, r2, r3, r4, r5, r6, r7, r8, r9, r10, r11, r12, r13, r14, r15⟩ := rFacts hb
        have hG := fun o => go1_is (w1.alloc o) r s a hle (hb.alloc o)
        have HW : Hid (Wr r w w1) := hw1
        clear hb h1 hK hw1
        go_wp2_with fail
        refine (hG _).mono ?_
        rintro e w2 ⟨rfl, h2, _, hw2⟩
        have hT : w2.heap[w1.heap.size]? = some (.cells #[.int .i64 (kd s a), .string (tx s a), .int .i64 (pl s a)] 55 (0, 0)) := (hw2.block w1.heap.size (by simp) (by simp; omega)).trans (heap_alloc_new w1 _)
        have t1 : w2.cell? ⟨w1.heap.size, 1, none⟩ = some (.string (tx s a)) := by simp [World.cell?, hT]
        clear hT
        go_wp2
        all_goals (try go_ret)
        all_goals exact ⟨(congrArg (fun z => Ending.returned (.int .i64 z)) hwr), ⟨true, h2⟩, (HW.out.alloc _).trans hw2⟩
      · have hB : locB (kd s a) (tx s a) = false := by unfold locB; simp [hz]
        have hE : locP s (.ok a) = (0, flS s 7 (.ok a)) := by rw [hP, hB, named_7 _ _ hk]
        have hqz : (((tx s a).size : Int) != 1) = true := by simp; omega
        rw [hE]
        clear hk hB hE hP hz
        go_enter Tryz.func27, Tryz.ntmps27
        go_wp2_with fail
        refine hK.mono ?_
        rintro e w1 ⟨rfl, h1, hw1⟩
        obtain ⟨hle, he, hb⟩ := h1.good
        obtain ⟨r0, r1, r2, r3, r4, r5, r6, r7, r8, r9, r10, r11, r12, r13, r14, r15⟩ := rFacts hb
        have hF := fun o => rfail_is (w1.alloc o) r s (.ok a) 7 (by decide) (h1.alloc o)
        have HW : Hid (Wr r w w1) := hw1
        clear hb hK hw1 h1
        go_wp2_with (go_at_call 32; refine (hF _).mono ?_; rintro e w2 ⟨rfl, h2, hw2⟩)
        all_goals (try go_ret)
        all_goals exact ⟨rfl, h2.rx, (HW.out.alloc _).trans hw2⟩
    · have hq : ((kd s a : Int) != 1) = true := by simp; omega
      have hB : locB (kd s a) (tx s a) = false := by unfold locB; simp [hk]
      have hE : locP s (.ok a) = (0, flS s 6 (.ok a)) := by rw [hP, hB, named_6 _ _ hk]
      rw [hE]
      clear hk hB hE hP
      go_enter Tryz.func27, Tryz.ntmps27
      go_wp2_with fail
      refine hK.mono ?_
      rintro e w1 ⟨rfl, h1, hw1⟩
      obtain ⟨hle, he, hb⟩ := h1.good
      obtain ⟨r0, r1, r2, r3, r4, r5, r6, r7, r8, r9, r10, r11, r12, r13, r14, r15⟩ := rFacts hb
      have hF := fun o => rfail_is (w1.alloc o) r s (.ok a) 6 (by decide) (h1.alloc o)
      have HW : Hid (Wr r w w1) := hw1
      clear hb hK hw1 h1
      go_wp2_with (go_at_call 32; refine (hF _).mono ?_; rintro e w2 ⟨rfl, h2, hw2⟩)
      all_goals (try go_ret)
      all_goals exact ⟨rfl, h2.rx, (HW.out.alloc _).trans hw2⟩
end
end Go.Proofs.YtmnpcbcnjnklnaaGreatDoor
