/- The document's reader: its block in memory; go1, fail. -/
import Derived.Test.YtoaepdjjjcaafaaGreatDoorRefNextW
import Derived.Test.YtoaepdjjjcaafaaGreatDoorParseW
namespace Go.Proofs.YtoaepdjjjcaafaaGreatDoor
open Go.RowKit

/-- A reader's cells. -/
def rdC (s : ByteArray) (a k : Nat) (x : ByteArray) (q t c e : Nat) : Array Value := #[.string s, .int .i64 a, .int .i64 k, .string x, .int .i64 q, .int .i64 t, .int .i64 c, .int .i64 e]
/-- Block r holds a reader that stands at S; o: it has told no error yet. -/
def Rx (w : World) (r : Nat) (s : ByteArray) (S : St) (o : Bool) : Prop :=
  ∃ a k x q t c e, Bk w r (rdC s a k x q t c e) ∧ a ≤ s.size ∧ (o = true → c = 0 ∧ e = 0 ∧ S = norm s a) ∧ (o = false → c ≠ 0 ∧ S = .error (c, e))
/-- .. and it has looked at its token. -/
def Lk (w : World) (r : Nat) (s : ByteArray) (S : St) : Prop :=
  (∃ a, S = .ok a ∧ a ≤ s.size ∧ eC pB s a = 0 ∧ Bk w r (rdC s a (kd s a) (tx s a) (pl s a) (to s a) 0 0)) ∨
  (∃ a k x q t c e, S = .error (c, e) ∧ c ≠ 0 ∧ a ≤ s.size ∧ Bk w r (rdC s a k x q t c e))
/-- What look answers. -/
def lkA (s : ByteArray) : St → Value
  | .ok a => .agg #[.int .i64 (kd s a), .string (tx s a), .int .i64 (pl s a)]
  | .error _ => .agg #[.int .i64 4, .string ⟨#[]⟩, .int .i64 0]

/-! Blocks that may be laid ahead of a call. -/
theorem On.undrew {X w1 : World} (k : On X.drew w1) : On X w1 := ⟨k.os, k.tape, k.output, k.size, k.block⟩
theorem lastBk {X w1 : World} {cs : Array Value} {T : TypeId} {N : Nat} (k : On (X.alloc (.cells cs T)) w1) (hN : X.heap.size = N) : Bk w1 N cs := by subst hN; exact (Bk.new X cs T).on k
theorem prevBk {X w1 : World} {cs : Array Value} {T : TypeId} {o : Obj} {N : Nat} (k : On ((X.alloc (.cells cs T)).alloc o) w1) (hN : X.heap.size = N) : Bk w1 N cs := by subst hN; exact ((Bk.new X cs T).alloc o).on k
theorem tFacts {w : World} {N : Nat} (h : Bk w N #[.int .i64 0, .string ⟨#[]⟩, .int .i64 0]) : N < w.heap.size ∧ w.cell? ⟨N, 0, none⟩ = some (.int .i64 0) ∧ w.cell? ⟨N, 1, none⟩ = some (.string ⟨#[]⟩) ∧ w.cell? ⟨N, 2, none⟩ = some (.int .i64 0) ∧ w.frozen? ⟨N, 0, none⟩ = false ∧ w.frozen? ⟨N, 1, none⟩ = false ∧ w.frozen? ⟨N, 2, none⟩ = false :=
  ⟨h.lt, h.at rfl, h.at rfl, h.at rfl, h.fr _, h.fr _, h.fr _⟩
theorem eFacts {w : World} {N : Nat} (h : Bk w N #[.int .i64 0, .int .i64 0]) : N < w.heap.size ∧ w.cell? ⟨N, 0, none⟩ = some (.int .i64 0) ∧ w.cell? ⟨N, 1, none⟩ = some (.int .i64 0) ∧ w.frozen? ⟨N, 0, none⟩ = false ∧ w.frozen? ⟨N, 1, none⟩ = false :=
  ⟨h.lt, h.at rfl, h.at rfl, h.fr _, h.fr _⟩
theorem rFacts {w : World} {N a k q t c e : Nat} {s x : ByteArray} (h : Bk w N (rdC s a k x q t c e)) : N < w.heap.size ∧ w.cell? ⟨N, 0, none⟩ = some (.string s) ∧ w.cell? ⟨N, 1, none⟩ = some (.int .i64 a) ∧ w.cell? ⟨N, 2, none⟩ = some (.int .i64 k) ∧ w.cell? ⟨N, 3, none⟩ = some (.string x) ∧ w.cell? ⟨N, 4, none⟩ = some (.int .i64 q) ∧ w.cell? ⟨N, 5, none⟩ = some (.int .i64 t) ∧ w.cell? ⟨N, 6, none⟩ = some (.int .i64 c) ∧ w.cell? ⟨N, 7, none⟩ = some (.int .i64 e) ∧
    w.frozen? ⟨N, 1, none⟩ = false ∧ w.frozen? ⟨N, 2, none⟩ = false ∧ w.frozen? ⟨N, 3, none⟩ = false ∧ w.frozen? ⟨N, 4, none⟩ = false ∧ w.frozen? ⟨N, 5, none⟩ = false ∧ w.frozen? ⟨N, 6, none⟩ = false ∧ w.frozen? ⟨N, 7, none⟩ = false :=
  ⟨h.lt, h.at rfl, h.at rfl, h.at rfl, h.at rfl, h.at rfl, h.at rfl, h.at rfl, h.at rfl, h.fr _, h.fr _, h.fr _, h.fr _, h.fr _, h.fr _, h.fr _⟩
theorem Bk.cast {w : World} {N : Nat} {cs ds : Array Value} (h : Bk w N cs) (e : cs = ds) : Bk w N ds := e ▸ h

theorem Lk.rx {w : World} {r : Nat} {s : ByteArray} {S : St} (h : Lk w r s S) : ∃ o, Rx w r s S o := by
  rcases h with ⟨a, rfl, ha, he, hb⟩ | ⟨a, k, x, q, t, c, e, rfl, hc, ha, hb⟩
  · exact ⟨true, a, _, _, _, _, 0, 0, hb, ha, fun _ => ⟨rfl, rfl, (norm_ok s he).symm⟩, fun h => by cases h⟩
  · exact ⟨false, a, k, x, q, t, c, e, hb, ha, (fun h => by cases h), fun _ => ⟨hc, rfl⟩⟩

section
variable (w : World) (r : Nat) (s : ByteArray) (S : St)
set_option maxHeartbeats 1000000
set_option maxRecDepth 8000
/-- Behind the token. -/
theorem go1_is (a : Nat) (ha : a ≤ s.size) (hb : Bk w r (rdC s a (kd s a) (tx s a) (pl s a) (to s a) 0 0)) :
    Calls Tryz.prog 21 #[.pointer (some ⟨r, 0, none⟩)] w fun e w' => e = .returned (.tuple #[]) ∧ Rx w' r s (nx s (.ok a)) true ∧ Bk w' r (rdC s (to s a) (kd s a) (tx s a) (pl s a) (to s a) 0 0) ∧ Wr r w w' := by
  obtain ⟨r0, r1, r2, r3, r4, r5, r6, r7, r8, r9, r10, r11, r12, r13, r14, r15⟩ := rFacts hb
  have HB : Hid (Bk w r (rdC s a (kd s a) (tx s a) (pl s a) (to s a) 0 0)) := hb
  clear hb
  go_enter Tryz.func21, Tryz.ntmps21
  go_wp2
  go_end0
  have h1 : Bk (w.setCell ⟨r, 1, none⟩ (.int .i64 (to s a))) r (rdC s (to s a) (kd s a) (tx s a) (pl s a) (to s a) 0 0) := HB.out.set 1 _
  exact ⟨rfl, ⟨to s a, _, _, _, _, 0, 0, h1, to_le ha, fun _ => ⟨rfl, rfl, rfl⟩, fun h => by cases h⟩, h1, (Wr.refl _ _).set _⟩

/-- An error at the token that was looked at. -/
theorem rfail_is (c : Nat) (hc : c ≠ 0) (h : Lk w r s S) :
    Calls Tryz.prog 27 #[.pointer (some ⟨r, 0, none⟩), .int .i64 c] w fun e w' => e = .returned (.tuple #[]) ∧ Lk w' r s (flS s c S) ∧ Wr r w w' := by
  rcases h with ⟨a, rfl, ha, he, hb⟩ | ⟨a, k, x, q, t, c', e, rfl, hc', ha, hb⟩
  · obtain ⟨r0, r1, r2, r3, r4, r5, r6, r7, r8, r9, r10, r11, r12, r13, r14, r15⟩ := rFacts hb
    have HB : Hid (Bk w r (rdC s a (kd s a) (tx s a) (pl s a) (to s a) 0 0)) := hb
    clear hb
    go_enter Tryz.func27, Tryz.ntmps27
    go_wp2
    go_end0
    exact ⟨rfl, Or.inr ⟨a, kd s a, tx s a, pl s a, to s a, c, pl s a, rfl, hc, ha, (HB.out.set 6 _).set 7 _⟩, ((Wr.refl _ _).set _).set _⟩
  · obtain ⟨r0, r1, r2, r3, r4, r5, r6, r7, r8, r9, r10, r11, r12, r13, r14, r15⟩ := rFacts hb
    have HB : Hid (Bk w r (rdC s a k x q t c' e)) := hb
    have hq : ((c' : Int) == 0) = false := by rw [beq_eq_false_iff_ne]; omega
    clear hb
    go_enter Tryz.func27, Tryz.ntmps27
    go_wp2
    go_end0
    exact ⟨rfl, Or.inr ⟨a, k, x, q, t, c', e, rfl, hc', ha, HB.out⟩, Wr.refl _ _⟩

theorem results_void {fn : Func} (h : fn.results = #[]) (tmps : Array Value) (P : Program) (w : World) : (results fn tmps).run P w = .ok (.tuple #[]) w := by
  simp only [results, h]
  simp
/-- What look is asked to do. -/
def LookOk : Prop := ∀ (w : World) (r : Nat) (s : ByteArray) (S : St) (o : Bool), s.size ≤ 4000 → Rx w r s S o →
  Calls Tryz.prog 26 #[.pointer (some ⟨r, 0, none⟩)] w fun e w' => e = .returned (lkA s S) ∧ Lk w' r s S ∧ Wr r w w'

/-- Texts that no number has. -/
def NoNum (s x : ByteArray) : Prop := ∀ a, eC pB s a = 0 → isX s x (.ok a) = true → kd s a = 1 ∨ kd s a = 3

theorem is_is (hL : LookOk) (x : ByteArray) (hx : x.toList ≠ []) (hn : NoNum s x) (hs : s.size ≤ 4000) (o : Bool) (h : Rx w r s S o) :
    Calls Tryz.prog 20 #[.pointer (some ⟨r, 0, none⟩), .string x] w fun e w' => e = .returned (.bool (isX s x S)) ∧ Lk w' r s S ∧ Wr r w w' := by
  have hK := hL w r s S o hs h
  clear h
  cases S with
  | error er =>
    have hI : isX s x (.error er) = false := by
      cases hh : isX s x (.error er) with
      | false => rfl
      | true => obtain ⟨a, ha⟩ := fl_err s hh hx; cases ha
    rw [hI]
    simp only [lkA] at hK
    go_enter Tryz.func20, Tryz.ntmps20
    go_wp2_with fail
    refine hK.mono ?_
    rintro e w1 ⟨rfl, h1, hw1⟩
    have HL : Hid (Lk w1 r s (.error er)) := h1
    rcases h1 with ⟨a, ha, _⟩ | ⟨a, k, x', q, t, c', e, he, hc', ha, hb⟩
    · cases ha
    · obtain rfl : er = (c', e) := by simpa using he
      obtain ⟨r0, r1, r2, r3, r4, r5, r6, r7, r8, r9, r10, r11, r12, r13, r14, r15⟩ := rFacts hb
      have hq : ((c' : Int) == 0) = false := by rw [beq_eq_false_iff_ne]; omega
      have HW : Hid (Wr r w w1) := hw1
      have HB : Hid (Bk w1 r (rdC s a k x' q t c' e)) := hb
      clear hb hK hn he hw1 HL
      go_wp2
      all_goals (try go_ret)
      all_goals exact ⟨rfl, Or.inr ⟨a, k, x', q, t, c', e, rfl, hc', ha, HB.out.alloc _⟩, HW.out.alloc _⟩
  | ok a =>
    simp only [lkA] at hK
    obtain ⟨I, hIe⟩ : ∃ I, I = isX s x (.ok a) := ⟨_, rfl⟩
    rw [← hIe]
    have HIE : Hid (I = isX s x (.ok a)) := hIe
    clear hIe
    go_enter Tryz.func20, Tryz.ntmps20
    go_wp2_with fail
    refine hK.mono ?_
    rintro e w1 ⟨rfl, h1, hw1⟩
    have HL : Hid (Lk w1 r s (.ok a)) := h1
    rcases h1 with ⟨a', ha', hle, he, hb⟩ | ⟨a', k, x', q, t, c', e, he, _⟩
    · obtain rfl : a = a' := by simpa using ha'
      obtain ⟨r0, r1, r2, r3, r4, r5, r6, r7, r8, r9, r10, r11, r12, r13, r14, r15⟩ := rFacts hb
      have hI : ((tx s a).toList == x.toList) = I := by rw [HIE.out, ByteArray.toList_eq, ByteArray.toList_eq]; rfl
      have hF : I = true → kd s a = 1 ∨ kd s a = 3 := fun h => hn a he (HIE.out ▸ h)
      have HW : Hid (Wr r w w1) := hw1
      have HB : Hid (Bk w1 r (rdC s a (kd s a) (tx s a) (pl s a) (to s a) 0 0)) := hb
      have HE : Hid (a ≤ s.size ∧ eC pB s a = 0) := ⟨hle, he⟩
      clear hb hK hn hw1 HL ha' hle he HIE
      by_cases k1 : kd s a = 1
      · have q1 : ((kd s a : Int) == 1) = true := by rw [k1]; rfl
        clear hF k1
        go_wp2
        all_goals (try go_ret)
        all_goals exact ⟨rfl, Or.inl ⟨a, rfl, HE.out.1, HE.out.2, HB.out.alloc _⟩, HW.out.alloc _⟩
      · have q1 : ((kd s a : Int) == 1) = false := by rw [beq_eq_false_iff_ne]; omega
        by_cases k3 : kd s a = 3
        · have q3 : ((kd s a : Int) == 3) = true := by rw [k3]; rfl
          clear hF k1 k3
          go_wp2
          all_goals (try go_ret)
          all_goals exact ⟨rfl, Or.inl ⟨a, rfl, HE.out.1, HE.out.2, HB.out.alloc _⟩, HW.out.alloc _⟩
        · have q3 : ((kd s a : Int) == 3) = false := by rw [beq_eq_false_iff_ne]; omega
          have hI0 : I = false := by
            cases hh : I with
            | false => rfl
            | true => exact absurd (hF hh) (by omega)
          subst hI0
          clear hF k1 k3
          go_wp2
          all_goals (try go_ret)
          all_goals exact ⟨rfl, Or.inl ⟨a, rfl, HE.out.1, HE.out.2, HB.out.alloc _⟩, HW.out.alloc _⟩
    · cases he

/-- A word or a sign is taken. -/
theorem eat_is (hL : LookOk) (x : ByteArray) (hx : x.toList ≠ []) (hn : NoNum s x) (hs : s.size ≤ 4000) (o : Bool) (h : Rx w r s S o) :
    Calls Tryz.prog 18 #[.pointer (some ⟨r, 0, none⟩), .string x] w fun e w' => e = .returned (.tuple #[]) ∧ (∃ o', Rx w' r s (expS s x S) o') ∧ Wr r w w' := by
  have hI := is_is w r s S hL x hx hn hs o h
  unfold expS
  clear h
  cases hh : isX s x S with
  | true =>
    rw [hh] at hI
    obtain ⟨a, rfl⟩ := fl_err s hh hx
    simp only [if_true]
    go_enter Tryz.func18, Tryz.ntmps18
    go_wp2_with fail
    refine hI.mono ?_
    rintro e w1 ⟨rfl, h1, hw1⟩
    rcases h1 with ⟨a', ha', hle, he, hb⟩ | ⟨a', k, x', q, t, c', e, he, _⟩
    · obtain rfl : a = a' := by simpa using ha'
      go_wp2_with (go_at_call 21; refine (go1_is _ r s a hle hb).mono ?_; rintro e w2 ⟨rfl, h2, _, hw2⟩)
      (try simp only [Exit.inBlock, Exit.then])
      exact bodyPost_ret (v := .tuple #[]) (results_void rfl _ _ _) rfl ⟨rfl, ⟨true, h2⟩, hw1.trans hw2⟩
    · cases he
  | false =>
    rw [hh] at hI
    simp only [Bool.false_eq_true, if_false]
    go_enter Tryz.func18, Tryz.ntmps18
    go_wp2_with (first | (go_at_call 20; refine hI.mono ?_; rintro e w1 ⟨rfl, h1, hw1⟩) | (go_at_call 27; refine (rfail_is _ r s S 6 (by decide) h1).mono ?_; rintro e w2 ⟨rfl, h2, hw2⟩))
    go_end0
    exact ⟨rfl, h2.rx, hw1.trans hw2⟩
end
end Go.Proofs.YtoaepdjjjcaafaaGreatDoor

namespace Go.Proofs.YtoaepdjjjcaafaaGreatDoor
open Go.RowKit

section
variable (w : World) (r : Nat) (s : ByteArray) (S : St)
set_option maxHeartbeats 1000000
set_option maxRecDepth 8000
/-- Where an error was told its cells say so. -/
theorem Lk.err {w : World} {r : Nat} {s : ByteArray} {c p : Nat} (h : Lk w r s (.error (c, p))) : c ≠ 0 ∧ w.cell? ⟨r, 6, none⟩ = some (.int .i64 c) ∧ r < w.heap.size := by
  rcases h with ⟨a, ha, _⟩ | ⟨a, k, x, q, t, c', e, he, hc, ha, hb⟩
  · cases ha
  · obtain ⟨rfl, rfl⟩ : c = c' ∧ p = e := by simpa using he
    exact ⟨hc, hb.at rfl, hb.lt⟩
theorem Lk.good {w : World} {r : Nat} {s : ByteArray} {a : Nat} (h : Lk w r s (.ok a)) : a ≤ s.size ∧ eC pB s a = 0 ∧ Bk w r (rdC s a (kd s a) (tx s a) (pl s a) (to s a) 0 0) := by
  rcases h with ⟨a', ha, h1, h2, h3⟩ | ⟨a', k, x, q, t, c', e, he, _⟩
  · obtain rfl : a = a' := by simpa using ha
    exact ⟨h1, h2, h3⟩
  · cases he
theorem Lk.alloc {w : World} {r : Nat} {s : ByteArray} {S : St} (h : Lk w r s S) (o : Obj) : Lk (w.alloc o) r s S := by
  rcases h with ⟨a, h0, h1, h2, h3⟩ | ⟨a, k, x, q, t, c', e, h0, h1, h2, h3⟩
  · exact Or.inl ⟨a, h0, h1, h2, h3.alloc o⟩
  · exact Or.inr ⟨a, k, x, q, t, c', e, h0, h1, h2, h3.alloc o⟩

theorem word_is (hL : LookOk) (hs : s.size ≤ 4000) (o : Bool) (h : Rx w r s S o) :
    Calls Tryz.prog 19 #[.pointer (some ⟨r, 0, none⟩)] w fun e w' => e = .returned (.string (nameP s S).1) ∧ (∃ o', Rx w' r s (nameP s S).2 o') ∧ Wr r w w' := by
  have hK := hL w r s S o hs h
  clear h
  cases S with
  | error er =>
    obtain ⟨c, p⟩ := er
    have hE : nameP s (.error (c, p)) = (⟨#[]⟩, .error (c, p)) := by unfold nameP; rw [if_neg (by simp [tokK])]; rfl
    rw [hE]
    simp only [lkA] at hK
    go_enter Tryz.func19, Tryz.ntmps19
    go_wp2_with fail
    refine hK.mono ?_
    rintro e w1 ⟨rfl, h1, hw1⟩
    obtain ⟨hc, c6, hlt⟩ := h1.err
    have hq : ((c : Int) != 0) = true := by simp; omega
    have hF := fun o => rfail_is (w1.alloc o) r s (.error (c, p)) 6 (by decide) (h1.alloc o)
    go_wp2_with (go_at_call 27; refine (hF _).mono ?_; rintro e w2 ⟨rfl, h2, hw2⟩)
    all_goals (try go_ret)
    all_goals exact ⟨rfl, h2.rx, (hw1.alloc _).trans hw2⟩
  | ok a =>
    simp only [lkA] at hK
    unfold nameP
    by_cases hk : kd s a = 1
    · have hq : ((kd s a : Int) != 1) = false := by rw [hk]; rfl
      rw [if_pos (show tokK s (.ok a) = 1 from hk)]
      clear hk
      go_enter Tryz.func19, Tryz.ntmps19
      go_wp2_with fail
      refine hK.mono ?_
      rintro e w1 ⟨rfl, h1, hw1⟩
      obtain ⟨hle, he, hb⟩ := h1.good
      obtain ⟨r0, r1, r2, r3, r4, r5, r6, r7, r8, r9, r10, r11, r12, r13, r14, r15⟩ := rFacts hb
      have hG := fun o => go1_is (w1.alloc o) r s a hle (hb.alloc o)
      have L1 : r ≠ w1.heap.size := Nat.ne_of_lt r0
      have HW : Hid (Wr r w w1) := hw1
      clear hb h1 hK hw1
      go_wp2_with fail
      refine (hG _).mono ?_
      rintro e w2 ⟨rfl, h2, _, hw2⟩
      have hT : w2.heap[w1.heap.size]? = some (.cells #[.int .i64 (kd s a), .string (tx s a), .int .i64 (pl s a)] 56 (0, 0)) := (hw2.block w1.heap.size (by simp) (by simp; omega)).trans (heap_alloc_new w1 _)
      have t1 : w2.cell? ⟨w1.heap.size, 1, none⟩ = some (.string (tx s a)) := by simp [World.cell?, hT]
      clear hT
      go_wp2
      all_goals (try go_ret)
      all_goals exact ⟨rfl, ⟨true, h2⟩, (HW.out.alloc _).trans hw2⟩
    · have hq : ((kd s a : Int) != 1) = true := by simp; omega
      rw [if_neg (show ¬ tokK s (.ok a) = 1 from hk)]
      clear hk
      go_enter Tryz.func19, Tryz.ntmps19
      go_wp2_with fail
      refine hK.mono ?_
      rintro e w1 ⟨rfl, h1, hw1⟩
      obtain ⟨hle, he, hb⟩ := h1.good
      obtain ⟨r0, r1, r2, r3, r4, r5, r6, r7, r8, r9, r10, r11, r12, r13, r14, r15⟩ := rFacts hb
      have hF := fun o => rfail_is (w1.alloc o) r s (.ok a) 6 (by decide) (h1.alloc o)
      have HW : Hid (Wr r w w1) := hw1
      clear hb hK hw1 h1
      go_wp2_with (go_at_call 27; refine (hF _).mono ?_; rintro e w2 ⟨rfl, h2, hw2⟩)
      all_goals (try go_ret)
      all_goals exact ⟨rfl, h2.rx, (HW.out.alloc _).trans hw2⟩
end
end Go.Proofs.YtoaepdjjjcaafaaGreatDoor

namespace Go.Proofs.YtoaepdjjjcaafaaGreatDoor
open Go.RowKit

/-- What the document's reg answers. -/
def rregV (x : ByteArray) : Int := if regB x then (bN x 1 : Int) - 48 else -1
set_option maxHeartbeats 400000 in
theorem rreg_is (x : ByteArray) (w : World) :
    Calls Tryz.prog 68 #[.string x] w fun e w' => e = .returned (.int .i64 (rregV x)) ∧ w' = w := by
  unfold rregV
  by_cases h2 : x.size = 2
  · have e2 : ((x.size : Int) == 2) = true := by rw [h2]; rfl
    have l0 : 0 < x.size := by omega
    have l1 : 1 < x.size := by omega
    have b0 := bN_lt l0
    have b1 := bN_lt l1
    by_cases h0 : bN x 0 = 114
    · have q0 : ((x[0]).toNat : Int) = 114 := by omega
      by_cases h1 : 48 ≤ bN x 1
      · have q1 : 48 ≤ ((x[1]).toNat : Int) := by omega
        by_cases h3 : bN x 1 ≤ 51
        · have q3 : ((x[1]).toNat : Int) ≤ 51 := by omega
          have hB : regB x = true := by unfold regB; simp [h2, h0, h1, h3]
          have hw : IntKind.u8.wrap (((x[1]).toNat : Int) - 48) = ((x[1]).toNat : Int) - 48 := by rw [IntKind.wrap_u8]; omega
          rw [if_pos hB, b1]
          clear h0 h1 h3 hB b0 b1
          go_enter Tryz.func68, Tryz.ntmps68
          go_wp2
          all_goals (try go_ret)
          all_goals exact ⟨rfl, rfl⟩
        · have q3 : 51 < ((x[1]).toNat : Int) := by omega
          have hB : regB x = false := by unfold regB; simp; omega
          rw [if_neg (by rw [hB]; decide)]
          clear h0 h1 h3 hB b0 b1
          go_enter Tryz.func68, Tryz.ntmps68
          go_wp2
          all_goals (try go_ret)
          all_goals exact ⟨rfl, rfl⟩
      · have q1 : ((x[1]).toNat : Int) < 48 := by omega
        have hB : regB x = false := by unfold regB; simp; omega
        rw [if_neg (by rw [hB]; decide)]
        clear h0 h1 hB b0 b1
        go_enter Tryz.func68, Tryz.ntmps68
        go_wp2
        all_goals (try go_ret)
        all_goals exact ⟨rfl, rfl⟩
    · have q0 : (((x[0]).toNat : Int) == 114) = false := by rw [← b0, beq_eq_false_iff_ne]; omega
      have hB : regB x = false := by unfold regB; simp [h0]
      rw [if_neg (by rw [hB]; decide)]
      clear h0 hB b0 b1
      go_enter Tryz.func68, Tryz.ntmps68
      go_wp2
      all_goals (try go_ret)
      all_goals exact ⟨rfl, rfl⟩
  · have e2 : ((x.size : Int) == 2) = false := by rw [beq_eq_false_iff_ne]; omega
    have hB : regB x = false := by unfold regB; simp [h2]
    rw [if_neg (by rw [hB]; decide)]
    clear h2 hB
    go_enter Tryz.func68, Tryz.ntmps68
    go_wp2
    all_goals (try go_ret)
    all_goals exact ⟨rfl, rfl⟩

theorem named_7 (s : ByteArray) (v : Int) {a : Nat} (h : kd s a = 1) : namedP s v false (.ok a) = (0, flS s 7 (.ok a)) := by
  unfold namedP; rw [if_neg (by decide), if_pos (show tokK s (.ok a) = 1 from h)]
theorem named_6 (s : ByteArray) (v : Int) {a : Nat} (h : ¬ kd s a = 1) : namedP s v false (.ok a) = (0, flS s 6 (.ok a)) := by
  unfold namedP; rw [if_neg (by decide), if_neg (show ¬ tokK s (.ok a) = 1 from h)]
section
variable (w : World) (r : Nat) (s : ByteArray) (S : St)
set_option maxHeartbeats 1000000
set_option maxRecDepth 8000
theorem loc_is (hL : LookOk) (hs : s.size ≤ 4000) (o : Bool) (h : Rx w r s S o) :
    Calls Tryz.prog 22 #[.pointer (some ⟨r, 0, none⟩)] w fun e w' => e = .returned (.int .i64 (locP s S).1) ∧ (∃ o', Rx w' r s (locP s S).2 o') ∧ Wr r w w' := by
  have hK := hL w r s S o hs h
  clear h
  cases S with
  | error er =>
    obtain ⟨c, p⟩ := er
    have hE : locP s (.error (c, p)) = (0, .error (c, p)) := by unfold locP namedP; simp [tokK, tokX, locB_nil, flS]
    rw [hE]
    simp only [lkA] at hK
    go_enter Tryz.func22, Tryz.ntmps22
    go_wp2_with fail
    refine hK.mono ?_
    rintro e w1 ⟨rfl, h1, hw1⟩
    obtain ⟨hc, c6, hlt⟩ := h1.err
    have hq : ((c : Int) != 0) = true := by simp; omega
    go_wp2
    all_goals (try go_ret)
    all_goals exact ⟨rfl, (h1.alloc _).rx, hw1.alloc _⟩
  | ok a =>
    simp only [lkA] at hK
    have hP : locP s (.ok a) = namedP s (locV (kd s a) (tx s a)) (locB (kd s a) (tx s a)) (.ok a) := rfl
    by_cases hk : kd s a = 1
    · have hq : ((kd s a : Int) != 1) = false := by rw [hk]; rfl
      by_cases hz : (tx s a).size = 1
      · have hB : locB (kd s a) (tx s a) = true := by unfold locB; simp [hk, hz]
        have l0 : 0 < (tx s a).size := by omega
        have hV : locV (kd s a) (tx s a) = (((tx s a)[0]).toNat : Int) := by unfold locV; rw [if_pos hB, bN_lt l0]
        have hE : locP s (.ok a) = ((((tx s a)[0]).toNat : Int), nx s (.ok a)) := by rw [hP, hB, hV]; rfl
        have hqz : (((tx s a).size : Int) != 1) = false := by rw [hz]; rfl
        have hwr : wrap64 (((tx s a)[0]).toNat : Int) = (((tx s a)[0]).toNat : Int) := by
          have := UInt8.toNat_lt ((tx s a)[0])
          unfold wrap64
          omega
        rw [hE]
        clear hk hB hV hE hP
        go_enter Tryz.func22, Tryz.ntmps22
        go_wp2_with fail
        refine hK.mono ?_
        rintro e w1 ⟨rfl, h1, hw1⟩
        obtain ⟨hle, he, hb⟩ := h1.good
        obtain ⟨r0, r1, r2, r3, r4, r5, r6, r7, r8, r9, r10, r11, r12, r13, r14, r15⟩ := rFacts hb
        have hG := fun o => go1_is (w1.alloc o) r s a hle (hb.alloc o)
        have HW : Hid (Wr r w w1) := hw1
        clear hb h1 hK hw1
        go_wp2_with fail
        refine (hG _).mono ?_
        rintro e w2 ⟨rfl, h2, _, hw2⟩
        have hT : w2.heap[w1.heap.size]? = some (.cells #[.int .i64 (kd s a), .string (tx s a), .int .i64 (pl s a)] 56 (0, 0)) := (hw2.block w1.heap.size (by simp) (by simp; omega)).trans (heap_alloc_new w1 _)
        have t1 : w2.cell? ⟨w1.heap.size, 1, none⟩ = some (.string (tx s a)) := by simp [World.cell?, hT]
        clear hT
        go_wp2
        all_goals (try go_ret)
        all_goals exact ⟨(congrArg (fun z => Ending.returned (.int .i64 z)) hwr), ⟨true, h2⟩, (HW.out.alloc _).trans hw2⟩
      · have hB : locB (kd s a) (tx s a) = false := by unfold locB; simp [hz]
        have hE : locP s (.ok a) = (0, flS s 7 (.ok a)) := by rw [hP, hB, named_7 _ _ hk]
        have hqz : (((tx s a).size : Int) != 1) = true := by simp; omega
        rw [hE]
        clear hk hB hE hP hz
        go_enter Tryz.func22, Tryz.ntmps22
        go_wp2_with fail
        refine hK.mono ?_
        rintro e w1 ⟨rfl, h1, hw1⟩
        obtain ⟨hle, he, hb⟩ := h1.good
        obtain ⟨r0, r1, r2, r3, r4, r5, r6, r7, r8, r9, r10, r11, r12, r13, r14, r15⟩ := rFacts hb
        have hF := fun o => rfail_is (w1.alloc o) r s (.ok a) 7 (by decide) (h1.alloc o)
        have HW : Hid (Wr r w w1) := hw1
        clear hb hK hw1 h1
        go_wp2_with (go_at_call 27; refine (hF _).mono ?_; rintro e w2 ⟨rfl, h2, hw2⟩)
        all_goals (try go_ret)
        all_goals exact ⟨rfl, h2.rx, (HW.out.alloc _).trans hw2⟩
    · have hq : ((kd s a : Int) != 1) = true := by simp; omega
      have hB : locB (kd s a) (tx s a) = false := by unfold locB; simp [hk]
      have hE : locP s (.ok a) = (0, flS s 6 (.ok a)) := by rw [hP, hB, named_6 _ _ hk]
      rw [hE]
      clear hk hB hE hP
      go_enter Tryz.func22, Tryz.ntmps22
      go_wp2_with fail
      refine hK.mono ?_
      rintro e w1 ⟨rfl, h1, hw1⟩
      obtain ⟨hle, he, hb⟩ := h1.good
      obtain ⟨r0, r1, r2, r3, r4, r5, r6, r7, r8, r9, r10, r11, r12, r13, r14, r15⟩ := rFacts hb
      have hF := fun o => rfail_is (w1.alloc o) r s (.ok a) 6 (by decide) (h1.alloc o)
      have HW : Hid (Wr r w w1) := hw1
      clear hb hK hw1 h1
      go_wp2_with (go_at_call 27; refine (hF _).mono ?_; rintro e w2 ⟨rfl, h2, hw2⟩)
      all_goals (try go_ret)
      all_goals exact ⟨rfl, h2.rx, (HW.out.alloc _).trans hw2⟩
end
end Go.Proofs.YtoaepdjjjcaafaaGreatDoor

namespace Go.Proofs.YtoaepdjjjcaafaaGreatDoor
open Go.RowKit

/-- A token's first byte. -/
theorem tx_hd {s : ByteArray} {a : Nat} (h : 0 < (tx s a).size) : bN (tx s a) 0 = bN s (pl s a) := by
  have hl := tx_list s a
  rw [size_list, hl] at h
  unfold bN
  have e : suf (tx s a) 0 = (suf s (pl s a)).take (sz s a) := by
    show (tx s a).data.toList.drop 0 = _
    rw [List.drop_zero, hl]
  rw [e]
  cases hs : suf s (pl s a) with
  | nil => rw [hs] at h; simp at h
  | cons c r =>
    rw [hs] at h
    cases hz : sz s a with
    | zero => rw [hz] at h; simp at h
    | succ n => rfl
theorem reg_word {s : ByteArray} {a : Nat} (h : regB (tx s a) = true) : kd s a = 1 := by
  unfold regB at h
  simp only [Bool.and_eq_true, beq_iff_eq] at h
  obtain ⟨h2, h0, _⟩ := h
  rw [tx_hd (by omega)] at h0
  have hlt : pl s a < s.size := by
    rcases Nat.lt_or_ge (pl s a) s.size with h' | h'
    · exact h'
    · rw [bN_ge h'] at h0; cases h0
  show kind (suf s (pl s a)) = 1
  rw [kind_at hlt, h0]
  rfl
section
variable (w : World) (r : Nat) (s : ByteArray) (S : St)
set_option maxHeartbeats 1000000
set_option maxRecDepth 8000
theorem register_at (hL : LookOk) (hs : s.size ≤ 4000) (o : Bool) (h : Rx w r s S o) :
    Calls Tryz.prog 47 #[.pointer (some ⟨r, 0, none⟩)] w fun e w' => e = .returned (.int .i64 (regP s S).1) ∧ (∃ o', Rx w' r s (regP s S).2 o') ∧ Wr r w w' := by
  have hK := hL w r s S o hs h
  clear h
  cases S with
  | error er =>
    obtain ⟨c, p⟩ := er
    have hE : regP s (.error (c, p)) = (0, .error (c, p)) := by unfold regP namedP; simp [tokK, tokX, regB_nil, flS]
    rw [hE]
    simp only [lkA] at hK
    go_enter Tryz.func47, Tryz.ntmps47
    go_wp2_with fail
    refine hK.mono ?_
    rintro e w1 ⟨rfl, h1, hw1⟩
    obtain ⟨hc, c6, hlt⟩ := h1.err
    have hq : ((c : Int) != 0) = true := by simp; omega
    go_wp2
    all_goals (try go_ret)
    all_goals exact ⟨rfl, (h1.alloc _).rx, hw1.alloc _⟩
  | ok a =>
    simp only [lkA] at hK
    have hP : regP s (.ok a) = namedP s (regV (tx s a)) (regB (tx s a)) (.ok a) := rfl
    have hRg := fun W => rreg_is (tx s a) W
    by_cases hk : kd s a = 1
    · have hq : ((kd s a : Int) != 1) = false := by rw [hk]; rfl
      cases hB : regB (tx s a) with
      | true =>
        have hV : rregV (tx s a) = regV (tx s a) := by unfold rregV regV; rw [hB]; rfl
        have hE : regP s (.ok a) = (regV (tx s a), nx s (.ok a)) := by rw [hP, hB]; rfl
        have hn : ¬ (regV (tx s a) < 0) := by have := (regV_bd (tx s a)).1; omega
        rw [hE]
        simp only [hV] at hRg
        clear hk hB hV hE hP
        go_enter Tryz.func47, Tryz.ntmps47
        go_wp2_with fail
        refine hK.mono ?_
        rintro e w1 ⟨rfl, h1, hw1⟩
        obtain ⟨hle, he, hb⟩ := h1.good
        obtain ⟨r0, r1, r2, r3, r4, r5, r6, r7, r8, r9, r10, r11, r12, r13, r14, r15⟩ := rFacts hb
        have hG := fun o => go1_is (w1.alloc o) r s a hle (hb.alloc o)
        have HW : Hid (Wr r w w1) := hw1
        clear hb h1 hK hw1
        go_wp2_with fail
        refine (hRg _).mono ?_
        rintro e w1' ⟨rfl, rfl⟩
        go_wp2_with fail
        refine (hG _).mono ?_
        rintro e w2 ⟨rfl, h2, _, hw2⟩
        have hT : w2.heap[w1.heap.size]? = some (.cells #[.int .i64 (kd s a), .string (tx s a), .int .i64 (pl s a)] 56 (0, 0)) := (hw2.block w1.heap.size (by simp) (by simp; omega)).trans (heap_alloc_new w1 _)
        have t1 : w2.cell? ⟨w1.heap.size, 1, none⟩ = some (.string (tx s a)) := by simp [World.cell?, hT]
        clear hT
        go_wp2_with fail
        refine (hRg _).mono ?_
        rintro e w2' ⟨rfl, rfl⟩
        go_wp2
        all_goals (try go_ret)
        all_goals exact ⟨rfl, ⟨true, h2⟩, (HW.out.alloc _).trans hw2⟩
      | false =>
        have hV : rregV (tx s a) = -1 := by unfold rregV; rw [hB]; rfl
        have hE : regP s (.ok a) = (0, flS s 7 (.ok a)) := by rw [hP, hB, named_7 _ _ hk]
        rw [hE]
        simp only [hV] at hRg
        clear hk hB hV hE hP
        go_enter Tryz.func47, Tryz.ntmps47
        go_wp2_with fail
        refine hK.mono ?_
        rintro e w1 ⟨rfl, h1, hw1⟩
        obtain ⟨hle, he, hb⟩ := h1.good
        obtain ⟨r0, r1, r2, r3, r4, r5, r6, r7, r8, r9, r10, r11, r12, r13, r14, r15⟩ := rFacts hb
        have hF := fun o => rfail_is (w1.alloc o) r s (.ok a) 7 (by decide) (h1.alloc o)
        have HW : Hid (Wr r w w1) := hw1
        clear hb hK hw1 h1
        go_wp2_with fail
        refine (hRg _).mono ?_
        rintro e w1' ⟨rfl, rfl⟩
        go_wp2_with (go_at_call 27; refine (hF _).mono ?_; rintro e w2 ⟨rfl, h2, hw2⟩)
        all_goals (try go_ret)
        all_goals exact ⟨rfl, h2.rx, (HW.out.alloc _).trans hw2⟩
    · have hq : ((kd s a : Int) != 1) = true := by simp; omega
      have hB : regB (tx s a) = false := by
        cases hh : regB (tx s a) with
        | false => rfl
        | true => exact absurd (reg_word hh) hk
      have hE : regP s (.ok a) = (0, flS s 6 (.ok a)) := by rw [hP, hB, named_6 _ _ hk]
      rw [hE]
      clear hk hB hE hP hRg
      go_enter Tryz.func47, Tryz.ntmps47
      go_wp2_with fail
      refine hK.mono ?_
      rintro e w1 ⟨rfl, h1, hw1⟩
      obtain ⟨hle, he, hb⟩ := h1.good
      obtain ⟨r0, r1, r2, r3, r4, r5, r6, r7, r8, r9, r10, r11, r12, r13, r14, r15⟩ := rFacts hb
      have hF := fun o => rfail_is (w1.alloc o) r s (.ok a) 6 (by decide) (h1.alloc o)
      have HW : Hid (Wr r w w1) := hw1
      clear hb hK hw1 h1
      go_wp2_with (go_at_call 27; refine (hF _).mono ?_; rintro e w2 ⟨rfl, h2, hw2⟩)
      all_goals (try go_ret)
      all_goals exact ⟨rfl, h2.rx, (HW.out.alloc _).trans hw2⟩
end
end Go.Proofs.YtoaepdjjjcaafaaGreatDoor
