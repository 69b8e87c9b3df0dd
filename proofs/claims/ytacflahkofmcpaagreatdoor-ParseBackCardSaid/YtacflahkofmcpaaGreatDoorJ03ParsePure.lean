/- New, Next. -/
import Derived.Test.YtacflahkofmcpaaGreatDoorJ02LexTake
namespace Go.Proofs.YtacflahkofmcpaaGreatDoor
open Go.RowKit

theorem new_is (w : World) (s : ByteArray) :
    Calls Tryz.prog 29 #[.string s] w fun e w' => e = .returned (.pointer (some ⟨w.heap.size, 0, none⟩)) ∧ Lx w' w.heap.size s 0 0 ∧ On w w' := by
  go_enter Tryz.func29, Tryz.ntmps29
  go_wp2
  go_ret
  refine ⟨rfl, ⟨_, heap_alloc_new _ _⟩, (On.refl _).alloc _⟩

theorem Lx.set0 {w : World} {b : Nat} {s : ByteArray} {a r : Nat} (h : Lx w b s a r) : Lx (w.setCell ⟨b, 0, none⟩ (.string s)) b s a r := by obtain ⟨T, h⟩ := h.blk; exact ⟨T, heap_set h⟩

section
variable (w : World) (b : Nat) (s : ByteArray) (a r K p a2 C : Nat) (x : ByteArray)
set_option maxHeartbeats 1000000
theorem next_ok (hl : Lx w b s a r) (hb3 : 6 ≤ b) (hw : Lw w)
    (hT : ∀ w1 b1, Lx w1 b1 s a r → 6 ≤ b1 → Lw w1 → Calls Tryz.prog 114 #[.pointer (some ⟨b1, 0, none⟩)] w1 fun e w' => e = .returned (.tuple #[.agg #[.int .i64 K, .string x, .int .i64 p], .agg #[.int .i64 0, .int .i64 0]]) ∧ (∃ r', Inv s a2 r' ∧ Lx w' b1 s a2 r') ∧ Wr b1 w1 w') :
    Calls Tryz.prog 72 #[.pointer (some ⟨b, 0, none⟩)] w fun e w' => e = .returned (.tuple #[.agg #[.int .i64 K, .string x, .int .i64 p], .agg #[.int .i64 0, .int .i64 0]]) ∧ ∃ r', Inv s a2 r' ∧ Lx w' b s a2 r' ∧ Wr b w w' := by
  have hb := hl.lt
  obtain ⟨W0, hW0⟩ : ∃ W0, W0 = ((w.alloc (.cells #[.int .i64 0, .string ⟨#[]⟩, .int .i64 0] 71)).alloc (.cells #[.int .i64 0, .int .i64 0] 36)).alloc (.cells #[.string s, .int .i64 a, .int .i64 r] 116) := ⟨_, rfl⟩
  have hR0 : Rs W0 w.heap.size := by rw [hW0]; exact (Rs.new w).on ((On.refl _).alloc _)
  have hl0 : Lx W0 b s a r := by rw [hW0]; exact ((hl.alloc _).alloc _).alloc _
  have hl0' : Lx W0 (w.heap.size + 1 + 1) s a r := by
    rw [hW0]
    have := heap_alloc_new ((w.alloc (.cells #[.int .i64 0, .string ⟨#[]⟩, .int .i64 0] 71)).alloc (.cells #[.int .i64 0, .int .i64 0] 36)) (.cells #[.string s, .int .i64 a, .int .i64 r] 116)
    exact ⟨_, by simpa using this⟩
  have hw0 : On w W0 := by rw [hW0]; exact (((On.refl w).alloc _).alloc _).alloc _
  have HT := hT W0 (w.heap.size + 1 + 1) hl0' (by omega) (hw.on hw0)
  rw [hW0] at HT
  have HW0 : Hid (W0 = ((w.alloc (.cells #[.int .i64 0, .string ⟨#[]⟩, .int .i64 0] 71)).alloc (.cells #[.int .i64 0, .int .i64 0] 36)).alloc (.cells #[.string s, .int .i64 a, .int .i64 r] 116)) := hW0
  have c0 := hl.c0
  have c1 := hl.c1
  have c2 := hl.c2
  clear hT hl hw hW0
  go_enter Tryz.func72, Tryz.ntmps72
  go_wp2_with fail
  refine HT.mono ?_
  rintro e w1 ⟨rfl, ⟨r2, hi2, hl2⟩, hw1'⟩
  have hw1 : Wr (w.heap.size + 1 + 1) W0 w1 := by rw [HW0.out]; exact hw1'
  have hlb : Lx w1 b s a r := hl0.far hw1 (by omega)
  have hR1 : Rs w1 w.heap.size := ⟨(hw1.block _ (lt_of_block hR0.t) (by simp; omega)).trans hR0.t, (hw1.block _ (lt_of_block hR0.e) (by simp)).trans hR0.e⟩
  have HW : Hid (Wr b w w1) := Wr.of_on (b := b) (Below.trans hw0 ⟨hw1.os, hw1.tape, hw1.output, hw1.size, fun k hk => hw1.block k (by have := hw0.size; omega) (by simp; omega)⟩)
  clear HT c0 c1 c2 hw1' HW0 hl0 hl0' hR0 hw0 hw1
  have g0 := hlb.c0
  have g1 := hlb.c1
  have g2 := hlb.c2
  have gf0 := hlb.f0
  have gf1 := hlb.f1
  have gf2 := hlb.f2
  have x0 := hl2.c0
  have x1 := hl2.c1
  have x2 := hl2.c2
  have t0 := hR1.t0
  have t1 := hR1.t1
  have t2 := hR1.t2
  have e0 := hR1.e0
  have e1 := hR1.e1
  have ft0 := hR1.ft 0
  have ft1 := hR1.ft 1
  have ft2 := hR1.ft 2
  have fe0 := hR1.fe 0
  have fe1 := hR1.fe 1
  have s0 := hlb.lt
  have s1 := hl2.lt
  have s2 := hR1.lt
  have s3 := Nat.lt_of_succ_lt s2
  have s0' := Nat.lt_succ_of_lt s0
  have s1' := Nat.lt_succ_of_lt s1
  have s2' := Nat.lt_succ_of_lt s2
  have s3' := Nat.lt_succ_of_lt s3
  go_wp2
  go_region
  all_goals (try go_wp2)
  have hn0 : b ≠ w.heap.size := Nat.ne_of_lt hb
  have hn1 : b ≠ w.heap.size + 1 := Nat.ne_of_lt (Nat.lt_succ_of_lt hb)
  all_goals (try simp only [Exit.inBlock, Exit.then])
  refine bodyPost_ret (v := .tuple #[.agg #[.int .i64 K, .string x, .int .i64 p], .agg #[.int .i64 0, .int .i64 0]]) ?_ rfl ⟨rfl, r2, hi2, ?_, ?_⟩
  · rw [results_cells2 rfl]
    go_simp
  · exact ((((((((((hlb.set0).set1 a2).set2 r2).setFar hn0 _).setFar hn0 _).setFar hn0 _).setFar hn1 _).setFar hn1 _).alloc _).alloc _).drew
  · exact ((((((((((HW.out.set _).set _).set _).setNew (Nat.le_refl _) _).setNew (Nat.le_refl _) _).setNew (Nat.le_refl _) _).setNew (Nat.le_succ _) _).setNew (Nat.le_succ _) _).alloc _).alloc _).drew

theorem next_err (hl : Lx w b s a r) (hb3 : 6 ≤ b) (hw : Lw w) (hC : ((C : Int) == 0) = false)
    (hT : ∀ w1 b1, Lx w1 b1 s a r → 6 ≤ b1 → Lw w1 → Calls Tryz.prog 114 #[.pointer (some ⟨b1, 0, none⟩)] w1 fun e w' => e = .returned (.tuple #[.agg #[.int .i64 0, .string ⟨#[]⟩, .int .i64 0], .agg #[.int .i64 C, .int .i64 p]]) ∧ Wr b1 w1 w') :
    Calls Tryz.prog 72 #[.pointer (some ⟨b, 0, none⟩)] w fun e w' => e = .returned (.tuple #[.agg #[.int .i64 0, .string ⟨#[]⟩, .int .i64 0], .agg #[.int .i64 C, .int .i64 p]]) ∧ Lx w' b s a r ∧ Wr b w w' := by
  have hb := hl.lt
  obtain ⟨W0, hW0⟩ : ∃ W0, W0 = ((w.alloc (.cells #[.int .i64 0, .string ⟨#[]⟩, .int .i64 0] 71)).alloc (.cells #[.int .i64 0, .int .i64 0] 36)).alloc (.cells #[.string s, .int .i64 a, .int .i64 r] 116) := ⟨_, rfl⟩
  have hR0 : Rs W0 w.heap.size := by rw [hW0]; exact (Rs.new w).on ((On.refl _).alloc _)
  have hl0 : Lx W0 b s a r := by rw [hW0]; exact ((hl.alloc _).alloc _).alloc _
  have hl0' : Lx W0 (w.heap.size + 1 + 1) s a r := by
    rw [hW0]
    have := heap_alloc_new ((w.alloc (.cells #[.int .i64 0, .string ⟨#[]⟩, .int .i64 0] 71)).alloc (.cells #[.int .i64 0, .int .i64 0] 36)) (.cells #[.string s, .int .i64 a, .int .i64 r] 116)
    exact ⟨_, by simpa using this⟩
  have hw0 : On w W0 := by rw [hW0]; exact (((On.refl w).alloc _).alloc _).alloc _
  have HT := hT W0 (w.heap.size + 1 + 1) hl0' (by omega) (hw.on hw0)
  rw [hW0] at HT
  have HW0 : Hid (W0 = ((w.alloc (.cells #[.int .i64 0, .string ⟨#[]⟩, .int .i64 0] 71)).alloc (.cells #[.int .i64 0, .int .i64 0] 36)).alloc (.cells #[.string s, .int .i64 a, .int .i64 r] 116)) := hW0
  have c0 := hl.c0
  have c1 := hl.c1
  have c2 := hl.c2
  clear hT hl hw hW0
  go_enter Tryz.func72, Tryz.ntmps72
  go_wp2_with fail
  refine HT.mono ?_
  rintro e w1 ⟨rfl, hw1'⟩
  have hw1 : Wr (w.heap.size + 1 + 1) W0 w1 := by rw [HW0.out]; exact hw1'
  have hlb : Lx w1 b s a r := hl0.far hw1 (by omega)
  have hR1 : Rs w1 w.heap.size := ⟨(hw1.block _ (lt_of_block hR0.t) (by simp; omega)).trans hR0.t, (hw1.block _ (lt_of_block hR0.e) (by simp)).trans hR0.e⟩
  have HW : Hid (Wr b w w1) := Wr.of_on (b := b) (Below.trans hw0 ⟨hw1.os, hw1.tape, hw1.output, hw1.size, fun k hk => hw1.block k (by have := hw0.size; omega) (by simp; omega)⟩)
  clear HT c0 c1 c2 hw1' HW0 hl0 hl0' hR0 hw0 hw1
  have g0 := hlb.c0
  have g1 := hlb.c1
  have g2 := hlb.c2
  have gf0 := hlb.f0
  have gf1 := hlb.f1
  have gf2 := hlb.f2
  have t0 := hR1.t0
  have t1 := hR1.t1
  have t2 := hR1.t2
  have e0 := hR1.e0
  have e1 := hR1.e1
  have ft0 := hR1.ft 0
  have ft1 := hR1.ft 1
  have ft2 := hR1.ft 2
  have fe0 := hR1.fe 0
  have fe1 := hR1.fe 1
  have s0 := hlb.lt
  have s2 := hR1.lt
  have s3 := Nat.lt_of_succ_lt s2
  have s0' := Nat.lt_succ_of_lt s0
  have s2' := Nat.lt_succ_of_lt s2
  have s3' := Nat.lt_succ_of_lt s3
  go_wp2
  go_region
  all_goals (try go_wp2)
  have hn0 : b ≠ w.heap.size := Nat.ne_of_lt hb
  have hn1 : b ≠ w.heap.size + 1 := Nat.ne_of_lt (Nat.lt_succ_of_lt hb)
  all_goals (try simp only [Exit.inBlock, Exit.then])
  refine bodyPost_ret (v := .tuple #[.agg #[.int .i64 0, .string ⟨#[]⟩, .int .i64 0], .agg #[.int .i64 C, .int .i64 p]]) ?_ rfl ⟨rfl, ?_, ?_⟩
  · rw [results_cells2 rfl]
    go_simp
  · exact (((((((hlb.setFar hn0 _).setFar hn0 _).setFar hn0 _).setFar hn1 _).setFar hn1 _).alloc _).alloc _).drew
  · exact (((((((HW.out.setNew (Nat.le_refl _) _).setNew (Nat.le_refl _) _).setNew (Nat.le_refl _) _).setNew (Nat.le_succ _) _).setNew (Nat.le_succ _) _).alloc _).alloc _).drew
end

/-- NEXT: the token, or the error; behind an error the lexer is as it was. -/
theorem next_is (w : World) (b : Nat) (s : ByteArray) (a r : Nat) (hs : s.size ≤ 140737488351232) (hi : Inv s a r) (hl : Lx w b s a r) (hb3 : 6 ≤ b) (hw : Lw w) :
    Calls Tryz.prog 72 #[.pointer (some ⟨b, 0, none⟩)] w fun e w' => e = .returned (.tuple #[tkV s a, erV s a]) ∧ (eC pB s a = 0 → ∃ r', Inv s (to s a) r' ∧ Lx w' b s (to s a) r') ∧ (eC pB s a ≠ 0 → Lx w' b s a r) ∧ Wr b w w' := by
  have hT := fun w1 b1 (h1 : Lx w1 b1 s a r) (h2 : 6 ≤ b1) (h3 : Lw w1) => take_is w1 b1 s a r hs hi h1 h2 h3
  unfold tkV erV at hT ⊢
  by_cases h0 : eC pB s a = 0
  · simp only [h0, if_true] at hT ⊢
    refine (next_ok w b s a r (kd s a) (pl s a) (to s a) (tx s a) hl hb3 hw (fun w1 b1 h1 h2 h3 => (hT w1 b1 h1 h2 h3).mono fun e w' ⟨q1, q2, q3⟩ => ⟨q1, q2 trivial, q3⟩)).mono ?_
    rintro e w' ⟨rfl, r', q1, q2, q3⟩
    exact ⟨rfl, fun _ => ⟨r', q1, q2⟩, fun h => absurd rfl h, q3⟩
  · simp only [h0, if_false] at hT ⊢
    refine (next_err w b s a r (pl s a) (eC pB s a) hl hb3 hw (by rw [beq_eq_false_iff_ne]; omega) (fun w1 b1 h1 h2 h3 => (hT w1 b1 h1 h2 h3).mono fun e w' ⟨q1, _, q3⟩ => ⟨q1, q3⟩)).mono ?_
    rintro e w' ⟨rfl, q1, q2⟩
    exact ⟨rfl, fun h => absurd h (by simp), fun _ => q1, q2⟩
end Go.Proofs.YtacflahkofmcpaaGreatDoor

namespace Go.Proofs.YtacflahkofmcpaaGreatDoor

/-- Where a parser stands: ahead of a good token from a place on, or behind its first error (its number, its place). -/
abbrev St := Except (Nat × Nat) Nat

section
variable (s : ByteArray)
def norm (a : Nat) : St := if eC pB s a = 0 then .ok a else .error (eC pB s a, pl s a)
def tokK : St → Nat
  | .ok a => kd s a
  | .error _ => 0
def tokX : St → ByteArray
  | .ok a => tx s a
  | .error _ => ⟨#[]⟩
def tokP : St → Nat
  | .ok a => pl s a
  | .error _ => 0
def erC : St → Nat
  | .ok _ => 0
  | .error e => e.1
def erP : St → Nat
  | .ok _ => 0
  | .error e => e.2
/-- Behind the token. -/
def nx : St → St
  | .ok a => norm s (to s a)
  | .error e => .error e
/-- An error at the token, if there is none ahead of it. -/
def flS (c : Nat) : St → St
  | .ok a => .error (c, pl s a)
  | .error e => .error e
/-- What may be: a good token ahead, or an error that is one. -/
def Vd : St → Prop
  | .ok a => eC pB s a = 0 ∧ a ≤ s.size
  | .error e => e.1 ≠ 0

theorem norm_ok {a : Nat} (h : eC pB s a = 0) : norm s a = .ok a := by unfold norm; rw [if_pos h]
theorem norm_err {a : Nat} (h : eC pB s a ≠ 0) : norm s a = .error (eC pB s a, pl s a) := by unfold norm; rw [if_neg h]
theorem vd_norm {a : Nat} (h : a ≤ s.size) : Vd s (norm s a) := by
  by_cases h0 : eC pB s a = 0
  · rw [norm_ok s h0]; exact ⟨h0, h⟩
  · rw [norm_err s h0]; exact h0
theorem vd_nx {S : St} (h : Vd s S) : Vd s (nx s S) := by
  cases S with
  | ok a => exact vd_norm s (to_le h.2)
  | error e => exact h
theorem vd_fl {S : St} {c : Nat} (h : Vd s S) (hc : c ≠ 0) : Vd s (flS s c S) := by
  cases S with
  | ok a => exact hc
  | error e => exact h

/-! What is taken: each answers its value and where the parser stands behind it. -/
def isX (x : ByteArray) (S : St) : Bool := (tokX s S).data.toList == x.data.toList
def accS (x : ByteArray) (S : St) : St := if isX s x S then nx s S else S
def expS (x : ByteArray) (S : St) : St := if isX s x S then nx s S else flS s 6 S
def endS (S : St) : St := if tokK s S = 4 then S else flS s 6 S
def nameP (S : St) : ByteArray × St := if tokK s S = 1 then (tokX s S, nx s S) else (⟨#[]⟩, flS s 6 S)
def numP (S : St) : Int × St := if pB (tokX s S) then (pN (tokX s S), nx s S) else (0, flS s 6 S)
/-- A number that is out of bounds. -/
def outB (m : Int) (S : St) : Bool := pB (tokX s S) && (decide (pN (tokX s S) < 0) || decide (m < pN (tokX s S)))
def uptoP (m : Int) (c : Nat) (S : St) : Int × St := if outB s m S then (0, flS s c S) else numP s S
def namedP (v : Int) (ok : Bool) (S : St) : Int × St := if ok then (v, nx s S) else if tokK s S = 1 then (0, flS s 7 S) else (0, flS s 6 S)
end

/-- A register's number, written so; a location's byte. -/
def regB (x : ByteArray) : Bool := x.size == 2 && (bN x 0 == 114 && decide (48 ≤ bN x 1 ∧ bN x 1 ≤ 51))
def regV (x : ByteArray) : Int := if regB x then (bN x 1 : Int) - 48 else 0
def locB (k : Nat) (x : ByteArray) : Bool := k == 1 && x.size == 1
def locV (k : Nat) (x : ByteArray) : Int := if locB k x then (bN x 0 : Int) else 0

structure Opd where
  r : Int
  v : Int
structure InsT where
  k : Int
  r : Int
  l : Int
  a : Opd
  o : Int
  b : Opd
  n : Int
structure AtomT where
  t : Int
  r : Int
  l : Int
  v : Int
structure InitT where
  l : Int
  v : Int
structure CondT where
  k : Int
  any : List (List AtomT)
structure TestT where
  name : ByteArray
  ini : List InitT
  thr : List (List InsT)
  cond : CondT

section
variable (s : ByteArray)
def regP (S : St) : Int × St := namedP s (regV (tokX s S)) (regB (tokX s S)) S
def locP (S : St) : Int × St := namedP s (locV (tokK s S) (tokX s S)) (locB (tokK s S) (tokX s S)) S
def opdP (S : St) : Opd × St := if tokK s S = 2 then (⟨-1, (numP s S).1⟩, (numP s S).2) else (⟨(regP s S).1, 0⟩, (regP s S).2)
end
end Go.Proofs.YtacflahkofmcpaaGreatDoor
