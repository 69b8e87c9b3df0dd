/- PARSE: what parse.Parse answers of any text. -/
import Derived.Test.YtacflahkofmcpaaGreatDoorParseTest
import Derived.Test.YtacflahkofmcpaaGreatDoorProg
import Derived.WalkKit
import Derived.WalkSpells
import Derived.WalkLawsBesides
import Derived.WalkSmall
import Derived.OneCell
import Derived.Below
import Derived.IntWalk
import Derived.Deep.LoopGhost
import Derived.Deep.RegionLaw
import Derived.Laws.MakeOwn
import Derived.Maps.AppendAt
namespace Go.Proofs.YtacflahkofmcpaaGreatDoor
open Go.RowKit

/-- What Parse answers: the test, or none and the error. -/
def noTest : TestT := ⟨⟨#[]⟩, [], [], ⟨0, []⟩⟩
def startS (s : ByteArray) : St := norm s 0
def endP (R : TestT × St) : TestT × Nat × Nat := if flB R.2 then (noTest, erC R.2, erP R.2) else (R.1, 0, 0)
def parseP (s : ByteArray) : TestT × Nat × Nat := if 4000 < s.size then (noTest, 2, 4000) else endP (testP s (startS s))

theorem testAt_none (w : World) (base : Nat) : TestAt w base (.agg #[.string ⟨#[]⟩, .slice none 0 0, .slice none 0 0, .int .i64 0, .slice none 0 0]) noTest :=
  ⟨none, 0, 0, none, 0, 0, none, 0, 0, rfl, World.ownsRow_nil _ _ _ _, Own2.nil _ _ _ _ _ _, Own2.nil _ _ _ _ _ _⟩
theorem Bk.on {w w' : World} {N : Nat} {cs : Array Value} (h : Bk w N cs) (k : On w w') : Bk w' N cs := by
  obtain ⟨T, e⟩ := h
  exact ⟨T, (k.block N (lt_of_block e)).trans e⟩
theorem On.wp {p l : Nat} {w x y : World} (h : On w x) (k : Wp p l x y) (hp : w.heap.size ≤ p) (hl : w.heap.size ≤ l) : On w y :=
  Below.trans h ⟨k.os, k.tape, k.output, k.size, fun i hi => k.block i (Nat.lt_of_lt_of_le hi h.size) (by omega) (by omega)⟩

set_option maxHeartbeats 2000000
set_option maxRecDepth 8000
theorem parse_long (s : ByteArray) (hl : 4000 < s.size) (hs : s.size ≤ 140737488351232) (w : World) :
    Calls Tryz.prog 11 #[.string s] w fun e w' => e = .returned (.tuple #[.agg #[.string ⟨#[]⟩, .slice none 0 0, .slice none 0 0, .int .i64 0, .slice none 0 0], .agg #[.int .i64 2, .int .i64 4000]]) ∧ On w w' := by
  have hA := fun W : World => all_long s hl hs W
  go_enter Tryz.func11, Tryz.ntmps11
  go_wp2_with fail
  refine (hA _).mono ?_
  rintro e w1 ⟨rfl, k1⟩
  have W1 : Hid (On w w1) := (((On.refl w).alloc _).alloc _).trans k1
  obtain ⟨T, hb⟩ := ((Bk.new w _ _).alloc _).on k1
  obtain ⟨U, ha⟩ := (Bk.new2 w _ _ _).on k1
  have L0 := lt_of_block hb
  have L1 := lt_of_block ha
  have dc0 : w1.cell? ⟨w.heap.size, 0, none⟩ = some (.string ⟨#[]⟩) := by simp [World.cell?, hb]
  have dc1 : w1.cell? ⟨w.heap.size, 1, none⟩ = some (.slice none 0 0) := by simp [World.cell?, hb]
  have dc2 : w1.cell? ⟨w.heap.size, 2, none⟩ = some (.slice none 0 0) := by simp [World.cell?, hb]
  have dc3 : w1.cell? ⟨w.heap.size, 3, none⟩ = some (.int .i64 0) := by simp [World.cell?, hb]
  have dc4 : w1.cell? ⟨w.heap.size, 4, none⟩ = some (.slice none 0 0) := by simp [World.cell?, hb]
  have df0 : w1.frozen? ⟨w.heap.size, 0, none⟩ = false := by simp [World.frozen?, hb]
  have df1 : w1.frozen? ⟨w.heap.size, 1, none⟩ = false := by simp [World.frozen?, hb]
  have df2 : w1.frozen? ⟨w.heap.size, 2, none⟩ = false := by simp [World.frozen?, hb]
  have df3 : w1.frozen? ⟨w.heap.size, 3, none⟩ = false := by simp [World.frozen?, hb]
  have df4 : w1.frozen? ⟨w.heap.size, 4, none⟩ = false := by simp [World.frozen?, hb]
  have ac0 : w1.cell? ⟨w.heap.size + 1, 0, none⟩ = some (.int .i64 0) := by simp [World.cell?, ha]
  have ac1 : w1.cell? ⟨w.heap.size + 1, 1, none⟩ = some (.int .i64 0) := by simp [World.cell?, ha]
  have af0 : w1.frozen? ⟨w.heap.size + 1, 0, none⟩ = false := by simp [World.frozen?, ha]
  have af1 : w1.frozen? ⟨w.heap.size + 1, 1, none⟩ = false := by simp [World.frozen?, ha]
  clear hb ha k1 hA
  go_wp2
  go_region
  all_goals (try go_wp2)
  all_goals (try simp only [Exit.inBlock, Exit.then])
  all_goals
    refine bodyPost_ret (v := .tuple #[.agg #[.string ⟨#[]⟩, .slice none 0 0, .slice none 0 0, .int .i64 0, .slice none 0 0], .agg #[.int .i64 2, .int .i64 4000]]) ?_ rfl ⟨rfl, ?_⟩
    · rw [results_cells2 rfl]
      go_simp
    · repeat' (first | with_reducible refine On.setNew ?_ (by omega) _ | with_reducible refine On.drew ?_ | with_reducible refine On.alloc ?_ _ | with_reducible exact W1.out)

/-- The first token. -/
theorem next_first (w : World) (p l : Nat) (s : ByteArray) (hsz : s.size ≤ 4000) (hb : Bk w p #[.pointer (some ⟨l, 0, none⟩), .int .i64 0, .string ⟨#[]⟩, .int .i64 0, .int .i64 0, .int .i64 0]) (hl : Lx w l s 0 0) (hne : p ≠ l) (gp : 6 ≤ p) (gl : 6 ≤ l) (hw : Lw w) :
    Calls Tryz.prog 30 #[.pointer (some ⟨p, 0, none⟩)] w fun e w' => e = .returned (.tuple #[]) ∧ Px w' p l s (startS s) ∧ Wp p l w w' := by
  have hN := next_is w l s 0 0 (by omega) ⟨Nat.le_refl _, by omega, Nat.zero_le _, Nat.zero_le _⟩ hl gl hw
  have c0 : w.cell? ⟨p, 0, none⟩ = some (.pointer (some ⟨l, 0, none⟩)) := Bk.at hb rfl
  have hlt := hl.lt
  have hlw : ∀ w', Wp p l w w' → Lw w' := fun w' k => hw.far fun i hi => k.block i (Nat.lt_of_lt_of_le hi hw.lt) (by omega) (by omega)
  have hvd : Vd s (norm s 0) := vd_norm s (Nat.zero_le _)
  have HL : Hid (Lw w) := hw
  unfold tkV erV at hN
  unfold startS
  by_cases h0 : eC pB s 0 = 0
  · simp only [h0, if_true] at hN
    rw [norm_ok s h0] at hvd ⊢
    clear hl hw
    go_enter Tryz.func30, Tryz.ntmps30
    go_wp2_with fail
    refine hN.mono ?_
    rintro e w1 ⟨rfl, hl1, _, hw1⟩
    have hWp := Wp.of_wr (p := p) hw1
    obtain ⟨T, hbb⟩ := hb
    have hb1 := (hw1.block p (lt_of_block hbb) (by simpa using hne)).trans hbb
    have dc0 : w1.cell? ⟨p, 0, none⟩ = some (.pointer (some ⟨l, 0, none⟩)) := by simp [World.cell?, hb1]
    have dc1 : w1.cell? ⟨p, 1, none⟩ = some (.int .i64 0) := by simp [World.cell?, hb1]
    have dc2 : w1.cell? ⟨p, 2, none⟩ = some (.string ⟨#[]⟩) := by simp [World.cell?, hb1]
    have dc3 : w1.cell? ⟨p, 3, none⟩ = some (.int .i64 0) := by simp [World.cell?, hb1]
    have dc4 : w1.cell? ⟨p, 4, none⟩ = some (.int .i64 0) := by simp [World.cell?, hb1]
    have dc5 : w1.cell? ⟨p, 5, none⟩ = some (.int .i64 0) := by simp [World.cell?, hb1]
    have df0 : w1.frozen? ⟨p, 0, none⟩ = false := by simp [World.frozen?, hb1]
    have df1 : w1.frozen? ⟨p, 1, none⟩ = false := by simp [World.frozen?, hb1]
    have df2 : w1.frozen? ⟨p, 2, none⟩ = false := by simp [World.frozen?, hb1]
    have df3 : w1.frozen? ⟨p, 3, none⟩ = false := by simp [World.frozen?, hb1]
    have df4 : w1.frozen? ⟨p, 4, none⟩ = false := by simp [World.frozen?, hb1]
    have df5 : w1.frozen? ⟨p, 5, none⟩ = false := by simp [World.frozen?, hb1]
    have HB : Hid (w1.heap[p]? = some (.cells #[.pointer (some ⟨l, 0, none⟩), .int .i64 0, .string ⟨#[]⟩, .int .i64 0, .int .i64 0, .int .i64 0] T (0, 0))) := hb1
    clear hbb hb1 hN c0
    go_wp2
    go_end0
    refine ⟨rfl, ⟨⟨T, ?_⟩, fun a' e => ?_, ?_, hne, gp, gl, ?_, hsz, hvd⟩, (((((Wp.of_wr hw1).set _).set _).set _).set _).set _⟩
    · exact heap_set (heap_set (heap_set (heap_set (heap_set HB.out))))
    · obtain rfl : 0 = a' := by simpa using e
      obtain ⟨r, hi, T', e'⟩ := hl1 trivial
      refine ⟨r, hi, T', ?_⟩
      rw [set_far _ hne, set_far _ hne, set_far _ hne, set_far _ hne, set_far _ hne]
      exact e'
    · have := hw1.size; simp [World.setCell]; omega
    · exact hlw _ ((((((Wp.of_wr hw1).set _).set _).set _).set _).set _)
  · simp only [h0, if_false] at hN
    rw [norm_err s h0] at hvd ⊢
    clear hl hw
    go_enter Tryz.func30, Tryz.ntmps30
    go_wp2_with fail
    refine hN.mono ?_
    rintro e w1 ⟨rfl, _, hl1, hw1⟩
    have hWp := Wp.of_wr (p := p) hw1
    obtain ⟨T, hbb⟩ := hb
    have hb1 := (hw1.block p (lt_of_block hbb) (by simpa using hne)).trans hbb
    have dc0 : w1.cell? ⟨p, 0, none⟩ = some (.pointer (some ⟨l, 0, none⟩)) := by simp [World.cell?, hb1]
    have dc1 : w1.cell? ⟨p, 1, none⟩ = some (.int .i64 0) := by simp [World.cell?, hb1]
    have dc2 : w1.cell? ⟨p, 2, none⟩ = some (.string ⟨#[]⟩) := by simp [World.cell?, hb1]
    have dc3 : w1.cell? ⟨p, 3, none⟩ = some (.int .i64 0) := by simp [World.cell?, hb1]
    have dc4 : w1.cell? ⟨p, 4, none⟩ = some (.int .i64 0) := by simp [World.cell?, hb1]
    have dc5 : w1.cell? ⟨p, 5, none⟩ = some (.int .i64 0) := by simp [World.cell?, hb1]
    have df0 : w1.frozen? ⟨p, 0, none⟩ = false := by simp [World.frozen?, hb1]
    have df1 : w1.frozen? ⟨p, 1, none⟩ = false := by simp [World.frozen?, hb1]
    have df2 : w1.frozen? ⟨p, 2, none⟩ = false := by simp [World.frozen?, hb1]
    have df3 : w1.frozen? ⟨p, 3, none⟩ = false := by simp [World.frozen?, hb1]
    have df4 : w1.frozen? ⟨p, 4, none⟩ = false := by simp [World.frozen?, hb1]
    have df5 : w1.frozen? ⟨p, 5, none⟩ = false := by simp [World.frozen?, hb1]
    have HB : Hid (w1.heap[p]? = some (.cells #[.pointer (some ⟨l, 0, none⟩), .int .i64 0, .string ⟨#[]⟩, .int .i64 0, .int .i64 0, .int .i64 0] T (0, 0))) := hb1
    clear hbb hb1 hN c0
    go_wp2
    go_end0
    refine ⟨rfl, ⟨⟨T, ?_⟩, (fun a' e => by cases e), ?_, hne, gp, gl, ?_, hsz, hvd⟩, (((((Wp.of_wr hw1).set _).set _).set _).set _).set _⟩
    · exact heap_set (heap_set (heap_set (heap_set (heap_set HB.out))))
    · have := hw1.size; simp [World.setCell]; omega
    · exact hlw _ ((((((Wp.of_wr hw1).set _).set _).set _).set _).set _)

theorem toks_code (good : ByteArray → Bool) (s : ByteArray) : ∀ (n a : Nat), (toks good s n a).2.1 = 0 ∨ (toks good s n a).2.1 = 4 ∨ (toks good s n a).2.1 = 5
  | 0, _ => Or.inl rfl
  | n + 1, a => by
    unfold toks
    split
    · show eC good s a = 0 ∨ eC good s a = 4 ∨ eC good s a = 5
      unfold eC
      split
      · exact Or.inr (Or.inl rfl)
      · split
        · exact Or.inr (Or.inr rfl)
        · exact Or.inl rfl
    · split
      · exact Or.inl rfl
      · exact toks_code good s n _
theorem ecS_ne (s : ByteArray) : ((ecS s : Int) == 2) = false := by
  have h := toks_code pB s (s.size + 1 - 0) 0
  have e : ecS s = (toks pB s (s.size + 1 - 0) 0).2.1 := rfl
  rw [← e] at h
  rw [beq_eq_false_iff_ne]
  omega

/-- What Parse's call leaves. -/
def ParsePost (w : World) (R : TestT × Nat × Nat) (e : Ending) (w' : World) : Prop :=
  ∃ v, e = .returned (.tuple #[v, .agg #[.int .i64 R.2.1, .int .i64 R.2.2]]) ∧ TestAt w' w.heap.size v R.1 ∧ On w w'

theorem TestAt.far {w w' : World} {base : Nat} {v : Value} {t : TestT} (h : TestAt w base v t) (k : ∀ i, base ≤ i → i < w.heap.size → w'.heap[i]? = w.heap[i]?) : TestAt w' base v t := by
  have key : ∀ {e : TypeId} {n m : Nat} {u : Value} {xs : List Value}, w.ownsRow base e n u m xs → w'.ownsRow base e n u m xs := by
    intro e n m u xs h
    refine ⟨h.1, ?_⟩
    rcases h.2 with h2 | ⟨g, cap, cur, hv, hb, hh, r⟩
    · exact Or.inl h2
    · exact Or.inr ⟨g, cap, cur, hv, hb, (k g hb (lt_of_block hh)).trans hh, r⟩
  obtain ⟨a1, m1, c1, a2, m2, c2, a3, m3, c3, rfl, o1, ⟨vs, p1, p2, p3⟩, ⟨us, q1, q2, q3⟩⟩ := h
  exact ⟨a1, m1, c1, a2, m2, c2, a3, m3, c3, rfl, key o1, ⟨vs, p1, key p2, fun i u L a b => key (p3 i u L a b)⟩, ⟨us, q1, key q2, fun i u L a b => key (q3 i u L a b)⟩⟩
theorem TestAt.mono {w : World} {base base' : Nat} {v : Value} {t : TestT} (h : TestAt w base v t) (hb : base' ≤ base) : TestAt w base' v t := by
  obtain ⟨a1, m1, c1, a2, m2, c2, a3, m3, c3, rfl, o1, o2, o3⟩ := h
  exact ⟨a1, m1, c1, a2, m2, c2, a3, m3, c3, rfl, own_mono o1 hb, o2.mono hb, o3.mono hb⟩
theorem TestAt.alloc {w : World} {base : Nat} {v : Value} {t : TestT} (h : TestAt w base v t) (o : Obj) : TestAt (w.alloc o) base v t := h.far fun _ _ hi => Below.heap_alloc _ _ _ hi
theorem TestAt.setFar {w : World} {base N i : Nat} {v : Value} {t : TestT} (h : TestAt w base v t) (hN : N < base) (u : Value) : TestAt (w.setCell ⟨N, i, none⟩ u) base v t := h.far fun j hj _ => Below.heap_setCell _ _ _ _ (show j ≠ N by omega)
theorem TestAt.drew {w : World} {base : Nat} {v : Value} {t : TestT} (h : TestAt w base v t) : TestAt w.drew base v t := h.far fun _ _ _ => rfl
theorem TestAt.on {w w' : World} {base : Nat} {v : Value} {t : TestT} (h : TestAt w base v t) (k : On w w') : TestAt w' base v t := h.far fun i _ hi => k.block i hi

theorem parse_short (s : ByteArray) (hsz : s.size ≤ 4000) (w : World) (hw : Lw w) :
    Calls Tryz.prog 11 #[.string s] w (ParsePost w (endP (testP s (startS s)))) := by
  have hA : ∀ W, Lw W → Calls Tryz.prog 28 #[.string s] W fun e w' => ∃ v, e = .returned (.tuple #[v, .agg #[.int .i64 (ecS s), .int .i64 (epS s)]]) ∧ On W w' := fun W h => (all_short s hsz W h).mono fun e w' ⟨v, h1, _, h3⟩ => ⟨v, h1, h3⟩
  have hq := ecS_ne s
  have hlw : ∀ w', On w w' → Lw w' := fun w' k => hw.on k
  have hG := hw.lt
  obtain ⟨R, hR⟩ : ∃ R, R = endP (testP s (startS s)) := ⟨_, rfl⟩
  rw [← hR]
  have HR : Hid (R = endP (testP s (startS s))) := hR
  clear hw hR
  go_enter Tryz.func11, Tryz.ntmps11
  go_wp2_with fail
  refine (hA _ (hlw _ (((On.refl w).alloc _).alloc _))).mono ?_
  rintro e w1 ⟨tv, rfl, k1⟩
  have W1 : Hid (On w w1) := (((On.refl w).alloc _).alloc _).trans k1
  have B1 := ((Bk.new w _ _).alloc _).on k1
  have A1 := (Bk.new2 w _ _ _).on k1
  have L1 := A1.lt
  clear k1 hA
  go_wp2_with fail
  refine (new_is _ s).mono ?_
  rintro e w2 ⟨rfl, hl2, k2⟩
  rw [World.size_alloc] at hl2
  have W2 : Hid (On w w2) := (W1.out.alloc _).trans k2
  have B2 := (B1.alloc _).on k2
  have A2 := (A1.alloc _).on k2
  have L2 := hl2.lt
  clear k2 B1 A1 W1
  have hF := fun (o : Array Value) T (hb : Bk (w2.alloc (.cells o T)) w2.heap.size #[.pointer (some ⟨w1.heap.size + 1, 0, none⟩), .int .i64 0, .string ⟨#[]⟩, .int .i64 0, .int .i64 0, .int .i64 0]) => next_first (w2.alloc (.cells o T)) w2.heap.size (w1.heap.size + 1) s hsz hb (hl2.alloc _) (by omega) (by omega) (by omega) (hlw _ (W2.out.alloc _))
  go_wp2_with fail
  refine (hF _ _ (Bk.new w2 _ _)).mono ?_
  rintro e w3 ⟨rfl, h3, k3⟩
  have W3 : Hid (On w w3) := On.wp (W2.out.alloc _) k3 (by omega) (by omega)
  have B3 := (B2.alloc _).wp k3 (by omega) (by omega)
  have A3 := (A2.alloc _).wp k3 (by omega) (by omega)
  have L3 := A3.lt
  clear k3 B2 A2 W2 hF
  go_wp2_with fail
  refine (test_is _ w2.heap.size (w1.heap.size + 1) s _ h3).mono ?_
  rintro e w4 ⟨v, rfl, hT, h4, k4⟩
  have hT2 := hT.mono (show w.heap.size + 2 ≤ w3.heap.size from L3)
  have W4 : Hid (On w w4) := On.wp W3.out k4 (by omega) (by omega)
  obtain ⟨T, hb⟩ := B3.wp k4 (by omega) (by omega)
  obtain ⟨U, ha⟩ := A3.wp k4 (by omega) (by omega)
  have L4 := lt_of_block hb
  have L4' := lt_of_block ha
  have dc0 : w4.cell? ⟨w.heap.size, 0, none⟩ = some (.string ⟨#[]⟩) := by simp [World.cell?, hb]
  have dc1 : w4.cell? ⟨w.heap.size, 1, none⟩ = some (.slice none 0 0) := by simp [World.cell?, hb]
  have dc2 : w4.cell? ⟨w.heap.size, 2, none⟩ = some (.slice none 0 0) := by simp [World.cell?, hb]
  have dc3 : w4.cell? ⟨w.heap.size, 3, none⟩ = some (.int .i64 0) := by simp [World.cell?, hb]
  have dc4 : w4.cell? ⟨w.heap.size, 4, none⟩ = some (.slice none 0 0) := by simp [World.cell?, hb]
  have df0 : w4.frozen? ⟨w.heap.size, 0, none⟩ = false := by simp [World.frozen?, hb]
  have df1 : w4.frozen? ⟨w.heap.size, 1, none⟩ = false := by simp [World.frozen?, hb]
  have df2 : w4.frozen? ⟨w.heap.size, 2, none⟩ = false := by simp [World.frozen?, hb]
  have df3 : w4.frozen? ⟨w.heap.size, 3, none⟩ = false := by simp [World.frozen?, hb]
  have df4 : w4.frozen? ⟨w.heap.size, 4, none⟩ = false := by simp [World.frozen?, hb]
  have ac0 : w4.cell? ⟨w.heap.size + 1, 0, none⟩ = some (.int .i64 0) := by simp [World.cell?, ha]
  have ac1 : w4.cell? ⟨w.heap.size + 1, 1, none⟩ = some (.int .i64 0) := by simp [World.cell?, ha]
  have af0 : w4.frozen? ⟨w.heap.size + 1, 0, none⟩ = false := by simp [World.frozen?, ha]
  have af1 : w4.frozen? ⟨w.heap.size + 1, 1, none⟩ = false := by simp [World.frozen?, ha]
  have hFl := fun o => failed_is (w4.alloc o) w2.heap.size (w1.heap.size + 1) s _ (h4.alloc o)
  have e4 := h4.c4
  have e5 := h4.c5
  have L5 := h4.lp
  generalize hTP : testP s (startS s) = TP at *
  obtain ⟨a1, m1, c1, a2, m2, c2, a3, m3, c3, rfl, o1, o2, o3⟩ := hT
  have HT : Hid (TestAt w4 (w.heap.size + 2) (.agg #[.string TP.1.name, .slice a1 m1 c1, .slice a2 m2 c2, .int .i64 TP.1.cond.k, .slice a3 m3 c3]) TP.1) := hT2
  clear hb ha B3 A3 W3 k4 h3 h4 hT2 o1 o2 o3
  have N1 : w.heap.size + 1 ≠ w.heap.size := by omega
  have N2 : w.heap.size ≠ w.heap.size + 1 := by omega
  cases hB : flB TP.2 with
  | true =>
    rw [hB] at hFl
    have HR2 : R = (noTest, erC TP.2, erP TP.2) := by rw [HR.out]; unfold endP; rw [hB]; rfl
    have HR3 : Hid (R = (noTest, erC TP.2, erP TP.2)) := HR2
    clear HR HR2 hB
    go_wp2_with fail
    refine (hFl _).mono ?_
    rintro e w5 ⟨rfl, rfl⟩
    go_wp2
    go_region
    all_goals (try go_wp2)
    all_goals (try simp only [Exit.inBlock, Exit.then])
    all_goals
      obtain rfl := HR3.out
      refine bodyPost_ret (v := .tuple #[.agg #[.string ⟨#[]⟩, .slice none 0 0, .slice none 0 0, .int .i64 0, .slice none 0 0], .agg #[.int .i64 (erC TP.2), .int .i64 (erP TP.2)]]) ?_ rfl ⟨_, rfl, testAt_none _ _, ?_⟩
      · rw [results_cells2 rfl]
        go_simp
      · repeat' (first | with_reducible refine On.setNew ?_ (by omega) _ | with_reducible refine On.drew ?_ | with_reducible refine On.alloc ?_ _ | with_reducible exact W4.out)
  | false =>
    rw [hB] at hFl
    have HR2 : R = (TP.1, 0, 0) := by rw [HR.out]; unfold endP; rw [hB]; rfl
    have HR3 : Hid (R = (TP.1, 0, 0)) := HR2
    clear HR HR2 hB
    go_wp2_with fail
    refine (hFl _).mono ?_
    rintro e w5 ⟨rfl, rfl⟩
    go_wp2
    (try simp only [Exit.inBlock, Exit.then])
    obtain rfl := HR3.out
    refine bodyPost_ret (v := .tuple #[.agg #[.string TP.1.name, .slice a1 m1 c1, .slice a2 m2 c2, .int .i64 TP.1.cond.k, .slice a3 m3 c3], .agg #[.int .i64 0, .int .i64 0]]) ?_ rfl ⟨_, rfl, ?_, ?_⟩
    · rw [results_cells2 rfl]
      go_simp
    · refine TestAt.mono (base := w.heap.size + 2) ?_ (by omega)
      repeat' (first | with_reducible refine TestAt.setFar ?_ (by omega) _ | with_reducible refine TestAt.drew ?_ | with_reducible refine TestAt.alloc ?_ _ | with_reducible exact HT.out)
    · repeat' (first | with_reducible refine On.setNew ?_ (by omega) _ | with_reducible refine On.drew ?_ | with_reducible refine On.alloc ?_ _ | with_reducible exact W4.out)

/-- PARSE. -/
theorem parseGo_is (s : ByteArray) (hs : s.size ≤ 140737488351232) (w : World) (hw : Lw w) :
    Calls Tryz.prog 11 #[.string s] w (ParsePost w (parseP s)) := by
  unfold parseP
  by_cases h : 4000 < s.size
  · rw [if_pos h]
    refine (parse_long s h hs w).mono ?_
    rintro e w' ⟨rfl, k⟩
    exact ⟨_, rfl, testAt_none _ _, k⟩
  · rw [if_neg h]
    exact parse_short s (by omega) w hw
end Go.Proofs.YtacflahkofmcpaaGreatDoor

namespace Go.Proofs.YtacflahkofmcpaaGreatDoor.Wl
open Go.RowKit

/-- The world has grown; nothing that was there has turned. -/
def On (w w' : World) : Prop := Below w.heap.size w w'
theorem On.refl (w : World) : On w w := Below.refl _ _
theorem On.trans {a b c : World} (h : On a b) (k : On b c) : On a c := Below.trans h (Below.mono k h.size)
theorem On.alloc {w w' : World} (h : On w w') (o : Obj) : On w (w'.alloc o) := Below.alloc h h.size o
theorem On.setNew {w x : World} {N i : Nat} (h : On w x) (hN : w.heap.size ≤ N) (u : Value) : On w (x.setCell ⟨N, i, none⟩ u) := Below.setCell h hN u
theorem On.drewN {w w' : World} (h : On w w') (n : Nat) : On w (w'.drewN n) := ⟨h.os, h.tape, h.output, h.size, h.block⟩
theorem On.drew {w x : World} (h : On w x) : On w x.drew := Below.drew h

/-- Block N holds these cells. -/
def Bk (w : World) (N : Nat) (cs : Array Value) : Prop := ∃ T, w.heap[N]? = some (.cells cs T (0, 0))
section
variable {w w' : World} {N : Nat} {cs : Array Value}
theorem Bk.new (w : World) (cs : Array Value) (T : TypeId) : Bk (w.alloc (.cells cs T)) w.heap.size cs := ⟨T, heap_alloc_new w _⟩
theorem Bk.alloc (h : Bk w N cs) (o : Obj) : Bk (w.alloc o) N cs := by
  obtain ⟨T, e⟩ := h
  exact ⟨T, (Below.heap_alloc _ _ _ (lt_of_block e)).trans e⟩
theorem Bk.lt (h : Bk w N cs) : N < w.heap.size := by obtain ⟨T, e⟩ := h; exact lt_of_block e
theorem Bk.at {i : Nat} {v : Value} (h : Bk w N cs) (hv : cs[i]? = some v) : w.cell? ⟨N, i, none⟩ = some v := by obtain ⟨T, e⟩ := h; simp [World.cell?, e, hv]
theorem Bk.fr (h : Bk w N cs) (i : Nat) : w.frozen? ⟨N, i, none⟩ = false := by obtain ⟨T, e⟩ := h; simp [World.frozen?, e]
theorem Bk.on (h : Bk w N cs) (k : On w w') : Bk w' N cs := by
  obtain ⟨T, e⟩ := h
  exact ⟨T, (k.block N (lt_of_block e)).trans e⟩
end
end Go.Proofs.YtacflahkofmcpaaGreatDoor.Wl

namespace Go.Proofs.YtacflahkofmcpaaGreatDoor.Wl

structure Opd where
  r : Int
  v : Int
structure InsT where
  k : Int
  r : Int
  l : Int
  a : Opd
  o : Int
  b : Opd
  n : Int
structure AtomT where
  t : Int
  r : Int
  l : Int
  v : Int
structure InitT where
  l : Int
  v : Int
structure CondT where
  k : Int
  any : List (List AtomT)
structure TestT where
  name : ByteArray
  ini : List InitT
  thr : List (List InsT)
  cond : CondT

def regOk (n : Int) : Bool := decide (0 ≤ n) && decide (n ≤ 3)
def locOk (n : Int) : Bool := decide (97 ≤ n) && decide (n ≤ 122)
def opdOk (o : Opd) : Bool := o.r == -1 || (o.v == 0 && regOk o.r)
def signOk (n : Int) : Bool := decide (1 ≤ n) && decide (n ≤ 11)
def secOk (op : Int) (b : Opd) : Bool := if op == 0 then b.r == -1 && b.v == 0 else signOk op && opdOk b
/-- An instruction that may be. -/
def insOk (i : InsT) : Bool :=
  if i.k == 1 then (i.r == 0 && i.o == 0 && i.b.r == 0 && i.b.v == 0 && i.n == 0) && locOk i.l && opdOk i.a
  else if i.k == 2 then (i.a.r == 0 && i.a.v == 0 && i.o == 0 && i.b.r == 0 && i.b.v == 0 && i.n == 0) && regOk i.r && locOk i.l
  else if i.k == 3 then i.r == 0 && i.l == 0 && i.a.r == 0 && i.a.v == 0 && i.o == 0 && i.b.r == 0 && i.b.v == 0 && i.n == 0
  else if i.k == 4 then (i.o == 0 && i.n == 0) && regOk i.r && locOk i.l && opdOk i.a && opdOk i.b
  else if i.k == 5 then (i.l == 0 && i.n == 0) && regOk i.r && opdOk i.a && secOk i.o i.b
  else if i.k == 6 then (i.r == 0 && i.l == 0 && i.o == 0) && decide (0 ≤ i.n) && opdOk i.a && opdOk i.b
  else false
def atomOk (x : AtomT) : Bool := if x.t == -1 then x.r == 0 && locOk x.l else x.l == 0 && decide (0 ≤ x.t) && decide (x.t ≤ 9) && regOk x.r
def initOk (x : InitT) : Bool := locOk x.l
def threadOk (L : List InsT) : Bool := L.all insOk
def rowOk (L : List AtomT) : Bool := decide (0 < L.length) && L.all atomOk
def condOk (c : CondT) : Bool := if c.k == 0 then c.any.length == 0 else if c.k == 1 || c.k == 2 then decide (0 < c.any.length) && c.any.all rowOk else false
/-- A byte of a word, at a place. -/
def chOk (i : Nat) (c : UInt8) : Bool := locOk c.toNat || (decide (0 < i) && (decide (48 ≤ c.toNat) && decide (c.toNat ≤ 57)))
def chsOk : Nat → List UInt8 → Bool
  | _, [] => true
  | i, c :: r => chOk i c && chsOk (i + 1) r
def wordOk (s : ByteArray) : Bool := chsOk 0 s.data.toList && decide (0 < s.size)
/-- A test that may be. -/
def testOk (t : TestT) : Bool := wordOk t.name && t.ini.all initOk && t.thr.all threadOk && condOk t.cond

/-- Letters as bits. -/
def withL (n : Nat) (l : Int) : Nat := if 97 ≤ l ∧ l ≤ 122 then n ||| 2 ^ (l - 97).toNat else n
def locIni (n : Nat) (L : List InitT) : Nat := L.foldl (fun n x => withL n x.l) n
def locRow (n : Nat) (L : List InsT) : Nat := L.foldl (fun n x => withL n x.l) n
def locThr (n : Nat) (LL : List (List InsT)) : Nat := LL.foldl locRow n
def locAts (n : Nat) (L : List AtomT) : Nat := L.foldl (fun n x => withL n x.l) n
def locAny (n : Nat) (LL : List (List AtomT)) : Nat := LL.foldl locAts n
def locsN (t : TestT) : Nat := locAny (locThr (locIni 0 t.ini) t.thr) t.cond.any
/-- How many letters, and which, rising. -/
def cntN (n : Nat) : Nat := ((List.range 26).filter (fun i => n.testBit i)).length
def lettersN (n : Nat) : List UInt8 := ((List.range 26).filter (fun i => n.testBit i)).map (fun i => UInt8.ofNat (97 + i))

def sumL (LL : List (List InsT)) : Nat := LL.foldl (fun n L => n + L.length) 0
def thrBig (LL : List (List InsT)) : Bool := (LL.length == 0 || decide (4 < LL.length)) || (LL.any (fun L => decide (10 < L.length)) || decide (24 < sumL LL))
def condBig (LL : List (List AtomT)) : Bool := LL.any (fun L => decide (8 < L.length)) || decide (8 < LL.length)
def bigT (t : TestT) : Bool := decide (20 < t.name.size) || thrBig t.thr || decide (4 < cntN (locsN t)) || condBig t.cond.any
def twiceFrom : Nat → List InitT → Bool
  | _, [] => false
  | n, x :: r => if withL n x.l == n then true else twiceFrom (withL n x.l) r
def skipBad : List InsT → Bool
  | [] => false
  | x :: r => (x.k == 6 && (x.n == 0 || decide ((r.length : Int) < x.n))) || skipBad r
def farAtom (m : Nat) (x : AtomT) : Bool := decide ((m : Int) ≤ x.t)
def nowhere (t : TestT) : Bool := t.thr.any skipBad || t.cond.any.any (fun L => L.any (farAtom t.thr.length))
/-- What Check tells. -/
def checkT (t : TestT) : Int := if testOk t then (if bigT t then 8 else if twiceFrom 0 t.ini then 9 else if nowhere t then 10 else 0) else 1
end Go.Proofs.YtacflahkofmcpaaGreatDoor.Wl

namespace Go.Proofs.YtacflahkofmcpaaGreatDoor.Wl
open Go.RowKit

def iniC (x : InitT) : List Value := [.int .i64 x.l, .int .i64 x.v]
def atomC (x : AtomT) : List Value := [.int .i64 x.t, .int .i64 x.r, .int .i64 x.l, .int .i64 x.v]
def insC (x : InsT) : List Value := [.int .i64 x.k, .int .i64 x.r, .int .i64 x.l, .int .i64 x.a.r, .int .i64 x.a.v, .int .i64 x.o, .int .i64 x.b.r, .int .i64 x.b.v, .int .i64 x.n]

/-- v holds this list: each thing k cells, one behind the other. -/
def Rd {α : Type} (C : α → List Value) (k : Nat) (w : World) (v : Value) (L : List α) : Prop :=
  ∃ a c, v = .slice a L.length c ∧ L.length ≤ c ∧ L.length ≤ 9223372036854775807 ∧
    (0 < L.length → ∃ g off, a = some ⟨g, off, none⟩ ∧ g < w.heap.size ∧ ∀ (i : Nat) (x : α) (j : Nat) (u : Value), L[i]? = some x → (C x)[j]? = some u → w.cell? ⟨g, off + i * k + j, none⟩ = some u)
def oneC (v : Value) : List Value := [v]
/-- v holds these rows. -/
def Rd2 {α : Type} (C : α → List Value) (k : Nat) (w : World) (v : Value) (LL : List (List α)) : Prop :=
  ∃ vs : List Value, vs.length = LL.length ∧ Rd oneC 1 w v vs ∧ ∀ (i : Nat) (u : Value) (L : List α), vs[i]? = some u → LL[i]? = some L → Rd C k w u L
theorem flat_at {α : Type} (C : α → List Value) (n : Nat) (hC : ∀ x, (C x).length = n) : ∀ (L : List α) (k j : Nat) (x : α), L[k]? = some x → j < n → (L.flatMap C)[k * n + j]? = (C x)[j]?
  | [], k, j, x, h, _ => by simp at h
  | y :: L, 0, j, x, h, hj => by
    simp only [List.getElem?_cons_zero, Option.some.injEq] at h
    subst h
    rw [List.flatMap_cons, Nat.zero_mul, Nat.zero_add, List.getElem?_append_left (by rw [hC]; exact hj)]
  | y :: L, k + 1, j, x, h, hj => by
    rw [List.getElem?_cons_succ] at h
    rw [List.flatMap_cons, List.getElem?_append_right (by rw [hC, Nat.succ_mul]; omega), hC]
    have e : (k + 1) * n + j - n = k * n + j := by rw [Nat.succ_mul]; omega
    rw [e]
    exact flat_at C n hC L k j x h hj
theorem own_cells {w : World} {base k n : Nat} {e : TypeId} {v : Value} {xs : List Value} (h : w.ownsRow base e k v n xs) (hn : 0 < n) :
    ∃ g cap, v = .slice (some ⟨g, 0, none⟩) n cap ∧ n ≤ cap ∧ base ≤ g ∧ g < w.heap.size ∧ ∀ i u, xs[i]? = some u → w.cell? ⟨g, i, none⟩ = some u := by
  rcases h.2 with ⟨_, h0⟩ | ⟨g, cap, cur, hv, hb, hh, hc, _, _, ht⟩
  · omega
  · refine ⟨g, cap, hv, hc, hb, lt_of_block hh, fun i u hi => ?_⟩
    rw [← ht, List.getElem?_take] at hi
    split at hi
    · simp only [World.cell?, hh]
      simpa using hi
    · cases hi
theorem own_max {w : World} {base k n : Nat} {e : TypeId} {v : Value} {xs : List Value} (h : w.ownsRow base e k v n xs) : n ≤ 9223372036854775807 := by
  rcases h.2 with ⟨_, h0⟩ | ⟨g, cap, cur, hv, hb, hh, hc, hm, _⟩
  · omega
  · exact Nat.le_trans hc hm
section
variable {α : Type} {C : α → List Value} {k : Nat} {w w' : World} {v : Value} {L : List α} {LL : List (List α)}
theorem Rd.on (h : Rd C k w v L) (o : On w w') : Rd C k w' v L := by
  obtain ⟨a, c, hv, hc, hm, h⟩ := h
  refine ⟨a, c, hv, hc, hm, fun hl => ?_⟩
  obtain ⟨g, off, ha, hg, hr⟩ := h hl
  exact ⟨g, off, ha, Nat.lt_of_lt_of_le hg o.size, fun i x j u hi hj => (o.cell (p := ⟨g, off + i * k + j, none⟩) hg).trans (hr i x j u hi hj)⟩
theorem Rd2.on (h : Rd2 C k w v LL) (o : On w w') : Rd2 C k w' v LL := by
  obtain ⟨vs, h1, h2, h3⟩ := h
  exact ⟨vs, h1, h2.on o, fun i u L a b => (h3 i u L a b).on o⟩
theorem Rd.nil (C : α → List Value) (k : Nat) (w : World) : Rd C k w (.slice none 0 0) [] := ⟨none, 0, rfl, Nat.le_refl _, by simp, fun h => absurd h (Nat.lt_irrefl 0)⟩
theorem Rd2.nil (C : α → List Value) (k : Nat) (w : World) : Rd2 C k w (.slice none 0 0) [] := ⟨[], rfl, Rd.nil _ _ _, fun i u L a _ => by simp at a⟩
theorem Rd.slice (h : Rd C k w v L) : ∃ a c, v = .slice a L.length c ∧ L.length ≤ c ∧ L.length ≤ 9223372036854775807 := by
  obtain ⟨a, c, hv, hc, hm, _⟩ := h
  exact ⟨a, c, hv, hc, hm⟩
theorem Rd2.slice (h : Rd2 C k w v LL) : ∃ a c, v = .slice a LL.length c ∧ LL.length ≤ c ∧ LL.length ≤ 9223372036854775807 := by
  obtain ⟨vs, h1, h2, _⟩ := h
  rw [← h1]
  exact h2.slice
theorem Rd.own {base : Nat} {e : TypeId} (hC : ∀ x, (C x).length = k) (h : w.ownsRow base e k v L.length (L.flatMap C)) : Rd C k w v L := by
  rcases Nat.eq_zero_or_pos L.length with h0 | h0
  · obtain rfl : L = [] := List.eq_nil_of_length_eq_zero h0
    rcases h.2 with ⟨hv, _⟩ | ⟨g, cap, cur, hv, hb, hh, hc, hm, _⟩
    · rw [hv]; exact Rd.nil _ _ _
    · exact ⟨_, cap, hv, hc, by simp, fun h => absurd h (Nat.lt_irrefl 0)⟩
  · obtain ⟨g, cap, hv, hc, _, hg, hr⟩ := own_cells h h0
    refine ⟨_, cap, hv, hc, own_max h, fun _ => ⟨g, 0, rfl, hg, fun i x j u hi hj => ?_⟩⟩
    rw [Nat.zero_add]
    refine hr _ _ ?_
    have hj' : j < k := by have := (List.getElem?_eq_some_iff.1 hj).1; rwa [hC] at this
    rw [flat_at C k hC L i j x hi hj', hj]
theorem Rd.at {a : Option Addr} {c : Nat} (h : Rd C k w (.slice a L.length c) L) {i : Nat} {x : α} (hi : L[i]? = some x) :
    ∃ g off, a = some ⟨g, off, none⟩ ∧ g < w.heap.size ∧ ∀ (j : Nat) (u : Value), (C x)[j]? = some u → w.cell? ⟨g, off + i * k + j, none⟩ = some u := by
  obtain ⟨a', c', hv, hc, hm, hr⟩ := h
  simp only [Value.slice.injEq] at hv
  obtain ⟨rfl, _, rfl⟩ := hv
  have hlt : i < L.length := (List.getElem?_eq_some_iff.1 hi).1
  obtain ⟨g, off, ha, hg, hcell⟩ := hr (by omega)
  exact ⟨g, off, ha, hg, fun j u hj => hcell i x j u hi hj⟩
theorem Rd2.row {a : Option Addr} {c : Nat} (h : Rd2 C k w (.slice a LL.length c) LL) {i : Nat} {L : List α} (hi : LL[i]? = some L) :
    ∃ g off, a = some ⟨g, off, none⟩ ∧ g < w.heap.size ∧ ∃ ax cx, w.cell? ⟨g, off + i, none⟩ = some (.slice ax L.length cx) ∧ L.length ≤ 9223372036854775807 ∧ Rd C k w (.slice ax L.length cx) L := by
  obtain ⟨vs, hl, h1, h2⟩ := h
  have hlt : i < LL.length := (List.getElem?_eq_some_iff.1 hi).1
  obtain ⟨u, hu⟩ : ∃ u, vs[i]? = some u := ⟨_, List.getElem?_eq_getElem (by omega)⟩
  rw [← hl] at h1
  obtain ⟨g, off, ha, hg, hc⟩ := h1.at hu
  have hr := h2 i u L hu hi
  obtain ⟨ax, cx, rfl, _, hm⟩ := hr.slice
  exact ⟨g, off, ha, hg, ax, cx, by have := hc 0 _ rfl; simpa using this, hm, hr⟩
end
end Go.Proofs.YtacflahkofmcpaaGreatDoor.Wl

namespace Go.Proofs.YtacflahkofmcpaaGreatDoor.Wl
open Go.RowKit

theorem On.grown {x w w' : World} {v : Value} (h : On x w) (hg : w.grownBy w' v.ownBlock) (hv : ∀ g, v.ownBlock = some g → x.heap.size ≤ g) : On x w' :=
  ⟨hg.os.trans h.os, hg.tape.trans h.tape, hg.output.trans h.output, Nat.le_trans h.size hg.size, fun k hk => (hg.block k (Nat.lt_of_lt_of_le hk h.size) (fun e => by have := hv k e.symm; omega)).trans (h.block k hk)⟩
theorem On.grownNone {x w w' : World} (h : On x w) (hg : w.grownBy w' none) : On x w' :=
  ⟨hg.os.trans h.os, hg.tape.trans h.tape, hg.output.trans h.output, Nat.le_trans h.size hg.size, fun k hk => (hg.block k (Nat.lt_of_lt_of_le hk h.size) (fun e => by cases e)).trans (h.block k hk)⟩
theorem own_mono {w : World} {base base' k n : Nat} {e : TypeId} {v : Value} {xs : List Value} (h : w.ownsRow base e k v n xs) (hb : base' ≤ base) : w.ownsRow base' e k v n xs := by
  refine ⟨h.1, ?_⟩
  rcases h.2 with h2 | ⟨g, cap, cur, hv, hg, r⟩
  · exact Or.inl h2
  · exact Or.inr ⟨g, cap, cur, hv, by omega, r⟩
theorem own_on {w w' : World} {base k n : Nat} {e : TypeId} {v : Value} {xs : List Value} (h : w.ownsRow base e k v n xs) (o : On w w') : w'.ownsRow base e k v n xs := by
  refine ⟨h.1, ?_⟩
  rcases h.2 with h2 | ⟨g, cap, cur, hv, hb, hh, r⟩
  · exact Or.inl h2
  · exact Or.inr ⟨g, cap, cur, hv, hb, (o.block g (lt_of_block hh)).trans hh, r⟩
/-- A row of one, just laid. -/
theorem own_one (w : World) (cs : Array Value) (e : TypeId) (k base : Nat) (hk : cs.size = k) (hb : base ≤ w.heap.size) : (w.alloc (.cells cs e)).ownsRow base e k (.slice (some ⟨w.heap.size, 0, none⟩) 1 1) 1 cs.toList := by
  refine ⟨by simp [hk], Or.inr ⟨w.heap.size, 1, cs, rfl, hb, heap_alloc_new w _, Nat.le_refl _, by decide, by simp [hk], ?_⟩⟩
  rw [List.take_of_length_le (by simp [hk])]
theorem new_cell (w : World) (cs : Array Value) (T : TypeId) (j : Nat) : (w.alloc (.cells cs T)).cell? ((⟨w.heap.size, 0, none⟩ : Addr).add j) = cs.toList[j]? := by
  have h := heap_alloc_new w (.cells cs T)
  rw [Addr.add_lit, Nat.zero_add, Array.getElem?_toList]
  unfold World.cell?
  simp only [h]
  rfl
theorem own_slice {w : World} {base k n : Nat} {e : TypeId} {v : Value} {xs : List Value} (h : w.ownsRow base e k v n xs) : ∃ a c, v = .slice a n c := by
  rcases h.2 with ⟨hv, h0⟩ | ⟨g, cap, cur, hv, _⟩
  · exact ⟨_, 0, by rw [hv, h0]⟩
  · exact ⟨_, _, hv⟩
theorem own_far {w w' : World} {b1 b2 k1 k2 n m : Nat} {eo ei : TypeId} {u v : Value} {xs ys : List Value} (h : w.ownsRow b1 ei k1 u n xs) (ho : w.ownsRow b2 eo k2 v m ys) (hne : eo ≠ ei) (hg : w.grownBy w' v.ownBlock) : w'.ownsRow b1 ei k1 u n xs := by
  refine ⟨h.1, ?_⟩
  rcases h.2 with h2 | ⟨g, cap, cur, hv, hb, hh, r⟩
  · exact Or.inl h2
  · refine Or.inr ⟨g, cap, cur, hv, hb, (hg.block g (lt_of_block hh) (fun e => ?_)).trans hh, r⟩
    rcases ho.2 with ⟨hv2, _⟩ | ⟨g2, cap2, cur2, hv2, hb2, hh2, _⟩
    · rw [hv2] at e; cases e
    · rw [hv2] at e
      simp only [Value.ownBlock, Option.some.injEq] at e
      subst e
      rw [hh] at hh2
      simp only [Option.some.injEq, Obj.cells.injEq] at hh2
      exact hne hh2.2.1.symm
theorem Bk.grown {w w' : World} {N base : Nat} {cs : Array Value} {v : Value} (h : Bk w N cs) (hg : w.grownBy w' v.ownBlock) (hN : N < base) (ho : ∀ g, v.ownBlock = some g → base ≤ g) : Bk w' N cs := by
  obtain ⟨T, e⟩ := h
  exact ⟨T, (hg.block N (lt_of_block e) (fun h => by have := ho N h.symm; omega)).trans e⟩

/-- append to a row of the call's own, as one step of a region that draws. -/
theorem step_append_own {P : Program} {ops : Array Oper} {o : Oper} {a : Act} {w : World} {K : Act → World → Prop} {Q : Exit → Act → World → Prop} {E : Prop} (hg : o.guard = none) (s x : Operand) (t : TypeId)
    (ho : o.op = .call { callee := .builtin .append, args := #[s, x], argTypes := #[t, t] })
    (base : Nat) (e : TypeId) (i : TypeInfo) (z : Value) (size bytes : Nat) (ht : P.underlying t = some (.slice e)) (hi : P.info? e = some i) (hz : i.zero = some z)
    (hsize : i.size = size) (hby : i.bytes = bytes) (hzs : z.cells.size = size) (hsz : 0 < size)
    (v : Value) (n : Nat) (xs : List Value) (hs : a.eval s = v) (hown : w.ownsRow base e size v n xs)
    (ad : Addr) (m c : Nat) (news : List Value) (hx : a.eval x = .slice (some ad) m c) (hl : news.length = m * size) (hnews : ∀ j u, news[j]? = some u → w.cell? (ad.add j) = some u) (h1 : ∀ u ∈ news, u.oneCell' = true)
    (h63 : n + m ≤ maxLen) (hbytes : (n + m) * bytes ≤ 140737488355328) (hbase : base ≤ w.heap.size)
    (h : ∀ v' w', w'.ownsRow base e size v' (n + m) (xs ++ news) → w.grownBy w' v.ownBlock → K (a.put o.dst v') w') : if Region.wanted o (yielded ops a.tmps) = true then Oper.wp P o a w K Q else E := by
  have hw : Region.wanted o (yielded ops a.tmps) = true := by simp [Region.wanted, hg]
  rw [if_pos hw]
  exact wp_append_own w s x t ho base e i z size bytes ht hi hz hsize hby hzs hsz v n xs hs hown ad m c news hx hl hnews h1 h63 hbytes hbase fun v' w' h2 h3 _ => h v' w' h2 h3

/-- v holds rows of rows. -/
def Own2 {α : Type} (C : α → List Value) (k : Nat) (eo ei : TypeId) (w : World) (base : Nat) (v : Value) (LL : List (List α)) : Prop :=
  ∃ vs : List Value, vs.length = LL.length ∧ w.ownsRow base eo 1 v LL.length vs ∧ ∀ (i : Nat) (u : Value) (L : List α), vs[i]? = some u → LL[i]? = some L → w.ownsRow base ei k u L.length (L.flatMap C)
section
variable {α : Type} {C : α → List Value} {k : Nat} {eo ei : TypeId} {w w' : World} {base : Nat} {v : Value} {LL : List (List α)}
theorem Own2.on (h : Own2 C k eo ei w base v LL) (o : On w w') : Own2 C k eo ei w' base v LL := by
  obtain ⟨vs, h1, h2, h3⟩ := h
  exact ⟨vs, h1, own_on h2 o, fun i u L a b => own_on (h3 i u L a b) o⟩
theorem Own2.nil (C : α → List Value) (k : Nat) (eo ei : TypeId) (w : World) (base : Nat) : Own2 C k eo ei w base (.slice none 0 0) [] :=
  ⟨[], rfl, World.ownsRow_nil _ _ _ _, fun i u L a _ => by simp at a⟩
theorem Own2.snoc {vs : List Value} {v' u : Value} {L : List α} (hn : vs.length = LL.length) (ho : w.ownsRow base eo 1 v LL.length vs) (hs : ∀ (i : Nat) (u : Value) (L : List α), vs[i]? = some u → LL[i]? = some L → w.ownsRow base ei k u L.length (L.flatMap C))
    (hne : eo ≠ ei) (hg : w.grownBy w' v.ownBlock) (ho' : w'.ownsRow base eo 1 v' (LL.length + 1) (vs ++ [u])) (hu : w.ownsRow base ei k u L.length (L.flatMap C)) : Own2 C k eo ei w' base v' (LL ++ [L]) := by
  refine ⟨vs ++ [u], by simp [hn], by simpa using ho', fun i x M a b => ?_⟩
  rcases Nat.lt_or_ge i vs.length with h | h
  · rw [List.getElem?_append_left h] at a
    rw [List.getElem?_append_left (by omega)] at b
    exact own_far (hs i x M a b) ho hne hg
  · have hi : i = vs.length := by
      rcases Nat.lt_or_ge vs.length i with h' | h'
      · rw [List.getElem?_eq_none (by simp; omega)] at a; cases a
      · omega
    subst hi
    simp only [List.getElem?_concat_length, Option.some.injEq] at a
    rw [hn] at b
    simp only [List.getElem?_concat_length, Option.some.injEq] at b
    subst a; subst b
    exact own_far hu ho hne hg
theorem Own2.slice (h : Own2 C k eo ei w base v LL) : ∃ a c, v = .slice a LL.length c := by
  obtain ⟨vs, _, h2, _⟩ := h
  exact own_slice h2
theorem flat_one : ∀ vs : List Value, vs.flatMap oneC = vs
  | [] => rfl
  | v :: vs => by rw [List.flatMap_cons, flat_one vs]; rfl
/-- Such rows can be read. -/
theorem Own2.rd (hC : ∀ x, (C x).length = k) (h : Own2 C k eo ei w base v LL) : Rd2 C k w v LL := by
  obtain ⟨vs, h1, h2, h3⟩ := h
  refine ⟨vs, h1, Rd.own (fun _ => rfl) (e := eo) (base := base) (by rw [flat_one, h1]; exact h2), fun i u L a b => Rd.own hC (h3 i u L a b)⟩
end
end Go.Proofs.YtacflahkofmcpaaGreatDoor.Wl
