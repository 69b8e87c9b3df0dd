/- PARSE: what parse.Parse answers of any text. -/
import Derived.Test.YtacflahkofmcpaaGreatDoorJ15ParseTest
import Derived.Test.YtacflahkofmcpaaGreatDoorJ10OpW
namespace Go.Proofs.YtacflahkofmcpaaGreatDoor
open Go.RowKit

/-- What Parse answers: the test, or none and the error. -/
def noTest : TestT := ⟨⟨#[]⟩, [], [], ⟨0, []⟩⟩
def startS (s : ByteArray) : St := norm s 0
def endP (R : TestT × St) : TestT × Nat × Nat := if flB R.2 then (noTest, erC R.2, erP R.2) else (R.1, 0, 0)
def parseP (s : ByteArray) : TestT × Nat × Nat := if 4000 < s.size then (noTest, 2, 4000) else endP (testP s (startS s))

theorem testAt_none (w : World) (base : Nat) : TestAt w base (.agg #[.string ⟨#[]⟩, .slice none 0 0, .slice none 0 0, .int .i64 0, .slice none 0 0]) noTest :=
  ⟨none, 0, 0, none, 0, 0, none, 0, 0, rfl, World.ownsRow_nil _ _ _ _, Own2.nil _ _ _ _ _ _, Own2.nil _ _ _ _ _ _⟩
theorem Bk.on {w w' : World} {N : Nat} {cs : Array Value} (h : Bk w N cs) (k : On w w') : Bk w' N cs := by
  obtain ⟨T, e⟩ := h
  exact ⟨T, (k.block N (lt_of_block e)).trans e⟩
theorem On.wp {p l : Nat} {w x y : World} (h : On w x) (k : Wp p l x y) (hp : w.heap.size ≤ p) (hl : w.heap.size ≤ l) : On w y :=
  Below.trans h ⟨k.os, k.tape, k.output, k.size, fun i hi => k.block i (Nat.lt_of_lt_of_le hi h.size) (by omega) (by omega)⟩

set_option maxHeartbeats 2000000
set_option maxRecDepth 8000
theorem parse_long (s : ByteArray) (hl : 4000 < s.size) (hs : s.size ≤ 140737488351232) (w : World) :
    Calls Tryz.prog 11 #[.string s] w fun e w' => e = .returned (.tuple #[.agg #[.string ⟨#[]⟩, .slice none 0 0, .slice none 0 0, .int .i64 0, .slice none 0 0], .agg #[.int .i64 2, .int .i64 4000]]) ∧ On w w' := by
  have hA := fun W : World => all_long s hl hs W
  go_enter Tryz.func11, Tryz.ntmps11
  go_wp2_with fail
  refine (hA _).mono ?_
  rintro e w1 ⟨rfl, k1⟩
  have W1 : Hid (On w w1) := (((On.refl w).alloc _).alloc _).trans k1
  obtain ⟨T, hb⟩ := ((Bk.new w _ _).alloc _).on k1
  obtain ⟨U, ha⟩ := (Bk.new2 w _ _ _).on k1
  have L0 := lt_of_block hb
  have L1 := lt_of_block ha
  have dc0 : w1.cell? ⟨w.heap.size, 0, none⟩ = some (.string ⟨#[]⟩) := by simp [World.cell?, hb]
  have dc1 : w1.cell? ⟨w.heap.size, 1, none⟩ = some (.slice none 0 0) := by simp [World.cell?, hb]
  have dc2 : w1.cell? ⟨w.heap.size, 2, none⟩ = some (.slice none 0 0) := by simp [World.cell?, hb]
  have dc3 : w1.cell? ⟨w.heap.size, 3, none⟩ = some (.int .i64 0) := by simp [World.cell?, hb]
  have dc4 : w1.cell? ⟨w.heap.size, 4, none⟩ = some (.slice none 0 0) := by simp [World.cell?, hb]
  have df0 : w1.frozen? ⟨w.heap.size, 0, none⟩ = false := by simp [World.frozen?, hb]
  have df1 : w1.frozen? ⟨w.heap.size, 1, none⟩ = false := by simp [World.frozen?, hb]
  have df2 : w1.frozen? ⟨w.heap.size, 2, none⟩ = false := by simp [World.frozen?, hb]
  have df3 : w1.frozen? ⟨w.heap.size, 3, none⟩ = false := by simp [World.frozen?, hb]
  have df4 : w1.frozen? ⟨w.heap.size, 4, none⟩ = false := by simp [World.frozen?, hb]
  have ac0 : w1.cell? ⟨w.heap.size + 1, 0, none⟩ = some (.int .i64 0) := by simp [World.cell?, ha]
  have ac1 : w1.cell? ⟨w.heap.size + 1, 1, none⟩ = some (.int .i64 0) := by simp [World.cell?, ha]
  have af0 : w1.frozen? ⟨w.heap.size + 1, 0, none⟩ = false := by simp [World.frozen?, ha]
  have af1 : w1.frozen? ⟨w.heap.size + 1, 1, none⟩ = false := by simp [World.frozen?, ha]
  clear hb ha k1 hA
  go_wp2
  go_region
  all_goals (try go_wp2)
  all_goals (try simp only [Exit.inBlock, Exit.then])
  all_goals
    refine bodyPost_ret (v := .tuple #[.agg #[.string ⟨#[]⟩, .slice none 0 0, .slice none 0 0, .int .i64 0, .slice none 0 0], .agg #[.int .i64 2, .int .i64 4000]]) ?_ rfl ⟨rfl, ?_⟩
    · rw [results_cells2 rfl]
      go_simp
    · repeat' (first | with_reducible refine On.setNew ?_ (by omega) _ | with_reducible refine On.drew ?_ | with_reducible refine On.alloc ?_ _ | with_reducible exact W1.out)

/-- The first token. -/
theorem next_first (w : World) (p l : Nat) (s : ByteArray) (hsz : s.size ≤ 4000) (hb : Bk w p #[.pointer (some ⟨l, 0, none⟩), .int .i64 0, .string ⟨#[]⟩, .int .i64 0, .int .i64 0, .int .i64 0]) (hl : Lx w l s 0 0) (hne : p ≠ l) (gp : 6 ≤ p) (gl : 6 ≤ l) (hw : Lw w) :
    Calls Tryz.prog 30 #[.pointer (some ⟨p, 0, none⟩)] w fun e w' => e = .returned (.tuple #[]) ∧ Px w' p l s (startS s) ∧ Wp p l w w' := by
  have hN := next_is w l s 0 0 (by omega) ⟨Nat.le_refl _, by omega, Nat.zero_le _, Nat.zero_le _⟩ hl gl hw
  have c0 : w.cell? ⟨p, 0, none⟩ = some (.pointer (some ⟨l, 0, none⟩)) := Bk.at hb rfl
  have hlt := hl.lt
  have hlw : ∀ w', Wp p l w w' → Lw w' := fun w' k => hw.far fun i hi => k.block i (Nat.lt_of_lt_of_le hi hw.lt) (by omega) (by omega)
  have hvd : Vd s (norm s 0) := vd_norm s (Nat.zero_le _)
  have HL : Hid (Lw w) := hw
  unfold tkV erV at hN
  unfold startS
  by_cases h0 : eC pB s 0 = 0
  · simp only [h0, if_true] at hN
    rw [norm_ok s h0] at hvd ⊢
    clear hl hw
    go_enter Tryz.func30, Tryz.ntmps30
    go_wp2_with fail
    refine hN.mono ?_
    rintro e w1 ⟨rfl, hl1, _, hw1⟩
    have hWp := Wp.of_wr (p := p) hw1
    obtain ⟨T, hbb⟩ := hb
    have hb1 := (hw1.block p (lt_of_block hbb) (by simpa using hne)).trans hbb
    have dc0 : w1.cell? ⟨p, 0, none⟩ = some (.pointer (some ⟨l, 0, none⟩)) := by simp [World.cell?, hb1]
    have dc1 : w1.cell? ⟨p, 1, none⟩ = some (.int .i64 0) := by simp [World.cell?, hb1]
    have dc2 : w1.cell? ⟨p, 2, none⟩ = some (.string ⟨#[]⟩) := by simp [World.cell?, hb1]
    have dc3 : w1.cell? ⟨p, 3, none⟩ = some (.int .i64 0) := by simp [World.cell?, hb1]
    have dc4 : w1.cell? ⟨p, 4, none⟩ = some (.int .i64 0) := by simp [World.cell?, hb1]
    have dc5 : w1.cell? ⟨p, 5, none⟩ = some (.int .i64 0) := by simp [World.cell?, hb1]
    have df0 : w1.frozen? ⟨p, 0, none⟩ = false := by simp [World.frozen?, hb1]
    have df1 : w1.frozen? ⟨p, 1, none⟩ = false := by simp [World.frozen?, hb1]
    have df2 : w1.frozen? ⟨p, 2, none⟩ = false := by simp [World.frozen?, hb1]
    have df3 : w1.frozen? ⟨p, 3, none⟩ = false := by simp [World.frozen?, hb1]
    have df4 : w1.frozen? ⟨p, 4, none⟩ = false := by simp [World.frozen?, hb1]
    have df5 : w1.frozen? ⟨p, 5, none⟩ = false := by simp [World.frozen?, hb1]
    have HB : Hid (w1.heap[p]? = some (.cells #[.pointer (some ⟨l, 0, none⟩), .int .i64 0, .string ⟨#[]⟩, .int .i64 0, .int .i64 0, .int .i64 0] T (0, 0))) := hb1
    clear hbb hb1 hN c0
    go_wp2
    go_end0
    refine ⟨rfl, ⟨⟨T, ?_⟩, fun a' e => ?_, ?_, hne, gp, gl, ?_, hsz, hvd⟩, (((((Wp.of_wr hw1).set _).set _).set _).set _).set _⟩
    · exact heap_set (heap_set (heap_set (heap_set (heap_set HB.out))))
    · obtain rfl : 0 = a' := by simpa using e
      obtain ⟨r, hi, T', e'⟩ := hl1 trivial
      refine ⟨r, hi, T', ?_⟩
      rw [set_far _ hne, set_far _ hne, set_far _ hne, set_far _ hne, set_far _ hne]
      exact e'
    · have := hw1.size; simp [World.setCell]; omega
    · exact hlw _ ((((((Wp.of_wr hw1).set _).set _).set _).set _).set _)
  · simp only [h0, if_false] at hN
    rw [norm_err s h0] at hvd ⊢
    clear hl hw
    go_enter Tryz.func30, Tryz.ntmps30
    go_wp2_with fail
    refine hN.mono ?_
    rintro e w1 ⟨rfl, _, hl1, hw1⟩
    have hWp := Wp.of_wr (p := p) hw1
    obtain ⟨T, hbb⟩ := hb
    have hb1 := (hw1.block p (lt_of_block hbb) (by simpa using hne)).trans hbb
    have dc0 : w1.cell? ⟨p, 0, none⟩ = some (.pointer (some ⟨l, 0, none⟩)) := by simp [World.cell?, hb1]
    have dc1 : w1.cell? ⟨p, 1, none⟩ = some (.int .i64 0) := by simp [World.cell?, hb1]
    have dc2 : w1.cell? ⟨p, 2, none⟩ = some (.string ⟨#[]⟩) := by simp [World.cell?, hb1]
    have dc3 : w1.cell? ⟨p, 3, none⟩ = some (.int .i64 0) := by simp [World.cell?, hb1]
    have dc4 : w1.cell? ⟨p, 4, none⟩ = some (.int .i64 0) := by simp [World.cell?, hb1]
    have dc5 : w1.cell? ⟨p, 5, none⟩ = some (.int .i64 0) := by simp [World.cell?, hb1]
    have df0 : w1.frozen? ⟨p, 0, none⟩ = false := by simp [World.frozen?, hb1]
    have df1 : w1.frozen? ⟨p, 1, none⟩ = false := by simp [World.frozen?, hb1]
    have df2 : w1.frozen? ⟨p, 2, none⟩ = false := by simp [World.frozen?, hb1]
    have df3 : w1.frozen? ⟨p, 3, none⟩ = false := by simp [World.frozen?, hb1]
    have df4 : w1.frozen? ⟨p, 4, none⟩ = false := by simp [World.frozen?, hb1]
    have df5 : w1.frozen? ⟨p, 5, none⟩ = false := by simp [World.frozen?, hb1]
    have HB : Hid (w1.heap[p]? = some (.cells #[.pointer (some ⟨l, 0, none⟩), .int .i64 0, .string ⟨#[]⟩, .int .i64 0, .int .i64 0, .int .i64 0] T (0, 0))) := hb1
    clear hbb hb1 hN c0
    go_wp2
    go_end0
    refine ⟨rfl, ⟨⟨T, ?_⟩, (fun a' e => by cases e), ?_, hne, gp, gl, ?_, hsz, hvd⟩, (((((Wp.of_wr hw1).set _).set _).set _).set _).set _⟩
    · exact heap_set (heap_set (heap_set (heap_set (heap_set HB.out))))
    · have := hw1.size; simp [World.setCell]; omega
    · exact hlw _ ((((((Wp.of_wr hw1).set _).set _).set _).set _).set _)

theorem toks_code (good : ByteArray → Bool) (s : ByteArray) : ∀ (n a : Nat), (toks good s n a).2.1 = 0 ∨ (toks good s n a).2.1 = 4 ∨ (toks good s n a).2.1 = 5
  | 0, _ => Or.inl rfl
  | n + 1, a => by
    unfold toks
    split
    · show eC good s a = 0 ∨ eC good s a = 4 ∨ eC good s a = 5
      unfold eC
      split
      · exact Or.inr (Or.inl rfl)
      · split
        · exact Or.inr (Or.inr rfl)
        · exact Or.inl rfl
    · split
      · exact Or.inl rfl
      · exact toks_code good s n _
theorem ecS_ne (s : ByteArray) : ((ecS s : Int) == 2) = false := by
  have h := toks_code pB s (s.size + 1 - 0) 0
  have e : ecS s = (toks pB s (s.size + 1 - 0) 0).2.1 := rfl
  rw [← e] at h
  rw [beq_eq_false_iff_ne]
  omega

/-- What Parse's call leaves. -/
def ParsePost (w : World) (R : TestT × Nat × Nat) (e : Ending) (w' : World) : Prop :=
  ∃ v, e = .returned (.tuple #[v, .agg #[.int .i64 R.2.1, .int .i64 R.2.2]]) ∧ TestAt w' w.heap.size v R.1 ∧ On w w'

theorem TestAt.far {w w' : World} {base : Nat} {v : Value} {t : TestT} (h : TestAt w base v t) (k : ∀ i, base ≤ i → i < w.heap.size → w'.heap[i]? = w.heap[i]?) : TestAt w' base v t := by
  have key : ∀ {e : TypeId} {n m : Nat} {u : Value} {xs : List Value}, w.ownsRow base e n u m xs → w'.ownsRow base e n u m xs := by
    intro e n m u xs h
    refine ⟨h.1, ?_⟩
    rcases h.2 with h2 | ⟨g, cap, cur, hv, hb, hh, r⟩
    · exact Or.inl h2
    · exact Or.inr ⟨g, cap, cur, hv, hb, (k g hb (lt_of_block hh)).trans hh, r⟩
  obtain ⟨a1, m1, c1, a2, m2, c2, a3, m3, c3, rfl, o1, ⟨vs, p1, p2, p3⟩, ⟨us, q1, q2, q3⟩⟩ := h
  exact ⟨a1, m1, c1, a2, m2, c2, a3, m3, c3, rfl, key o1, ⟨vs, p1, key p2, fun i u L a b => key (p3 i u L a b)⟩, ⟨us, q1, key q2, fun i u L a b => key (q3 i u L a b)⟩⟩
theorem TestAt.mono {w : World} {base base' : Nat} {v : Value} {t : TestT} (h : TestAt w base v t) (hb : base' ≤ base) : TestAt w base' v t := by
  obtain ⟨a1, m1, c1, a2, m2, c2, a3, m3, c3, rfl, o1, o2, o3⟩ := h
  exact ⟨a1, m1, c1, a2, m2, c2, a3, m3, c3, rfl, own_mono o1 hb, o2.mono hb, o3.mono hb⟩
theorem TestAt.alloc {w : World} {base : Nat} {v : Value} {t : TestT} (h : TestAt w base v t) (o : Obj) : TestAt (w.alloc o) base v t := h.far fun _ _ hi => Below.heap_alloc _ _ _ hi
theorem TestAt.setFar {w : World} {base N i : Nat} {v : Value} {t : TestT} (h : TestAt w base v t) (hN : N < base) (u : Value) : TestAt (w.setCell ⟨N, i, none⟩ u) base v t := h.far fun j hj _ => Below.heap_setCell _ _ _ _ (show j ≠ N by omega)
theorem TestAt.drew {w : World} {base : Nat} {v : Value} {t : TestT} (h : TestAt w base v t) : TestAt w.drew base v t := h.far fun _ _ _ => rfl
theorem TestAt.on {w w' : World} {base : Nat} {v : Value} {t : TestT} (h : TestAt w base v t) (k : On w w') : TestAt w' base v t := h.far fun i _ hi => k.block i hi

theorem parse_short (s : ByteArray) (hsz : s.size ≤ 4000) (w : World) (hw : Lw w) :
    Calls Tryz.prog 11 #[.string s] w (ParsePost w (endP (testP s (startS s)))) := by
  have hA : ∀ W, Lw W → Calls Tryz.prog 28 #[.string s] W fun e w' => ∃ v, e = .returned (.tuple #[v, .agg #[.int .i64 (ecS s), .int .i64 (epS s)]]) ∧ On W w' := fun W h => (all_short s hsz W h).mono fun e w' ⟨v, h1, _, h3⟩ => ⟨v, h1, h3⟩
  have hq := ecS_ne s
  have hlw : ∀ w', On w w' → Lw w' := fun w' k => hw.on k
  have hG := hw.lt
  obtain ⟨R, hR⟩ : ∃ R, R = endP (testP s (startS s)) := ⟨_, rfl⟩
  rw [← hR]
  have HR : Hid (R = endP (testP s (startS s))) := hR
  clear hw hR
  go_enter Tryz.func11, Tryz.ntmps11
  go_wp2_with fail
  refine (hA _ (hlw _ (((On.refl w).alloc _).alloc _))).mono ?_
  rintro e w1 ⟨tv, rfl, k1⟩
  have W1 : Hid (On w w1) := (((On.refl w).alloc _).alloc _).trans k1
  have B1 := ((Bk.new w _ _).alloc _).on k1
  have A1 := (Bk.new2 w _ _ _).on k1
  have L1 := A1.lt
  clear k1 hA
  go_wp2_with fail
  refine (new_is _ s).mono ?_
  rintro e w2 ⟨rfl, hl2, k2⟩
  rw [World.size_alloc] at hl2
  have W2 : Hid (On w w2) := (W1.out.alloc _).trans k2
  have B2 := (B1.alloc _).on k2
  have A2 := (A1.alloc _).on k2
  have L2 := hl2.lt
  clear k2 B1 A1 W1
  have hF := fun (o : Array Value) T (hb : Bk (w2.alloc (.cells o T)) w2.heap.size #[.pointer (some ⟨w1.heap.size + 1, 0, none⟩), .int .i64 0, .string ⟨#[]⟩, .int .i64 0, .int .i64 0, .int .i64 0]) => next_first (w2.alloc (.cells o T)) w2.heap.size (w1.heap.size + 1) s hsz hb (hl2.alloc _) (by omega) (by omega) (by omega) (hlw _ (W2.out.alloc _))
  go_wp2_with fail
  refine (hF _ _ (Bk.new w2 _ _)).mono ?_
  rintro e w3 ⟨rfl, h3, k3⟩
  have W3 : Hid (On w w3) := On.wp (W2.out.alloc _) k3 (by omega) (by omega)
  have B3 := (B2.alloc _).wp k3 (by omega) (by omega)
  have A3 := (A2.alloc _).wp k3 (by omega) (by omega)
  have L3 := A3.lt
  clear k3 B2 A2 W2 hF
  go_wp2_with fail
  refine (test_is _ w2.heap.size (w1.heap.size + 1) s _ h3).mono ?_
  rintro e w4 ⟨v, rfl, hT, h4, k4⟩
  have hT2 := hT.mono (show w.heap.size + 2 ≤ w3.heap.size from L3)
  have W4 : Hid (On w w4) := On.wp W3.out k4 (by omega) (by omega)
  obtain ⟨T, hb⟩ := B3.wp k4 (by omega) (by omega)
  obtain ⟨U, ha⟩ := A3.wp k4 (by omega) (by omega)
  have L4 := lt_of_block hb
  have L4' := lt_of_block ha
  have dc0 : w4.cell? ⟨w.heap.size, 0, none⟩ = some (.string ⟨#[]⟩) := by simp [World.cell?, hb]
  have dc1 : w4.cell? ⟨w.heap.size, 1, none⟩ = some (.slice none 0 0) := by simp [World.cell?, hb]
  have dc2 : w4.cell? ⟨w.heap.size, 2, none⟩ = some (.slice none 0 0) := by simp [World.cell?, hb]
  have dc3 : w4.cell? ⟨w.heap.size, 3, none⟩ = some (.int .i64 0) := by simp [World.cell?, hb]
  have dc4 : w4.cell? ⟨w.heap.size, 4, none⟩ = some (.slice none 0 0) := by simp [World.cell?, hb]
  have df0 : w4.frozen? ⟨w.heap.size, 0, none⟩ = false := by simp [World.frozen?, hb]
  have df1 : w4.frozen? ⟨w.heap.size, 1, none⟩ = false := by simp [World.frozen?, hb]
  have df2 : w4.frozen? ⟨w.heap.size, 2, none⟩ = false := by simp [World.frozen?, hb]
  have df3 : w4.frozen? ⟨w.heap.size, 3, none⟩ = false := by simp [World.frozen?, hb]
  have df4 : w4.frozen? ⟨w.heap.size, 4, none⟩ = false := by simp [World.frozen?, hb]
  have ac0 : w4.cell? ⟨w.heap.size + 1, 0, none⟩ = some (.int .i64 0) := by simp [World.cell?, ha]
  have ac1 : w4.cell? ⟨w.heap.size + 1, 1, none⟩ = some (.int .i64 0) := by simp [World.cell?, ha]
  have af0 : w4.frozen? ⟨w.heap.size + 1, 0, none⟩ = false := by simp [World.frozen?, ha]
  have af1 : w4.frozen? ⟨w.heap.size + 1, 1, none⟩ = false := by simp [World.frozen?, ha]
  have hFl := fun o => failed_is (w4.alloc o) w2.heap.size (w1.heap.size + 1) s _ (h4.alloc o)
  have e4 := h4.c4
  have e5 := h4.c5
  have L5 := h4.lp
  generalize hTP : testP s (startS s) = TP at *
  obtain ⟨a1, m1, c1, a2, m2, c2, a3, m3, c3, rfl, o1, o2, o3⟩ := hT
  have HT : Hid (TestAt w4 (w.heap.size + 2) (.agg #[.string TP.1.name, .slice a1 m1 c1, .slice a2 m2 c2, .int .i64 TP.1.cond.k, .slice a3 m3 c3]) TP.1) := hT2
  clear hb ha B3 A3 W3 k4 h3 h4 hT2 o1 o2 o3
  have N1 : w.heap.size + 1 ≠ w.heap.size := by omega
  have N2 : w.heap.size ≠ w.heap.size + 1 := by omega
  cases hB : flB TP.2 with
  | true =>
    rw [hB] at hFl
    have HR2 : R = (noTest, erC TP.2, erP TP.2) := by rw [HR.out]; unfold endP; rw [hB]; rfl
    have HR3 : Hid (R = (noTest, erC TP.2, erP TP.2)) := HR2
    clear HR HR2 hB
    go_wp2_with fail
    refine (hFl _).mono ?_
    rintro e w5 ⟨rfl, rfl⟩
    go_wp2
    go_region
    all_goals (try go_wp2)
    all_goals (try simp only [Exit.inBlock, Exit.then])
    all_goals
      obtain rfl := HR3.out
      refine bodyPost_ret (v := .tuple #[.agg #[.string ⟨#[]⟩, .slice none 0 0, .slice none 0 0, .int .i64 0, .slice none 0 0], .agg #[.int .i64 (erC TP.2), .int .i64 (erP TP.2)]]) ?_ rfl ⟨_, rfl, testAt_none _ _, ?_⟩
      · rw [results_cells2 rfl]
        go_simp
      · repeat' (first | with_reducible refine On.setNew ?_ (by omega) _ | with_reducible refine On.drew ?_ | with_reducible refine On.alloc ?_ _ | with_reducible exact W4.out)
  | false =>
    rw [hB] at hFl
    have HR2 : R = (TP.1, 0, 0) := by rw [HR.out]; unfold endP; rw [hB]; rfl
    have HR3 : Hid (R = (TP.1, 0, 0)) := HR2
    clear HR HR2 hB
    go_wp2_with fail
    refine (hFl _).mono ?_
    rintro e w5 ⟨rfl, rfl⟩
    go_wp2
    (try simp only [Exit.inBlock, Exit.then])
    obtain rfl := HR3.out
    refine bodyPost_ret (v := .tuple #[.agg #[.string TP.1.name, .slice a1 m1 c1, .slice a2 m2 c2, .int .i64 TP.1.cond.k, .slice a3 m3 c3], .agg #[.int .i64 0, .int .i64 0]]) ?_ rfl ⟨_, rfl, ?_, ?_⟩
    · rw [results_cells2 rfl]
      go_simp
    · refine TestAt.mono (base := w.heap.size + 2) ?_ (by omega)
      repeat' (first | with_reducible refine TestAt.setFar ?_ (by omega) _ | with_reducible refine TestAt.drew ?_ | with_reducible refine TestAt.alloc ?_ _ | with_reducible exact HT.out)
    · repeat' (first | with_reducible refine On.setNew ?_ (by omega) _ | with_reducible refine On.drew ?_ | with_reducible refine On.alloc ?_ _ | with_reducible exact W4.out)

/-- PARSE. -/
theorem parseGo_is (s : ByteArray) (hs : s.size ≤ 140737488351232) (w : World) (hw : Lw w) :
    Calls Tryz.prog 11 #[.string s] w (ParsePost w (parseP s)) := by
  unfold parseP
  by_cases h : 4000 < s.size
  · rw [if_pos h]
    refine (parse_long s h hs w).mono ?_
    rintro e w' ⟨rfl, k⟩
    exact ⟨_, rfl, testAt_none _ _, k⟩
  · rw [if_neg h]
    exact parse_short s (by omega) w hw
end Go.Proofs.YtacflahkofmcpaaGreatDoor

namespace Go.Proofs.YtacflahkofmcpaaGreatDoor
open Go.RowKit

/-- A reader's cells. -/
def rdC (s : ByteArray) (a k : Nat) (x : ByteArray) (q t c e : Nat) : Array Value := #[.string s, .int .i64 a, .int .i64 k, .string x, .int .i64 q, .int .i64 t, .int .i64 c, .int .i64 e]
/-- Block r holds a reader that stands at S; o: it has told no error yet. -/
def Rx (w : World) (r : Nat) (s : ByteArray) (S : St) (o : Bool) : Prop :=
  ∃ a k x q t c e, Bk w r (rdC s a k x q t c e) ∧ a ≤ s.size ∧ (o = true → c = 0 ∧ e = 0 ∧ S = norm s a) ∧ (o = false → c ≠ 0 ∧ S = .error (c, e))
/-- .. and it has looked at its token. -/
def Lk (w : World) (r : Nat) (s : ByteArray) (S : St) : Prop :=
  (∃ a, S = .ok a ∧ a ≤ s.size ∧ eC pB s a = 0 ∧ Bk w r (rdC s a (kd s a) (tx s a) (pl s a) (to s a) 0 0)) ∨
  (∃ a k x q t c e, S = .error (c, e) ∧ c ≠ 0 ∧ a ≤ s.size ∧ Bk w r (rdC s a k x q t c e))
/-- What look answers. -/
def lkA (s : ByteArray) : St → Value
  | .ok a => .agg #[.int .i64 (kd s a), .string (tx s a), .int .i64 (pl s a)]
  | .error _ => .agg #[.int .i64 4, .string ⟨#[]⟩, .int .i64 0]

/-! Blocks that may be laid ahead of a call. -/
theorem On.undrew {X w1 : World} (k : On X.drew w1) : On X w1 := ⟨k.os, k.tape, k.output, k.size, k.block⟩
theorem lastBk {X w1 : World} {cs : Array Value} {T : TypeId} {N : Nat} (k : On (X.alloc (.cells cs T)) w1) (hN : X.heap.size = N) : Bk w1 N cs := by subst hN; exact (Bk.new X cs T).on k
theorem prevBk {X w1 : World} {cs : Array Value} {T : TypeId} {o : Obj} {N : Nat} (k : On ((X.alloc (.cells cs T)).alloc o) w1) (hN : X.heap.size = N) : Bk w1 N cs := by subst hN; exact ((Bk.new X cs T).alloc o).on k
theorem tFacts {w : World} {N : Nat} (h : Bk w N #[.int .i64 0, .string ⟨#[]⟩, .int .i64 0]) : N < w.heap.size ∧ w.cell? ⟨N, 0, none⟩ = some (.int .i64 0) ∧ w.cell? ⟨N, 1, none⟩ = some (.string ⟨#[]⟩) ∧ w.cell? ⟨N, 2, none⟩ = some (.int .i64 0) ∧ w.frozen? ⟨N, 0, none⟩ = false ∧ w.frozen? ⟨N, 1, none⟩ = false ∧ w.frozen? ⟨N, 2, none⟩ = false :=
  ⟨h.lt, h.at rfl, h.at rfl, h.at rfl, h.fr _, h.fr _, h.fr _⟩
theorem eFacts {w : World} {N : Nat} (h : Bk w N #[.int .i64 0, .int .i64 0]) : N < w.heap.size ∧ w.cell? ⟨N, 0, none⟩ = some (.int .i64 0) ∧ w.cell? ⟨N, 1, none⟩ = some (.int .i64 0) ∧ w.frozen? ⟨N, 0, none⟩ = false ∧ w.frozen? ⟨N, 1, none⟩ = false :=
  ⟨h.lt, h.at rfl, h.at rfl, h.fr _, h.fr _⟩
theorem rFacts {w : World} {N a k q t c e : Nat} {s x : ByteArray} (h : Bk w N (rdC s a k x q t c e)) : N < w.heap.size ∧ w.cell? ⟨N, 0, none⟩ = some (.string s) ∧ w.cell? ⟨N, 1, none⟩ = some (.int .i64 a) ∧ w.cell? ⟨N, 2, none⟩ = some (.int .i64 k) ∧ w.cell? ⟨N, 3, none⟩ = some (.string x) ∧ w.cell? ⟨N, 4, none⟩ = some (.int .i64 q) ∧ w.cell? ⟨N, 5, none⟩ = some (.int .i64 t) ∧ w.cell? ⟨N, 6, none⟩ = some (.int .i64 c) ∧ w.cell? ⟨N, 7, none⟩ = some (.int .i64 e) ∧
    w.frozen? ⟨N, 1, none⟩ = false ∧ w.frozen? ⟨N, 2, none⟩ = false ∧ w.frozen? ⟨N, 3, none⟩ = false ∧ w.frozen? ⟨N, 4, none⟩ = false ∧ w.frozen? ⟨N, 5, none⟩ = false ∧ w.frozen? ⟨N, 6, none⟩ = false ∧ w.frozen? ⟨N, 7, none⟩ = false :=
  ⟨h.lt, h.at rfl, h.at rfl, h.at rfl, h.at rfl, h.at rfl, h.at rfl, h.at rfl, h.at rfl, h.fr _, h.fr _, h.fr _, h.fr _, h.fr _, h.fr _, h.fr _⟩
theorem Bk.cast {w : World} {N : Nat} {cs ds : Array Value} (h : Bk w N cs) (e : cs = ds) : Bk w N ds := e ▸ h

theorem Lk.rx {w : World} {r : Nat} {s : ByteArray} {S : St} (h : Lk w r s S) : ∃ o, Rx w r s S o := by
  rcases h with ⟨a, rfl, ha, he, hb⟩ | ⟨a, k, x, q, t, c, e, rfl, hc, ha, hb⟩
  · exact ⟨true, a, _, _, _, _, 0, 0, hb, ha, fun _ => ⟨rfl, rfl, (norm_ok s he).symm⟩, fun h => by cases h⟩
  · exact ⟨false, a, k, x, q, t, c, e, hb, ha, (fun h => by cases h), fun _ => ⟨hc, rfl⟩⟩

section
variable (w : World) (r : Nat) (s : ByteArray) (S : St)
set_option maxHeartbeats 1000000
set_option maxRecDepth 8000
/-- Behind the token. -/
theorem go1_is (a : Nat) (ha : a ≤ s.size) (hb : Bk w r (rdC s a (kd s a) (tx s a) (pl s a) (to s a) 0 0)) :
    Calls Tryz.prog 37 #[.pointer (some ⟨r, 0, none⟩)] w fun e w' => e = .returned (.tuple #[]) ∧ Rx w' r s (nx s (.ok a)) true ∧ Bk w' r (rdC s (to s a) (kd s a) (tx s a) (pl s a) (to s a) 0 0) ∧ Wr r w w' := by
  obtain ⟨r0, r1, r2, r3, r4, r5, r6, r7, r8, r9, r10, r11, r12, r13, r14, r15⟩ := rFacts hb
  have HB : Hid (Bk w r (rdC s a (kd s a) (tx s a) (pl s a) (to s a) 0 0)) := hb
  clear hb
  go_enter Tryz.func37, Tryz.ntmps37
  go_wp2
  go_end0
  have h1 : Bk (w.setCell ⟨r, 1, none⟩ (.int .i64 (to s a))) r (rdC s (to s a) (kd s a) (tx s a) (pl s a) (to s a) 0 0) := HB.out.set 1 _
  exact ⟨rfl, ⟨to s a, _, _, _, _, 0, 0, h1, to_le ha, fun _ => ⟨rfl, rfl, rfl⟩, fun h => by cases h⟩, h1, (Wr.refl _ _).set _⟩

/-- An error at the token that was looked at. -/
theorem rfail_is (c : Nat) (hc : c ≠ 0) (h : Lk w r s S) :
    Calls Tryz.prog 43 #[.pointer (some ⟨r, 0, none⟩), .int .i64 c] w fun e w' => e = .returned (.tuple #[]) ∧ Lk w' r s (flS s c S) ∧ Wr r w w' := by
  rcases h with ⟨a, rfl, ha, he, hb⟩ | ⟨a, k, x, q, t, c', e, rfl, hc', ha, hb⟩
  · obtain ⟨r0, r1, r2, r3, r4, r5, r6, r7, r8, r9, r10, r11, r12, r13, r14, r15⟩ := rFacts hb
    have HB : Hid (Bk w r (rdC s a (kd s a) (tx s a) (pl s a) (to s a) 0 0)) := hb
    clear hb
    go_enter Tryz.func43, Tryz.ntmps43
    go_wp2
    go_end0
    exact ⟨rfl, Or.inr ⟨a, kd s a, tx s a, pl s a, to s a, c, pl s a, rfl, hc, ha, (HB.out.set 6 _).set 7 _⟩, ((Wr.refl _ _).set _).set _⟩
  · obtain ⟨r0, r1, r2, r3, r4, r5, r6, r7, r8, r9, r10, r11, r12, r13, r14, r15⟩ := rFacts hb
    have HB : Hid (Bk w r (rdC s a k x q t c' e)) := hb
    have hq : ((c' : Int) == 0) = false := by rw [beq_eq_false_iff_ne]; omega
    clear hb
    go_enter Tryz.func43, Tryz.ntmps43
    go_wp2
    go_end0
    exact ⟨rfl, Or.inr ⟨a, k, x, q, t, c', e, rfl, hc', ha, HB.out⟩, Wr.refl _ _⟩

theorem results_void {fn : Func} (h : fn.results = #[]) (tmps : Array Value) (P : Program) (w : World) : (results fn tmps).run P w = .ok (.tuple #[]) w := by
  simp only [results, h]
  simp
/-- What look is asked to do. -/
def LookOk : Prop := ∀ (w : World) (r : Nat) (s : ByteArray) (S : St) (o : Bool), s.size ≤ 4000 → Rx w r s S o →
  Calls Tryz.prog 42 #[.pointer (some ⟨r, 0, none⟩)] w fun e w' => e = .returned (lkA s S) ∧ Lk w' r s S ∧ Wr r w w'

/-- Texts that no number has. -/
def NoNum (s x : ByteArray) : Prop := ∀ a, eC pB s a = 0 → isX s x (.ok a) = true → kd s a = 1 ∨ kd s a = 3

theorem is_is (hL : LookOk) (x : ByteArray) (hx : x.toList ≠ []) (hn : NoNum s x) (hs : s.size ≤ 4000) (o : Bool) (h : Rx w r s S o) :
    Calls Tryz.prog 36 #[.pointer (some ⟨r, 0, none⟩), .string x] w fun e w' => e = .returned (.bool (isX s x S)) ∧ Lk w' r s S ∧ Wr r w w' := by
  have hK := hL w r s S o hs h
  clear h
  cases S with
  | error er =>
    have hI : isX s x (.error er) = false := by
      cases hh : isX s x (.error er) with
      | false => rfl
      | true => obtain ⟨a, ha⟩ := fl_err s hh hx; cases ha
    rw [hI]
    simp only [lkA] at hK
    go_enter Tryz.func36, Tryz.ntmps36
    go_wp2_with fail
    refine hK.mono ?_
    rintro e w1 ⟨rfl, h1, hw1⟩
    have HL : Hid (Lk w1 r s (.error er)) := h1
    rcases h1 with ⟨a, ha, _⟩ | ⟨a, k, x', q, t, c', e, he, hc', ha, hb⟩
    · cases ha
    · obtain rfl : er = (c', e) := by simpa using he
      obtain ⟨r0, r1, r2, r3, r4, r5, r6, r7, r8, r9, r10, r11, r12, r13, r14, r15⟩ := rFacts hb
      have hq : ((c' : Int) == 0) = false := by rw [beq_eq_false_iff_ne]; omega
      have HW : Hid (Wr r w w1) := hw1
      have HB : Hid (Bk w1 r (rdC s a k x' q t c' e)) := hb
      clear hb hK hn he hw1 HL
      go_wp2
      all_goals (try go_ret)
      all_goals exact ⟨rfl, Or.inr ⟨a, k, x', q, t, c', e, rfl, hc', ha, HB.out.alloc _⟩, HW.out.alloc _⟩
  | ok a =>
    simp only [lkA] at hK
    obtain ⟨I, hIe⟩ : ∃ I, I = isX s x (.ok a) := ⟨_, rfl⟩
    rw [← hIe]
    have HIE : Hid (I = isX s x (.ok a)) := hIe
    clear hIe
    go_enter Tryz.func36, Tryz.ntmps36
    go_wp2_with fail
    refine hK.mono ?_
    rintro e w1 ⟨rfl, h1, hw1⟩
    have HL : Hid (Lk w1 r s (.ok a)) := h1
    rcases h1 with ⟨a', ha', hle, he, hb⟩ | ⟨a', k, x', q, t, c', e, he, _⟩
    · obtain rfl : a = a' := by simpa using ha'
      obtain ⟨r0, r1, r2, r3, r4, r5, r6, r7, r8, r9, r10, r11, r12, r13, r14, r15⟩ := rFacts hb
      have hI : ((tx s a).toList == x.toList) = I := by rw [HIE.out, ByteArray.toList_eq, ByteArray.toList_eq]; rfl
      have hF : I = true → kd s a = 1 ∨ kd s a = 3 := fun h => hn a he (HIE.out ▸ h)
      have HW : Hid (Wr r w w1) := hw1
      have HB : Hid (Bk w1 r (rdC s a (kd s a) (tx s a) (pl s a) (to s a) 0 0)) := hb
      have HE : Hid (a ≤ s.size ∧ eC pB s a = 0) := ⟨hle, he⟩
      clear hb hK hn hw1 HL ha' hle he HIE
      by_cases k1 : kd s a = 1
      · have q1 : ((kd s a : Int) == 1) = true := by rw [k1]; rfl
        clear hF k1
        go_wp2
        all_goals (try go_ret)
        all_goals exact ⟨rfl, Or.inl ⟨a, rfl, HE.out.1, HE.out.2, HB.out.alloc _⟩, HW.out.alloc _⟩
      · have q1 : ((kd s a : Int) == 1) = false := by rw [beq_eq_false_iff_ne]; omega
        by_cases k3 : kd s a = 3
        · have q3 : ((kd s a : Int) == 3) = true := by rw [k3]; rfl
          clear hF k1 k3
          go_wp2
          all_goals (try go_ret)
          all_goals exact ⟨rfl, Or.inl ⟨a, rfl, HE.out.1, HE.out.2, HB.out.alloc _⟩, HW.out.alloc _⟩
        · have q3 : ((kd s a : Int) == 3) = false := by rw [beq_eq_false_iff_ne]; omega
          have hI0 : I = false := by
            cases hh : I with
            | false => rfl
            | true => exact absurd (hF hh) (by omega)
          subst hI0
          clear hF k1 k3
          go_wp2
          all_goals (try go_ret)
          all_goals exact ⟨rfl, Or.inl ⟨a, rfl, HE.out.1, HE.out.2, HB.out.alloc _⟩, HW.out.alloc _⟩
    · cases he

/-- A word or a sign is taken. -/
theorem eat_is (hL : LookOk) (x : ByteArray) (hx : x.toList ≠ []) (hn : NoNum s x) (hs : s.size ≤ 4000) (o : Bool) (h : Rx w r s S o) :
    Calls Tryz.prog 34 #[.pointer (some ⟨r, 0, none⟩), .string x] w fun e w' => e = .returned (.tuple #[]) ∧ (∃ o', Rx w' r s (expS s x S) o') ∧ Wr r w w' := by
  have hI := is_is w r s S hL x hx hn hs o h
  unfold expS
  clear h
  cases hh : isX s x S with
  | true =>
    rw [hh] at hI
    obtain ⟨a, rfl⟩ := fl_err s hh hx
    simp only [if_true]
    go_enter Tryz.func34, Tryz.ntmps34
    go_wp2_with fail
    refine hI.mono ?_
    rintro e w1 ⟨rfl, h1, hw1⟩
    rcases h1 with ⟨a', ha', hle, he, hb⟩ | ⟨a', k, x', q, t, c', e, he, _⟩
    · obtain rfl : a = a' := by simpa using ha'
      go_wp2_with (go_at_call 37; refine (go1_is _ r s a hle hb).mono ?_; rintro e w2 ⟨rfl, h2, _, hw2⟩)
      (try simp only [Exit.inBlock, Exit.then])
      exact bodyPost_ret (v := .tuple #[]) (results_void rfl _ _ _) rfl ⟨rfl, ⟨true, h2⟩, hw1.trans hw2⟩
    · cases he
  | false =>
    rw [hh] at hI
    simp only [Bool.false_eq_true, if_false]
    go_enter Tryz.func34, Tryz.ntmps34
    go_wp2_with (first | (go_at_call 36; refine hI.mono ?_; rintro e w1 ⟨rfl, h1, hw1⟩) | (go_at_call 43; refine (rfail_is _ r s S 6 (by decide) h1).mono ?_; rintro e w2 ⟨rfl, h2, hw2⟩))
    go_end0
    exact ⟨rfl, h2.rx, hw1.trans hw2⟩
end
end Go.Proofs.YtacflahkofmcpaaGreatDoor

namespace Go.Proofs.YtacflahkofmcpaaGreatDoor
open Go.RowKit

section
variable (w : World) (r : Nat) (s : ByteArray) (S : St)
set_option maxHeartbeats 1000000
set_option maxRecDepth 8000
/-- Where an error was told its cells say so. -/
theorem Lk.err {w : World} {r : Nat} {s : ByteArray} {c p : Nat} (h : Lk w r s (.error (c, p))) : c ≠ 0 ∧ w.cell? ⟨r, 6, none⟩ = some (.int .i64 c) ∧ r < w.heap.size := by
  rcases h with ⟨a, ha, _⟩ | ⟨a, k, x, q, t, c', e, he, hc, ha, hb⟩
  · cases ha
  · obtain ⟨rfl, rfl⟩ : c = c' ∧ p = e := by simpa using he
    exact ⟨hc, hb.at rfl, hb.lt⟩
theorem Lk.good {w : World} {r : Nat} {s : ByteArray} {a : Nat} (h : Lk w r s (.ok a)) : a ≤ s.size ∧ eC pB s a = 0 ∧ Bk w r (rdC s a (kd s a) (tx s a) (pl s a) (to s a) 0 0) := by
  rcases h with ⟨a', ha, h1, h2, h3⟩ | ⟨a', k, x, q, t, c', e, he, _⟩
  · obtain rfl : a = a' := by simpa using ha
    exact ⟨h1, h2, h3⟩
  · cases he
theorem Lk.alloc {w : World} {r : Nat} {s : ByteArray} {S : St} (h : Lk w r s S) (o : Obj) : Lk (w.alloc o) r s S := by
  rcases h with ⟨a, h0, h1, h2, h3⟩ | ⟨a, k, x, q, t, c', e, h0, h1, h2, h3⟩
  · exact Or.inl ⟨a, h0, h1, h2, h3.alloc o⟩
  · exact Or.inr ⟨a, k, x, q, t, c', e, h0, h1, h2, h3.alloc o⟩

theorem word_is (hL : LookOk) (hs : s.size ≤ 4000) (o : Bool) (h : Rx w r s S o) :
    Calls Tryz.prog 35 #[.pointer (some ⟨r, 0, none⟩)] w fun e w' => e = .returned (.string (nameP s S).1) ∧ (∃ o', Rx w' r s (nameP s S).2 o') ∧ Wr r w w' := by
  have hK := hL w r s S o hs h
  clear h
  cases S with
  | error er =>
    obtain ⟨c, p⟩ := er
    have hE : nameP s (.error (c, p)) = (⟨#[]⟩, .error (c, p)) := by unfold nameP; rw [if_neg (by simp [tokK])]; rfl
    rw [hE]
    simp only [lkA] at hK
    go_enter Tryz.func35, Tryz.ntmps35
    go_wp2_with fail
    refine hK.mono ?_
    rintro e w1 ⟨rfl, h1, hw1⟩
    obtain ⟨hc, c6, hlt⟩ := h1.err
    have hq : ((c : Int) != 0) = true := by simp; omega
    have hF := fun o => rfail_is (w1.alloc o) r s (.error (c, p)) 6 (by decide) (h1.alloc o)
    go_wp2_with (go_at_call 43; refine (hF _).mono ?_; rintro e w2 ⟨rfl, h2, hw2⟩)
    all_goals (try go_ret)
    all_goals exact ⟨rfl, h2.rx, (hw1.alloc _).trans hw2⟩
  | ok a =>
    simp only [lkA] at hK
    unfold nameP
    by_cases hk : kd s a = 1
    · have hq : ((kd s a : Int) != 1) = false := by rw [hk]; rfl
      rw [if_pos (show tokK s (.ok a) = 1 from hk)]
      clear hk
      go_enter Tryz.func35, Tryz.ntmps35
      go_wp2_with fail
      refine hK.mono ?_
      rintro e w1 ⟨rfl, h1, hw1⟩
      obtain ⟨hle, he, hb⟩ := h1.good
      obtain ⟨r0, r1, r2, r3, r4, r5, r6, r7, r8, r9, r10, r11, r12, r13, r14, r15⟩ := rFacts hb
      have hG := fun o => go1_is (w1.alloc o) r s a hle (hb.alloc o)
      have L1 : r ≠ w1.heap.size := Nat.ne_of_lt r0
      have HW : Hid (Wr r w w1) := hw1
      clear hb h1 hK hw1
      go_wp2_with fail
      refine (hG _).mono ?_
      rintro e w2 ⟨rfl, h2, _, hw2⟩
      have hT : w2.heap[w1.heap.size]? = some (.cells #[.int .i64 (kd s a), .string (tx s a), .int .i64 (pl s a)] 71 (0, 0)) := (hw2.block w1.heap.size (by simp) (by simp; omega)).trans (heap_alloc_new w1 _)
      have t1 : w2.cell? ⟨w1.heap.size, 1, none⟩ = some (.string (tx s a)) := by simp [World.cell?, hT]
      clear hT
      go_wp2
      all_goals (try go_ret)
      all_goals exact ⟨rfl, ⟨true, h2⟩, (HW.out.alloc _).trans hw2⟩
    · have hq : ((kd s a : Int) != 1) = true := by simp; omega
      rw [if_neg (show ¬ tokK s (.ok a) = 1 from hk)]
      clear hk
      go_enter Tryz.func35, Tryz.ntmps35
      go_wp2_with fail
      refine hK.mono ?_
      rintro e w1 ⟨rfl, h1, hw1⟩
      obtain ⟨hle, he, hb⟩ := h1.good
      obtain ⟨r0, r1, r2, r3, r4, r5, r6, r7, r8, r9, r10, r11, r12, r13, r14, r15⟩ := rFacts hb
      have hF := fun o => rfail_is (w1.alloc o) r s (.ok a) 6 (by decide) (h1.alloc o)
      have HW : Hid (Wr r w w1) := hw1
      clear hb hK hw1 h1
      go_wp2_with (go_at_call 43; refine (hF _).mono ?_; rintro e w2 ⟨rfl, h2, hw2⟩)
      all_goals (try go_ret)
      all_goals exact ⟨rfl, h2.rx, (HW.out.alloc _).trans hw2⟩
end
end Go.Proofs.YtacflahkofmcpaaGreatDoor

namespace Go.Proofs.YtacflahkofmcpaaGreatDoor
open Go.RowKit

/-- What the document's reg answers. -/
def rregV (x : ByteArray) : Int := if regB x then (bN x 1 : Int) - 48 else -1
set_option maxHeartbeats 400000 in
theorem rreg_is (x : ByteArray) (w : World) :
    Calls Tryz.prog 125 #[.string x] w fun e w' => e = .returned (.int .i64 (rregV x)) ∧ w' = w := by
  unfold rregV
  by_cases h2 : x.size = 2
  · have e2 : ((x.size : Int) == 2) = true := by rw [h2]; rfl
    have l0 : 0 < x.size := by omega
    have l1 : 1 < x.size := by omega
    have b0 := bN_lt l0
    have b1 := bN_lt l1
    by_cases h0 : bN x 0 = 114
    · have q0 : ((x[0]).toNat : Int) = 114 := by omega
      by_cases h1 : 48 ≤ bN x 1
      · have q1 : 48 ≤ ((x[1]).toNat : Int) := by omega
        by_cases h3 : bN x 1 ≤ 51
        · have q3 : ((x[1]).toNat : Int) ≤ 51 := by omega
          have hB : regB x = true := by unfold regB; simp [h2, h0, h1, h3]
          have hw : IntKind.u8.wrap (((x[1]).toNat : Int) - 48) = ((x[1]).toNat : Int) - 48 := by rw [IntKind.wrap_u8]; omega
          rw [if_pos hB, b1]
          clear h0 h1 h3 hB b0 b1
          go_enter Tryz.func125, Tryz.ntmps125
          go_wp2
          all_goals (try go_ret)
          all_goals exact ⟨rfl, rfl⟩
        · have q3 : 51 < ((x[1]).toNat : Int) := by omega
          have hB : regB x = false := by unfold regB; simp; omega
          rw [if_neg (by rw [hB]; decide)]
          clear h0 h1 h3 hB b0 b1
          go_enter Tryz.func125, Tryz.ntmps125
          go_wp2
          all_goals (try go_ret)
          all_goals exact ⟨rfl, rfl⟩
      · have q1 : ((x[1]).toNat : Int) < 48 := by omega
        have hB : regB x = false := by unfold regB; simp; omega
        rw [if_neg (by rw [hB]; decide)]
        clear h0 h1 hB b0 b1
        go_enter Tryz.func125, Tryz.ntmps125
        go_wp2
        all_goals (try go_ret)
        all_goals exact ⟨rfl, rfl⟩
    · have q0 : (((x[0]).toNat : Int) == 114) = false := by rw [← b0, beq_eq_false_iff_ne]; omega
      have hB : regB x = false := by unfold regB; simp [h0]
      rw [if_neg (by rw [hB]; decide)]
      clear h0 hB b0 b1
      go_enter Tryz.func125, Tryz.ntmps125
      go_wp2
      all_goals (try go_ret)
      all_goals exact ⟨rfl, rfl⟩
  · have e2 : ((x.size : Int) == 2) = false := by rw [beq_eq_false_iff_ne]; omega
    have hB : regB x = false := by unfold regB; simp [h2]
    rw [if_neg (by rw [hB]; decide)]
    clear h2 hB
    go_enter Tryz.func125, Tryz.ntmps125
    go_wp2
    all_goals (try go_ret)
    all_goals exact ⟨rfl, rfl⟩

theorem named_7 (s : ByteArray) (v : Int) {a : Nat} (h : kd s a = 1) : namedP s v false (.ok a) = (0, flS s 7 (.ok a)) := by
  unfold namedP; rw [if_neg (by decide), if_pos (show tokK s (.ok a) = 1 from h)]
theorem named_6 (s : ByteArray) (v : Int) {a : Nat} (h : ¬ kd s a = 1) : namedP s v false (.ok a) = (0, flS s 6 (.ok a)) := by
  unfold namedP; rw [if_neg (by decide), if_neg (show ¬ tokK s (.ok a) = 1 from h)]
section
variable (w : World) (r : Nat) (s : ByteArray) (S : St)
set_option maxHeartbeats 1000000
set_option maxRecDepth 8000
theorem loc_is (hL : LookOk) (hs : s.size ≤ 4000) (o : Bool) (h : Rx w r s S o) :
    Calls Tryz.prog 38 #[.pointer (some ⟨r, 0, none⟩)] w fun e w' => e = .returned (.int .i64 (locP s S).1) ∧ (∃ o', Rx w' r s (locP s S).2 o') ∧ Wr r w w' := by
  have hK := hL w r s S o hs h
  clear h
  cases S with
  | error er =>
    obtain ⟨c, p⟩ := er
    have hE : locP s (.error (c, p)) = (0, .error (c, p)) := by unfold locP namedP; simp [tokK, tokX, locB_nil, flS]
    rw [hE]
    simp only [lkA] at hK
    go_enter Tryz.func38, Tryz.ntmps38
    go_wp2_with fail
    refine hK.mono ?_
    rintro e w1 ⟨rfl, h1, hw1⟩
    obtain ⟨hc, c6, hlt⟩ := h1.err
    have hq : ((c : Int) != 0) = true := by simp; omega
    go_wp2
    all_goals (try go_ret)
    all_goals exact ⟨rfl, (h1.alloc _).rx, hw1.alloc _⟩
  | ok a =>
    simp only [lkA] at hK
    have hP : locP s (.ok a) = namedP s (locV (kd s a) (tx s a)) (locB (kd s a) (tx s a)) (.ok a) := rfl
    by_cases hk : kd s a = 1
    · have hq : ((kd s a : Int) != 1) = false := by rw [hk]; rfl
      by_cases hz : (tx s a).size = 1
      · have hB : locB (kd s a) (tx s a) = true := by unfold locB; simp [hk, hz]
        have l0 : 0 < (tx s a).size := by omega
        have hV : locV (kd s a) (tx s a) = (((tx s a)[0]).toNat : Int) := by unfold locV; rw [if_pos hB, bN_lt l0]
        have hE : locP s (.ok a) = ((((tx s a)[0]).toNat : Int), nx s (.ok a)) := by rw [hP, hB, hV]; rfl
        have hqz : (((tx s a).size : Int) != 1) = false := by rw [hz]; rfl
        have hwr : wrap64 (((tx s a)[0]).toNat : Int) = (((tx s a)[0]).toNat : Int) := by
          have := UInt8.toNat_lt ((tx s a)[0])
          unfold wrap64
          omega
        rw [hE]
        clear hk hB hV hE hP
        go_enter Tryz.func38, Tryz.ntmps38
        go_wp2_with fail
        refine hK.mono ?_
        rintro e w1 ⟨rfl, h1, hw1⟩
        obtain ⟨hle, he, hb⟩ := h1.good
        obtain ⟨r0, r1, r2, r3, r4, r5, r6, r7, r8, r9, r10, r11, r12, r13, r14, r15⟩ := rFacts hb
        have hG := fun o => go1_is (w1.alloc o) r s a hle (hb.alloc o)
        have HW : Hid (Wr r w w1) := hw1
        clear hb h1 hK hw1
        go_wp2_with fail
        refine (hG _).mono ?_
        rintro e w2 ⟨rfl, h2, _, hw2⟩
        have hT : w2.heap[w1.heap.size]? = some (.cells #[.int .i64 (kd s a), .string (tx s a), .int .i64 (pl s a)] 71 (0, 0)) := (hw2.block w1.heap.size (by simp) (by simp; omega)).trans (heap_alloc_new w1 _)
        have t1 : w2.cell? ⟨w1.heap.size, 1, none⟩ = some (.string (tx s a)) := by simp [World.cell?, hT]
        clear hT
        go_wp2
        all_goals (try go_ret)
        all_goals exact ⟨(congrArg (fun z => Ending.returned (.int .i64 z)) hwr), ⟨true, h2⟩, (HW.out.alloc _).trans hw2⟩
      · have hB : locB (kd s a) (tx s a) = false := by unfold locB; simp [hz]
        have hE : locP s (.ok a) = (0, flS s 7 (.ok a)) := by rw [hP, hB, named_7 _ _ hk]
        have hqz : (((tx s a).size : Int) != 1) = true := by simp; omega
        rw [hE]
        clear hk hB hE hP hz
        go_enter Tryz.func38, Tryz.ntmps38
        go_wp2_with fail
        refine hK.mono ?_
        rintro e w1 ⟨rfl, h1, hw1⟩
        obtain ⟨hle, he, hb⟩ := h1.good
        obtain ⟨r0, r1, r2, r3, r4, r5, r6, r7, r8, r9, r10, r11, r12, r13, r14, r15⟩ := rFacts hb
        have hF := fun o => rfail_is (w1.alloc o) r s (.ok a) 7 (by decide) (h1.alloc o)
        have HW : Hid (Wr r w w1) := hw1
        clear hb hK hw1 h1
        go_wp2_with (go_at_call 43; refine (hF _).mono ?_; rintro e w2 ⟨rfl, h2, hw2⟩)
        all_goals (try go_ret)
        all_goals exact ⟨rfl, h2.rx, (HW.out.alloc _).trans hw2⟩
    · have hq : ((kd s a : Int) != 1) = true := by simp; omega
      have hB : locB (kd s a) (tx s a) = false := by unfold locB; simp [hk]
      have hE : locP s (.ok a) = (0, flS s 6 (.ok a)) := by rw [hP, hB, named_6 _ _ hk]
      rw [hE]
      clear hk hB hE hP
      go_enter Tryz.func38, Tryz.ntmps38
      go_wp2_with fail
      refine hK.mono ?_
      rintro e w1 ⟨rfl, h1, hw1⟩
      obtain ⟨hle, he, hb⟩ := h1.good
      obtain ⟨r0, r1, r2, r3, r4, r5, r6, r7, r8, r9, r10, r11, r12, r13, r14, r15⟩ := rFacts hb
      have hF := fun o => rfail_is (w1.alloc o) r s (.ok a) 6 (by decide) (h1.alloc o)
      have HW : Hid (Wr r w w1) := hw1
      clear hb hK hw1 h1
      go_wp2_with (go_at_call 43; refine (hF _).mono ?_; rintro e w2 ⟨rfl, h2, hw2⟩)
      all_goals (try go_ret)
      all_goals exact ⟨rfl, h2.rx, (HW.out.alloc _).trans hw2⟩
end
end Go.Proofs.YtacflahkofmcpaaGreatDoor
