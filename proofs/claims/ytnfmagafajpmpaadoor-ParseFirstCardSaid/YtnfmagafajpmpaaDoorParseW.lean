/- PARSE: what parse.Parse answers of any text. -/
import Derived.Test.YtnfmagafajpmpaaDoorParseTest
namespace Go.Proofs.YtnfmagafajpmpaaDoor
open Go.RowKit

/-- What Parse answers: the test, or none and the error. -/
def noTest : TestT := ⟨⟨#[]⟩, [], [], ⟨0, []⟩⟩
def startS (s : ByteArray) : St := norm s 0
def endP (R : TestT × St) : TestT × Nat × Nat := if flB R.2 then (noTest, erC R.2, erP R.2) else (R.1, 0, 0)
def parseP (s : ByteArray) : TestT × Nat × Nat := if 4000 < s.size then (noTest, 2, 4000) else endP (testP s (startS s))

theorem testAt_none (w : World) (base : Nat) : TestAt w base (.agg #[.string ⟨#[]⟩, .slice none 0 0, .slice none 0 0, .int .i64 0, .slice none 0 0]) noTest :=
  ⟨none, 0, 0, none, 0, 0, none, 0, 0, rfl, World.ownsRow_nil _ _ _ _, Own2.nil _ _ _ _ _ _, Own2.nil _ _ _ _ _ _⟩
theorem Bk.on {w w' : World} {N : Nat} {cs : Array Value} (h : Bk w N cs) (k : On w w') : Bk w' N cs := by
  obtain ⟨T, e⟩ := h
  exact ⟨T, (k.block N (lt_of_block e)).trans e⟩
theorem On.wp {p l : Nat} {w x y : World} (h : On w x) (k : Wp p l x y) (hp : w.heap.size ≤ p) (hl : w.heap.size ≤ l) : On w y :=
  Below.trans h ⟨k.os, k.tape, k.output, k.size, fun i hi => k.block i (Nat.lt_of_lt_of_le hi h.size) (by omega) (by omega)⟩

set_option maxHeartbeats 2000000
set_option maxRecDepth 8000
theorem parse_long (s : ByteArray) (hl : 4000 < s.size) (hs : s.size ≤ 140737488351232) (w : World) :
    Calls Tryd.prog 4 #[.string s] w fun e w' => e = .returned (.tuple #[.agg #[.string ⟨#[]⟩, .slice none 0 0, .slice none 0 0, .int .i64 0, .slice none 0 0], .agg #[.int .i64 2, .int .i64 4000]]) ∧ On w w' := by
  have hA := fun W : World => all_long s hl hs W
  go_enter Tryd.func4, Tryd.ntmps4
  go_wp2_with fail
  refine (hA _).mono ?_
  rintro e w1 ⟨rfl, k1⟩
  have W1 : Hid (On w w1) := (((On.refl w).alloc _).alloc _).trans k1
  obtain ⟨T, hb⟩ := ((Bk.new w _ _).alloc _).on k1
  obtain ⟨U, ha⟩ := (Bk.new2 w _ _ _).on k1
  have L0 := lt_of_block hb
  have L1 := lt_of_block ha
  have dc0 : w1.cell? ⟨w.heap.size, 0, none⟩ = some (.string ⟨#[]⟩) := by simp [World.cell?, hb]
  have dc1 : w1.cell? ⟨w.heap.size, 1, none⟩ = some (.slice none 0 0) := by simp [World.cell?, hb]
  have dc2 : w1.cell? ⟨w.heap.size, 2, none⟩ = some (.slice none 0 0) := by simp [World.cell?, hb]
  have dc3 : w1.cell? ⟨w.heap.size, 3, none⟩ = some (.int .i64 0) := by simp [World.cell?, hb]
  have dc4 : w1.cell? ⟨w.heap.size, 4, none⟩ = some (.slice none 0 0) := by simp [World.cell?, hb]
  have df0 : w1.frozen? ⟨w.heap.size, 0, none⟩ = false := by simp [World.frozen?, hb]
  have df1 : w1.frozen? ⟨w.heap.size, 1, none⟩ = false := by simp [World.frozen?, hb]
  have df2 : w1.frozen? ⟨w.heap.size, 2, none⟩ = false := by simp [World.frozen?, hb]
  have df3 : w1.frozen? ⟨w.heap.size, 3, none⟩ = false := by simp [World.frozen?, hb]
  have df4 : w1.frozen? ⟨w.heap.size, 4, none⟩ = false := by simp [World.frozen?, hb]
  have ac0 : w1.cell? ⟨w.heap.size + 1, 0, none⟩ = some (.int .i64 0) := by simp [World.cell?, ha]
  have ac1 : w1.cell? ⟨w.heap.size + 1, 1, none⟩ = some (.int .i64 0) := by simp [World.cell?, ha]
  have af0 : w1.frozen? ⟨w.heap.size + 1, 0, none⟩ = false := by simp [World.frozen?, ha]
  have af1 : w1.frozen? ⟨w.heap.size + 1, 1, none⟩ = false := by simp [World.frozen?, ha]
  clear hb ha k1 hA
  go_wp2
  go_region
  all_goals (try go_wp2)
  all_goals (try simp only [Exit.inBlock, Exit.then])
  all_goals
    refine bodyPost_ret (v := .tuple #[.agg #[.string ⟨#[]⟩, .slice none 0 0, .slice none 0 0, .int .i64 0, .slice none 0 0], .agg #[.int .i64 2, .int .i64 4000]]) ?_ rfl ⟨rfl, ?_⟩
    · rw [results_cells2 rfl]
      go_simp
    · repeat' (first | with_reducible refine On.setNew ?_ (by omega) _ | with_reducible refine On.drew ?_ | with_reducible refine On.alloc ?_ _ | with_reducible exact W1.out)

/-- The first token. -/
theorem next_first (w : World) (p l : Nat) (s : ByteArray) (hsz : s.size ≤ 4000) (hb : Bk w p #[.pointer (some ⟨l, 0, none⟩), .int .i64 0, .string ⟨#[]⟩, .int .i64 0, .int .i64 0, .int .i64 0]) (hl : Lx w l s 0 0) (hne : p ≠ l) (gp : 4 ≤ p) (gl : 4 ≤ l) (hw : Lw w) :
    Calls Tryd.prog 9 #[.pointer (some ⟨p, 0, none⟩)] w fun e w' => e = .returned (.tuple #[]) ∧ Px w' p l s (startS s) ∧ Wp p l w w' := by
  have hN := next_is w l s 0 0 (by omega) ⟨Nat.le_refl _, by omega, Nat.zero_le _, Nat.zero_le _⟩ hl gl hw
  have c0 : w.cell? ⟨p, 0, none⟩ = some (.pointer (some ⟨l, 0, none⟩)) := Bk.at hb rfl
  have hlt := hl.lt
  have hlw : ∀ w', Wp p l w w' → Lw w' := fun w' k => hw.far fun i hi => k.block i (Nat.lt_of_lt_of_le hi hw.lt) (by omega) (by omega)
  have hvd : Vd s (norm s 0) := vd_norm s (Nat.zero_le _)
  have HL : Hid (Lw w) := hw
  unfold tkV erV at hN
  unfold startS
  by_cases h0 : eC pB s 0 = 0
  · simp only [h0, if_true] at hN
    rw [norm_ok s h0] at hvd ⊢
    clear hl hw
    go_enter Tryd.func9, Tryd.ntmps9
    go_wp2_with fail
    refine hN.mono ?_
    rintro e w1 ⟨rfl, hl1, _, hw1⟩
    have hWp := Wp.of_wr (p := p) hw1
    obtain ⟨T, hbb⟩ := hb
    have hb1 := (hw1.block p (lt_of_block hbb) (by simpa using hne)).trans hbb
    have dc0 : w1.cell? ⟨p, 0, none⟩ = some (.pointer (some ⟨l, 0, none⟩)) := by simp [World.cell?, hb1]
    have dc1 : w1.cell? ⟨p, 1, none⟩ = some (.int .i64 0) := by simp [World.cell?, hb1]
    have dc2 : w1.cell? ⟨p, 2, none⟩ = some (.string ⟨#[]⟩) := by simp [World.cell?, hb1]
    have dc3 : w1.cell? ⟨p, 3, none⟩ = some (.int .i64 0) := by simp [World.cell?, hb1]
    have dc4 : w1.cell? ⟨p, 4, none⟩ = some (.int .i64 0) := by simp [World.cell?, hb1]
    have dc5 : w1.cell? ⟨p, 5, none⟩ = some (.int .i64 0) := by simp [World.cell?, hb1]
    have df0 : w1.frozen? ⟨p, 0, none⟩ = false := by simp [World.frozen?, hb1]
    have df1 : w1.frozen? ⟨p, 1, none⟩ = false := by simp [World.frozen?, hb1]
    have df2 : w1.frozen? ⟨p, 2, none⟩ = false := by simp [World.frozen?, hb1]
    have df3 : w1.frozen? ⟨p, 3, none⟩ = false := by simp [World.frozen?, hb1]
    have df4 : w1.frozen? ⟨p, 4, none⟩ = false := by simp [World.frozen?, hb1]
    have df5 : w1.frozen? ⟨p, 5, none⟩ = false := by simp [World.frozen?, hb1]
    have HB : Hid (w1.heap[p]? = some (.cells #[.pointer (some ⟨l, 0, none⟩), .int .i64 0, .string ⟨#[]⟩, .int .i64 0, .int .i64 0, .int .i64 0] T (0, 0))) := hb1
    clear hbb hb1 hN c0
    go_wp2
    go_end0
    refine ⟨rfl, ⟨⟨T, ?_⟩, fun a' e => ?_, ?_, hne, gp, gl, ?_, hsz, hvd⟩, (((((Wp.of_wr hw1).set _).set _).set _).set _).set _⟩
    · exact heap_set (heap_set (heap_set (heap_set (heap_set HB.out))))
    · obtain rfl : 0 = a' := by simpa using e
      obtain ⟨r, hi, T', e'⟩ := hl1 trivial
      refine ⟨r, hi, T', ?_⟩
      rw [set_far _ hne, set_far _ hne, set_far _ hne, set_far _ hne, set_far _ hne]
      exact e'
    · have := hw1.size; simp [World.setCell]; omega
    · exact hlw _ ((((((Wp.of_wr hw1).set _).set _).set _).set _).set _)
  · simp only [h0, if_false] at hN
    rw [norm_err s h0] at hvd ⊢
    clear hl hw
    go_enter Tryd.func9, Tryd.ntmps9
    go_wp2_with fail
    refine hN.mono ?_
    rintro e w1 ⟨rfl, _, hl1, hw1⟩
    have hWp := Wp.of_wr (p := p) hw1
    obtain ⟨T, hbb⟩ := hb
    have hb1 := (hw1.block p (lt_of_block hbb) (by simpa using hne)).trans hbb
    have dc0 : w1.cell? ⟨p, 0, none⟩ = some (.pointer (some ⟨l, 0, none⟩)) := by simp [World.cell?, hb1]
    have dc1 : w1.cell? ⟨p, 1, none⟩ = some (.int .i64 0) := by simp [World.cell?, hb1]
    have dc2 : w1.cell? ⟨p, 2, none⟩ = some (.string ⟨#[]⟩) := by simp [World.cell?, hb1]
    have dc3 : w1.cell? ⟨p, 3, none⟩ = some (.int .i64 0) := by simp [World.cell?, hb1]
    have dc4 : w1.cell? ⟨p, 4, none⟩ = some (.int .i64 0) := by simp [World.cell?, hb1]
    have dc5 : w1.cell? ⟨p, 5, none⟩ = some (.int .i64 0) := by simp [World.cell?, hb1]
    have df0 : w1.frozen? ⟨p, 0, none⟩ = false := by simp [World.frozen?, hb1]
    have df1 : w1.frozen? ⟨p, 1, none⟩ = false := by simp [World.frozen?, hb1]
    have df2 : w1.frozen? ⟨p, 2, none⟩ = false := by simp [World.frozen?, hb1]
    have df3 : w1.frozen? ⟨p, 3, none⟩ = false := by simp [World.frozen?, hb1]
    have df4 : w1.frozen? ⟨p, 4, none⟩ = false := by simp [World.frozen?, hb1]
    have df5 : w1.frozen? ⟨p, 5, none⟩ = false := by simp [World.frozen?, hb1]
    have HB : Hid (w1.heap[p]? = some (.cells #[.pointer (some ⟨l, 0, none⟩), .int .i64 0, .string ⟨#[]⟩, .int .i64 0, .int .i64 0, .int .i64 0] T (0, 0))) := hb1
    clear hbb hb1 hN c0
    go_wp2
    go_end0
    refine ⟨rfl, ⟨⟨T, ?_⟩, (fun a' e => by cases e), ?_, hne, gp, gl, ?_, hsz, hvd⟩, (((((Wp.of_wr hw1).set _).set _).set _).set _).set _⟩
    · exact heap_set (heap_set (heap_set (heap_set (heap_set HB.out))))
    · have := hw1.size; simp [World.setCell]; omega
    · exact hlw _ ((((((Wp.of_wr hw1).set _).set _).set _).set _).set _)

theorem toks_code (good : ByteArray → Bool) (s : ByteArray) : ∀ (n a : Nat), (toks good s n a).2.1 = 0 ∨ (toks good s n a).2.1 = 4 ∨ (toks good s n a).2.1 = 5
  | 0, _ => Or.inl rfl
  | n + 1, a => by
    unfold toks
    split
    · show eC good s a = 0 ∨ eC good s a = 4 ∨ eC good s a = 5
      unfold eC
      split
      · exact Or.inr (Or.inl rfl)
      · split
        · exact Or.inr (Or.inr rfl)
        · exact Or.inl rfl
    · split
      · exact Or.inl rfl
      · exact toks_code good s n _
theorem ecS_ne (s : ByteArray) : ((ecS s : Int) == 2) = false := by
  have h := toks_code pB s (s.size + 1 - 0) 0
  have e : ecS s = (toks pB s (s.size + 1 - 0) 0).2.1 := rfl
  rw [← e] at h
  rw [beq_eq_false_iff_ne]
  omega

/-- What Parse's call leaves. -/
def ParsePost (w : World) (R : TestT × Nat × Nat) (e : Ending) (w' : World) : Prop :=
  ∃ v, e = .returned (.tuple #[v, .agg #[.int .i64 R.2.1, .int .i64 R.2.2]]) ∧ TestAt w' w.heap.size v R.1 ∧ On w w'

theorem TestAt.far {w w' : World} {base : Nat} {v : Value} {t : TestT} (h : TestAt w base v t) (k : ∀ i, base ≤ i → i < w.heap.size → w'.heap[i]? = w.heap[i]?) : TestAt w' base v t := by
  have key : ∀ {e : TypeId} {n m : Nat} {u : Value} {xs : List Value}, w.ownsRow base e n u m xs → w'.ownsRow base e n u m xs := by
    intro e n m u xs h
    refine ⟨h.1, ?_⟩
    rcases h.2 with h2 | ⟨g, cap, cur, hv, hb, hh, r⟩
    · exact Or.inl h2
    · exact Or.inr ⟨g, cap, cur, hv, hb, (k g hb (lt_of_block hh)).trans hh, r⟩
  obtain ⟨a1, m1, c1, a2, m2, c2, a3, m3, c3, rfl, o1, ⟨vs, p1, p2, p3⟩, ⟨us, q1, q2, q3⟩⟩ := h
  exact ⟨a1, m1, c1, a2, m2, c2, a3, m3, c3, rfl, key o1, ⟨vs, p1, key p2, fun i u L a b => key (p3 i u L a b)⟩, ⟨us, q1, key q2, fun i u L a b => key (q3 i u L a b)⟩⟩
theorem TestAt.mono {w : World} {base base' : Nat} {v : Value} {t : TestT} (h : TestAt w base v t) (hb : base' ≤ base) : TestAt w base' v t := by
  obtain ⟨a1, m1, c1, a2, m2, c2, a3, m3, c3, rfl, o1, o2, o3⟩ := h
  exact ⟨a1, m1, c1, a2, m2, c2, a3, m3, c3, rfl, own_mono o1 hb, o2.mono hb, o3.mono hb⟩
theorem TestAt.alloc {w : World} {base : Nat} {v : Value} {t : TestT} (h : TestAt w base v t) (o : Obj) : TestAt (w.alloc o) base v t := h.far fun _ _ hi => Below.heap_alloc _ _ _ hi
theorem TestAt.setFar {w : World} {base N i : Nat} {v : Value} {t : TestT} (h : TestAt w base v t) (hN : N < base) (u : Value) : TestAt (w.setCell ⟨N, i, none⟩ u) base v t := h.far fun j hj _ => Below.heap_setCell _ _ _ _ (show j ≠ N by omega)
theorem TestAt.drew {w : World} {base : Nat} {v : Value} {t : TestT} (h : TestAt w base v t) : TestAt w.drew base v t := h.far fun _ _ _ => rfl
theorem TestAt.on {w w' : World} {base : Nat} {v : Value} {t : TestT} (h : TestAt w base v t) (k : On w w') : TestAt w' base v t := h.far fun i _ hi => k.block i hi

theorem parse_short (s : ByteArray) (hsz : s.size ≤ 4000) (w : World) (hw : Lw w) :
    Calls Tryd.prog 4 #[.string s] w (ParsePost w (endP (testP s (startS s)))) := by
  have hA : ∀ W, Lw W → Calls Tryd.prog 7 #[.string s] W fun e w' => ∃ v, e = .returned (.tuple #[v, .agg #[.int .i64 (ecS s), .int .i64 (epS s)]]) ∧ On W w' := fun W h => (all_short s hsz W h).mono fun e w' ⟨v, h1, _, h3⟩ => ⟨v, h1, h3⟩
  have hq := ecS_ne s
  have hlw : ∀ w', On w w' → Lw w' := fun w' k => hw.on k
  have hG := hw.lt
  obtain ⟨R, hR⟩ : ∃ R, R = endP (testP s (startS s)) := ⟨_, rfl⟩
  rw [← hR]
  have HR : Hid (R = endP (testP s (startS s))) := hR
  clear hw hR
  go_enter Tryd.func4, Tryd.ntmps4
  go_wp2_with fail
  refine (hA _ (hlw _ (((On.refl w).alloc _).alloc _))).mono ?_
  rintro e w1 ⟨tv, rfl, k1⟩
  have W1 : Hid (On w w1) := (((On.refl w).alloc _).alloc _).trans k1
  have B1 := ((Bk.new w _ _).alloc _).on k1
  have A1 := (Bk.new2 w _ _ _).on k1
  have L1 := A1.lt
  clear k1 hA
  go_wp2_with fail
  refine (new_is _ s).mono ?_
  rintro e w2 ⟨rfl, hl2, k2⟩
  rw [World.size_alloc] at hl2
  have W2 : Hid (On w w2) := (W1.out.alloc _).trans k2
  have B2 := (B1.alloc _).on k2
  have A2 := (A1.alloc _).on k2
  have L2 := hl2.lt
  clear k2 B1 A1 W1
  have hF := fun (o : Array Value) T (hb : Bk (w2.alloc (.cells o T)) w2.heap.size #[.pointer (some ⟨w1.heap.size + 1, 0, none⟩), .int .i64 0, .string ⟨#[]⟩, .int .i64 0, .int .i64 0, .int .i64 0]) => next_first (w2.alloc (.cells o T)) w2.heap.size (w1.heap.size + 1) s hsz hb (hl2.alloc _) (by omega) (by omega) (by omega) (hlw _ (W2.out.alloc _))
  go_wp2_with fail
  refine (hF _ _ (Bk.new w2 _ _)).mono ?_
  rintro e w3 ⟨rfl, h3, k3⟩
  have W3 : Hid (On w w3) := On.wp (W2.out.alloc _) k3 (by omega) (by omega)
  have B3 := (B2.alloc _).wp k3 (by omega) (by omega)
  have A3 := (A2.alloc _).wp k3 (by omega) (by omega)
  have L3 := A3.lt
  clear k3 B2 A2 W2 hF
  go_wp2_with fail
  refine (test_is _ w2.heap.size (w1.heap.size + 1) s _ h3).mono ?_
  rintro e w4 ⟨v, rfl, hT, h4, k4⟩
  have hT2 := hT.mono (show w.heap.size + 2 ≤ w3.heap.size from L3)
  have W4 : Hid (On w w4) := On.wp W3.out k4 (by omega) (by omega)
  obtain ⟨T, hb⟩ := B3.wp k4 (by omega) (by omega)
  obtain ⟨U, ha⟩ := A3.wp k4 (by omega) (by omega)
  have L4 := lt_of_block hb
  have L4' := lt_of_block ha
  have dc0 : w4.cell? ⟨w.heap.size, 0, none⟩ = some (.string ⟨#[]⟩) := by simp [World.cell?, hb]
  have dc1 : w4.cell? ⟨w.heap.size, 1, none⟩ = some (.slice none 0 0) := by simp [World.cell?, hb]
  have dc2 : w4.cell? ⟨w.heap.size, 2, none⟩ = some (.slice none 0 0) := by simp [World.cell?, hb]
  have dc3 : w4.cell? ⟨w.heap.size, 3, none⟩ = some (.int .i64 0) := by simp [World.cell?, hb]
  have dc4 : w4.cell? ⟨w.heap.size, 4, none⟩ = some (.slice none 0 0) := by simp [World.cell?, hb]
  have df0 : w4.frozen? ⟨w.heap.size, 0, none⟩ = false := by simp [World.frozen?, hb]
  have df1 : w4.frozen? ⟨w.heap.size, 1, none⟩ = false := by simp [World.frozen?, hb]
  have df2 : w4.frozen? ⟨w.heap.size, 2, none⟩ = false := by simp [World.frozen?, hb]
  have df3 : w4.frozen? ⟨w.heap.size, 3, none⟩ = false := by simp [World.frozen?, hb]
  have df4 : w4.frozen? ⟨w.heap.size, 4, none⟩ = false := by simp [World.frozen?, hb]
  have ac0 : w4.cell? ⟨w.heap.size + 1, 0, none⟩ = some (.int .i64 0) := by simp [World.cell?, ha]
  have ac1 : w4.cell? ⟨w.heap.size + 1, 1, none⟩ = some (.int .i64 0) := by simp [World.cell?, ha]
  have af0 : w4.frozen? ⟨w.heap.size + 1, 0, none⟩ = false := by simp [World.frozen?, ha]
  have af1 : w4.frozen? ⟨w.heap.size + 1, 1, none⟩ = false := by simp [World.frozen?, ha]
  have hFl := fun o => failed_is (w4.alloc o) w2.heap.size (w1.heap.size + 1) s _ (h4.alloc o)
  have e4 := h4.c4
  have e5 := h4.c5
  have L5 := h4.lp
  generalize hTP : testP s (startS s) = TP at *
  obtain ⟨a1, m1, c1, a2, m2, c2, a3, m3, c3, rfl, o1, o2, o3⟩ := hT
  have HT : Hid (TestAt w4 (w.heap.size + 2) (.agg #[.string TP.1.name, .slice a1 m1 c1, .slice a2 m2 c2, .int .i64 TP.1.cond.k, .slice a3 m3 c3]) TP.1) := hT2
  clear hb ha B3 A3 W3 k4 h3 h4 hT2 o1 o2 o3
  have N1 : w.heap.size + 1 ≠ w.heap.size := by omega
  have N2 : w.heap.size ≠ w.heap.size + 1 := by omega
  cases hB : flB TP.2 with
  | true =>
    rw [hB] at hFl
    have HR2 : R = (noTest, erC TP.2, erP TP.2) := by rw [HR.out]; unfold endP; rw [hB]; rfl
    have HR3 : Hid (R = (noTest, erC TP.2, erP TP.2)) := HR2
    clear HR HR2 hB
    go_wp2_with fail
    refine (hFl _).mono ?_
    rintro e w5 ⟨rfl, rfl⟩
    go_wp2
    go_region
    all_goals (try go_wp2)
    all_goals (try simp only [Exit.inBlock, Exit.then])
    all_goals
      obtain rfl := HR3.out
      refine bodyPost_ret (v := .tuple #[.agg #[.string ⟨#[]⟩, .slice none 0 0, .slice none 0 0, .int .i64 0, .slice none 0 0], .agg #[.int .i64 (erC TP.2), .int .i64 (erP TP.2)]]) ?_ rfl ⟨_, rfl, testAt_none _ _, ?_⟩
      · rw [results_cells2 rfl]
        go_simp
      · repeat' (first | with_reducible refine On.setNew ?_ (by omega) _ | with_reducible refine On.drew ?_ | with_reducible refine On.alloc ?_ _ | with_reducible exact W4.out)
  | false =>
    rw [hB] at hFl
    have HR2 : R = (TP.1, 0, 0) := by rw [HR.out]; unfold endP; rw [hB]; rfl
    have HR3 : Hid (R = (TP.1, 0, 0)) := HR2
    clear HR HR2 hB
    go_wp2_with fail
    refine (hFl _).mono ?_
    rintro e w5 ⟨rfl, rfl⟩
    go_wp2
    (try simp only [Exit.inBlock, Exit.then])
    obtain rfl := HR3.out
    refine bodyPost_ret (v := .tuple #[.agg #[.string TP.1.name, .slice a1 m1 c1, .slice a2 m2 c2, .int .i64 TP.1.cond.k, .slice a3 m3 c3], .agg #[.int .i64 0, .int .i64 0]]) ?_ rfl ⟨_, rfl, ?_, ?_⟩
    · rw [results_cells2 rfl]
      go_simp
    · refine TestAt.mono (base := w.heap.size + 2) ?_ (by omega)
      repeat' (first | with_reducible refine TestAt.setFar ?_ (by omega) _ | with_reducible refine TestAt.drew ?_ | with_reducible refine TestAt.alloc ?_ _ | with_reducible exact HT.out)
    · repeat' (first | with_reducible refine On.setNew ?_ (by omega) _ | with_reducible refine On.drew ?_ | with_reducible refine On.alloc ?_ _ | with_reducible exact W4.out)

/-- PARSE. -/
theorem parseGo_is (s : ByteArray) (hs : s.size ≤ 140737488351232) (w : World) (hw : Lw w) :
    Calls Tryd.prog 4 #[.string s] w (ParsePost w (parseP s)) := by
  unfold parseP
  by_cases h : 4000 < s.size
  · rw [if_pos h]
    refine (parse_long s h hs w).mono ?_
    rintro e w' ⟨rfl, k⟩
    exact ⟨_, rfl, testAt_none _ _, k⟩
  · rw [if_neg h]
    exact parse_short s (by omega) w hw
end Go.Proofs.YtnfmagafajpmpaaDoor
