/- A parser's block in memory; next, fail, accept, expect, end. -/
import Derived.Test.YtnfmagafajpmpaaDoorParsePure
namespace Go.Proofs.YtnfmagafajpmpaaDoor
open Go.RowKit

/-- Only blocks p and l are written; new blocks may be. -/
structure Wp (p l : Nat) (w w' : World) : Prop where
  os : w'.os = w.os
  tape : w'.tape = w.tape
  output : w'.output = w.output
  size : w.heap.size ≤ w'.heap.size
  block : ∀ k, k < w.heap.size → k ≠ p → k ≠ l → w'.heap[k]? = w.heap[k]?
section
variable {p l : Nat} {x y z : World}
theorem Wp.refl (p l : Nat) (w : World) : Wp p l w w := ⟨rfl, rfl, rfl, Nat.le_refl _, fun _ _ _ _ => rfl⟩
theorem Wp.trans (h : Wp p l x y) (k : Wp p l y z) : Wp p l x z :=
  ⟨k.os.trans h.os, k.tape.trans h.tape, k.output.trans h.output, Nat.le_trans h.size k.size, fun i hi a b => (k.block i (Nat.lt_of_lt_of_le hi h.size) a b).trans (h.block i hi a b)⟩
theorem Wp.of_on (k : On x y) : Wp p l x y := ⟨k.os, k.tape, k.output, k.size, fun i hi _ _ => k.block i hi⟩
theorem Wp.on (h : Wp p l x y) (k : On y z) : Wp p l x z := h.trans (Wp.of_on k)
theorem Wp.of_wr (k : Wr l x y) : Wp p l x y := ⟨k.os, k.tape, k.output, k.size, fun i hi _ b => k.block i hi (by simpa using b)⟩
theorem Wp.alloc (h : Wp p l x y) (o : Obj) : Wp p l x (y.alloc o) := h.on ((On.refl _).alloc o)
theorem Wp.drew (h : Wp p l x y) : Wp p l x y.drew := ⟨h.os, h.tape, h.output, h.size, h.block⟩
theorem Wp.set {i : Nat} (h : Wp p l x y) (u : Value) : Wp p l x (y.setCell ⟨p, i, none⟩ u) :=
  h.trans ⟨rfl, rfl, rfl, by simp [World.setCell], fun k _ hne _ => Below.heap_setCell _ _ _ _ hne⟩
theorem Wp.setNew {N i : Nat} (h : Wp p l x y) (hN : x.heap.size ≤ N) (u : Value) : Wp p l x (y.setCell ⟨N, i, none⟩ u) :=
  ⟨h.os, h.tape, h.output, by simpa [World.setCell] using h.size, fun k hk a b => (Below.heap_setCell _ _ _ _ (show k ≠ N by omega)).trans (h.block k hk a b)⟩
end

theorem Lw.far {w w' : World} (h : Lw w) (k : ∀ i, i < 4 → w'.heap[i]? = w.heap[i]?) : Lw w' := by
  have key : ∀ {g : Nat} {n : String} {cs : Array Value}, Tryd.prog.globalNamed n = some g → g < 4 → w.var? Tryd.prog n = some cs → w'.var? Tryd.prog n = some cs := by
    intro g n cs hg hlt h
    unfold World.var? at h ⊢
    simp only [hg, Option.bind_some] at h ⊢
    rw [k g hlt]
    exact h
  refine ⟨key gTab (by decide) h.tab, ?_, ?_, key gSgs (by decide) h.sgs⟩
  · obtain ⟨tp, q, e⟩ := h.syn
    exact ⟨tp, q, key gSyn (by decide) e⟩
  · obtain ⟨tp, q, e⟩ := h.rng
    exact ⟨tp, q, key gRng (by decide) e⟩

/-- A parser's cells. -/
def psC (l : Nat) (s : ByteArray) (S : St) : Array Value := #[.pointer (some ⟨l, 0, none⟩), .int .i64 (tokK s S), .string (tokX s S), .int .i64 (tokP s S), .int .i64 (erC S), .int .i64 (erP S)]

/-- Block p holds a parser whose lexer lies in l, over the text s, where it stands at S. -/
structure Px (w : World) (p l : Nat) (s : ByteArray) (S : St) : Prop where
  blk : ∃ T, w.heap[p]? = some (.cells (psC l s S) T (0, 0))
  lex : ∀ a, S = .ok a → ∃ r, Inv s (to s a) r ∧ Lx w l s (to s a) r
  ll : l < w.heap.size
  ne : p ≠ l
  gp : 4 ≤ p
  gl : 4 ≤ l
  lw : Lw w
  sz : s.size ≤ 4000
  vd : Vd s S

section
variable {w w' : World} {p l : Nat} {s : ByteArray} {S : St}
theorem Px.cell (h : Px w p l s S) (i : Nat) : w.cell? ⟨p, i, none⟩ = (psC l s S)[i]? := by obtain ⟨T, h⟩ := h.blk; simp [World.cell?, h]
theorem Px.c0 (h : Px w p l s S) : w.cell? ⟨p, 0, none⟩ = some (.pointer (some ⟨l, 0, none⟩)) := h.cell 0
theorem Px.c1 (h : Px w p l s S) : w.cell? ⟨p, 1, none⟩ = some (.int .i64 (tokK s S)) := h.cell 1
theorem Px.c2 (h : Px w p l s S) : w.cell? ⟨p, 2, none⟩ = some (.string (tokX s S)) := h.cell 2
theorem Px.c3 (h : Px w p l s S) : w.cell? ⟨p, 3, none⟩ = some (.int .i64 (tokP s S)) := h.cell 3
theorem Px.c4 (h : Px w p l s S) : w.cell? ⟨p, 4, none⟩ = some (.int .i64 (erC S)) := h.cell 4
theorem Px.c5 (h : Px w p l s S) : w.cell? ⟨p, 5, none⟩ = some (.int .i64 (erP S)) := h.cell 5
theorem Px.fr (h : Px w p l s S) (i : Nat) : w.frozen? ⟨p, i, none⟩ = false := by obtain ⟨T, h⟩ := h.blk; simp [World.frozen?, h]
theorem Px.lp (h : Px w p l s S) : p < w.heap.size := by obtain ⟨T, h⟩ := h.blk; exact lt_of_block h
theorem Px.far (h : Px w p l s S) (hs : w.heap.size ≤ w'.heap.size) (k : ∀ i, i < w.heap.size → i < 4 ∨ i = p ∨ i = l → w'.heap[i]? = w.heap[i]?) : Px w' p l s S := by
  refine ⟨?_, fun a ha => ?_, Nat.lt_of_lt_of_le h.ll hs, h.ne, h.gp, h.gl, h.lw.far fun i hi => k i (Nat.lt_of_lt_of_le hi h.lw.lt) (Or.inl hi), h.sz, h.vd⟩
  · obtain ⟨T, e⟩ := h.blk
    exact ⟨T, (k p h.lp (Or.inr (Or.inl rfl))).trans e⟩
  · obtain ⟨r, hi, T, e⟩ := h.lex a ha
    exact ⟨r, hi, T, (k l h.ll (Or.inr (Or.inr rfl))).trans e⟩
theorem Px.on (h : Px w p l s S) (k : On w w') : Px w' p l s S := h.far k.size fun i hi _ => k.block i hi
theorem Px.alloc (h : Px w p l s S) (o : Obj) : Px (w.alloc o) p l s S := h.on ((On.refl _).alloc o)
theorem Px.drew (h : Px w p l s S) : Px w.drew p l s S := h.far (Nat.le_refl _) fun _ _ _ => rfl
theorem Px.setFar {N i : Nat} (h : Px w p l s S) (hp : p < N) (hl : l < N) (u : Value) : Px (w.setCell ⟨N, i, none⟩ u) p l s S :=
  h.far (by simp [World.setCell]) fun k _ hk => Below.heap_setCell _ _ _ _ (show k ≠ N by have := h.gp; omega)
end

/-- Whether it has failed. -/
def flB : St → Bool
  | .ok _ => false
  | .error _ => true
theorem flB_is {S : St} {s : ByteArray} (h : Vd s S) : ((erC S : Int) != 0) = flB S := by
  cases S with
  | ok a => rfl
  | error e => simp only [Vd] at h; simp [erC, flB]; omega

/-- A parser's block written anew: token and error. -/
theorem Px.put {w0 w1 w2 : World} {p l : Nat} {s : ByteArray} {S0 S1 : St} (h : Px w0 p l s S0) (hb : ∃ T, w2.heap[p]? = some (.cells (psC l s S1) T (0, 0))) (hw : Wp p l w0 w1) (hw2 : Wp p l w1 w2)
    (hlx : ∀ a, S1 = .ok a → ∃ r, Inv s (to s a) r ∧ Lx w1 l s (to s a) r) (hv : Vd s S1) (hk : w2.heap[l]? = w1.heap[l]?) : Px w2 p l s S1 := by
  have hw3 := hw.trans hw2
  refine ⟨hb, fun a ha => ?_, Nat.lt_of_lt_of_le h.ll hw3.size, h.ne, h.gp, h.gl, ?_, h.sz, hv⟩
  · obtain ⟨r, hi, T, e⟩ := hlx a ha
    exact ⟨r, hi, T, hk.trans e⟩
  · exact h.lw.far fun i hi => hw3.block i (Nat.lt_of_lt_of_le hi h.lw.lt) (by have := h.gp; omega) (by have := h.gl; omega)
theorem set_far {w : World} {p l i : Nat} (u : Value) (h : p ≠ l) : (w.setCell ⟨p, i, none⟩ u).heap[l]? = w.heap[l]? := Below.heap_setCell _ _ _ _ (fun e => h e.symm)

section
variable (w : World) (p l : Nat) (s : ByteArray) (S : St)
theorem failed_is (h : Px w p l s S) :
    Calls Tryd.prog 11 #[.pointer (some ⟨p, 0, none⟩)] w fun e w' => e = .returned (.bool (flB S)) ∧ w' = w := by
  have c4 := h.c4
  have hb := flB_is h.vd
  clear h
  go_enter Tryd.func11, Tryd.ntmps11
  go_wp2
  go_ret
  exact ⟨rfl, rfl⟩

set_option maxHeartbeats 1000000 in
theorem next_px (a : Nat) (h : Px w p l s (.ok a)) :
    Calls Tryd.prog 9 #[.pointer (some ⟨p, 0, none⟩)] w fun e w' => e = .returned (.tuple #[]) ∧ Px w' p l s (nx s (.ok a)) ∧ Wp p l w w' := by
  obtain ⟨r, hi, hl⟩ := h.lex a rfl
  have hN := next_is w l s (to s a) r (by have := h.sz; omega) hi hl h.gl h.lw
  have c0 := h.c0
  have hto := to_le h.vd.2
  have HP : Hid (Px w p l s (.ok a)) := h
  unfold tkV erV at hN
  show Calls _ _ _ _ fun e w' => _ ∧ Px w' p l s (norm s (to s a)) ∧ _
  by_cases h0 : eC pB s (to s a) = 0
  · simp only [h0, if_true] at hN
    rw [norm_ok s h0]
    clear hl h
    go_enter Tryd.func9, Tryd.ntmps9
    go_wp2_with fail
    refine hN.mono ?_
    rintro e w1 ⟨rfl, hl1, _, hw1⟩
    obtain ⟨T, hb⟩ := HP.out.blk
    have hb1 : w1.heap[p]? = some (.cells (psC l s (.ok a)) T (0, 0)) := (hw1.block p (lt_of_block hb) (by simpa using HP.out.ne)).trans hb
    have d1 : w1.cell? ⟨p, 1, none⟩ = some (.int .i64 (tokK s (.ok a))) := by simp [World.cell?, hb1, psC]
    have d2 : w1.cell? ⟨p, 2, none⟩ = some (.string (tokX s (.ok a))) := by simp [World.cell?, hb1, psC]
    have d3 : w1.cell? ⟨p, 3, none⟩ = some (.int .i64 (tokP s (.ok a))) := by simp [World.cell?, hb1, psC]
    have d4 : w1.cell? ⟨p, 4, none⟩ = some (.int .i64 (erC (.ok a))) := by simp [World.cell?, hb1, psC]
    have d5 : w1.cell? ⟨p, 5, none⟩ = some (.int .i64 (erP (.ok a))) := by simp [World.cell?, hb1, psC]
    have f1 : w1.frozen? ⟨p, 1, none⟩ = false := by simp [World.frozen?, hb1]
    have f2 : w1.frozen? ⟨p, 2, none⟩ = false := by simp [World.frozen?, hb1]
    have f3 : w1.frozen? ⟨p, 3, none⟩ = false := by simp [World.frozen?, hb1]
    have f4 : w1.frozen? ⟨p, 4, none⟩ = false := by simp [World.frozen?, hb1]
    have f5 : w1.frozen? ⟨p, 5, none⟩ = false := by simp [World.frozen?, hb1]
    have HB : Hid (w1.heap[p]? = some (.cells (psC l s (.ok a)) T (0, 0))) := hb1
    clear hb hb1 hN c0
    go_wp2
    go_end0
    refine ⟨rfl, HP.out.put ⟨T, ?_⟩ (Wp.of_wr hw1) (((((Wp.refl _ _ _).set _).set _).set _).set _ |>.set _) (fun a' e => ?_) ⟨h0, hto⟩ ?_, (((((Wp.of_wr hw1).set _).set _).set _).set _).set _⟩
    · exact heap_set (heap_set (heap_set (heap_set (heap_set HB.out))))
    · obtain rfl : to s a = a' := by simpa using e
      exact hl1 trivial
    · have hne := HP.out.ne
      rw [set_far _ hne, set_far _ hne, set_far _ hne, set_far _ hne, set_far _ hne]
  · simp only [h0, if_false] at hN
    rw [norm_err s h0]
    clear hl h
    go_enter Tryd.func9, Tryd.ntmps9
    go_wp2_with fail
    refine hN.mono ?_
    rintro e w1 ⟨rfl, _, hl1, hw1⟩
    obtain ⟨T, hb⟩ := HP.out.blk
    have hb1 : w1.heap[p]? = some (.cells (psC l s (.ok a)) T (0, 0)) := (hw1.block p (lt_of_block hb) (by simpa using HP.out.ne)).trans hb
    have d1 : w1.cell? ⟨p, 1, none⟩ = some (.int .i64 (tokK s (.ok a))) := by simp [World.cell?, hb1, psC]
    have d2 : w1.cell? ⟨p, 2, none⟩ = some (.string (tokX s (.ok a))) := by simp [World.cell?, hb1, psC]
    have d3 : w1.cell? ⟨p, 3, none⟩ = some (.int .i64 (tokP s (.ok a))) := by simp [World.cell?, hb1, psC]
    have d4 : w1.cell? ⟨p, 4, none⟩ = some (.int .i64 (erC (.ok a))) := by simp [World.cell?, hb1, psC]
    have d5 : w1.cell? ⟨p, 5, none⟩ = some (.int .i64 (erP (.ok a))) := by simp [World.cell?, hb1, psC]
    have f1 : w1.frozen? ⟨p, 1, none⟩ = false := by simp [World.frozen?, hb1]
    have f2 : w1.frozen? ⟨p, 2, none⟩ = false := by simp [World.frozen?, hb1]
    have f3 : w1.frozen? ⟨p, 3, none⟩ = false := by simp [World.frozen?, hb1]
    have f4 : w1.frozen? ⟨p, 4, none⟩ = false := by simp [World.frozen?, hb1]
    have f5 : w1.frozen? ⟨p, 5, none⟩ = false := by simp [World.frozen?, hb1]
    have HB : Hid (w1.heap[p]? = some (.cells (psC l s (.ok a)) T (0, 0))) := hb1
    clear hb hb1 hN c0
    go_wp2
    go_end0
    refine ⟨rfl, HP.out.put ⟨T, ?_⟩ (Wp.of_wr hw1) (((((Wp.refl _ _ _).set _).set _).set _).set _ |>.set _) (fun a' e => by cases e) h0 ?_, (((((Wp.of_wr hw1).set _).set _).set _).set _).set _⟩
    · exact heap_set (heap_set (heap_set (heap_set (heap_set HB.out))))
    · have hne := HP.out.ne
      rw [set_far _ hne, set_far _ hne, set_far _ hne, set_far _ hne, set_far _ hne]

set_option maxHeartbeats 1000000 in
theorem fail_is (c : Nat) (h : Px w p l s S) (hc : c ≠ 0) :
    Calls Tryd.prog 27 #[.pointer (some ⟨p, 0, none⟩), .int .i64 c] w fun e w' => e = .returned (.tuple #[]) ∧ Px w' p l s (flS s c S) ∧ Wp p l w w' := by
  have hF := failed_is w p l s S h
  have HP : Hid (Px w p l s S) := h
  have c3 := h.c3
  have hv := vd_fl s h.vd hc
  obtain ⟨T, hb⟩ := h.blk
  have HB : Hid (w.heap[p]? = some (.cells (psC l s S) T (0, 0))) := hb
  have hb1 := hb
  cases S with
  | ok a =>
    simp only [flB] at hF
    have d1 : w.cell? ⟨p, 1, none⟩ = some (.int .i64 (tokK s (.ok a))) := by simp [World.cell?, hb1, psC]
    have d2 : w.cell? ⟨p, 2, none⟩ = some (.string (tokX s (.ok a))) := by simp [World.cell?, hb1, psC]
    have d3 : w.cell? ⟨p, 3, none⟩ = some (.int .i64 (tokP s (.ok a))) := by simp [World.cell?, hb1, psC]
    have d4 : w.cell? ⟨p, 4, none⟩ = some (.int .i64 (erC (.ok a))) := by simp [World.cell?, hb1, psC]
    have d5 : w.cell? ⟨p, 5, none⟩ = some (.int .i64 (erP (.ok a))) := by simp [World.cell?, hb1, psC]
    have f1 : w.frozen? ⟨p, 1, none⟩ = false := by simp [World.frozen?, hb1]
    have f2 : w.frozen? ⟨p, 2, none⟩ = false := by simp [World.frozen?, hb1]
    have f3 : w.frozen? ⟨p, 3, none⟩ = false := by simp [World.frozen?, hb1]
    have f4 : w.frozen? ⟨p, 4, none⟩ = false := by simp [World.frozen?, hb1]
    have f5 : w.frozen? ⟨p, 5, none⟩ = false := by simp [World.frozen?, hb1]
    clear h hb hb1
    go_enter Tryd.func27, Tryd.ntmps27
    go_wp2_with (go_at_call 11; refine hF.mono ?_; rintro e w1 ⟨rfl, rfl⟩)
    go_end0
    refine ⟨rfl, HP.out.put ⟨T, ?_⟩ (Wp.refl _ _ _) (((((Wp.refl _ _ _).set _).set _).set _).set _ |>.set _) (fun a' e => by cases e) hv ?_, (((((Wp.refl _ _ _).set _).set _).set _).set _).set _⟩
    · exact heap_set (heap_set (heap_set (heap_set (heap_set HB.out))))
    · have hne := HP.out.ne
      rw [set_far _ hne, set_far _ hne, set_far _ hne, set_far _ hne, set_far _ hne]
  | error er =>
    simp only [flB] at hF
    have d1 : w.cell? ⟨p, 1, none⟩ = some (.int .i64 (tokK s (.error er))) := by simp [World.cell?, hb1, psC]
    have d2 : w.cell? ⟨p, 2, none⟩ = some (.string (tokX s (.error er))) := by simp [World.cell?, hb1, psC]
    have d3 : w.cell? ⟨p, 3, none⟩ = some (.int .i64 (tokP s (.error er))) := by simp [World.cell?, hb1, psC]
    have d4 : w.cell? ⟨p, 4, none⟩ = some (.int .i64 (erC (.error er))) := by simp [World.cell?, hb1, psC]
    have d5 : w.cell? ⟨p, 5, none⟩ = some (.int .i64 (erP (.error er))) := by simp [World.cell?, hb1, psC]
    have f1 : w.frozen? ⟨p, 1, none⟩ = false := by simp [World.frozen?, hb1]
    have f2 : w.frozen? ⟨p, 2, none⟩ = false := by simp [World.frozen?, hb1]
    have f3 : w.frozen? ⟨p, 3, none⟩ = false := by simp [World.frozen?, hb1]
    have f4 : w.frozen? ⟨p, 4, none⟩ = false := by simp [World.frozen?, hb1]
    have f5 : w.frozen? ⟨p, 5, none⟩ = false := by simp [World.frozen?, hb1]
    clear h hb hb1
    go_enter Tryd.func27, Tryd.ntmps27
    go_wp2_with (go_at_call 11; refine hF.mono ?_; rintro e w1 ⟨rfl, rfl⟩)
    go_end0
    refine ⟨rfl, HP.out.put ⟨T, ?_⟩ (Wp.refl _ _ _) ((((Wp.refl _ _ _).set _).set _).set _) (fun a' e => by cases e) hv ?_, (((Wp.refl _ _ _).set _).set _).set _⟩
    · exact heap_set (heap_set (heap_set HB.out))
    · have hne := HP.out.ne
      rw [set_far _ hne, set_far _ hne, set_far _ hne]

theorem fl_err {S : St} {x : ByteArray} (h : isX s x S = true) (hx : x.toList ≠ []) : ∃ a, S = .ok a := by
  cases S with
  | ok a => exact ⟨a, rfl⟩
  | error e =>
    exfalso
    unfold isX tokX at h
    rw [beq_iff_eq] at h
    rw [ByteArray.toList_eq, ← h] at hx
    exact hx rfl

theorem accept_is (x : ByteArray) (hx : x.toList ≠ []) (h : Px w p l s S) :
    Calls Tryd.prog 19 #[.pointer (some ⟨p, 0, none⟩), .string x] w fun e w' => e = .returned (.bool (isX s x S)) ∧ Px w' p l s (accS s x S) ∧ Wp p l w w' := by
  have c2 := h.c2
  unfold accS
  cases hi : isX s x S with
  | false =>
    have hq : ((tokX s S).toList == x.toList) = false := by rw [ByteArray.toList_eq, ByteArray.toList_eq]; exact hi
    simp only [Bool.false_eq_true, if_false]
    have HP : Hid (Px w p l s S) := h
    clear h hi
    go_enter Tryd.func19, Tryd.ntmps19
    go_wp2
    go_ret
    exact ⟨rfl, HP.out, Wp.refl _ _ _⟩
  | true =>
    obtain ⟨a, rfl⟩ := fl_err s hi hx
    have hq : ((tokX s (.ok a)).toList == x.toList) = true := by rw [ByteArray.toList_eq, ByteArray.toList_eq]; exact hi
    simp only [if_true]
    have hN := next_px w p l s a h
    clear h hi
    go_enter Tryd.func19, Tryd.ntmps19
    go_wp2_with (go_at_call 9; refine hN.mono ?_; rintro e w1 ⟨rfl, h1, hw1⟩)
    go_ret
    exact ⟨rfl, h1, hw1⟩

theorem expect_is (x : ByteArray) (hx : x.toList ≠ []) (h : Px w p l s S) :
    Calls Tryd.prog 17 #[.pointer (some ⟨p, 0, none⟩), .string x] w fun e w' => e = .returned (.tuple #[]) ∧ Px w' p l s (expS s x S) ∧ Wp p l w w' := by
  have hA := accept_is w p l s S x hx h
  unfold accS at hA
  unfold expS
  cases hi : isX s x S with
  | false =>
    rw [hi] at hA
    simp only [Bool.false_eq_true, if_false] at hA ⊢
    clear h
    go_enter Tryd.func17, Tryd.ntmps17
    go_wp2_with (first | (go_at_call 19; refine hA.mono ?_; rintro e w1 ⟨rfl, h1, hw1⟩) | (go_at_call 27; refine (fail_is _ p l s S 6 h1 (by decide)).mono ?_; rintro e w2 ⟨rfl, h2, hw2⟩))
    go_end0
    exact ⟨rfl, h2, hw1.trans hw2⟩
  | true =>
    rw [hi] at hA
    simp only [if_true] at hA ⊢
    clear h
    go_enter Tryd.func17, Tryd.ntmps17
    go_wp2_with (go_at_call 19; refine hA.mono ?_; rintro e w1 ⟨rfl, h1, hw1⟩)
    go_end0
    exact ⟨rfl, h1, hw1⟩

theorem end_is (h : Px w p l s S) :
    Calls Tryd.prog 25 #[.pointer (some ⟨p, 0, none⟩)] w fun e w' => e = .returned (.tuple #[]) ∧ Px w' p l s (endS s S) ∧ Wp p l w w' := by
  have c1 := h.c1
  unfold endS
  by_cases hk : tokK s S = 4
  · have hq : ((tokK s S : Int) != 4) = false := by rw [hk]; rfl
    rw [if_pos hk]
    clear hk
    go_enter Tryd.func25, Tryd.ntmps25
    go_wp2
    go_end0
    exact ⟨rfl, h, Wp.refl _ _ _⟩
  · have hq : ((tokK s S : Int) != 4) = true := by simp; omega
    rw [if_neg hk]
    have hF := fail_is w p l s S 6 h (by decide)
    clear hk h
    go_enter Tryd.func25, Tryd.ntmps25
    go_wp2_with (go_at_call 27; refine hF.mono ?_; rintro e w1 ⟨rfl, h1, hw1⟩)
    go_end0
    exact ⟨rfl, h1, hw1⟩
end
end Go.Proofs.YtnfmagafajpmpaaDoor
