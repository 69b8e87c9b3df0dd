/- A parser's block in memory; next, fail, accept, expect, end. -/
import Derived.Test.YtacflahkofmcpaaGreatDoorJ03ParsePure
import Derived.Test.YtacflahkofmcpaaGreatDoorJ02LexTake
namespace Go.Proofs.YtacflahkofmcpaaGreatDoor
open Go.RowKit

/-- Only blocks p and l are written; new blocks may be. -/
structure Wp (p l : Nat) (w w' : World) : Prop where
  os : w'.os = w.os
  tape : w'.tape = w.tape
  output : w'.output = w.output
  size : w.heap.size ≤ w'.heap.size
  block : ∀ k, k < w.heap.size → k ≠ p → k ≠ l → w'.heap[k]? = w.heap[k]?
section
variable {p l : Nat} {x y z : World}
theorem Wp.refl (p l : Nat) (w : World) : Wp p l w w := ⟨rfl, rfl, rfl, Nat.le_refl _, fun _ _ _ _ => rfl⟩
theorem Wp.trans (h : Wp p l x y) (k : Wp p l y z) : Wp p l x z :=
  ⟨k.os.trans h.os, k.tape.trans h.tape, k.output.trans h.output, Nat.le_trans h.size k.size, fun i hi a b => (k.block i (Nat.lt_of_lt_of_le hi h.size) a b).trans (h.block i hi a b)⟩
theorem Wp.of_on (k : On x y) : Wp p l x y := ⟨k.os, k.tape, k.output, k.size, fun i hi _ _ => k.block i hi⟩
theorem Wp.on (h : Wp p l x y) (k : On y z) : Wp p l x z := h.trans (Wp.of_on k)
theorem Wp.of_wr (k : Wr l x y) : Wp p l x y := ⟨k.os, k.tape, k.output, k.size, fun i hi _ b => k.block i hi (by simpa using b)⟩
theorem Wp.alloc (h : Wp p l x y) (o : Obj) : Wp p l x (y.alloc o) := h.on ((On.refl _).alloc o)
theorem Wp.drew (h : Wp p l x y) : Wp p l x y.drew := ⟨h.os, h.tape, h.output, h.size, h.block⟩
theorem Wp.set {i : Nat} (h : Wp p l x y) (u : Value) : Wp p l x (y.setCell ⟨p, i, none⟩ u) :=
  h.trans ⟨rfl, rfl, rfl, by simp [World.setCell], fun k _ hne _ => Below.heap_setCell _ _ _ _ hne⟩
theorem Wp.setNew {N i : Nat} (h : Wp p l x y) (hN : x.heap.size ≤ N) (u : Value) : Wp p l x (y.setCell ⟨N, i, none⟩ u) :=
  ⟨h.os, h.tape, h.output, by simpa [World.setCell] using h.size, fun k hk a b => (Below.heap_setCell _ _ _ _ (show k ≠ N by omega)).trans (h.block k hk a b)⟩
end

theorem Lw.far {w w' : World} (h : Lw w) (k : ∀ i, i < 6 → w'.heap[i]? = w.heap[i]?) : Lw w' := by
  have key : ∀ {g : Nat} {n : String} {cs : Array Value}, Tryz.prog.globalNamed n = some g → g < 6 → w.var? Tryz.prog n = some cs → w'.var? Tryz.prog n = some cs := by
    intro g n cs hg hlt h
    unfold World.var? at h ⊢
    simp only [hg, Option.bind_some] at h ⊢
    rw [k g hlt]
    exact h
  refine ⟨key gTab (by decide) h.tab, ?_, ?_, key gSgs (by decide) h.sgs⟩
  · obtain ⟨tp, q, e⟩ := h.syn
    exact ⟨tp, q, key gSyn (by decide) e⟩
  · obtain ⟨tp, q, e⟩ := h.rng
    exact ⟨tp, q, key gRng (by decide) e⟩

/-- A parser's cells. -/
def psC (l : Nat) (s : ByteArray) (S : St) : Array Value := #[.pointer (some ⟨l, 0, none⟩), .int .i64 (tokK s S), .string (tokX s S), .int .i64 (tokP s S), .int .i64 (erC S), .int .i64 (erP S)]

/-- Block p holds a parser whose lexer lies in l, over the text s, where it stands at S. -/
structure Px (w : World) (p l : Nat) (s : ByteArray) (S : St) : Prop where
  blk : ∃ T, w.heap[p]? = some (.cells (psC l s S) T (0, 0))
  lex : ∀ a, S = .ok a → ∃ r, Inv s (to s a) r ∧ Lx w l s (to s a) r
  ll : l < w.heap.size
  ne : p ≠ l
  gp : 6 ≤ p
  gl : 6 ≤ l
  lw : Lw w
  sz : s.size ≤ 4000
  vd : Vd s S

section
variable {w w' : World} {p l : Nat} {s : ByteArray} {S : St}
theorem Px.cell (h : Px w p l s S) (i : Nat) : w.cell? ⟨p, i, none⟩ = (psC l s S)[i]? := by obtain ⟨T, h⟩ := h.blk; simp [World.cell?, h]
theorem Px.c0 (h : Px w p l s S) : w.cell? ⟨p, 0, none⟩ = some (.pointer (some ⟨l, 0, none⟩)) := h.cell 0
theorem Px.c1 (h : Px w p l s S) : w.cell? ⟨p, 1, none⟩ = some (.int .i64 (tokK s S)) := h.cell 1
theorem Px.c2 (h : Px w p l s S) : w.cell? ⟨p, 2, none⟩ = some (.string (tokX s S)) := h.cell 2
theorem Px.c3 (h : Px w p l s S) : w.cell? ⟨p, 3, none⟩ = some (.int .i64 (tokP s S)) := h.cell 3
theorem Px.c4 (h : Px w p l s S) : w.cell? ⟨p, 4, none⟩ = some (.int .i64 (erC S)) := h.cell 4
theorem Px.c5 (h : Px w p l s S) : w.cell? ⟨p, 5, none⟩ = some (.int .i64 (erP S)) := h.cell 5
theorem Px.fr (h : Px w p l s S) (i : Nat) : w.frozen? ⟨p, i, none⟩ = false := by obtain ⟨T, h⟩ := h.blk; simp [World.frozen?, h]
theorem Px.lp (h : Px w p l s S) : p < w.heap.size := by obtain ⟨T, h⟩ := h.blk; exact lt_of_block h
theorem Px.far (h : Px w p l s S) (hs : w.heap.size ≤ w'.heap.size) (k : ∀ i, i < w.heap.size → i < 6 ∨ i = p ∨ i = l → w'.heap[i]? = w.heap[i]?) : Px w' p l s S := by
  refine ⟨?_, fun a ha => ?_, Nat.lt_of_lt_of_le h.ll hs, h.ne, h.gp, h.gl, h.lw.far fun i hi => k i (Nat.lt_of_lt_of_le hi h.lw.lt) (Or.inl hi), h.sz, h.vd⟩
  · obtain ⟨T, e⟩ := h.blk
    exact ⟨T, (k p h.lp (Or.inr (Or.inl rfl))).trans e⟩
  · obtain ⟨r, hi, T, e⟩ := h.lex a ha
    exact ⟨r, hi, T, (k l h.ll (Or.inr (Or.inr rfl))).trans e⟩
theorem Px.on (h : Px w p l s S) (k : On w w') : Px w' p l s S := h.far k.size fun i hi _ => k.block i hi
theorem Px.alloc (h : Px w p l s S) (o : Obj) : Px (w.alloc o) p l s S := h.on ((On.refl _).alloc o)
theorem Px.drew (h : Px w p l s S) : Px w.drew p l s S := h.far (Nat.le_refl _) fun _ _ _ => rfl
theorem Px.setFar {N i : Nat} (h : Px w p l s S) (hp : p < N) (hl : l < N) (u : Value) : Px (w.setCell ⟨N, i, none⟩ u) p l s S :=
  h.far (by simp [World.setCell]) fun k _ hk => Below.heap_setCell _ _ _ _ (show k ≠ N by have := h.gp; omega)
end

/-- Whether it has failed. -/
def flB : St → Bool
  | .ok _ => false
  | .error _ => true
theorem flB_is {S : St} {s : ByteArray} (h : Vd s S) : ((erC S : Int) != 0) = flB S := by
  cases S with
  | ok a => rfl
  | error e => simp only [Vd] at h; simp [erC, flB]; omega

/-- A parser's block written anew: token and error. -/
theorem Px.put {w0 w1 w2 : World} {p l : Nat} {s : ByteArray} {S0 S1 : St} (h : Px w0 p l s S0) (hb : ∃ T, w2.heap[p]? = some (.cells (psC l s S1) T (0, 0))) (hw : Wp p l w0 w1) (hw2 : Wp p l w1 w2)
    (hlx : ∀ a, S1 = .ok a → ∃ r, Inv s (to s a) r ∧ Lx w1 l s (to s a) r) (hv : Vd s S1) (hk : w2.heap[l]? = w1.heap[l]?) : Px w2 p l s S1 := by
  have hw3 := hw.trans hw2
  refine ⟨hb, fun a ha => ?_, Nat.lt_of_lt_of_le h.ll hw3.size, h.ne, h.gp, h.gl, ?_, h.sz, hv⟩
  · obtain ⟨r, hi, T, e⟩ := hlx a ha
    exact ⟨r, hi, T, hk.trans e⟩
  · exact h.lw.far fun i hi => hw3.block i (Nat.lt_of_lt_of_le hi h.lw.lt) (by have := h.gp; omega) (by have := h.gl; omega)
theorem set_far {w : World} {p l i : Nat} (u : Value) (h : p ≠ l) : (w.setCell ⟨p, i, none⟩ u).heap[l]? = w.heap[l]? := Below.heap_setCell _ _ _ _ (fun e => h e.symm)

section
variable (w : World) (p l : Nat) (s : ByteArray) (S : St)
theorem failed_is (h : Px w p l s S) :
    Calls Tryz.prog 32 #[.pointer (some ⟨p, 0, none⟩)] w fun e w' => e = .returned (.bool (flB S)) ∧ w' = w := by
  have c4 := h.c4
  have hb := flB_is h.vd
  clear h
  go_enter Tryz.func32, Tryz.ntmps32
  go_wp2
  go_ret
  exact ⟨rfl, rfl⟩

set_option maxHeartbeats 1000000 in
theorem next_px (a : Nat) (h : Px w p l s (.ok a)) :
    Calls Tryz.prog 30 #[.pointer (some ⟨p, 0, none⟩)] w fun e w' => e = .returned (.tuple #[]) ∧ Px w' p l s (nx s (.ok a)) ∧ Wp p l w w' := by
  obtain ⟨r, hi, hl⟩ := h.lex a rfl
  have hN := next_is w l s (to s a) r (by have := h.sz; omega) hi hl h.gl h.lw
  have c0 := h.c0
  have hto := to_le h.vd.2
  have HP : Hid (Px w p l s (.ok a)) := h
  unfold tkV erV at hN
  show Calls _ _ _ _ fun e w' => _ ∧ Px w' p l s (norm s (to s a)) ∧ _
  by_cases h0 : eC pB s (to s a) = 0
  · simp only [h0, if_true] at hN
    rw [norm_ok s h0]
    clear hl h
    go_enter Tryz.func30, Tryz.ntmps30
    go_wp2_with fail
    refine hN.mono ?_
    rintro e w1 ⟨rfl, hl1, _, hw1⟩
    obtain ⟨T, hb⟩ := HP.out.blk
    have hb1 : w1.heap[p]? = some (.cells (psC l s (.ok a)) T (0, 0)) := (hw1.block p (lt_of_block hb) (by simpa using HP.out.ne)).trans hb
    have d1 : w1.cell? ⟨p, 1, none⟩ = some (.int .i64 (tokK s (.ok a))) := by simp [World.cell?, hb1, psC]
    have d2 : w1.cell? ⟨p, 2, none⟩ = some (.string (tokX s (.ok a))) := by simp [World.cell?, hb1, psC]
    have d3 : w1.cell? ⟨p, 3, none⟩ = some (.int .i64 (tokP s (.ok a))) := by simp [World.cell?, hb1, psC]
    have d4 : w1.cell? ⟨p, 4, none⟩ = some (.int .i64 (erC (.ok a))) := by simp [World.cell?, hb1, psC]
    have d5 : w1.cell? ⟨p, 5, none⟩ = some (.int .i64 (erP (.ok a))) := by simp [World.cell?, hb1, psC]
    have f1 : w1.frozen? ⟨p, 1, none⟩ = false := by simp [World.frozen?, hb1]
    have f2 : w1.frozen? ⟨p, 2, none⟩ = false := by simp [World.frozen?, hb1]
    have f3 : w1.frozen? ⟨p, 3, none⟩ = false := by simp [World.frozen?, hb1]
    have f4 : w1.frozen? ⟨p, 4, none⟩ = false := by simp [World.frozen?, hb1]
    have f5 : w1.frozen? ⟨p, 5, none⟩ = false := by simp [World.frozen?, hb1]
    have HB : Hid (w1.heap[p]? = some (.cells (psC l s (.ok a)) T (0, 0))) := hb1
    clear hb hb1 hN c0
    go_wp2
    go_end0
    refine ⟨rfl, HP.out.put ⟨T, ?_⟩ (Wp.of_wr hw1) (((((Wp.refl _ _ _).set _).set _).set _).set _ |>.set _) (fun a' e => ?_) ⟨h0, hto⟩ ?_, (((((Wp.of_wr hw1).set _).set _).set _).set _).set _⟩
    · exact heap_set (heap_set (heap_set (heap_set (heap_set HB.out))))
    · obtain rfl : to s a = a' := by simpa using e
      exact hl1 trivial
    · have hne := HP.out.ne
      rw [set_far _ hne, set_far _ hne, set_far _ hne, set_far _ hne, set_far _ hne]
  · simp only [h0, if_false] at hN
    rw [norm_err s h0]
    clear hl h
    go_enter Tryz.func30, Tryz.ntmps30
    go_wp2_with fail
    refine hN.mono ?_
    rintro e w1 ⟨rfl, _, hl1, hw1⟩
    obtain ⟨T, hb⟩ := HP.out.blk
    have hb1 : w1.heap[p]? = some (.cells (psC l s (.ok a)) T (0, 0)) := (hw1.block p (lt_of_block hb) (by simpa using HP.out.ne)).trans hb
    have d1 : w1.cell? ⟨p, 1, none⟩ = some (.int .i64 (tokK s (.ok a))) := by simp [World.cell?, hb1, psC]
    have d2 : w1.cell? ⟨p, 2, none⟩ = some (.string (tokX s (.ok a))) := by simp [World.cell?, hb1, psC]
    have d3 : w1.cell? ⟨p, 3, none⟩ = some (.int .i64 (tokP s (.ok a))) := by simp [World.cell?, hb1, psC]
    have d4 : w1.cell? ⟨p, 4, none⟩ = some (.int .i64 (erC (.ok a))) := by simp [World.cell?, hb1, psC]
    have d5 : w1.cell? ⟨p, 5, none⟩ = some (.int .i64 (erP (.ok a))) := by simp [World.cell?, hb1, psC]
    have f1 : w1.frozen? ⟨p, 1, none⟩ = false := by simp [World.frozen?, hb1]
    have f2 : w1.frozen? ⟨p, 2, none⟩ = false := by simp [World.frozen?, hb1]
    have f3 : w1.frozen? ⟨p, 3, none⟩ = false := by simp [World.frozen?, hb1]
    have f4 : w1.frozen? ⟨p, 4, none⟩ = false := by simp [World.frozen?, hb1]
    have f5 : w1.frozen? ⟨p, 5, none⟩ = false := by simp [World.frozen?, hb1]
    have HB : Hid (w1.heap[p]? = some (.cells (psC l s (.ok a)) T (0, 0))) := hb1
    clear hb hb1 hN c0
    go_wp2
    go_end0
    refine ⟨rfl, HP.out.put ⟨T, ?_⟩ (Wp.of_wr hw1) (((((Wp.refl _ _ _).set _).set _).set _).set _ |>.set _) (fun a' e => by cases e) h0 ?_, (((((Wp.of_wr hw1).set _).set _).set _).set _).set _⟩
    · exact heap_set (heap_set (heap_set (heap_set (heap_set HB.out))))
    · have hne := HP.out.ne
      rw [set_far _ hne, set_far _ hne, set_far _ hne, set_far _ hne, set_far _ hne]

set_option maxHeartbeats 1000000 in
theorem fail_is (c : Nat) (h : Px w p l s S) (hc : c ≠ 0) :
    Calls Tryz.prog 115 #[.pointer (some ⟨p, 0, none⟩), .int .i64 c] w fun e w' => e = .returned (.tuple #[]) ∧ Px w' p l s (flS s c S) ∧ Wp p l w w' := by
  have hF := failed_is w p l s S h
  have HP : Hid (Px w p l s S) := h
  have c3 := h.c3
  have hv := vd_fl s h.vd hc
  obtain ⟨T, hb⟩ := h.blk
  have HB : Hid (w.heap[p]? = some (.cells (psC l s S) T (0, 0))) := hb
  have hb1 := hb
  cases S with
  | ok a =>
    simp only [flB] at hF
    have d1 : w.cell? ⟨p, 1, none⟩ = some (.int .i64 (tokK s (.ok a))) := by simp [World.cell?, hb1, psC]
    have d2 : w.cell? ⟨p, 2, none⟩ = some (.string (tokX s (.ok a))) := by simp [World.cell?, hb1, psC]
    have d3 : w.cell? ⟨p, 3, none⟩ = some (.int .i64 (tokP s (.ok a))) := by simp [World.cell?, hb1, psC]
    have d4 : w.cell? ⟨p, 4, none⟩ = some (.int .i64 (erC (.ok a))) := by simp [World.cell?, hb1, psC]
    have d5 : w.cell? ⟨p, 5, none⟩ = some (.int .i64 (erP (.ok a))) := by simp [World.cell?, hb1, psC]
    have f1 : w.frozen? ⟨p, 1, none⟩ = false := by simp [World.frozen?, hb1]
    have f2 : w.frozen? ⟨p, 2, none⟩ = false := by simp [World.frozen?, hb1]
    have f3 : w.frozen? ⟨p, 3, none⟩ = false := by simp [World.frozen?, hb1]
    have f4 : w.frozen? ⟨p, 4, none⟩ = false := by simp [World.frozen?, hb1]
    have f5 : w.frozen? ⟨p, 5, none⟩ = false := by simp [World.frozen?, hb1]
    clear h hb hb1
    go_enter Tryz.func115, Tryz.ntmps115
    go_wp2_with (go_at_call 32; refine hF.mono ?_; rintro e w1 ⟨rfl, rfl⟩)
    go_end0
    refine ⟨rfl, HP.out.put ⟨T, ?_⟩ (Wp.refl _ _ _) (((((Wp.refl _ _ _).set _).set _).set _).set _ |>.set _) (fun a' e => by cases e) hv ?_, (((((Wp.refl _ _ _).set _).set _).set _).set _).set _⟩
    · exact heap_set (heap_set (heap_set (heap_set (heap_set HB.out))))
    · have hne := HP.out.ne
      rw [set_far _ hne, set_far _ hne, set_far _ hne, set_far _ hne, set_far _ hne]
  | error er =>
    simp only [flB] at hF
    have d1 : w.cell? ⟨p, 1, none⟩ = some (.int .i64 (tokK s (.error er))) := by simp [World.cell?, hb1, psC]
    have d2 : w.cell? ⟨p, 2, none⟩ = some (.string (tokX s (.error er))) := by simp [World.cell?, hb1, psC]
    have d3 : w.cell? ⟨p, 3, none⟩ = some (.int .i64 (tokP s (.error er))) := by simp [World.cell?, hb1, psC]
    have d4 : w.cell? ⟨p, 4, none⟩ = some (.int .i64 (erC (.error er))) := by simp [World.cell?, hb1, psC]
    have d5 : w.cell? ⟨p, 5, none⟩ = some (.int .i64 (erP (.error er))) := by simp [World.cell?, hb1, psC]
    have f1 : w.frozen? ⟨p, 1, none⟩ = false := by simp [World.frozen?, hb1]
    have f2 : w.frozen? ⟨p, 2, none⟩ = false := by simp [World.frozen?, hb1]
    have f3 : w.frozen? ⟨p, 3, none⟩ = false := by simp [World.frozen?, hb1]
    have f4 : w.frozen? ⟨p, 4, none⟩ = false := by simp [World.frozen?, hb1]
    have f5 : w.frozen? ⟨p, 5, none⟩ = false := by simp [World.frozen?, hb1]
    clear h hb hb1
    go_enter Tryz.func115, Tryz.ntmps115
    go_wp2_with (go_at_call 32; refine hF.mono ?_; rintro e w1 ⟨rfl, rfl⟩)
    go_end0
    refine ⟨rfl, HP.out.put ⟨T, ?_⟩ (Wp.refl _ _ _) ((((Wp.refl _ _ _).set _).set _).set _) (fun a' e => by cases e) hv ?_, (((Wp.refl _ _ _).set _).set _).set _⟩
    · exact heap_set (heap_set (heap_set HB.out))
    · have hne := HP.out.ne
      rw [set_far _ hne, set_far _ hne, set_far _ hne]

theorem fl_err {S : St} {x : ByteArray} (h : isX s x S = true) (hx : x.toList ≠ []) : ∃ a, S = .ok a := by
  cases S with
  | ok a => exact ⟨a, rfl⟩
  | error e =>
    exfalso
    unfold isX tokX at h
    rw [beq_iff_eq] at h
    rw [ByteArray.toList_eq, ← h] at hx
    exact hx rfl

theorem accept_is (x : ByteArray) (hx : x.toList ≠ []) (h : Px w p l s S) :
    Calls Tryz.prog 75 #[.pointer (some ⟨p, 0, none⟩), .string x] w fun e w' => e = .returned (.bool (isX s x S)) ∧ Px w' p l s (accS s x S) ∧ Wp p l w w' := by
  have c2 := h.c2
  unfold accS
  cases hi : isX s x S with
  | false =>
    have hq : ((tokX s S).toList == x.toList) = false := by rw [ByteArray.toList_eq, ByteArray.toList_eq]; exact hi
    simp only [Bool.false_eq_true, if_false]
    have HP : Hid (Px w p l s S) := h
    clear h hi
    go_enter Tryz.func75, Tryz.ntmps75
    go_wp2
    go_ret
    exact ⟨rfl, HP.out, Wp.refl _ _ _⟩
  | true =>
    obtain ⟨a, rfl⟩ := fl_err s hi hx
    have hq : ((tokX s (.ok a)).toList == x.toList) = true := by rw [ByteArray.toList_eq, ByteArray.toList_eq]; exact hi
    simp only [if_true]
    have hN := next_px w p l s a h
    clear h hi
    go_enter Tryz.func75, Tryz.ntmps75
    go_wp2_with (go_at_call 30; refine hN.mono ?_; rintro e w1 ⟨rfl, h1, hw1⟩)
    go_ret
    exact ⟨rfl, h1, hw1⟩

theorem expect_is (x : ByteArray) (hx : x.toList ≠ []) (h : Px w p l s S) :
    Calls Tryz.prog 73 #[.pointer (some ⟨p, 0, none⟩), .string x] w fun e w' => e = .returned (.tuple #[]) ∧ Px w' p l s (expS s x S) ∧ Wp p l w w' := by
  have hA := accept_is w p l s S x hx h
  unfold accS at hA
  unfold expS
  cases hi : isX s x S with
  | false =>
    rw [hi] at hA
    simp only [Bool.false_eq_true, if_false] at hA ⊢
    clear h
    go_enter Tryz.func73, Tryz.ntmps73
    go_wp2_with (first | (go_at_call 75; refine hA.mono ?_; rintro e w1 ⟨rfl, h1, hw1⟩) | (go_at_call 115; refine (fail_is _ p l s S 6 h1 (by decide)).mono ?_; rintro e w2 ⟨rfl, h2, hw2⟩))
    go_end0
    exact ⟨rfl, h2, hw1.trans hw2⟩
  | true =>
    rw [hi] at hA
    simp only [if_true] at hA ⊢
    clear h
    go_enter Tryz.func73, Tryz.ntmps73
    go_wp2_with (go_at_call 75; refine hA.mono ?_; rintro e w1 ⟨rfl, h1, hw1⟩)
    go_end0
    exact ⟨rfl, h1, hw1⟩

theorem end_is (h : Px w p l s S) :
    Calls Tryz.prog 81 #[.pointer (some ⟨p, 0, none⟩)] w fun e w' => e = .returned (.tuple #[]) ∧ Px w' p l s (endS s S) ∧ Wp p l w w' := by
  have c1 := h.c1
  unfold endS
  by_cases hk : tokK s S = 4
  · have hq : ((tokK s S : Int) != 4) = false := by rw [hk]; rfl
    rw [if_pos hk]
    clear hk
    go_enter Tryz.func81, Tryz.ntmps81
    go_wp2
    go_end0
    exact ⟨rfl, h, Wp.refl _ _ _⟩
  · have hq : ((tokK s S : Int) != 4) = true := by simp; omega
    rw [if_neg hk]
    have hF := fail_is w p l s S 6 h (by decide)
    clear hk h
    go_enter Tryz.func81, Tryz.ntmps81
    go_wp2_with (go_at_call 115; refine hF.mono ?_; rintro e w1 ⟨rfl, h1, hw1⟩)
    go_end0
    exact ⟨rfl, h1, hw1⟩
end
end Go.Proofs.YtacflahkofmcpaaGreatDoor

namespace Go.Proofs.YtacflahkofmcpaaGreatDoor
open Go.RowKit

theorem cell_sign {w : World} (hw : Lw w) (i : Nat) (h : i < 12) : w.cell? ⟨0, i, none⟩ = some (.string (signTexts.getD i ⟨#[]⟩)) := by
  have h0 := World.var?_cell gSgs hw.sgs i
  rw [h0]
  match i, h with
  | 0, _ | 1, _ | 2, _ | 3, _ | 4, _ | 5, _ | 6, _ | 7, _ | 8, _ | 9, _ | 10, _ | 11, _ => rfl
  | n + 12, h => omega

def sgn (k : Nat) : ByteArray := signTexts.getD k ⟨#[]⟩

set_option maxHeartbeats 400000 in
theorem op_any (s : ByteArray) (r : Nat) (h1 : 1 ≤ r) (h2 : r ≤ 12) (hlt : ∀ k, 1 ≤ k → k < r → ((sgn k).toList == s.toList) = false) (heq : r ≤ 11 → ((sgn r).toList == s.toList) = true) (w : World) (hw : Lw w) :
    Calls Tryz.prog 158 #[.string s] w fun e w' => e = .returned (.tuple #[.int .i64 (if r ≤ 11 then r else 0), .bool (decide (r ≤ 11))]) ∧ w' = w := by
  have hc : ∀ k, k < 12 → w.cell? ⟨0, k, none⟩ = some (.string (sgn k)) := fun k hk => cell_sign hw k hk
  clear hw
  go_enter Tryz.func158, Tryz.ntmps158
  go_wp2
  go_loop [4] (fun i => ∃ k : Nat, 1 ≤ k ∧ k ≤ r ∧ i = .int .i64 k) (fun i => 12 - (intOf i).toNat)
  case atStart => exact ⟨1, by omega, h1, rfl⟩
  case round =>
    obtain ⟨k, k1, k2, rfl⟩ := hrel
    by_cases hk : k < r
    · have e1 := hlt k k1 hk
      have e2 := hc k (by omega)
      clear hlt heq hc
      go_wp2
      go_round
      case rel => exact ⟨k + 1, by omega, by omega, by go_num⟩
      case measure => simp [intOf]; omega
    · obtain rfl : k = r := by omega
      by_cases h11 : k ≤ 11
      · have e1 := heq h11
        have e2 := hc k (by omega)
        clear hlt heq hc
        go_wp2
        go_ret2
        exact ⟨by simp, rfl⟩
      · clear hlt heq hc
        go_wp2
        go_ret2
        exact ⟨by simp, rfl⟩

/-- Where s stands among the signs; twelve if nowhere. -/
def opFrom (s : ByteArray) : Nat → Nat
  | 0 => 12
  | n + 1 => if ((sgn (12 - (n + 1))).toList == s.toList) = true then 12 - (n + 1) else opFrom s n
def opR (s : ByteArray) : Nat := opFrom s 11
theorem opFrom_is (s : ByteArray) (n : Nat) (hn : n ≤ 11) : 12 - n ≤ opFrom s n ∧ opFrom s n ≤ 12 ∧ (∀ k, 12 - n ≤ k → k < opFrom s n → ((sgn k).toList == s.toList) = false) ∧ (opFrom s n ≤ 11 → ((sgn (opFrom s n)).toList == s.toList) = true) := by
  induction n with
  | zero => exact ⟨by simp [opFrom], by simp [opFrom], fun k a b => by simp [opFrom] at b; omega, fun h => by simp [opFrom] at h⟩
  | succ n ih =>
    obtain ⟨r1, r2, r3, r4⟩ := ih (by omega)
    unfold opFrom
    by_cases e : ((sgn (12 - (n + 1))).toList == s.toList) = true
    · rw [if_pos e]
      exact ⟨by omega, by omega, fun k a b => by omega, fun _ => e⟩
    · rw [if_neg e]
      refine ⟨by omega, r2, fun k a b => ?_, r4⟩
      by_cases hk : k = 12 - (n + 1)
      · rw [hk]; simpa using e
      · exact r3 k (by omega) b
def opV (s : ByteArray) : Int := if opR s ≤ 11 then (opR s : Int) else 0
def opB (s : ByteArray) : Bool := decide (opR s ≤ 11)
theorem op_is (s : ByteArray) (w : World) (hw : Lw w) :
    Calls Tryz.prog 158 #[.string s] w fun e w' => e = .returned (.tuple #[.int .i64 (opV s), .bool (opB s)]) ∧ w' = w :=
  have h := opFrom_is s 11 (by omega)
  op_any s (opR s) h.1 h.2.1 h.2.2.1 h.2.2.2 w hw
end Go.Proofs.YtacflahkofmcpaaGreatDoor
