/- The document's reader: an instruction, an atom. -/
import Derived.Test.YtacflahkofmcpaaGreatDoorJ19RefOp
namespace Go.Proofs.YtacflahkofmcpaaGreatDoor
open Go.RowKit

/-- It has looked at a good token. -/
def Tn (w : World) (r : Nat) (s : ByteArray) (S : St) : Prop := ∃ a, S = .ok a ∧ a ≤ s.size ∧ Bk w r (rdC s a (kd s a) (tx s a) (pl s a) (to s a) 0 0)
theorem Tn.alloc {w : World} {r : Nat} {s : ByteArray} {S : St} (h : Tn w r s S) (o : Obj) : Tn (w.alloc o) r s S := by
  obtain ⟨a, h1, h2, h3⟩ := h
  exact ⟨a, h1, h2, h3.alloc o⟩
theorem Tn.setFar {w : World} {r N i : Nat} {s : ByteArray} {S : St} (h : Tn w r s S) (hne : r ≠ N) (u : Value) : Tn (w.setCell ⟨N, i, none⟩ u) r s S := by
  obtain ⟨a, h1, h2, h3⟩ := h
  exact ⟨a, h1, h2, h3.setFar hne i u⟩
/-- A reader that stands at S. -/
def Ro (w : World) (r : Nat) (s : ByteArray) (S : St) : Prop := ∃ o, Rx w r s S o
theorem Ro.alloc {w : World} {r : Nat} {s : ByteArray} {S : St} (h : Ro w r s S) (ob : Obj) : Ro (w.alloc ob) r s S := by obtain ⟨o, h⟩ := h; exact ⟨o, h.alloc ob⟩
theorem Ro.setFar {w : World} {r N i : Nat} {s : ByteArray} {S : St} (h : Ro w r s S) (hne : r ≠ N) (u : Value) : Ro (w.setCell ⟨N, i, none⟩ u) r s S := by obtain ⟨o, h⟩ := h; exact ⟨o, h.setFar hne u⟩
theorem Ro.lt {w : World} {r : Nat} {s : ByteArray} {S : St} (h : Ro w r s S) : r < w.heap.size := by obtain ⟨o, h⟩ := h; exact h.lt

section
variable (w : World) (r : Nat) (s : ByteArray) (S : St) (hL : LookOk) (hs : s.size ≤ 4000)
include hL hs
theorem is_yes (x : ByteArray) (hx : x.toList ≠ []) (hn : NoNum s x) (q : isX s x S = true) (h : Ro w r s S) :
    Calls Tryz.prog 36 #[.pointer (some ⟨r, 0, none⟩), .string x] w fun e w' => e = .returned (.bool true) ∧ Tn w' r s S ∧ Wr r w w' := by
  obtain ⟨o, h⟩ := h
  refine (is_is w r s S hL x hx hn hs o h).mono ?_
  rintro e w' ⟨rfl, h1, k⟩
  rw [q]
  obtain ⟨a, rfl⟩ := fl_err s q hx
  obtain ⟨h2, _, h3⟩ := h1.good
  exact ⟨rfl, ⟨a, rfl, h2, h3⟩, k⟩
theorem is_no (x : ByteArray) (hx : x.toList ≠ []) (hn : NoNum s x) (q : isX s x S = false) (h : Ro w r s S) :
    Calls Tryz.prog 36 #[.pointer (some ⟨r, 0, none⟩), .string x] w fun e w' => e = .returned (.bool false) ∧ Ro w' r s S ∧ Wr r w w' := by
  obtain ⟨o, h⟩ := h
  refine (is_is w r s S hL x hx hn hs o h).mono ?_
  rintro e w' ⟨rfl, h1, k⟩
  rw [q]
  exact ⟨rfl, h1.rx, k⟩
theorem eat_ro (x : ByteArray) (hx : x.toList ≠ []) (hn : NoNum s x) (h : Ro w r s S) :
    Calls Tryz.prog 34 #[.pointer (some ⟨r, 0, none⟩), .string x] w fun e w' => e = .returned (.tuple #[]) ∧ Ro w' r s (expS s x S) ∧ Wr r w w' := by
  obtain ⟨o, h⟩ := h
  exact eat_is w r s S hL x hx hn hs o h
theorem loc_ro (h : Ro w r s S) :
    Calls Tryz.prog 38 #[.pointer (some ⟨r, 0, none⟩)] w fun e w' => e = .returned (.int .i64 (locP s S).1) ∧ Ro w' r s (locP s S).2 ∧ Wr r w w' := by
  obtain ⟨o, h⟩ := h
  exact loc_is w r s S hL hs o h
theorem register_ro (h : Ro w r s S) :
    Calls Tryz.prog 84 #[.pointer (some ⟨r, 0, none⟩)] w fun e w' => e = .returned (.int .i64 (regP s S).1) ∧ Ro w' r s (regP s S).2 ∧ Wr r w w' := by
  obtain ⟨o, h⟩ := h
  exact register_at w r s S hL hs o h
theorem operand_ro (h : Ro w r s S) :
    Calls Tryz.prog 83 #[.pointer (some ⟨r, 0, none⟩)] w fun e w' => e = .returned (.agg #[.int .i64 (opdP s S).1.r, .int .i64 (opdP s S).1.v]) ∧ Ro w' r s (opdP s S).2 ∧ Wr r w w' := by
  obtain ⟨o, h⟩ := h
  exact roperand_is w r s S hL hs o h
theorem num_ro (h : Ro w r s S) :
    Calls Tryz.prog 39 #[.pointer (some ⟨r, 0, none⟩)] w fun e w' => e = .returned (.int .i64 (numP s S).1) ∧ Ro w' r s (numP s S).2 ∧ Wr r w w' := by
  obtain ⟨o, h⟩ := h
  refine (rnum_is w r s S hL hs o h).mono ?_
  rintro e w' ⟨rfl, h1, _, _, k⟩
  exact ⟨rfl, h1, k⟩
theorem num_no (hS : ∀ a, S = .ok a → kd s a ≠ 2) (h : Ro w r s S) :
    Calls Tryz.prog 39 #[.pointer (some ⟨r, 0, none⟩)] w fun e w' => e = .returned (.int .i64 (numP s S).1) ∧ (Ro w' r s (numP s S).2 ∧ ∃ c : Nat, c ≠ 0 ∧ w'.cell? ⟨r, 6, none⟩ = some (.int .i64 c)) ∧ Wr r w w' := by
  obtain ⟨o, h⟩ := h
  refine (rnum_is w r s S hL hs o h).mono ?_
  rintro e w' ⟨rfl, h1, _, h3, k⟩
  have h4 := h3 hS
  have hE : ∃ c p, (numP s S).2 = .error (c, p) := by
    cases S with
    | error er =>
      unfold numP
      rw [if_neg (by simp [tokX, pB_nil])]
      exact ⟨er.1, er.2, rfl⟩
    | ok a =>
      unfold numP
      rw [if_neg (show ¬ pB (tokX s (.ok a)) = true from fun hp => hS a rfl (num_kind hp))]
      exact ⟨6, pl s a, rfl⟩
  obtain ⟨c, p, he⟩ := hE
  rw [he] at h4
  exact ⟨rfl, ⟨h1, c, h4.err.1, h4.err.2.1⟩, k⟩
omit hL hs in
theorem go1_ro (h : Tn w r s S) :
    Calls Tryz.prog 37 #[.pointer (some ⟨r, 0, none⟩)] w fun e w' => e = .returned (.tuple #[]) ∧ Ro w' r s (nx s S) ∧ Wr r w w' := by
  obtain ⟨a, rfl, ha, hb⟩ := h
  refine (go1_is w r s a ha hb).mono ?_
  rintro e w' ⟨rfl, h1, _, k⟩
  exact ⟨rfl, ⟨true, h1⟩, k⟩
end

theorem flS_er {s : ByteArray} (c : Nat) (e : Nat × Nat) : flS s c (.error e) = .error e := rfl
set_option maxHeartbeats 1000000 in
/-- Where an error is pending, eat tells it. -/
theorem eat_told (w : World) (r : Nat) (s : ByteArray) (er : Nat × Nat) (hL : LookOk) (hs : s.size ≤ 4000) (x : ByteArray) (hx : x.toList ≠ []) (hn : NoNum s x) (h : Ro w r s (.error er)) :
    Calls Tryz.prog 34 #[.pointer (some ⟨r, 0, none⟩), .string x] w fun e w' => e = .returned (.tuple #[]) ∧ Rx w' r s (.error er) false ∧ Wr r w w' := by
  obtain ⟨o, h⟩ := h
  have hI := is_is w r s (.error er) hL x hx hn hs o h
  have hh : isX s x (.error er) = false := by
    cases hh : isX s x (.error er) with
    | false => rfl
    | true => obtain ⟨a, ha⟩ := fl_err s hh hx; cases ha
  rw [hh] at hI
  clear h
  go_enter Tryz.func34, Tryz.ntmps34
  go_wp2_with (first | (go_at_call 36; refine hI.mono ?_; rintro e w1 ⟨rfl, h1, hw1⟩) | (go_at_call 43; refine (rfail_is _ r s (.error er) 6 (by decide) h1).mono ?_; rintro e w2 ⟨rfl, h2, hw2⟩))
  go_end0
  refine ⟨rfl, ?_, hw1.trans hw2⟩
  rw [flS_er] at h2
  rcases h2 with ⟨a, ha, _⟩ | ⟨a, k, x', q, t, c, e, he, hc, ha, hb⟩
  · cases ha
  · exact ⟨a, k, x', q, t, c, e, hb, ha, (fun h => by cases h), fun _ => ⟨hc, he⟩⟩
theorem Tn.ro {w : World} {r : Nat} {s : ByteArray} {a : Nat} (h : Tn w r s (.ok a)) (he : eC pB s a = 0) : Ro w r s (.ok a) := by
  obtain ⟨a', h1, h2, h3⟩ := h
  obtain rfl : a = a' := by simpa using h1
  exact ⟨true, a, _, _, _, _, 0, 0, h3, h2, fun _ => ⟨rfl, rfl, (norm_ok s he).symm⟩, fun h => by cases h⟩
theorem Ro.told {w : World} {r : Nat} {s : ByteArray} {a k c e q t : Nat} {x : ByteArray} (ha : a ≤ s.size) (h : Bk w r (rdC s a k x q t c e)) (hc : c ≠ 0) : Ro w r s (.error (c, e)) :=
  ⟨false, a, k, x, q, t, c, e, h, ha, (fun h => by cases h), fun _ => ⟨hc, rfl⟩⟩
theorem Ro.code {w : World} {r : Nat} {s : ByteArray} {S : St} (h : Ro w r s S) : ∃ c : Nat, w.cell? ⟨r, 6, none⟩ = some (.int .i64 c) := by
  obtain ⟨o, a, k, x, q, t, c, e, hb, _⟩ := h
  exact ⟨c, hb.at rfl⟩
section
variable (w : World) (r : Nat) (s : ByteArray) (S : St) (hL : LookOk) (hs : s.size ≤ 4000)
include hL hs
theorem look_tn {a : Nat} (hS : S = .ok a) (h : Ro w r s S) :
    Calls Tryz.prog 42 #[.pointer (some ⟨r, 0, none⟩)] w fun e w' => e = .returned (.agg #[.int .i64 (kd s a), .string (tx s a), .int .i64 (pl s a)]) ∧ (Tn w' r s S ∧ eC pB s a = 0 ∧ w'.cell? ⟨r, 6, none⟩ = some (.int .i64 0) ∧ r < w'.heap.size) ∧ Wr r w w' := by
  subst hS
  obtain ⟨o, h⟩ := h
  refine (hL w r s _ o hs h).mono ?_
  rintro e w' ⟨rfl, h1, k⟩
  obtain ⟨h2, h3, h4⟩ := h1.good
  exact ⟨rfl, ⟨⟨a, rfl, h2, h4⟩, h3, h4.at rfl, h4.lt⟩, k⟩
theorem look_er {c e : Nat} (hS : S = .error (c, e)) (h : Ro w r s S) :
    Calls Tryz.prog 42 #[.pointer (some ⟨r, 0, none⟩)] w fun en w' => en = .returned (.agg #[.int .i64 4, .string ⟨#[]⟩, .int .i64 0]) ∧ (Ro w' r s S ∧ c ≠ 0 ∧ w'.cell? ⟨r, 6, none⟩ = some (.int .i64 c) ∧ r < w'.heap.size) ∧ Wr r w w' := by
  subst hS
  obtain ⟨o, h⟩ := h
  refine (hL w r s _ o hs h).mono ?_
  rintro en w' ⟨rfl, h1, k⟩
  exact ⟨rfl, ⟨h1.rx, h1.err.1, h1.err.2.1, h1.err.2.2⟩, k⟩
theorem num_tn {a : Nat} (hS : S = .ok a) (hk : kd s a = 2) (h : Ro w r s S) :
    Calls Tryz.prog 39 #[.pointer (some ⟨r, 0, none⟩)] w fun e w' => e = .returned (.int .i64 (numP s S).1) ∧ (Ro w' r s (numP s S).2 ∧ Bk w' r (rdC s (to s a) (kd s a) (tx s a) (pl s a) (to s a) 0 0)) ∧ Wr r w w' := by
  subst hS
  obtain ⟨o, h⟩ := h
  refine (rnum_is w r s _ hL hs o h).mono ?_
  rintro e w' ⟨rfl, h1, h2, _, k⟩
  exact ⟨rfl, ⟨h1, h2 a rfl hk⟩, k⟩
omit hL hs in
theorem parse_tn (x : ByteArray) (hp : pB x = true) (hz : (x.size : Int) ≤ 9223372036854775807) (h : Tn w r s S) :
    Calls Tryz.prog 82 #[.string x] w fun e w' => e = .returned (.tuple #[.int .i64 (pN x), .bool true]) ∧ Tn w' r s S ∧ Wr r w w' := by
  refine (rparse_val x hz w).mono ?_
  rintro e w' ⟨v, rfl, hv, rfl⟩
  rw [hp, hv hp]
  exact ⟨rfl, h, Wr.refl _ _⟩
omit hL hs in
theorem fail_tn (c : Nat) (hc : c ≠ 0) {a : Nat} (he : eC pB s a = 0) (hS : S = .ok a) (h : Tn w r s S) :
    Calls Tryz.prog 43 #[.pointer (some ⟨r, 0, none⟩), .int .i64 c] w fun e w' => e = .returned (.tuple #[]) ∧ Ro w' r s (flS s c S) ∧ Wr r w w' := by
  subst hS
  obtain ⟨a', h1, h2, h3⟩ := h
  obtain rfl : a = a' := by simpa using h1
  refine (rfail_is w r s (.ok a) c hc (Or.inl ⟨a, rfl, h2, he, h3⟩)).mono ?_
  rintro e w' ⟨rfl, h4, k⟩
  exact ⟨rfl, h4.rx, k⟩
omit hL hs in
theorem op_tn (x : ByteArray) {b : Bool} (hb : opB x = b) (h : Tn w r s S) :
    Calls Tryz.prog 85 #[.string x] w fun e w' => e = .returned (.tuple #[.int .i64 (opV x), .bool b]) ∧ Tn w' r s S ∧ Wr r w w' := by
  refine (rop_is x w).mono ?_
  rintro e w' ⟨rfl, k⟩
  rw [hb]
  obtain ⟨a, h1, h2, h3⟩ := h
  exact ⟨rfl, ⟨a, h1, h2, h3.on k⟩, Wr.of_on k⟩
end

section
variable (w : World) (r : Nat) (s : ByteArray) (S : St) (hL : LookOk) (hs : s.size ≤ 4000)
set_option maxHeartbeats 2000000
set_option maxRecDepth 8000

include hL hs in
theorem rins_store (q1 : isX s xStore S = true) (h : Ro w r s S) :
    Calls Tryz.prog 40 #[.pointer (some ⟨r, 0, none⟩)] w fun e w' => e = .returned (insA (storeP s (nx s S)).1) ∧ Ro w' r s (expS s xSemi (storeP s (nx s S)).2) ∧ Wr r w w' := by
  have hlt := h.lt
  have hx : ∀ o1 o2, Ro ((w.alloc o1).alloc o2) r s S := fun o1 o2 => (h.alloc o1).alloc o2
  have nR : w.heap.size ≠ r := by omega
  have nI : w.heap.size + 1 ≠ r := by omega
  have mR : r ≠ w.heap.size := by omega
  have mI : r ≠ w.heap.size + 1 := by omega
  have mN : w.heap.size ≠ w.heap.size + 1 := by omega
  have lN : w.heap.size ≤ w.heap.size + 1 := by omega
  clear h
  go_enter Tryz.func40, Tryz.ntmps40
  go_wp2_with fail
  refine (is_yes _ r s S hL hs xStore (ne_nil _ _) (nnStore s) q1 (hx _ _)).mono ?_
  rintro e w1 ⟨rfl, h1, hw1⟩
  have R1 : Bk w1 w.heap.size #[.int .i64 0, .int .i64 0, .int .i64 0, .int .i64 0, .int .i64 0, .int .i64 0, .int .i64 0, .int .i64 0, .int .i64 0] := ((Bk.new w _ _).alloc _).wr hw1 nR
  have I1 : Bk w1 (w.heap.size + 1) #[.int .i64 0, .int .i64 0, .int .i64 0, .int .i64 0, .int .i64 0, .int .i64 0, .int .i64 0, .int .i64 0, .int .i64 0] := (Bk.new2 w _ _ _).wr hw1 nI
  have W1 : Hid (Wr r w w1) := (((Wr.refl r w).alloc _).alloc _).trans hw1
  clear hw1 hx
  go_wp2_with fail
  refine (go1_ro _ r s _ h1).mono ?_
  rintro e w2 ⟨rfl, h2, hw2⟩
  have R2 := R1.wr hw2 nR
  have I2 := I1.wr hw2 nI
  have W2 : Hid (Wr r w w2) := W1.out.trans hw2
  clear hw2 R1 I1 W1 h1
  go_wp2_with fail
  refine (loc_ro _ r s _ hL hs h2).mono ?_
  rintro e w3 ⟨rfl, h3, hw3⟩
  have R3 := R2.wr hw3 nR
  have I3 := I2.wr hw3 nI
  have W3 : Hid (Wr r w w3) := W2.out.trans hw3
  clear hw3 R2 I2 W2 h2
  have c3_c0 := I3.at (i := 0) rfl
  have c3_f0 := I3.fr 0
  have c3_c1 := I3.at (i := 1) rfl
  have c3_f1 := I3.fr 1
  have c3_c2 := I3.at (i := 2) rfl
  have c3_f2 := I3.fr 2
  have c3_c3 := I3.at (i := 3) rfl
  have c3_f3 := I3.fr 3
  have c3_c4 := I3.at (i := 4) rfl
  have c3_f4 := I3.fr 4
  have c3_c5 := I3.at (i := 5) rfl
  have c3_f5 := I3.fr 5
  have c3_c6 := I3.at (i := 6) rfl
  have c3_f6 := I3.fr 6
  have c3_c7 := I3.at (i := 7) rfl
  have c3_f7 := I3.fr 7
  have c3_c8 := I3.at (i := 8) rfl
  have c3_f8 := I3.fr 8
  have c3_l := I3.lt
  go_wp2_with fail
  refine (operand_ro _ r s _ hL hs ((h3.setFar mI _).setFar mI _)).mono ?_
  rintro e w4 ⟨rfl, h4, hw4⟩
  have R4 : Bk w4 w.heap.size #[.int .i64 0, .int .i64 0, .int .i64 0, .int .i64 0, .int .i64 0, .int .i64 0, .int .i64 0, .int .i64 0, .int .i64 0] := ((R3.setFar mN _ _).setFar mN _ _).wr hw4 nR
  have I4 : Bk w4 (w.heap.size + 1) #[.int .i64 1, .int .i64 0, .int .i64 (locP s (nx s S)).1, .int .i64 0, .int .i64 0, .int .i64 0, .int .i64 0, .int .i64 0, .int .i64 0] := ((I3.set 0 _).set 2 _).wr hw4 nI
  have W4 : Hid (Wr r w w4) := ((W3.out.setNew lN _).setNew lN _).trans hw4
  clear hw4 R3 I3 W3 h3 c3_c0 c3_f0 c3_c1 c3_f1 c3_c2 c3_f2 c3_c3 c3_f3 c3_c4 c3_f4 c3_c5 c3_f5 c3_c6 c3_f6 c3_c7 c3_f7 c3_c8 c3_f8 c3_l
  have c4_c0 := I4.at (i := 0) rfl
  have c4_f0 := I4.fr 0
  have c4_c1 := I4.at (i := 1) rfl
  have c4_f1 := I4.fr 1
  have c4_c2 := I4.at (i := 2) rfl
  have c4_f2 := I4.fr 2
  have c4_c3 := I4.at (i := 3) rfl
  have c4_f3 := I4.fr 3
  have c4_c4 := I4.at (i := 4) rfl
  have c4_f4 := I4.fr 4
  have c4_c5 := I4.at (i := 5) rfl
  have c4_f5 := I4.fr 5
  have c4_c6 := I4.at (i := 6) rfl
  have c4_f6 := I4.fr 6
  have c4_c7 := I4.at (i := 7) rfl
  have c4_f7 := I4.fr 7
  have c4_c8 := I4.at (i := 8) rfl
  have c4_f8 := I4.fr 8
  have c4_l := I4.lt
  go_wp2_with fail
  refine (eat_ro _ r s _ hL hs xSemi (ne_nil _ _) (nnSemi s) ((h4.setFar mI _).setFar mI _)).mono ?_
  rintro e w5 ⟨rfl, h5, hw5⟩
  have R5 : Bk w5 w.heap.size #[.int .i64 0, .int .i64 0, .int .i64 0, .int .i64 0, .int .i64 0, .int .i64 0, .int .i64 0, .int .i64 0, .int .i64 0] := ((R4.setFar mN _ _).setFar mN _ _).wr hw5 nR
  have I5 : Bk w5 (w.heap.size + 1) #[.int .i64 1, .int .i64 0, .int .i64 (locP s (nx s S)).1, .int .i64 (opdP s (locP s (nx s S)).2).1.r, .int .i64 (opdP s (locP s (nx s S)).2).1.v, .int .i64 0, .int .i64 0, .int .i64 0, .int .i64 0] := ((I4.set 3 _).set 4 _).wr hw5 nI
  have W5 : Hid (Wr r w w5) := ((W4.out.setNew lN _).setNew lN _).trans hw5
  clear hw5 R4 I4 W4 h4 c4_c0 c4_f0 c4_c1 c4_f1 c4_c2 c4_f2 c4_c3 c4_f3 c4_c4 c4_f4 c4_c5 c4_f5 c4_c6 c4_f6 c4_c7 c4_f7 c4_c8 c4_f8 c4_l
  have c5_c0 := I5.at (i := 0) rfl
  have c5_f0 := I5.fr 0
  have c5_c1 := I5.at (i := 1) rfl
  have c5_f1 := I5.fr 1
  have c5_c2 := I5.at (i := 2) rfl
  have c5_f2 := I5.fr 2
  have c5_c3 := I5.at (i := 3) rfl
  have c5_f3 := I5.fr 3
  have c5_c4 := I5.at (i := 4) rfl
  have c5_f4 := I5.fr 4
  have c5_c5 := I5.at (i := 5) rfl
  have c5_f5 := I5.fr 5
  have c5_c6 := I5.at (i := 6) rfl
  have c5_f6 := I5.fr 6
  have c5_c7 := I5.at (i := 7) rfl
  have c5_f7 := I5.fr 7
  have c5_c8 := I5.at (i := 8) rfl
  have c5_f8 := I5.fr 8
  have c5_l := I5.lt
  have z_c0 : w5.cell? ⟨w.heap.size, 0, none⟩ = some (.int .i64 0) := R5.at rfl
  have z_f0 : w5.frozen? ⟨w.heap.size, 0, none⟩ = false := R5.fr 0
  have z_c1 : w5.cell? ⟨w.heap.size, 1, none⟩ = some (.int .i64 0) := R5.at rfl
  have z_f1 : w5.frozen? ⟨w.heap.size, 1, none⟩ = false := R5.fr 1
  have z_c2 : w5.cell? ⟨w.heap.size, 2, none⟩ = some (.int .i64 0) := R5.at rfl
  have z_f2 : w5.frozen? ⟨w.heap.size, 2, none⟩ = false := R5.fr 2
  have z_c3 : w5.cell? ⟨w.heap.size, 3, none⟩ = some (.int .i64 0) := R5.at rfl
  have z_f3 : w5.frozen? ⟨w.heap.size, 3, none⟩ = false := R5.fr 3
  have z_c4 : w5.cell? ⟨w.heap.size, 4, none⟩ = some (.int .i64 0) := R5.at rfl
  have z_f4 : w5.frozen? ⟨w.heap.size, 4, none⟩ = false := R5.fr 4
  have z_c5 : w5.cell? ⟨w.heap.size, 5, none⟩ = some (.int .i64 0) := R5.at rfl
  have z_f5 : w5.frozen? ⟨w.heap.size, 5, none⟩ = false := R5.fr 5
  have z_c6 : w5.cell? ⟨w.heap.size, 6, none⟩ = some (.int .i64 0) := R5.at rfl
  have z_f6 : w5.frozen? ⟨w.heap.size, 6, none⟩ = false := R5.fr 6
  have z_c7 : w5.cell? ⟨w.heap.size, 7, none⟩ = some (.int .i64 0) := R5.at rfl
  have z_f7 : w5.frozen? ⟨w.heap.size, 7, none⟩ = false := R5.fr 7
  have z_c8 : w5.cell? ⟨w.heap.size, 8, none⟩ = some (.int .i64 0) := R5.at rfl
  have z_f8 : w5.frozen? ⟨w.heap.size, 8, none⟩ = false := R5.fr 8
  have z_l := R5.lt
  clear R5 I5
  go_wp2
  (try simp only [Exit.inBlock, Exit.then])
  refine bodyPost_ret (v := .agg #[.int .i64 1, .int .i64 0, .int .i64 (locP s (nx s S)).1, .int .i64 (opdP s (locP s (nx s S)).2).1.r, .int .i64 (opdP s (locP s (nx s S)).2).1.v, .int .i64 0, .int .i64 0, .int .i64 0, .int .i64 0]) ?_ rfl ⟨rfl, (((((((((h5.setFar mR _).setFar mR _).setFar mR _).setFar mR _).setFar mR _).setFar mR _).setFar mR _).setFar mR _).setFar mR _), (((((((((W5.out.setNew (Nat.le_refl _) _).setNew (Nat.le_refl _) _).setNew (Nat.le_refl _) _).setNew (Nat.le_refl _) _).setNew (Nat.le_refl _) _).setNew (Nat.le_refl _) _).setNew (Nat.le_refl _) _).setNew (Nat.le_refl _) _).setNew (Nat.le_refl _) _)⟩
  rw [results_cell rfl]
  go_simp

include hL hs in
theorem rins_fence (q1 : isX s xStore S = false) (q2 : isX s xFence S = true) (h : Ro w r s S) :
    Calls Tryz.prog 40 #[.pointer (some ⟨r, 0, none⟩)] w fun e w' => e = .returned (insA ⟨3, 0, 0, ⟨0, 0⟩, 0, ⟨0, 0⟩, 0⟩) ∧ Ro w' r s (expS s xSemi (nx s S)) ∧ Wr r w w' := by
  have hlt := h.lt
  have hx : ∀ o1 o2, Ro ((w.alloc o1).alloc o2) r s S := fun o1 o2 => (h.alloc o1).alloc o2
  have nR : w.heap.size ≠ r := by omega
  have nI : w.heap.size + 1 ≠ r := by omega
  have mR : r ≠ w.heap.size := by omega
  have mI : r ≠ w.heap.size + 1 := by omega
  have mN : w.heap.size ≠ w.heap.size + 1 := by omega
  have lN : w.heap.size ≤ w.heap.size + 1 := by omega
  clear h
  go_enter Tryz.func40, Tryz.ntmps40
  go_wp2_with fail
  refine (is_no _ r s S hL hs xStore (ne_nil _ _) (nnStore s) q1 (hx _ _)).mono ?_
  rintro e w1 ⟨rfl, h1, hw1⟩
  have R1 : Bk w1 w.heap.size #[.int .i64 0, .int .i64 0, .int .i64 0, .int .i64 0, .int .i64 0, .int .i64 0, .int .i64 0, .int .i64 0, .int .i64 0] := ((Bk.new w _ _).alloc _).wr hw1 nR
  have I1 : Bk w1 (w.heap.size + 1) #[.int .i64 0, .int .i64 0, .int .i64 0, .int .i64 0, .int .i64 0, .int .i64 0, .int .i64 0, .int .i64 0, .int .i64 0] := (Bk.new2 w _ _ _).wr hw1 nI
  have W1 : Hid (Wr r w w1) := (((Wr.refl r w).alloc _).alloc _).trans hw1
  clear hw1 hx
  go_wp2_with fail
  refine (is_yes _ r s S hL hs xFence (ne_nil _ _) (nnFence s) q2 h1).mono ?_
  rintro e w2 ⟨rfl, h2, hw2⟩
  have R2 := R1.wr hw2 nR
  have I2 := I1.wr hw2 nI
  have W2 : Hid (Wr r w w2) := W1.out.trans hw2
  clear hw2 R1 I1 W1 h1
  go_wp2_with fail
  refine (go1_ro _ r s _ h2).mono ?_
  rintro e w3 ⟨rfl, h3, hw3⟩
  have R3 := R2.wr hw3 nR
  have I3 := I2.wr hw3 nI
  have W3 : Hid (Wr r w w3) := W2.out.trans hw3
  clear hw3 R2 I2 W2 h2
  have c3_c0 := I3.at (i := 0) rfl
  have c3_f0 := I3.fr 0
  have c3_c1 := I3.at (i := 1) rfl
  have c3_f1 := I3.fr 1
  have c3_c2 := I3.at (i := 2) rfl
  have c3_f2 := I3.fr 2
  have c3_c3 := I3.at (i := 3) rfl
  have c3_f3 := I3.fr 3
  have c3_c4 := I3.at (i := 4) rfl
  have c3_f4 := I3.fr 4
  have c3_c5 := I3.at (i := 5) rfl
  have c3_f5 := I3.fr 5
  have c3_c6 := I3.at (i := 6) rfl
  have c3_f6 := I3.fr 6
  have c3_c7 := I3.at (i := 7) rfl
  have c3_f7 := I3.fr 7
  have c3_c8 := I3.at (i := 8) rfl
  have c3_f8 := I3.fr 8
  have c3_l := I3.lt
  go_wp2_with fail
  refine (eat_ro _ r s _ hL hs xSemi (ne_nil _ _) (nnSemi s) (h3.setFar mI _)).mono ?_
  rintro e w4 ⟨rfl, h4, hw4⟩
  have R4 : Bk w4 w.heap.size #[.int .i64 0, .int .i64 0, .int .i64 0, .int .i64 0, .int .i64 0, .int .i64 0, .int .i64 0, .int .i64 0, .int .i64 0] := (R3.setFar mN _ _).wr hw4 nR
  have I4 : Bk w4 (w.heap.size + 1) #[.int .i64 3, .int .i64 0, .int .i64 0, .int .i64 0, .int .i64 0, .int .i64 0, .int .i64 0, .int .i64 0, .int .i64 0] := (I3.set 0 _).wr hw4 nI
  have W4 : Hid (Wr r w w4) := (W3.out.setNew lN _).trans hw4
  clear hw4 R3 I3 W3 h3 c3_c0 c3_f0 c3_c1 c3_f1 c3_c2 c3_f2 c3_c3 c3_f3 c3_c4 c3_f4 c3_c5 c3_f5 c3_c6 c3_f6 c3_c7 c3_f7 c3_c8 c3_f8 c3_l
  have c4_c0 := I4.at (i := 0) rfl
  have c4_f0 := I4.fr 0
  have c4_c1 := I4.at (i := 1) rfl
  have c4_f1 := I4.fr 1
  have c4_c2 := I4.at (i := 2) rfl
  have c4_f2 := I4.fr 2
  have c4_c3 := I4.at (i := 3) rfl
  have c4_f3 := I4.fr 3
  have c4_c4 := I4.at (i := 4) rfl
  have c4_f4 := I4.fr 4
  have c4_c5 := I4.at (i := 5) rfl
  have c4_f5 := I4.fr 5
  have c4_c6 := I4.at (i := 6) rfl
  have c4_f6 := I4.fr 6
  have c4_c7 := I4.at (i := 7) rfl
  have c4_f7 := I4.fr 7
  have c4_c8 := I4.at (i := 8) rfl
  have c4_f8 := I4.fr 8
  have c4_l := I4.lt
  have z_c0 : w4.cell? ⟨w.heap.size, 0, none⟩ = some (.int .i64 0) := R4.at rfl
  have z_f0 : w4.frozen? ⟨w.heap.size, 0, none⟩ = false := R4.fr 0
  have z_c1 : w4.cell? ⟨w.heap.size, 1, none⟩ = some (.int .i64 0) := R4.at rfl
  have z_f1 : w4.frozen? ⟨w.heap.size, 1, none⟩ = false := R4.fr 1
  have z_c2 : w4.cell? ⟨w.heap.size, 2, none⟩ = some (.int .i64 0) := R4.at rfl
  have z_f2 : w4.frozen? ⟨w.heap.size, 2, none⟩ = false := R4.fr 2
  have z_c3 : w4.cell? ⟨w.heap.size, 3, none⟩ = some (.int .i64 0) := R4.at rfl
  have z_f3 : w4.frozen? ⟨w.heap.size, 3, none⟩ = false := R4.fr 3
  have z_c4 : w4.cell? ⟨w.heap.size, 4, none⟩ = some (.int .i64 0) := R4.at rfl
  have z_f4 : w4.frozen? ⟨w.heap.size, 4, none⟩ = false := R4.fr 4
  have z_c5 : w4.cell? ⟨w.heap.size, 5, none⟩ = some (.int .i64 0) := R4.at rfl
  have z_f5 : w4.frozen? ⟨w.heap.size, 5, none⟩ = false := R4.fr 5
  have z_c6 : w4.cell? ⟨w.heap.size, 6, none⟩ = some (.int .i64 0) := R4.at rfl
  have z_f6 : w4.frozen? ⟨w.heap.size, 6, none⟩ = false := R4.fr 6
  have z_c7 : w4.cell? ⟨w.heap.size, 7, none⟩ = some (.int .i64 0) := R4.at rfl
  have z_f7 : w4.frozen? ⟨w.heap.size, 7, none⟩ = false := R4.fr 7
  have z_c8 : w4.cell? ⟨w.heap.size, 8, none⟩ = some (.int .i64 0) := R4.at rfl
  have z_f8 : w4.frozen? ⟨w.heap.size, 8, none⟩ = false := R4.fr 8
  have z_l := R4.lt
  clear R4 I4
  go_wp2
  (try simp only [Exit.inBlock, Exit.then])
  refine bodyPost_ret (v := .agg #[.int .i64 3, .int .i64 0, .int .i64 0, .int .i64 0, .int .i64 0, .int .i64 0, .int .i64 0, .int .i64 0, .int .i64 0]) ?_ rfl ⟨rfl, (((((((((h4.setFar mR _).setFar mR _).setFar mR _).setFar mR _).setFar mR _).setFar mR _).setFar mR _).setFar mR _).setFar mR _), (((((((((W4.out.setNew (Nat.le_refl _) _).setNew (Nat.le_refl _) _).setNew (Nat.le_refl _) _).setNew (Nat.le_refl _) _).setNew (Nat.le_refl _) _).setNew (Nat.le_refl _) _).setNew (Nat.le_refl _) _).setNew (Nat.le_refl _) _).setNew (Nat.le_refl _) _)⟩
  rw [results_cell rfl]
  go_simp

include hL hs in
theorem rins_load (q1 : isX s xStore S = false) (q2 : isX s xFence S = false) (q3 : isX s xSkip S = false) (q4 : isX s xLoad (expS s xEq (regP s S).2) = true) (h : Ro w r s S) :
    Calls Tryz.prog 40 #[.pointer (some ⟨r, 0, none⟩)] w fun e w' => e = .returned (insA (loadP s (regP s S).1 (nx s (expS s xEq (regP s S).2))).1) ∧ Ro w' r s (expS s xSemi (loadP s (regP s S).1 (nx s (expS s xEq (regP s S).2))).2) ∧ Wr r w w' := by
  have hlt := h.lt
  have hx : ∀ o1 o2, Ro ((w.alloc o1).alloc o2) r s S := fun o1 o2 => (h.alloc o1).alloc o2
  have nR : w.heap.size ≠ r := by omega
  have nI : w.heap.size + 1 ≠ r := by omega
  have mR : r ≠ w.heap.size := by omega
  have mI : r ≠ w.heap.size + 1 := by omega
  have mN : w.heap.size ≠ w.heap.size + 1 := by omega
  have lN : w.heap.size ≤ w.heap.size + 1 := by omega
  clear h
  go_enter Tryz.func40, Tryz.ntmps40
  go_wp2_with fail
  refine (is_no _ r s S hL hs xStore (ne_nil _ _) (nnStore s) q1 (hx _ _)).mono ?_
  rintro e w1 ⟨rfl, h1, hw1⟩
  have R1 : Bk w1 w.heap.size #[.int .i64 0, .int .i64 0, .int .i64 0, .int .i64 0, .int .i64 0, .int .i64 0, .int .i64 0, .int .i64 0, .int .i64 0] := ((Bk.new w _ _).alloc _).wr hw1 nR
  have I1 : Bk w1 (w.heap.size + 1) #[.int .i64 0, .int .i64 0, .int .i64 0, .int .i64 0, .int .i64 0, .int .i64 0, .int .i64 0, .int .i64 0, .int .i64 0] := (Bk.new2 w _ _ _).wr hw1 nI
  have W1 : Hid (Wr r w w1) := (((Wr.refl r w).alloc _).alloc _).trans hw1
  clear hw1 hx
  go_wp2_with fail
  refine (is_no _ r s S hL hs xFence (ne_nil _ _) (nnFence s) q2 h1).mono ?_
  rintro e w2 ⟨rfl, h2, hw2⟩
  have R2 := R1.wr hw2 nR
  have I2 := I1.wr hw2 nI
  have W2 : Hid (Wr r w w2) := W1.out.trans hw2
  clear hw2 R1 I1 W1 h1
  go_wp2_with fail
  refine (is_no _ r s S hL hs xSkip (ne_nil _ _) (nnSkip s) q3 h2).mono ?_
  rintro e w3 ⟨rfl, h3, hw3⟩
  have R3 := R2.wr hw3 nR
  have I3 := I2.wr hw3 nI
  have W3 : Hid (Wr r w w3) := W2.out.trans hw3
  clear hw3 R2 I2 W2 h2
  go_wp2_with fail
  refine (register_ro _ r s _ hL hs h3).mono ?_
  rintro e w4 ⟨rfl, h4, hw4⟩
  have R4 := R3.wr hw4 nR
  have I4 := I3.wr hw4 nI
  have W4 : Hid (Wr r w w4) := W3.out.trans hw4
  clear hw4 R3 I3 W3 h3
  have c4_c0 := I4.at (i := 0) rfl
  have c4_f0 := I4.fr 0
  have c4_c1 := I4.at (i := 1) rfl
  have c4_f1 := I4.fr 1
  have c4_c2 := I4.at (i := 2) rfl
  have c4_f2 := I4.fr 2
  have c4_c3 := I4.at (i := 3) rfl
  have c4_f3 := I4.fr 3
  have c4_c4 := I4.at (i := 4) rfl
  have c4_f4 := I4.fr 4
  have c4_c5 := I4.at (i := 5) rfl
  have c4_f5 := I4.fr 5
  have c4_c6 := I4.at (i := 6) rfl
  have c4_f6 := I4.fr 6
  have c4_c7 := I4.at (i := 7) rfl
  have c4_f7 := I4.fr 7
  have c4_c8 := I4.at (i := 8) rfl
  have c4_f8 := I4.fr 8
  have c4_l := I4.lt
  go_wp2_with fail
  refine (eat_ro _ r s _ hL hs xEq (ne_nil _ _) (nnEq s) (h4.setFar mI _)).mono ?_
  rintro e w5 ⟨rfl, h5, hw5⟩
  have R5 : Bk w5 w.heap.size #[.int .i64 0, .int .i64 0, .int .i64 0, .int .i64 0, .int .i64 0, .int .i64 0, .int .i64 0, .int .i64 0, .int .i64 0] := (R4.setFar mN _ _).wr hw5 nR
  have I5 : Bk w5 (w.heap.size + 1) #[.int .i64 0, .int .i64 (regP s S).1, .int .i64 0, .int .i64 0, .int .i64 0, .int .i64 0, .int .i64 0, .int .i64 0, .int .i64 0] := (I4.set 1 _).wr hw5 nI
  have W5 : Hid (Wr r w w5) := (W4.out.setNew lN _).trans hw5
  clear hw5 R4 I4 W4 h4 c4_c0 c4_f0 c4_c1 c4_f1 c4_c2 c4_f2 c4_c3 c4_f3 c4_c4 c4_f4 c4_c5 c4_f5 c4_c6 c4_f6 c4_c7 c4_f7 c4_c8 c4_f8 c4_l
  go_wp2_with fail
  refine (is_yes _ r s (expS s xEq (regP s S).2) hL hs xLoad (ne_nil _ _) (nnLoad s) q4 h5).mono ?_
  rintro e w6 ⟨rfl, h6, hw6⟩
  have R6 := R5.wr hw6 nR
  have I6 := I5.wr hw6 nI
  have W6 : Hid (Wr r w w6) := W5.out.trans hw6
  clear hw6 R5 I5 W5 h5
  go_wp2_with fail
  refine (go1_ro _ r s _ h6).mono ?_
  rintro e w7 ⟨rfl, h7, hw7⟩
  have R7 := R6.wr hw7 nR
  have I7 := I6.wr hw7 nI
  have W7 : Hid (Wr r w w7) := W6.out.trans hw7
  clear hw7 R6 I6 W6 h6
  go_wp2_with fail
  refine (loc_ro _ r s _ hL hs h7).mono ?_
  rintro e w8 ⟨rfl, h8, hw8⟩
  have R8 := R7.wr hw8 nR
  have I8 := I7.wr hw8 nI
  have W8 : Hid (Wr r w w8) := W7.out.trans hw8
  clear hw8 R7 I7 W7 h7
  have c8_c0 := I8.at (i := 0) rfl
  have c8_f0 := I8.fr 0
  have c8_c1 := I8.at (i := 1) rfl
  have c8_f1 := I8.fr 1
  have c8_c2 := I8.at (i := 2) rfl
  have c8_f2 := I8.fr 2
  have c8_c3 := I8.at (i := 3) rfl
  have c8_f3 := I8.fr 3
  have c8_c4 := I8.at (i := 4) rfl
  have c8_f4 := I8.fr 4
  have c8_c5 := I8.at (i := 5) rfl
  have c8_f5 := I8.fr 5
  have c8_c6 := I8.at (i := 6) rfl
  have c8_f6 := I8.fr 6
  have c8_c7 := I8.at (i := 7) rfl
  have c8_f7 := I8.fr 7
  have c8_c8 := I8.at (i := 8) rfl
  have c8_f8 := I8.fr 8
  have c8_l := I8.lt
  go_wp2_with fail
  refine (eat_ro _ r s _ hL hs xSemi (ne_nil _ _) (nnSemi s) ((h8.setFar mI _).setFar mI _)).mono ?_
  rintro e w9 ⟨rfl, h9, hw9⟩
  have R9 : Bk w9 w.heap.size #[.int .i64 0, .int .i64 0, .int .i64 0, .int .i64 0, .int .i64 0, .int .i64 0, .int .i64 0, .int .i64 0, .int .i64 0] := ((R8.setFar mN _ _).setFar mN _ _).wr hw9 nR
  have I9 : Bk w9 (w.heap.size + 1) #[.int .i64 2, .int .i64 (regP s S).1, .int .i64 (locP s (nx s (expS s xEq (regP s S).2))).1, .int .i64 0, .int .i64 0, .int .i64 0, .int .i64 0, .int .i64 0, .int .i64 0] := ((I8.set 0 _).set 2 _).wr hw9 nI
  have W9 : Hid (Wr r w w9) := ((W8.out.setNew lN _).setNew lN _).trans hw9
  clear hw9 R8 I8 W8 h8 c8_c0 c8_f0 c8_c1 c8_f1 c8_c2 c8_f2 c8_c3 c8_f3 c8_c4 c8_f4 c8_c5 c8_f5 c8_c6 c8_f6 c8_c7 c8_f7 c8_c8 c8_f8 c8_l
  have c9_c0 := I9.at (i := 0) rfl
  have c9_f0 := I9.fr 0
  have c9_c1 := I9.at (i := 1) rfl
  have c9_f1 := I9.fr 1
  have c9_c2 := I9.at (i := 2) rfl
  have c9_f2 := I9.fr 2
  have c9_c3 := I9.at (i := 3) rfl
  have c9_f3 := I9.fr 3
  have c9_c4 := I9.at (i := 4) rfl
  have c9_f4 := I9.fr 4
  have c9_c5 := I9.at (i := 5) rfl
  have c9_f5 := I9.fr 5
  have c9_c6 := I9.at (i := 6) rfl
  have c9_f6 := I9.fr 6
  have c9_c7 := I9.at (i := 7) rfl
  have c9_f7 := I9.fr 7
  have c9_c8 := I9.at (i := 8) rfl
  have c9_f8 := I9.fr 8
  have c9_l := I9.lt
  have z_c0 : w9.cell? ⟨w.heap.size, 0, none⟩ = some (.int .i64 0) := R9.at rfl
  have z_f0 : w9.frozen? ⟨w.heap.size, 0, none⟩ = false := R9.fr 0
  have z_c1 : w9.cell? ⟨w.heap.size, 1, none⟩ = some (.int .i64 0) := R9.at rfl
  have z_f1 : w9.frozen? ⟨w.heap.size, 1, none⟩ = false := R9.fr 1
  have z_c2 : w9.cell? ⟨w.heap.size, 2, none⟩ = some (.int .i64 0) := R9.at rfl
  have z_f2 : w9.frozen? ⟨w.heap.size, 2, none⟩ = false := R9.fr 2
  have z_c3 : w9.cell? ⟨w.heap.size, 3, none⟩ = some (.int .i64 0) := R9.at rfl
  have z_f3 : w9.frozen? ⟨w.heap.size, 3, none⟩ = false := R9.fr 3
  have z_c4 : w9.cell? ⟨w.heap.size, 4, none⟩ = some (.int .i64 0) := R9.at rfl
  have z_f4 : w9.frozen? ⟨w.heap.size, 4, none⟩ = false := R9.fr 4
  have z_c5 : w9.cell? ⟨w.heap.size, 5, none⟩ = some (.int .i64 0) := R9.at rfl
  have z_f5 : w9.frozen? ⟨w.heap.size, 5, none⟩ = false := R9.fr 5
  have z_c6 : w9.cell? ⟨w.heap.size, 6, none⟩ = some (.int .i64 0) := R9.at rfl
  have z_f6 : w9.frozen? ⟨w.heap.size, 6, none⟩ = false := R9.fr 6
  have z_c7 : w9.cell? ⟨w.heap.size, 7, none⟩ = some (.int .i64 0) := R9.at rfl
  have z_f7 : w9.frozen? ⟨w.heap.size, 7, none⟩ = false := R9.fr 7
  have z_c8 : w9.cell? ⟨w.heap.size, 8, none⟩ = some (.int .i64 0) := R9.at rfl
  have z_f8 : w9.frozen? ⟨w.heap.size, 8, none⟩ = false := R9.fr 8
  have z_l := R9.lt
  clear R9 I9
  go_wp2
  (try simp only [Exit.inBlock, Exit.then])
  refine bodyPost_ret (v := .agg #[.int .i64 2, .int .i64 (regP s S).1, .int .i64 (locP s (nx s (expS s xEq (regP s S).2))).1, .int .i64 0, .int .i64 0, .int .i64 0, .int .i64 0, .int .i64 0, .int .i64 0]) ?_ rfl ⟨rfl, (((((((((h9.setFar mR _).setFar mR _).setFar mR _).setFar mR _).setFar mR _).setFar mR _).setFar mR _).setFar mR _).setFar mR _), (((((((((W9.out.setNew (Nat.le_refl _) _).setNew (Nat.le_refl _) _).setNew (Nat.le_refl _) _).setNew (Nat.le_refl _) _).setNew (Nat.le_refl _) _).setNew (Nat.le_refl _) _).setNew (Nat.le_refl _) _).setNew (Nat.le_refl _) _).setNew (Nat.le_refl _) _)⟩
  rw [results_cell rfl]
  go_simp

include hL hs in
theorem rins_cas (q1 : isX s xStore S = false) (q2 : isX s xFence S = false) (q3 : isX s xSkip S = false) (q4 : isX s xLoad (expS s xEq (regP s S).2) = false) (q5 : isX s xCas (expS s xEq (regP s S).2) = true) (h : Ro w r s S) :
    Calls Tryz.prog 40 #[.pointer (some ⟨r, 0, none⟩)] w fun e w' => e = .returned (insA (casP s (regP s S).1 (nx s (expS s xEq (regP s S).2))).1) ∧ Ro w' r s (expS s xSemi (casP s (regP s S).1 (nx s (expS s xEq (regP s S).2))).2) ∧ Wr r w w' := by
  have hlt := h.lt
  have hx : ∀ o1 o2, Ro ((w.alloc o1).alloc o2) r s S := fun o1 o2 => (h.alloc o1).alloc o2
  have nR : w.heap.size ≠ r := by omega
  have nI : w.heap.size + 1 ≠ r := by omega
  have mR : r ≠ w.heap.size := by omega
  have mI : r ≠ w.heap.size + 1 := by omega
  have mN : w.heap.size ≠ w.heap.size + 1 := by omega
  have lN : w.heap.size ≤ w.heap.size + 1 := by omega
  clear h
  go_enter Tryz.func40, Tryz.ntmps40
  go_wp2_with fail
  refine (is_no _ r s S hL hs xStore (ne_nil _ _) (nnStore s) q1 (hx _ _)).mono ?_
  rintro e w1 ⟨rfl, h1, hw1⟩
  have R1 : Bk w1 w.heap.size #[.int .i64 0, .int .i64 0, .int .i64 0, .int .i64 0, .int .i64 0, .int .i64 0, .int .i64 0, .int .i64 0, .int .i64 0] := ((Bk.new w _ _).alloc _).wr hw1 nR
  have I1 : Bk w1 (w.heap.size + 1) #[.int .i64 0, .int .i64 0, .int .i64 0, .int .i64 0, .int .i64 0, .int .i64 0, .int .i64 0, .int .i64 0, .int .i64 0] := (Bk.new2 w _ _ _).wr hw1 nI
  have W1 : Hid (Wr r w w1) := (((Wr.refl r w).alloc _).alloc _).trans hw1
  clear hw1 hx
  go_wp2_with fail
  refine (is_no _ r s S hL hs xFence (ne_nil _ _) (nnFence s) q2 h1).mono ?_
  rintro e w2 ⟨rfl, h2, hw2⟩
  have R2 := R1.wr hw2 nR
  have I2 := I1.wr hw2 nI
  have W2 : Hid (Wr r w w2) := W1.out.trans hw2
  clear hw2 R1 I1 W1 h1
  go_wp2_with fail
  refine (is_no _ r s S hL hs xSkip (ne_nil _ _) (nnSkip s) q3 h2).mono ?_
  rintro e w3 ⟨rfl, h3, hw3⟩
  have R3 := R2.wr hw3 nR
  have I3 := I2.wr hw3 nI
  have W3 : Hid (Wr r w w3) := W2.out.trans hw3
  clear hw3 R2 I2 W2 h2
  go_wp2_with fail
  refine (register_ro _ r s _ hL hs h3).mono ?_
  rintro e w4 ⟨rfl, h4, hw4⟩
  have R4 := R3.wr hw4 nR
  have I4 := I3.wr hw4 nI
  have W4 : Hid (Wr r w w4) := W3.out.trans hw4
  clear hw4 R3 I3 W3 h3
  have c4_c0 := I4.at (i := 0) rfl
  have c4_f0 := I4.fr 0
  have c4_c1 := I4.at (i := 1) rfl
  have c4_f1 := I4.fr 1
  have c4_c2 := I4.at (i := 2) rfl
  have c4_f2 := I4.fr 2
  have c4_c3 := I4.at (i := 3) rfl
  have c4_f3 := I4.fr 3
  have c4_c4 := I4.at (i := 4) rfl
  have c4_f4 := I4.fr 4
  have c4_c5 := I4.at (i := 5) rfl
  have c4_f5 := I4.fr 5
  have c4_c6 := I4.at (i := 6) rfl
  have c4_f6 := I4.fr 6
  have c4_c7 := I4.at (i := 7) rfl
  have c4_f7 := I4.fr 7
  have c4_c8 := I4.at (i := 8) rfl
  have c4_f8 := I4.fr 8
  have c4_l := I4.lt
  go_wp2_with fail
  refine (eat_ro _ r s _ hL hs xEq (ne_nil _ _) (nnEq s) (h4.setFar mI _)).mono ?_
  rintro e w5 ⟨rfl, h5, hw5⟩
  have R5 : Bk w5 w.heap.size #[.int .i64 0, .int .i64 0, .int .i64 0, .int .i64 0, .int .i64 0, .int .i64 0, .int .i64 0, .int .i64 0, .int .i64 0] := (R4.setFar mN _ _).wr hw5 nR
  have I5 : Bk w5 (w.heap.size + 1) #[.int .i64 0, .int .i64 (regP s S).1, .int .i64 0, .int .i64 0, .int .i64 0, .int .i64 0, .int .i64 0, .int .i64 0, .int .i64 0] := (I4.set 1 _).wr hw5 nI
  have W5 : Hid (Wr r w w5) := (W4.out.setNew lN _).trans hw5
  clear hw5 R4 I4 W4 h4 c4_c0 c4_f0 c4_c1 c4_f1 c4_c2 c4_f2 c4_c3 c4_f3 c4_c4 c4_f4 c4_c5 c4_f5 c4_c6 c4_f6 c4_c7 c4_f7 c4_c8 c4_f8 c4_l
  go_wp2_with fail
  refine (is_no _ r s (expS s xEq (regP s S).2) hL hs xLoad (ne_nil _ _) (nnLoad s) q4 h5).mono ?_
  rintro e w6 ⟨rfl, h6, hw6⟩
  have R6 := R5.wr hw6 nR
  have I6 := I5.wr hw6 nI
  have W6 : Hid (Wr r w w6) := W5.out.trans hw6
  clear hw6 R5 I5 W5 h5
  go_wp2_with fail
  refine (is_yes _ r s (expS s xEq (regP s S).2) hL hs xCas (ne_nil _ _) (nnCas s) q5 h6).mono ?_
  rintro e w7 ⟨rfl, h7, hw7⟩
  have R7 := R6.wr hw7 nR
  have I7 := I6.wr hw7 nI
  have W7 : Hid (Wr r w w7) := W6.out.trans hw7
  clear hw7 R6 I6 W6 h6
  go_wp2_with fail
  refine (go1_ro _ r s _ h7).mono ?_
  rintro e w8 ⟨rfl, h8, hw8⟩
  have R8 := R7.wr hw8 nR
  have I8 := I7.wr hw8 nI
  have W8 : Hid (Wr r w w8) := W7.out.trans hw8
  clear hw8 R7 I7 W7 h7
  go_wp2_with fail
  refine (loc_ro _ r s _ hL hs h8).mono ?_
  rintro e w9 ⟨rfl, h9, hw9⟩
  have R9 := R8.wr hw9 nR
  have I9 := I8.wr hw9 nI
  have W9 : Hid (Wr r w w9) := W8.out.trans hw9
  clear hw9 R8 I8 W8 h8
  have c9_c0 := I9.at (i := 0) rfl
  have c9_f0 := I9.fr 0
  have c9_c1 := I9.at (i := 1) rfl
  have c9_f1 := I9.fr 1
  have c9_c2 := I9.at (i := 2) rfl
  have c9_f2 := I9.fr 2
  have c9_c3 := I9.at (i := 3) rfl
  have c9_f3 := I9.fr 3
  have c9_c4 := I9.at (i := 4) rfl
  have c9_f4 := I9.fr 4
  have c9_c5 := I9.at (i := 5) rfl
  have c9_f5 := I9.fr 5
  have c9_c6 := I9.at (i := 6) rfl
  have c9_f6 := I9.fr 6
  have c9_c7 := I9.at (i := 7) rfl
  have c9_f7 := I9.fr 7
  have c9_c8 := I9.at (i := 8) rfl
  have c9_f8 := I9.fr 8
  have c9_l := I9.lt
  go_wp2_with fail
  refine (operand_ro _ r s _ hL hs ((h9.setFar mI _).setFar mI _)).mono ?_
  rintro e w10 ⟨rfl, h10, hw10⟩
  have R10 : Bk w10 w.heap.size #[.int .i64 0, .int .i64 0, .int .i64 0, .int .i64 0, .int .i64 0, .int .i64 0, .int .i64 0, .int .i64 0, .int .i64 0] := ((R9.setFar mN _ _).setFar mN _ _).wr hw10 nR
  have I10 : Bk w10 (w.heap.size + 1) #[.int .i64 4, .int .i64 (regP s S).1, .int .i64 (locP s (nx s (expS s xEq (regP s S).2))).1, .int .i64 0, .int .i64 0, .int .i64 0, .int .i64 0, .int .i64 0, .int .i64 0] := ((I9.set 0 _).set 2 _).wr hw10 nI
  have W10 : Hid (Wr r w w10) := ((W9.out.setNew lN _).setNew lN _).trans hw10
  clear hw10 R9 I9 W9 h9 c9_c0 c9_f0 c9_c1 c9_f1 c9_c2 c9_f2 c9_c3 c9_f3 c9_c4 c9_f4 c9_c5 c9_f5 c9_c6 c9_f6 c9_c7 c9_f7 c9_c8 c9_f8 c9_l
  have c10_c0 := I10.at (i := 0) rfl
  have c10_f0 := I10.fr 0
  have c10_c1 := I10.at (i := 1) rfl
  have c10_f1 := I10.fr 1
  have c10_c2 := I10.at (i := 2) rfl
  have c10_f2 := I10.fr 2
  have c10_c3 := I10.at (i := 3) rfl
  have c10_f3 := I10.fr 3
  have c10_c4 := I10.at (i := 4) rfl
  have c10_f4 := I10.fr 4
  have c10_c5 := I10.at (i := 5) rfl
  have c10_f5 := I10.fr 5
  have c10_c6 := I10.at (i := 6) rfl
  have c10_f6 := I10.fr 6
  have c10_c7 := I10.at (i := 7) rfl
  have c10_f7 := I10.fr 7
  have c10_c8 := I10.at (i := 8) rfl
  have c10_f8 := I10.fr 8
  have c10_l := I10.lt
  go_wp2_with fail
  refine (operand_ro _ r s _ hL hs ((h10.setFar mI _).setFar mI _)).mono ?_
  rintro e w11 ⟨rfl, h11, hw11⟩
  have R11 : Bk w11 w.heap.size #[.int .i64 0, .int .i64 0, .int .i64 0, .int .i64 0, .int .i64 0, .int .i64 0, .int .i64 0, .int .i64 0, .int .i64 0] := ((R10.setFar mN _ _).setFar mN _ _).wr hw11 nR
  have I11 : Bk w11 (w.heap.size + 1) #[.int .i64 4, .int .i64 (regP s S).1, .int .i64 (locP s (nx s (expS s xEq (regP s S).2))).1, .int .i64 (opdP s (locP s (nx s (expS s xEq (regP s S).2))).2).1.r, .int .i64 (opdP s (locP s (nx s (expS s xEq (regP s S).2))).2).1.v, .int .i64 0, .int .i64 0, .int .i64 0, .int .i64 0] := ((I10.set 3 _).set 4 _).wr hw11 nI
  have W11 : Hid (Wr r w w11) := ((W10.out.setNew lN _).setNew lN _).trans hw11
  clear hw11 R10 I10 W10 h10 c10_c0 c10_f0 c10_c1 c10_f1 c10_c2 c10_f2 c10_c3 c10_f3 c10_c4 c10_f4 c10_c5 c10_f5 c10_c6 c10_f6 c10_c7 c10_f7 c10_c8 c10_f8 c10_l
  have c11_c0 := I11.at (i := 0) rfl
  have c11_f0 := I11.fr 0
  have c11_c1 := I11.at (i := 1) rfl
  have c11_f1 := I11.fr 1
  have c11_c2 := I11.at (i := 2) rfl
  have c11_f2 := I11.fr 2
  have c11_c3 := I11.at (i := 3) rfl
  have c11_f3 := I11.fr 3
  have c11_c4 := I11.at (i := 4) rfl
  have c11_f4 := I11.fr 4
  have c11_c5 := I11.at (i := 5) rfl
  have c11_f5 := I11.fr 5
  have c11_c6 := I11.at (i := 6) rfl
  have c11_f6 := I11.fr 6
  have c11_c7 := I11.at (i := 7) rfl
  have c11_f7 := I11.fr 7
  have c11_c8 := I11.at (i := 8) rfl
  have c11_f8 := I11.fr 8
  have c11_l := I11.lt
  go_wp2_with fail
  refine (eat_ro _ r s _ hL hs xSemi (ne_nil _ _) (nnSemi s) ((h11.setFar mI _).setFar mI _)).mono ?_
  rintro e w12 ⟨rfl, h12, hw12⟩
  have R12 : Bk w12 w.heap.size #[.int .i64 0, .int .i64 0, .int .i64 0, .int .i64 0, .int .i64 0, .int .i64 0, .int .i64 0, .int .i64 0, .int .i64 0] := ((R11.setFar mN _ _).setFar mN _ _).wr hw12 nR
  have I12 : Bk w12 (w.heap.size + 1) #[.int .i64 4, .int .i64 (regP s S).1, .int .i64 (locP s (nx s (expS s xEq (regP s S).2))).1, .int .i64 (opdP s (locP s (nx s (expS s xEq (regP s S).2))).2).1.r, .int .i64 (opdP s (locP s (nx s (expS s xEq (regP s S).2))).2).1.v, .int .i64 0, .int .i64 (opdP s (opdP s (locP s (nx s (expS s xEq (regP s S).2))).2).2).1.r, .int .i64 (opdP s (opdP s (locP s (nx s (expS s xEq (regP s S).2))).2).2).1.v, .int .i64 0] := ((I11.set 6 _).set 7 _).wr hw12 nI
  have W12 : Hid (Wr r w w12) := ((W11.out.setNew lN _).setNew lN _).trans hw12
  clear hw12 R11 I11 W11 h11 c11_c0 c11_f0 c11_c1 c11_f1 c11_c2 c11_f2 c11_c3 c11_f3 c11_c4 c11_f4 c11_c5 c11_f5 c11_c6 c11_f6 c11_c7 c11_f7 c11_c8 c11_f8 c11_l
  have c12_c0 := I12.at (i := 0) rfl
  have c12_f0 := I12.fr 0
  have c12_c1 := I12.at (i := 1) rfl
  have c12_f1 := I12.fr 1
  have c12_c2 := I12.at (i := 2) rfl
  have c12_f2 := I12.fr 2
  have c12_c3 := I12.at (i := 3) rfl
  have c12_f3 := I12.fr 3
  have c12_c4 := I12.at (i := 4) rfl
  have c12_f4 := I12.fr 4
  have c12_c5 := I12.at (i := 5) rfl
  have c12_f5 := I12.fr 5
  have c12_c6 := I12.at (i := 6) rfl
  have c12_f6 := I12.fr 6
  have c12_c7 := I12.at (i := 7) rfl
  have c12_f7 := I12.fr 7
  have c12_c8 := I12.at (i := 8) rfl
  have c12_f8 := I12.fr 8
  have c12_l := I12.lt
  have z_c0 : w12.cell? ⟨w.heap.size, 0, none⟩ = some (.int .i64 0) := R12.at rfl
  have z_f0 : w12.frozen? ⟨w.heap.size, 0, none⟩ = false := R12.fr 0
  have z_c1 : w12.cell? ⟨w.heap.size, 1, none⟩ = some (.int .i64 0) := R12.at rfl
  have z_f1 : w12.frozen? ⟨w.heap.size, 1, none⟩ = false := R12.fr 1
  have z_c2 : w12.cell? ⟨w.heap.size, 2, none⟩ = some (.int .i64 0) := R12.at rfl
  have z_f2 : w12.frozen? ⟨w.heap.size, 2, none⟩ = false := R12.fr 2
  have z_c3 : w12.cell? ⟨w.heap.size, 3, none⟩ = some (.int .i64 0) := R12.at rfl
  have z_f3 : w12.frozen? ⟨w.heap.size, 3, none⟩ = false := R12.fr 3
  have z_c4 : w12.cell? ⟨w.heap.size, 4, none⟩ = some (.int .i64 0) := R12.at rfl
  have z_f4 : w12.frozen? ⟨w.heap.size, 4, none⟩ = false := R12.fr 4
  have z_c5 : w12.cell? ⟨w.heap.size, 5, none⟩ = some (.int .i64 0) := R12.at rfl
  have z_f5 : w12.frozen? ⟨w.heap.size, 5, none⟩ = false := R12.fr 5
  have z_c6 : w12.cell? ⟨w.heap.size, 6, none⟩ = some (.int .i64 0) := R12.at rfl
  have z_f6 : w12.frozen? ⟨w.heap.size, 6, none⟩ = false := R12.fr 6
  have z_c7 : w12.cell? ⟨w.heap.size, 7, none⟩ = some (.int .i64 0) := R12.at rfl
  have z_f7 : w12.frozen? ⟨w.heap.size, 7, none⟩ = false := R12.fr 7
  have z_c8 : w12.cell? ⟨w.heap.size, 8, none⟩ = some (.int .i64 0) := R12.at rfl
  have z_f8 : w12.frozen? ⟨w.heap.size, 8, none⟩ = false := R12.fr 8
  have z_l := R12.lt
  clear R12 I12
  go_wp2
  (try simp only [Exit.inBlock, Exit.then])
  refine bodyPost_ret (v := .agg #[.int .i64 4, .int .i64 (regP s S).1, .int .i64 (locP s (nx s (expS s xEq (regP s S).2))).1, .int .i64 (opdP s (locP s (nx s (expS s xEq (regP s S).2))).2).1.r, .int .i64 (opdP s (locP s (nx s (expS s xEq (regP s S).2))).2).1.v, .int .i64 0, .int .i64 (opdP s (opdP s (locP s (nx s (expS s xEq (regP s S).2))).2).2).1.r, .int .i64 (opdP s (opdP s (locP s (nx s (expS s xEq (regP s S).2))).2).2).1.v, .int .i64 0]) ?_ rfl ⟨rfl, (((((((((h12.setFar mR _).setFar mR _).setFar mR _).setFar mR _).setFar mR _).setFar mR _).setFar mR _).setFar mR _).setFar mR _), (((((((((W12.out.setNew (Nat.le_refl _) _).setNew (Nat.le_refl _) _).setNew (Nat.le_refl _) _).setNew (Nat.le_refl _) _).setNew (Nat.le_refl _) _).setNew (Nat.le_refl _) _).setNew (Nat.le_refl _) _).setNew (Nat.le_refl _) _).setNew (Nat.le_refl _) _)⟩
  rw [results_cell rfl]
  go_simp

include hL hs in
theorem rins_op (q1 : isX s xStore S = false) (q2 : isX s xFence S = false) (q3 : isX s xSkip S = false) (q4 : isX s xLoad (expS s xEq (regP s S).2) = false) (q5 : isX s xCas (expS s xEq (regP s S).2) = false) {a : Nat} (hS : (opdP s (expS s xEq (regP s S).2)).2 = .ok a) (hk : ((kd s a : Int) == 3) = true) (hO : opB (tx s a) = true) (h : Ro w r s S) :
    Calls Tryz.prog 40 #[.pointer (some ⟨r, 0, none⟩)] w fun e w' => e = .returned (insA ⟨5, (regP s S).1, 0, (opdP s (expS s xEq (regP s S).2)).1, opV (tx s a), (opdP s (nx s (opdP s (expS s xEq (regP s S).2)).2)).1, 0⟩) ∧ Ro w' r s (expS s xSemi (opdP s (nx s (opdP s (expS s xEq (regP s S).2)).2)).2) ∧ Wr r w w' := by
  have hlt := h.lt
  have hx : ∀ o1 o2, Ro ((w.alloc o1).alloc o2) r s S := fun o1 o2 => (h.alloc o1).alloc o2
  have nR : w.heap.size ≠ r := by omega
  have nI : w.heap.size + 1 ≠ r := by omega
  have mR : r ≠ w.heap.size := by omega
  have mI : r ≠ w.heap.size + 1 := by omega
  have mN : w.heap.size ≠ w.heap.size + 1 := by omega
  have lN : w.heap.size ≤ w.heap.size + 1 := by omega
  clear h
  have HS : Hid ((opdP s (expS s xEq (regP s S).2)).2 = .ok a) := hS
  clear hS
  go_enter Tryz.func40, Tryz.ntmps40
  go_wp2_with fail
  refine (is_no _ r s S hL hs xStore (ne_nil _ _) (nnStore s) q1 (hx _ _)).mono ?_
  rintro e w1 ⟨rfl, h1, hw1⟩
  have R1 : Bk w1 w.heap.size #[.int .i64 0, .int .i64 0, .int .i64 0, .int .i64 0, .int .i64 0, .int .i64 0, .int .i64 0, .int .i64 0, .int .i64 0] := ((Bk.new w _ _).alloc _).wr hw1 nR
  have I1 : Bk w1 (w.heap.size + 1) #[.int .i64 0, .int .i64 0, .int .i64 0, .int .i64 0, .int .i64 0, .int .i64 0, .int .i64 0, .int .i64 0, .int .i64 0] := (Bk.new2 w _ _ _).wr hw1 nI
  have W1 : Hid (Wr r w w1) := (((Wr.refl r w).alloc _).alloc _).trans hw1
  clear hw1 hx
  go_wp2_with fail
  refine (is_no _ r s S hL hs xFence (ne_nil _ _) (nnFence s) q2 h1).mono ?_
  rintro e w2 ⟨rfl, h2, hw2⟩
  have R2 := R1.wr hw2 nR
  have I2 := I1.wr hw2 nI
  have W2 : Hid (Wr r w w2) := W1.out.trans hw2
  clear hw2 R1 I1 W1 h1
  go_wp2_with fail
  refine (is_no _ r s S hL hs xSkip (ne_nil _ _) (nnSkip s) q3 h2).mono ?_
  rintro e w3 ⟨rfl, h3, hw3⟩
  have R3 := R2.wr hw3 nR
  have I3 := I2.wr hw3 nI
  have W3 : Hid (Wr r w w3) := W2.out.trans hw3
  clear hw3 R2 I2 W2 h2
  go_wp2_with fail
  refine (register_ro _ r s _ hL hs h3).mono ?_
  rintro e w4 ⟨rfl, h4, hw4⟩
  have R4 := R3.wr hw4 nR
  have I4 := I3.wr hw4 nI
  have W4 : Hid (Wr r w w4) := W3.out.trans hw4
  clear hw4 R3 I3 W3 h3
  have c4_c0 := I4.at (i := 0) rfl
  have c4_f0 := I4.fr 0
  have c4_c1 := I4.at (i := 1) rfl
  have c4_f1 := I4.fr 1
  have c4_c2 := I4.at (i := 2) rfl
  have c4_f2 := I4.fr 2
  have c4_c3 := I4.at (i := 3) rfl
  have c4_f3 := I4.fr 3
  have c4_c4 := I4.at (i := 4) rfl
  have c4_f4 := I4.fr 4
  have c4_c5 := I4.at (i := 5) rfl
  have c4_f5 := I4.fr 5
  have c4_c6 := I4.at (i := 6) rfl
  have c4_f6 := I4.fr 6
  have c4_c7 := I4.at (i := 7) rfl
  have c4_f7 := I4.fr 7
  have c4_c8 := I4.at (i := 8) rfl
  have c4_f8 := I4.fr 8
  have c4_l := I4.lt
  go_wp2_with fail
  refine (eat_ro _ r s _ hL hs xEq (ne_nil _ _) (nnEq s) (h4.setFar mI _)).mono ?_
  rintro e w5 ⟨rfl, h5, hw5⟩
  have R5 : Bk w5 w.heap.size #[.int .i64 0, .int .i64 0, .int .i64 0, .int .i64 0, .int .i64 0, .int .i64 0, .int .i64 0, .int .i64 0, .int .i64 0] := (R4.setFar mN _ _).wr hw5 nR
  have I5 : Bk w5 (w.heap.size + 1) #[.int .i64 0, .int .i64 (regP s S).1, .int .i64 0, .int .i64 0, .int .i64 0, .int .i64 0, .int .i64 0, .int .i64 0, .int .i64 0] := (I4.set 1 _).wr hw5 nI
  have W5 : Hid (Wr r w w5) := (W4.out.setNew lN _).trans hw5
  clear hw5 R4 I4 W4 h4 c4_c0 c4_f0 c4_c1 c4_f1 c4_c2 c4_f2 c4_c3 c4_f3 c4_c4 c4_f4 c4_c5 c4_f5 c4_c6 c4_f6 c4_c7 c4_f7 c4_c8 c4_f8 c4_l
  go_wp2_with fail
  refine (is_no _ r s (expS s xEq (regP s S).2) hL hs xLoad (ne_nil _ _) (nnLoad s) q4 h5).mono ?_
  rintro e w6 ⟨rfl, h6, hw6⟩
  have R6 := R5.wr hw6 nR
  have I6 := I5.wr hw6 nI
  have W6 : Hid (Wr r w w6) := W5.out.trans hw6
  clear hw6 R5 I5 W5 h5
  go_wp2_with fail
  refine (is_no _ r s (expS s xEq (regP s S).2) hL hs xCas (ne_nil _ _) (nnCas s) q5 h6).mono ?_
  rintro e w7 ⟨rfl, h7, hw7⟩
  have R7 := R6.wr hw7 nR
  have I7 := I6.wr hw7 nI
  have W7 : Hid (Wr r w w7) := W6.out.trans hw7
  clear hw7 R6 I6 W6 h6
  go_wp2_with fail
  refine (operand_ro _ r s _ hL hs h7).mono ?_
  rintro e w8 ⟨rfl, h8, hw8⟩
  have R8 := R7.wr hw8 nR
  have I8 := I7.wr hw8 nI
  have W8 : Hid (Wr r w w8) := W7.out.trans hw8
  clear hw8 R7 I7 W7 h7
  have c8_c0 := I8.at (i := 0) rfl
  have c8_f0 := I8.fr 0
  have c8_c1 := I8.at (i := 1) rfl
  have c8_f1 := I8.fr 1
  have c8_c2 := I8.at (i := 2) rfl
  have c8_f2 := I8.fr 2
  have c8_c3 := I8.at (i := 3) rfl
  have c8_f3 := I8.fr 3
  have c8_c4 := I8.at (i := 4) rfl
  have c8_f4 := I8.fr 4
  have c8_c5 := I8.at (i := 5) rfl
  have c8_f5 := I8.fr 5
  have c8_c6 := I8.at (i := 6) rfl
  have c8_f6 := I8.fr 6
  have c8_c7 := I8.at (i := 7) rfl
  have c8_f7 := I8.fr 7
  have c8_c8 := I8.at (i := 8) rfl
  have c8_f8 := I8.fr 8
  have c8_l := I8.lt
  go_wp2_with fail
  refine (look_tn _ r s _ hL hs HS.out (((((h8.setFar mI _).setFar mI _).setFar mI _).setFar mI _).setFar mI _)).mono ?_
  rintro e w9 ⟨rfl, ⟨h9, he9, _, _⟩, hw9⟩
  have R9 : Bk w9 w.heap.size #[.int .i64 0, .int .i64 0, .int .i64 0, .int .i64 0, .int .i64 0, .int .i64 0, .int .i64 0, .int .i64 0, .int .i64 0] := (((((R8.setFar mN _ _).setFar mN _ _).setFar mN _ _).setFar mN _ _).setFar mN _ _).wr hw9 nR
  have I9 : Bk w9 (w.heap.size + 1) #[.int .i64 5, .int .i64 (regP s S).1, .int .i64 0, .int .i64 (opdP s (expS s xEq (regP s S).2)).1.r, .int .i64 (opdP s (expS s xEq (regP s S).2)).1.v, .int .i64 0, .int .i64 (-1), .int .i64 0, .int .i64 0] := (((((I8.set 0 _).set 3 _).set 4 _).set 6 _).set 7 _).wr hw9 nI
  have W9 : Hid (Wr r w w9) := (((((W8.out.setNew lN _).setNew lN _).setNew lN _).setNew lN _).setNew lN _).trans hw9
  clear hw9 R8 I8 W8 h8 c8_c0 c8_f0 c8_c1 c8_f1 c8_c2 c8_f2 c8_c3 c8_f3 c8_c4 c8_f4 c8_c5 c8_f5 c8_c6 c8_f6 c8_c7 c8_f7 c8_c8 c8_f8 c8_l
  go_wp2_with fail
  refine (op_tn _ r s _ _ hO (h9.alloc _)).mono ?_
  rintro e w10 ⟨rfl, h10, hw10⟩
  have R10 : Bk w10 w.heap.size #[.int .i64 0, .int .i64 0, .int .i64 0, .int .i64 0, .int .i64 0, .int .i64 0, .int .i64 0, .int .i64 0, .int .i64 0] := (R9.alloc _).wr hw10 nR
  have I10 : Bk w10 (w.heap.size + 1) #[.int .i64 5, .int .i64 (regP s S).1, .int .i64 0, .int .i64 (opdP s (expS s xEq (regP s S).2)).1.r, .int .i64 (opdP s (expS s xEq (regP s S).2)).1.v, .int .i64 0, .int .i64 (-1), .int .i64 0, .int .i64 0] := (I9.alloc _).wr hw10 nI
  have W10 : Hid (Wr r w w10) := (W9.out.alloc _).trans hw10
  clear hw10 R9 I9 W9 h9
  go_wp2_with fail
  refine (go1_ro _ r s _ h10).mono ?_
  rintro e w11 ⟨rfl, h11, hw11⟩
  have R11 := R10.wr hw11 nR
  have I11 := I10.wr hw11 nI
  have W11 : Hid (Wr r w w11) := W10.out.trans hw11
  clear hw11 R10 I10 W10 h10
  go_wp2_with fail
  refine (operand_ro _ r s _ hL hs h11).mono ?_
  rintro e w12 ⟨rfl, h12, hw12⟩
  have R12 := R11.wr hw12 nR
  have I12 := I11.wr hw12 nI
  have W12 : Hid (Wr r w w12) := W11.out.trans hw12
  clear hw12 R11 I11 W11 h11
  have c12_c0 := I12.at (i := 0) rfl
  have c12_f0 := I12.fr 0
  have c12_c1 := I12.at (i := 1) rfl
  have c12_f1 := I12.fr 1
  have c12_c2 := I12.at (i := 2) rfl
  have c12_f2 := I12.fr 2
  have c12_c3 := I12.at (i := 3) rfl
  have c12_f3 := I12.fr 3
  have c12_c4 := I12.at (i := 4) rfl
  have c12_f4 := I12.fr 4
  have c12_c5 := I12.at (i := 5) rfl
  have c12_f5 := I12.fr 5
  have c12_c6 := I12.at (i := 6) rfl
  have c12_f6 := I12.fr 6
  have c12_c7 := I12.at (i := 7) rfl
  have c12_f7 := I12.fr 7
  have c12_c8 := I12.at (i := 8) rfl
  have c12_f8 := I12.fr 8
  have c12_l := I12.lt
  go_wp2_with fail
  refine (eat_ro _ r s _ hL hs xSemi (ne_nil _ _) (nnSemi s) (((h12.setFar mI _).setFar mI _).setFar mI _)).mono ?_
  rintro e w13 ⟨rfl, h13, hw13⟩
  have R13 : Bk w13 w.heap.size #[.int .i64 0, .int .i64 0, .int .i64 0, .int .i64 0, .int .i64 0, .int .i64 0, .int .i64 0, .int .i64 0, .int .i64 0] := (((R12.setFar mN _ _).setFar mN _ _).setFar mN _ _).wr hw13 nR
  have I13 : Bk w13 (w.heap.size + 1) #[.int .i64 5, .int .i64 (regP s S).1, .int .i64 0, .int .i64 (opdP s (expS s xEq (regP s S).2)).1.r, .int .i64 (opdP s (expS s xEq (regP s S).2)).1.v, .int .i64 (opV (tx s a)), .int .i64 (opdP s (nx s (opdP s (expS s xEq (regP s S).2)).2)).1.r, .int .i64 (opdP s (nx s (opdP s (expS s xEq (regP s S).2)).2)).1.v, .int .i64 0] := (((I12.set 5 _).set 6 _).set 7 _).wr hw13 nI
  have W13 : Hid (Wr r w w13) := (((W12.out.setNew lN _).setNew lN _).setNew lN _).trans hw13
  clear hw13 R12 I12 W12 h12 c12_c0 c12_f0 c12_c1 c12_f1 c12_c2 c12_f2 c12_c3 c12_f3 c12_c4 c12_f4 c12_c5 c12_f5 c12_c6 c12_f6 c12_c7 c12_f7 c12_c8 c12_f8 c12_l
  have c13_c0 := I13.at (i := 0) rfl
  have c13_f0 := I13.fr 0
  have c13_c1 := I13.at (i := 1) rfl
  have c13_f1 := I13.fr 1
  have c13_c2 := I13.at (i := 2) rfl
  have c13_f2 := I13.fr 2
  have c13_c3 := I13.at (i := 3) rfl
  have c13_f3 := I13.fr 3
  have c13_c4 := I13.at (i := 4) rfl
  have c13_f4 := I13.fr 4
  have c13_c5 := I13.at (i := 5) rfl
  have c13_f5 := I13.fr 5
  have c13_c6 := I13.at (i := 6) rfl
  have c13_f6 := I13.fr 6
  have c13_c7 := I13.at (i := 7) rfl
  have c13_f7 := I13.fr 7
  have c13_c8 := I13.at (i := 8) rfl
  have c13_f8 := I13.fr 8
  have c13_l := I13.lt
  have z_c0 : w13.cell? ⟨w.heap.size, 0, none⟩ = some (.int .i64 0) := R13.at rfl
  have z_f0 : w13.frozen? ⟨w.heap.size, 0, none⟩ = false := R13.fr 0
  have z_c1 : w13.cell? ⟨w.heap.size, 1, none⟩ = some (.int .i64 0) := R13.at rfl
  have z_f1 : w13.frozen? ⟨w.heap.size, 1, none⟩ = false := R13.fr 1
  have z_c2 : w13.cell? ⟨w.heap.size, 2, none⟩ = some (.int .i64 0) := R13.at rfl
  have z_f2 : w13.frozen? ⟨w.heap.size, 2, none⟩ = false := R13.fr 2
  have z_c3 : w13.cell? ⟨w.heap.size, 3, none⟩ = some (.int .i64 0) := R13.at rfl
  have z_f3 : w13.frozen? ⟨w.heap.size, 3, none⟩ = false := R13.fr 3
  have z_c4 : w13.cell? ⟨w.heap.size, 4, none⟩ = some (.int .i64 0) := R13.at rfl
  have z_f4 : w13.frozen? ⟨w.heap.size, 4, none⟩ = false := R13.fr 4
  have z_c5 : w13.cell? ⟨w.heap.size, 5, none⟩ = some (.int .i64 0) := R13.at rfl
  have z_f5 : w13.frozen? ⟨w.heap.size, 5, none⟩ = false := R13.fr 5
  have z_c6 : w13.cell? ⟨w.heap.size, 6, none⟩ = some (.int .i64 0) := R13.at rfl
  have z_f6 : w13.frozen? ⟨w.heap.size, 6, none⟩ = false := R13.fr 6
  have z_c7 : w13.cell? ⟨w.heap.size, 7, none⟩ = some (.int .i64 0) := R13.at rfl
  have z_f7 : w13.frozen? ⟨w.heap.size, 7, none⟩ = false := R13.fr 7
  have z_c8 : w13.cell? ⟨w.heap.size, 8, none⟩ = some (.int .i64 0) := R13.at rfl
  have z_f8 : w13.frozen? ⟨w.heap.size, 8, none⟩ = false := R13.fr 8
  have z_l := R13.lt
  clear R13 I13
  go_wp2
  (try simp only [Exit.inBlock, Exit.then])
  refine bodyPost_ret (v := .agg #[.int .i64 5, .int .i64 (regP s S).1, .int .i64 0, .int .i64 (opdP s (expS s xEq (regP s S).2)).1.r, .int .i64 (opdP s (expS s xEq (regP s S).2)).1.v, .int .i64 (opV (tx s a)), .int .i64 (opdP s (nx s (opdP s (expS s xEq (regP s S).2)).2)).1.r, .int .i64 (opdP s (nx s (opdP s (expS s xEq (regP s S).2)).2)).1.v, .int .i64 0]) ?_ rfl ⟨rfl, (((((((((h13.setFar mR _).setFar mR _).setFar mR _).setFar mR _).setFar mR _).setFar mR _).setFar mR _).setFar mR _).setFar mR _), (((((((((W13.out.setNew (Nat.le_refl _) _).setNew (Nat.le_refl _) _).setNew (Nat.le_refl _) _).setNew (Nat.le_refl _) _).setNew (Nat.le_refl _) _).setNew (Nat.le_refl _) _).setNew (Nat.le_refl _) _).setNew (Nat.le_refl _) _).setNew (Nat.le_refl _) _)⟩
  rw [results_cell rfl]
  go_simp

include hL hs in
theorem rins_nop (q1 : isX s xStore S = false) (q2 : isX s xFence S = false) (q3 : isX s xSkip S = false) (q4 : isX s xLoad (expS s xEq (regP s S).2) = false) (q5 : isX s xCas (expS s xEq (regP s S).2) = false) {a : Nat} (hS : (opdP s (expS s xEq (regP s S).2)).2 = .ok a) (hk : ((kd s a : Int) == 3) = true) (hO : opB (tx s a) = false) (h : Ro w r s S) :
    Calls Tryz.prog 40 #[.pointer (some ⟨r, 0, none⟩)] w fun e w' => e = .returned (insA ⟨5, (regP s S).1, 0, (opdP s (expS s xEq (regP s S).2)).1, 0, ⟨-1, 0⟩, 0⟩) ∧ Ro w' r s (expS s xSemi (opdP s (expS s xEq (regP s S).2)).2) ∧ Wr r w w' := by
  have hlt := h.lt
  have hx : ∀ o1 o2, Ro ((w.alloc o1).alloc o2) r s S := fun o1 o2 => (h.alloc o1).alloc o2
  have nR : w.heap.size ≠ r := by omega
  have nI : w.heap.size + 1 ≠ r := by omega
  have mR : r ≠ w.heap.size := by omega
  have mI : r ≠ w.heap.size + 1 := by omega
  have mN : w.heap.size ≠ w.heap.size + 1 := by omega
  have lN : w.heap.size ≤ w.heap.size + 1 := by omega
  clear h
  have HS : Hid ((opdP s (expS s xEq (regP s S).2)).2 = .ok a) := hS
  clear hS
  go_enter Tryz.func40, Tryz.ntmps40
  go_wp2_with fail
  refine (is_no _ r s S hL hs xStore (ne_nil _ _) (nnStore s) q1 (hx _ _)).mono ?_
  rintro e w1 ⟨rfl, h1, hw1⟩
  have R1 : Bk w1 w.heap.size #[.int .i64 0, .int .i64 0, .int .i64 0, .int .i64 0, .int .i64 0, .int .i64 0, .int .i64 0, .int .i64 0, .int .i64 0] := ((Bk.new w _ _).alloc _).wr hw1 nR
  have I1 : Bk w1 (w.heap.size + 1) #[.int .i64 0, .int .i64 0, .int .i64 0, .int .i64 0, .int .i64 0, .int .i64 0, .int .i64 0, .int .i64 0, .int .i64 0] := (Bk.new2 w _ _ _).wr hw1 nI
  have W1 : Hid (Wr r w w1) := (((Wr.refl r w).alloc _).alloc _).trans hw1
  clear hw1 hx
  go_wp2_with fail
  refine (is_no _ r s S hL hs xFence (ne_nil _ _) (nnFence s) q2 h1).mono ?_
  rintro e w2 ⟨rfl, h2, hw2⟩
  have R2 := R1.wr hw2 nR
  have I2 := I1.wr hw2 nI
  have W2 : Hid (Wr r w w2) := W1.out.trans hw2
  clear hw2 R1 I1 W1 h1
  go_wp2_with fail
  refine (is_no _ r s S hL hs xSkip (ne_nil _ _) (nnSkip s) q3 h2).mono ?_
  rintro e w3 ⟨rfl, h3, hw3⟩
  have R3 := R2.wr hw3 nR
  have I3 := I2.wr hw3 nI
  have W3 : Hid (Wr r w w3) := W2.out.trans hw3
  clear hw3 R2 I2 W2 h2
  go_wp2_with fail
  refine (register_ro _ r s _ hL hs h3).mono ?_
  rintro e w4 ⟨rfl, h4, hw4⟩
  have R4 := R3.wr hw4 nR
  have I4 := I3.wr hw4 nI
  have W4 : Hid (Wr r w w4) := W3.out.trans hw4
  clear hw4 R3 I3 W3 h3
  have c4_c0 := I4.at (i := 0) rfl
  have c4_f0 := I4.fr 0
  have c4_c1 := I4.at (i := 1) rfl
  have c4_f1 := I4.fr 1
  have c4_c2 := I4.at (i := 2) rfl
  have c4_f2 := I4.fr 2
  have c4_c3 := I4.at (i := 3) rfl
  have c4_f3 := I4.fr 3
  have c4_c4 := I4.at (i := 4) rfl
  have c4_f4 := I4.fr 4
  have c4_c5 := I4.at (i := 5) rfl
  have c4_f5 := I4.fr 5
  have c4_c6 := I4.at (i := 6) rfl
  have c4_f6 := I4.fr 6
  have c4_c7 := I4.at (i := 7) rfl
  have c4_f7 := I4.fr 7
  have c4_c8 := I4.at (i := 8) rfl
  have c4_f8 := I4.fr 8
  have c4_l := I4.lt
  go_wp2_with fail
  refine (eat_ro _ r s _ hL hs xEq (ne_nil _ _) (nnEq s) (h4.setFar mI _)).mono ?_
  rintro e w5 ⟨rfl, h5, hw5⟩
  have R5 : Bk w5 w.heap.size #[.int .i64 0, .int .i64 0, .int .i64 0, .int .i64 0, .int .i64 0, .int .i64 0, .int .i64 0, .int .i64 0, .int .i64 0] := (R4.setFar mN _ _).wr hw5 nR
  have I5 : Bk w5 (w.heap.size + 1) #[.int .i64 0, .int .i64 (regP s S).1, .int .i64 0, .int .i64 0, .int .i64 0, .int .i64 0, .int .i64 0, .int .i64 0, .int .i64 0] := (I4.set 1 _).wr hw5 nI
  have W5 : Hid (Wr r w w5) := (W4.out.setNew lN _).trans hw5
  clear hw5 R4 I4 W4 h4 c4_c0 c4_f0 c4_c1 c4_f1 c4_c2 c4_f2 c4_c3 c4_f3 c4_c4 c4_f4 c4_c5 c4_f5 c4_c6 c4_f6 c4_c7 c4_f7 c4_c8 c4_f8 c4_l
  go_wp2_with fail
  refine (is_no _ r s (expS s xEq (regP s S).2) hL hs xLoad (ne_nil _ _) (nnLoad s) q4 h5).mono ?_
  rintro e w6 ⟨rfl, h6, hw6⟩
  have R6 := R5.wr hw6 nR
  have I6 := I5.wr hw6 nI
  have W6 : Hid (Wr r w w6) := W5.out.trans hw6
  clear hw6 R5 I5 W5 h5
  go_wp2_with fail
  refine (is_no _ r s (expS s xEq (regP s S).2) hL hs xCas (ne_nil _ _) (nnCas s) q5 h6).mono ?_
  rintro e w7 ⟨rfl, h7, hw7⟩
  have R7 := R6.wr hw7 nR
  have I7 := I6.wr hw7 nI
  have W7 : Hid (Wr r w w7) := W6.out.trans hw7
  clear hw7 R6 I6 W6 h6
  go_wp2_with fail
  refine (operand_ro _ r s _ hL hs h7).mono ?_
  rintro e w8 ⟨rfl, h8, hw8⟩
  have R8 := R7.wr hw8 nR
  have I8 := I7.wr hw8 nI
  have W8 : Hid (Wr r w w8) := W7.out.trans hw8
  clear hw8 R7 I7 W7 h7
  have c8_c0 := I8.at (i := 0) rfl
  have c8_f0 := I8.fr 0
  have c8_c1 := I8.at (i := 1) rfl
  have c8_f1 := I8.fr 1
  have c8_c2 := I8.at (i := 2) rfl
  have c8_f2 := I8.fr 2
  have c8_c3 := I8.at (i := 3) rfl
  have c8_f3 := I8.fr 3
  have c8_c4 := I8.at (i := 4) rfl
  have c8_f4 := I8.fr 4
  have c8_c5 := I8.at (i := 5) rfl
  have c8_f5 := I8.fr 5
  have c8_c6 := I8.at (i := 6) rfl
  have c8_f6 := I8.fr 6
  have c8_c7 := I8.at (i := 7) rfl
  have c8_f7 := I8.fr 7
  have c8_c8 := I8.at (i := 8) rfl
  have c8_f8 := I8.fr 8
  have c8_l := I8.lt
  go_wp2_with fail
  refine (look_tn _ r s _ hL hs HS.out (((((h8.setFar mI _).setFar mI _).setFar mI _).setFar mI _).setFar mI _)).mono ?_
  rintro e w9 ⟨rfl, ⟨h9, he9, _, _⟩, hw9⟩
  have R9 : Bk w9 w.heap.size #[.int .i64 0, .int .i64 0, .int .i64 0, .int .i64 0, .int .i64 0, .int .i64 0, .int .i64 0, .int .i64 0, .int .i64 0] := (((((R8.setFar mN _ _).setFar mN _ _).setFar mN _ _).setFar mN _ _).setFar mN _ _).wr hw9 nR
  have I9 : Bk w9 (w.heap.size + 1) #[.int .i64 5, .int .i64 (regP s S).1, .int .i64 0, .int .i64 (opdP s (expS s xEq (regP s S).2)).1.r, .int .i64 (opdP s (expS s xEq (regP s S).2)).1.v, .int .i64 0, .int .i64 (-1), .int .i64 0, .int .i64 0] := (((((I8.set 0 _).set 3 _).set 4 _).set 6 _).set 7 _).wr hw9 nI
  have W9 : Hid (Wr r w w9) := (((((W8.out.setNew lN _).setNew lN _).setNew lN _).setNew lN _).setNew lN _).trans hw9
  clear hw9 R8 I8 W8 h8 c8_c0 c8_f0 c8_c1 c8_f1 c8_c2 c8_f2 c8_c3 c8_f3 c8_c4 c8_f4 c8_c5 c8_f5 c8_c6 c8_f6 c8_c7 c8_f7 c8_c8 c8_f8 c8_l
  go_wp2_with fail
  refine (op_tn _ r s _ _ hO (h9.alloc _)).mono ?_
  rintro e w10 ⟨rfl, h10, hw10⟩
  have R10 : Bk w10 w.heap.size #[.int .i64 0, .int .i64 0, .int .i64 0, .int .i64 0, .int .i64 0, .int .i64 0, .int .i64 0, .int .i64 0, .int .i64 0] := (R9.alloc _).wr hw10 nR
  have I10 : Bk w10 (w.heap.size + 1) #[.int .i64 5, .int .i64 (regP s S).1, .int .i64 0, .int .i64 (opdP s (expS s xEq (regP s S).2)).1.r, .int .i64 (opdP s (expS s xEq (regP s S).2)).1.v, .int .i64 0, .int .i64 (-1), .int .i64 0, .int .i64 0] := (I9.alloc _).wr hw10 nI
  have W10 : Hid (Wr r w w10) := (W9.out.alloc _).trans hw10
  clear hw10 R9 I9 W9 h9
  have h10 : Ro w10 r s (opdP s (expS s xEq (regP s S).2)).2 := by rw [HS.out] at h10 ⊢; exact h10.ro he9
  go_wp2_with fail
  refine (eat_ro _ r s _ hL hs xSemi (ne_nil _ _) (nnSemi s) h10).mono ?_
  rintro e w11 ⟨rfl, h11, hw11⟩
  have R11 := R10.wr hw11 nR
  have I11 := I10.wr hw11 nI
  have W11 : Hid (Wr r w w11) := W10.out.trans hw11
  clear hw11 R10 I10 W10 h10
  have c11_c0 := I11.at (i := 0) rfl
  have c11_f0 := I11.fr 0
  have c11_c1 := I11.at (i := 1) rfl
  have c11_f1 := I11.fr 1
  have c11_c2 := I11.at (i := 2) rfl
  have c11_f2 := I11.fr 2
  have c11_c3 := I11.at (i := 3) rfl
  have c11_f3 := I11.fr 3
  have c11_c4 := I11.at (i := 4) rfl
  have c11_f4 := I11.fr 4
  have c11_c5 := I11.at (i := 5) rfl
  have c11_f5 := I11.fr 5
  have c11_c6 := I11.at (i := 6) rfl
  have c11_f6 := I11.fr 6
  have c11_c7 := I11.at (i := 7) rfl
  have c11_f7 := I11.fr 7
  have c11_c8 := I11.at (i := 8) rfl
  have c11_f8 := I11.fr 8
  have c11_l := I11.lt
  have z_c0 : w11.cell? ⟨w.heap.size, 0, none⟩ = some (.int .i64 0) := R11.at rfl
  have z_f0 : w11.frozen? ⟨w.heap.size, 0, none⟩ = false := R11.fr 0
  have z_c1 : w11.cell? ⟨w.heap.size, 1, none⟩ = some (.int .i64 0) := R11.at rfl
  have z_f1 : w11.frozen? ⟨w.heap.size, 1, none⟩ = false := R11.fr 1
  have z_c2 : w11.cell? ⟨w.heap.size, 2, none⟩ = some (.int .i64 0) := R11.at rfl
  have z_f2 : w11.frozen? ⟨w.heap.size, 2, none⟩ = false := R11.fr 2
  have z_c3 : w11.cell? ⟨w.heap.size, 3, none⟩ = some (.int .i64 0) := R11.at rfl
  have z_f3 : w11.frozen? ⟨w.heap.size, 3, none⟩ = false := R11.fr 3
  have z_c4 : w11.cell? ⟨w.heap.size, 4, none⟩ = some (.int .i64 0) := R11.at rfl
  have z_f4 : w11.frozen? ⟨w.heap.size, 4, none⟩ = false := R11.fr 4
  have z_c5 : w11.cell? ⟨w.heap.size, 5, none⟩ = some (.int .i64 0) := R11.at rfl
  have z_f5 : w11.frozen? ⟨w.heap.size, 5, none⟩ = false := R11.fr 5
  have z_c6 : w11.cell? ⟨w.heap.size, 6, none⟩ = some (.int .i64 0) := R11.at rfl
  have z_f6 : w11.frozen? ⟨w.heap.size, 6, none⟩ = false := R11.fr 6
  have z_c7 : w11.cell? ⟨w.heap.size, 7, none⟩ = some (.int .i64 0) := R11.at rfl
  have z_f7 : w11.frozen? ⟨w.heap.size, 7, none⟩ = false := R11.fr 7
  have z_c8 : w11.cell? ⟨w.heap.size, 8, none⟩ = some (.int .i64 0) := R11.at rfl
  have z_f8 : w11.frozen? ⟨w.heap.size, 8, none⟩ = false := R11.fr 8
  have z_l := R11.lt
  clear R11 I11
  go_wp2
  (try simp only [Exit.inBlock, Exit.then])
  refine bodyPost_ret (v := .agg #[.int .i64 5, .int .i64 (regP s S).1, .int .i64 0, .int .i64 (opdP s (expS s xEq (regP s S).2)).1.r, .int .i64 (opdP s (expS s xEq (regP s S).2)).1.v, .int .i64 0, .int .i64 (-1), .int .i64 0, .int .i64 0]) ?_ rfl ⟨rfl, (((((((((h11.setFar mR _).setFar mR _).setFar mR _).setFar mR _).setFar mR _).setFar mR _).setFar mR _).setFar mR _).setFar mR _), (((((((((W11.out.setNew (Nat.le_refl _) _).setNew (Nat.le_refl _) _).setNew (Nat.le_refl _) _).setNew (Nat.le_refl _) _).setNew (Nat.le_refl _) _).setNew (Nat.le_refl _) _).setNew (Nat.le_refl _) _).setNew (Nat.le_refl _) _).setNew (Nat.le_refl _) _)⟩
  rw [results_cell rfl]
  go_simp

include hL hs in
theorem rins_word (q1 : isX s xStore S = false) (q2 : isX s xFence S = false) (q3 : isX s xSkip S = false) (q4 : isX s xLoad (expS s xEq (regP s S).2) = false) (q5 : isX s xCas (expS s xEq (regP s S).2) = false) {a : Nat} (hS : (opdP s (expS s xEq (regP s S).2)).2 = .ok a) (hk : ((kd s a : Int) == 3) = false) (h : Ro w r s S) :
    Calls Tryz.prog 40 #[.pointer (some ⟨r, 0, none⟩)] w fun e w' => e = .returned (insA ⟨5, (regP s S).1, 0, (opdP s (expS s xEq (regP s S).2)).1, 0, ⟨-1, 0⟩, 0⟩) ∧ Ro w' r s (expS s xSemi (opdP s (expS s xEq (regP s S).2)).2) ∧ Wr r w w' := by
  have hlt := h.lt
  have hx : ∀ o1 o2, Ro ((w.alloc o1).alloc o2) r s S := fun o1 o2 => (h.alloc o1).alloc o2
  have nR : w.heap.size ≠ r := by omega
  have nI : w.heap.size + 1 ≠ r := by omega
  have mR : r ≠ w.heap.size := by omega
  have mI : r ≠ w.heap.size + 1 := by omega
  have mN : w.heap.size ≠ w.heap.size + 1 := by omega
  have lN : w.heap.size ≤ w.heap.size + 1 := by omega
  clear h
  have HS : Hid ((opdP s (expS s xEq (regP s S).2)).2 = .ok a) := hS
  clear hS
  go_enter Tryz.func40, Tryz.ntmps40
  go_wp2_with fail
  refine (is_no _ r s S hL hs xStore (ne_nil _ _) (nnStore s) q1 (hx _ _)).mono ?_
  rintro e w1 ⟨rfl, h1, hw1⟩
  have R1 : Bk w1 w.heap.size #[.int .i64 0, .int .i64 0, .int .i64 0, .int .i64 0, .int .i64 0, .int .i64 0, .int .i64 0, .int .i64 0, .int .i64 0] := ((Bk.new w _ _).alloc _).wr hw1 nR
  have I1 : Bk w1 (w.heap.size + 1) #[.int .i64 0, .int .i64 0, .int .i64 0, .int .i64 0, .int .i64 0, .int .i64 0, .int .i64 0, .int .i64 0, .int .i64 0] := (Bk.new2 w _ _ _).wr hw1 nI
  have W1 : Hid (Wr r w w1) := (((Wr.refl r w).alloc _).alloc _).trans hw1
  clear hw1 hx
  go_wp2_with fail
  refine (is_no _ r s S hL hs xFence (ne_nil _ _) (nnFence s) q2 h1).mono ?_
  rintro e w2 ⟨rfl, h2, hw2⟩
  have R2 := R1.wr hw2 nR
  have I2 := I1.wr hw2 nI
  have W2 : Hid (Wr r w w2) := W1.out.trans hw2
  clear hw2 R1 I1 W1 h1
  go_wp2_with fail
  refine (is_no _ r s S hL hs xSkip (ne_nil _ _) (nnSkip s) q3 h2).mono ?_
  rintro e w3 ⟨rfl, h3, hw3⟩
  have R3 := R2.wr hw3 nR
  have I3 := I2.wr hw3 nI
  have W3 : Hid (Wr r w w3) := W2.out.trans hw3
  clear hw3 R2 I2 W2 h2
  go_wp2_with fail
  refine (register_ro _ r s _ hL hs h3).mono ?_
  rintro e w4 ⟨rfl, h4, hw4⟩
  have R4 := R3.wr hw4 nR
  have I4 := I3.wr hw4 nI
  have W4 : Hid (Wr r w w4) := W3.out.trans hw4
  clear hw4 R3 I3 W3 h3
  have c4_c0 := I4.at (i := 0) rfl
  have c4_f0 := I4.fr 0
  have c4_c1 := I4.at (i := 1) rfl
  have c4_f1 := I4.fr 1
  have c4_c2 := I4.at (i := 2) rfl
  have c4_f2 := I4.fr 2
  have c4_c3 := I4.at (i := 3) rfl
  have c4_f3 := I4.fr 3
  have c4_c4 := I4.at (i := 4) rfl
  have c4_f4 := I4.fr 4
  have c4_c5 := I4.at (i := 5) rfl
  have c4_f5 := I4.fr 5
  have c4_c6 := I4.at (i := 6) rfl
  have c4_f6 := I4.fr 6
  have c4_c7 := I4.at (i := 7) rfl
  have c4_f7 := I4.fr 7
  have c4_c8 := I4.at (i := 8) rfl
  have c4_f8 := I4.fr 8
  have c4_l := I4.lt
  go_wp2_with fail
  refine (eat_ro _ r s _ hL hs xEq (ne_nil _ _) (nnEq s) (h4.setFar mI _)).mono ?_
  rintro e w5 ⟨rfl, h5, hw5⟩
  have R5 : Bk w5 w.heap.size #[.int .i64 0, .int .i64 0, .int .i64 0, .int .i64 0, .int .i64 0, .int .i64 0, .int .i64 0, .int .i64 0, .int .i64 0] := (R4.setFar mN _ _).wr hw5 nR
  have I5 : Bk w5 (w.heap.size + 1) #[.int .i64 0, .int .i64 (regP s S).1, .int .i64 0, .int .i64 0, .int .i64 0, .int .i64 0, .int .i64 0, .int .i64 0, .int .i64 0] := (I4.set 1 _).wr hw5 nI
  have W5 : Hid (Wr r w w5) := (W4.out.setNew lN _).trans hw5
  clear hw5 R4 I4 W4 h4 c4_c0 c4_f0 c4_c1 c4_f1 c4_c2 c4_f2 c4_c3 c4_f3 c4_c4 c4_f4 c4_c5 c4_f5 c4_c6 c4_f6 c4_c7 c4_f7 c4_c8 c4_f8 c4_l
  go_wp2_with fail
  refine (is_no _ r s (expS s xEq (regP s S).2) hL hs xLoad (ne_nil _ _) (nnLoad s) q4 h5).mono ?_
  rintro e w6 ⟨rfl, h6, hw6⟩
  have R6 := R5.wr hw6 nR
  have I6 := I5.wr hw6 nI
  have W6 : Hid (Wr r w w6) := W5.out.trans hw6
  clear hw6 R5 I5 W5 h5
  go_wp2_with fail
  refine (is_no _ r s (expS s xEq (regP s S).2) hL hs xCas (ne_nil _ _) (nnCas s) q5 h6).mono ?_
  rintro e w7 ⟨rfl, h7, hw7⟩
  have R7 := R6.wr hw7 nR
  have I7 := I6.wr hw7 nI
  have W7 : Hid (Wr r w w7) := W6.out.trans hw7
  clear hw7 R6 I6 W6 h6
  go_wp2_with fail
  refine (operand_ro _ r s _ hL hs h7).mono ?_
  rintro e w8 ⟨rfl, h8, hw8⟩
  have R8 := R7.wr hw8 nR
  have I8 := I7.wr hw8 nI
  have W8 : Hid (Wr r w w8) := W7.out.trans hw8
  clear hw8 R7 I7 W7 h7
  have c8_c0 := I8.at (i := 0) rfl
  have c8_f0 := I8.fr 0
  have c8_c1 := I8.at (i := 1) rfl
  have c8_f1 := I8.fr 1
  have c8_c2 := I8.at (i := 2) rfl
  have c8_f2 := I8.fr 2
  have c8_c3 := I8.at (i := 3) rfl
  have c8_f3 := I8.fr 3
  have c8_c4 := I8.at (i := 4) rfl
  have c8_f4 := I8.fr 4
  have c8_c5 := I8.at (i := 5) rfl
  have c8_f5 := I8.fr 5
  have c8_c6 := I8.at (i := 6) rfl
  have c8_f6 := I8.fr 6
  have c8_c7 := I8.at (i := 7) rfl
  have c8_f7 := I8.fr 7
  have c8_c8 := I8.at (i := 8) rfl
  have c8_f8 := I8.fr 8
  have c8_l := I8.lt
  go_wp2_with fail
  refine (look_tn _ r s _ hL hs HS.out (((((h8.setFar mI _).setFar mI _).setFar mI _).setFar mI _).setFar mI _)).mono ?_
  rintro e w9 ⟨rfl, ⟨h9, he9, _, _⟩, hw9⟩
  have R9 : Bk w9 w.heap.size #[.int .i64 0, .int .i64 0, .int .i64 0, .int .i64 0, .int .i64 0, .int .i64 0, .int .i64 0, .int .i64 0, .int .i64 0] := (((((R8.setFar mN _ _).setFar mN _ _).setFar mN _ _).setFar mN _ _).setFar mN _ _).wr hw9 nR
  have I9 : Bk w9 (w.heap.size + 1) #[.int .i64 5, .int .i64 (regP s S).1, .int .i64 0, .int .i64 (opdP s (expS s xEq (regP s S).2)).1.r, .int .i64 (opdP s (expS s xEq (regP s S).2)).1.v, .int .i64 0, .int .i64 (-1), .int .i64 0, .int .i64 0] := (((((I8.set 0 _).set 3 _).set 4 _).set 6 _).set 7 _).wr hw9 nI
  have W9 : Hid (Wr r w w9) := (((((W8.out.setNew lN _).setNew lN _).setNew lN _).setNew lN _).setNew lN _).trans hw9
  clear hw9 R8 I8 W8 h8 c8_c0 c8_f0 c8_c1 c8_f1 c8_c2 c8_f2 c8_c3 c8_f3 c8_c4 c8_f4 c8_c5 c8_f5 c8_c6 c8_f6 c8_c7 c8_f7 c8_c8 c8_f8 c8_l
  have h9 : Ro w9 r s (opdP s (expS s xEq (regP s S).2)).2 := by rw [HS.out] at h9 ⊢; exact h9.ro he9
  go_wp2_with fail
  refine (eat_ro _ r s _ hL hs xSemi (ne_nil _ _) (nnSemi s) (h9.alloc _)).mono ?_
  rintro e w10 ⟨rfl, h10, hw10⟩
  have R10 : Bk w10 w.heap.size #[.int .i64 0, .int .i64 0, .int .i64 0, .int .i64 0, .int .i64 0, .int .i64 0, .int .i64 0, .int .i64 0, .int .i64 0] := (R9.alloc _).wr hw10 nR
  have I10 : Bk w10 (w.heap.size + 1) #[.int .i64 5, .int .i64 (regP s S).1, .int .i64 0, .int .i64 (opdP s (expS s xEq (regP s S).2)).1.r, .int .i64 (opdP s (expS s xEq (regP s S).2)).1.v, .int .i64 0, .int .i64 (-1), .int .i64 0, .int .i64 0] := (I9.alloc _).wr hw10 nI
  have W10 : Hid (Wr r w w10) := (W9.out.alloc _).trans hw10
  clear hw10 R9 I9 W9 h9
  have c10_c0 := I10.at (i := 0) rfl
  have c10_f0 := I10.fr 0
  have c10_c1 := I10.at (i := 1) rfl
  have c10_f1 := I10.fr 1
  have c10_c2 := I10.at (i := 2) rfl
  have c10_f2 := I10.fr 2
  have c10_c3 := I10.at (i := 3) rfl
  have c10_f3 := I10.fr 3
  have c10_c4 := I10.at (i := 4) rfl
  have c10_f4 := I10.fr 4
  have c10_c5 := I10.at (i := 5) rfl
  have c10_f5 := I10.fr 5
  have c10_c6 := I10.at (i := 6) rfl
  have c10_f6 := I10.fr 6
  have c10_c7 := I10.at (i := 7) rfl
  have c10_f7 := I10.fr 7
  have c10_c8 := I10.at (i := 8) rfl
  have c10_f8 := I10.fr 8
  have c10_l := I10.lt
  have z_c0 : w10.cell? ⟨w.heap.size, 0, none⟩ = some (.int .i64 0) := R10.at rfl
  have z_f0 : w10.frozen? ⟨w.heap.size, 0, none⟩ = false := R10.fr 0
  have z_c1 : w10.cell? ⟨w.heap.size, 1, none⟩ = some (.int .i64 0) := R10.at rfl
  have z_f1 : w10.frozen? ⟨w.heap.size, 1, none⟩ = false := R10.fr 1
  have z_c2 : w10.cell? ⟨w.heap.size, 2, none⟩ = some (.int .i64 0) := R10.at rfl
  have z_f2 : w10.frozen? ⟨w.heap.size, 2, none⟩ = false := R10.fr 2
  have z_c3 : w10.cell? ⟨w.heap.size, 3, none⟩ = some (.int .i64 0) := R10.at rfl
  have z_f3 : w10.frozen? ⟨w.heap.size, 3, none⟩ = false := R10.fr 3
  have z_c4 : w10.cell? ⟨w.heap.size, 4, none⟩ = some (.int .i64 0) := R10.at rfl
  have z_f4 : w10.frozen? ⟨w.heap.size, 4, none⟩ = false := R10.fr 4
  have z_c5 : w10.cell? ⟨w.heap.size, 5, none⟩ = some (.int .i64 0) := R10.at rfl
  have z_f5 : w10.frozen? ⟨w.heap.size, 5, none⟩ = false := R10.fr 5
  have z_c6 : w10.cell? ⟨w.heap.size, 6, none⟩ = some (.int .i64 0) := R10.at rfl
  have z_f6 : w10.frozen? ⟨w.heap.size, 6, none⟩ = false := R10.fr 6
  have z_c7 : w10.cell? ⟨w.heap.size, 7, none⟩ = some (.int .i64 0) := R10.at rfl
  have z_f7 : w10.frozen? ⟨w.heap.size, 7, none⟩ = false := R10.fr 7
  have z_c8 : w10.cell? ⟨w.heap.size, 8, none⟩ = some (.int .i64 0) := R10.at rfl
  have z_f8 : w10.frozen? ⟨w.heap.size, 8, none⟩ = false := R10.fr 8
  have z_l := R10.lt
  clear R10 I10
  go_wp2
  (try simp only [Exit.inBlock, Exit.then])
  refine bodyPost_ret (v := .agg #[.int .i64 5, .int .i64 (regP s S).1, .int .i64 0, .int .i64 (opdP s (expS s xEq (regP s S).2)).1.r, .int .i64 (opdP s (expS s xEq (regP s S).2)).1.v, .int .i64 0, .int .i64 (-1), .int .i64 0, .int .i64 0]) ?_ rfl ⟨rfl, (((((((((h10.setFar mR _).setFar mR _).setFar mR _).setFar mR _).setFar mR _).setFar mR _).setFar mR _).setFar mR _).setFar mR _), (((((((((W10.out.setNew (Nat.le_refl _) _).setNew (Nat.le_refl _) _).setNew (Nat.le_refl _) _).setNew (Nat.le_refl _) _).setNew (Nat.le_refl _) _).setNew (Nat.le_refl _) _).setNew (Nat.le_refl _) _).setNew (Nat.le_refl _) _).setNew (Nat.le_refl _) _)⟩
  rw [results_cell rfl]
  go_simp

include hL hs in
theorem rins_ended (q1 : isX s xStore S = false) (q2 : isX s xFence S = false) (q3 : isX s xSkip S = false) (q4 : isX s xLoad (expS s xEq (regP s S).2) = false) (q5 : isX s xCas (expS s xEq (regP s S).2) = false) {c e : Nat} (hS : (opdP s (expS s xEq (regP s S).2)).2 = .error (c, e)) (h : Ro w r s S) :
    Calls Tryz.prog 40 #[.pointer (some ⟨r, 0, none⟩)] w fun e w' => e = .returned (insA ⟨5, (regP s S).1, 0, (opdP s (expS s xEq (regP s S).2)).1, 0, ⟨-1, 0⟩, 0⟩) ∧ Ro w' r s (expS s xSemi (opdP s (expS s xEq (regP s S).2)).2) ∧ Wr r w w' := by
  have hlt := h.lt
  have hx : ∀ o1 o2, Ro ((w.alloc o1).alloc o2) r s S := fun o1 o2 => (h.alloc o1).alloc o2
  have nR : w.heap.size ≠ r := by omega
  have nI : w.heap.size + 1 ≠ r := by omega
  have mR : r ≠ w.heap.size := by omega
  have mI : r ≠ w.heap.size + 1 := by omega
  have mN : w.heap.size ≠ w.heap.size + 1 := by omega
  have lN : w.heap.size ≤ w.heap.size + 1 := by omega
  clear h
  have HS : Hid ((opdP s (expS s xEq (regP s S).2)).2 = .error (c, e)) := hS
  clear hS
  go_enter Tryz.func40, Tryz.ntmps40
  go_wp2_with fail
  refine (is_no _ r s S hL hs xStore (ne_nil _ _) (nnStore s) q1 (hx _ _)).mono ?_
  rintro e w1 ⟨rfl, h1, hw1⟩
  have R1 : Bk w1 w.heap.size #[.int .i64 0, .int .i64 0, .int .i64 0, .int .i64 0, .int .i64 0, .int .i64 0, .int .i64 0, .int .i64 0, .int .i64 0] := ((Bk.new w _ _).alloc _).wr hw1 nR
  have I1 : Bk w1 (w.heap.size + 1) #[.int .i64 0, .int .i64 0, .int .i64 0, .int .i64 0, .int .i64 0, .int .i64 0, .int .i64 0, .int .i64 0, .int .i64 0] := (Bk.new2 w _ _ _).wr hw1 nI
  have W1 : Hid (Wr r w w1) := (((Wr.refl r w).alloc _).alloc _).trans hw1
  clear hw1 hx
  go_wp2_with fail
  refine (is_no _ r s S hL hs xFence (ne_nil _ _) (nnFence s) q2 h1).mono ?_
  rintro e w2 ⟨rfl, h2, hw2⟩
  have R2 := R1.wr hw2 nR
  have I2 := I1.wr hw2 nI
  have W2 : Hid (Wr r w w2) := W1.out.trans hw2
  clear hw2 R1 I1 W1 h1
  go_wp2_with fail
  refine (is_no _ r s S hL hs xSkip (ne_nil _ _) (nnSkip s) q3 h2).mono ?_
  rintro e w3 ⟨rfl, h3, hw3⟩
  have R3 := R2.wr hw3 nR
  have I3 := I2.wr hw3 nI
  have W3 : Hid (Wr r w w3) := W2.out.trans hw3
  clear hw3 R2 I2 W2 h2
  go_wp2_with fail
  refine (register_ro _ r s _ hL hs h3).mono ?_
  rintro e w4 ⟨rfl, h4, hw4⟩
  have R4 := R3.wr hw4 nR
  have I4 := I3.wr hw4 nI
  have W4 : Hid (Wr r w w4) := W3.out.trans hw4
  clear hw4 R3 I3 W3 h3
  have c4_c0 := I4.at (i := 0) rfl
  have c4_f0 := I4.fr 0
  have c4_c1 := I4.at (i := 1) rfl
  have c4_f1 := I4.fr 1
  have c4_c2 := I4.at (i := 2) rfl
  have c4_f2 := I4.fr 2
  have c4_c3 := I4.at (i := 3) rfl
  have c4_f3 := I4.fr 3
  have c4_c4 := I4.at (i := 4) rfl
  have c4_f4 := I4.fr 4
  have c4_c5 := I4.at (i := 5) rfl
  have c4_f5 := I4.fr 5
  have c4_c6 := I4.at (i := 6) rfl
  have c4_f6 := I4.fr 6
  have c4_c7 := I4.at (i := 7) rfl
  have c4_f7 := I4.fr 7
  have c4_c8 := I4.at (i := 8) rfl
  have c4_f8 := I4.fr 8
  have c4_l := I4.lt
  go_wp2_with fail
  refine (eat_ro _ r s _ hL hs xEq (ne_nil _ _) (nnEq s) (h4.setFar mI _)).mono ?_
  rintro e w5 ⟨rfl, h5, hw5⟩
  have R5 : Bk w5 w.heap.size #[.int .i64 0, .int .i64 0, .int .i64 0, .int .i64 0, .int .i64 0, .int .i64 0, .int .i64 0, .int .i64 0, .int .i64 0] := (R4.setFar mN _ _).wr hw5 nR
  have I5 : Bk w5 (w.heap.size + 1) #[.int .i64 0, .int .i64 (regP s S).1, .int .i64 0, .int .i64 0, .int .i64 0, .int .i64 0, .int .i64 0, .int .i64 0, .int .i64 0] := (I4.set 1 _).wr hw5 nI
  have W5 : Hid (Wr r w w5) := (W4.out.setNew lN _).trans hw5
  clear hw5 R4 I4 W4 h4 c4_c0 c4_f0 c4_c1 c4_f1 c4_c2 c4_f2 c4_c3 c4_f3 c4_c4 c4_f4 c4_c5 c4_f5 c4_c6 c4_f6 c4_c7 c4_f7 c4_c8 c4_f8 c4_l
  go_wp2_with fail
  refine (is_no _ r s (expS s xEq (regP s S).2) hL hs xLoad (ne_nil _ _) (nnLoad s) q4 h5).mono ?_
  rintro e w6 ⟨rfl, h6, hw6⟩
  have R6 := R5.wr hw6 nR
  have I6 := I5.wr hw6 nI
  have W6 : Hid (Wr r w w6) := W5.out.trans hw6
  clear hw6 R5 I5 W5 h5
  go_wp2_with fail
  refine (is_no _ r s (expS s xEq (regP s S).2) hL hs xCas (ne_nil _ _) (nnCas s) q5 h6).mono ?_
  rintro e w7 ⟨rfl, h7, hw7⟩
  have R7 := R6.wr hw7 nR
  have I7 := I6.wr hw7 nI
  have W7 : Hid (Wr r w w7) := W6.out.trans hw7
  clear hw7 R6 I6 W6 h6
  go_wp2_with fail
  refine (operand_ro _ r s _ hL hs h7).mono ?_
  rintro e w8 ⟨rfl, h8, hw8⟩
  have R8 := R7.wr hw8 nR
  have I8 := I7.wr hw8 nI
  have W8 : Hid (Wr r w w8) := W7.out.trans hw8
  clear hw8 R7 I7 W7 h7
  have c8_c0 := I8.at (i := 0) rfl
  have c8_f0 := I8.fr 0
  have c8_c1 := I8.at (i := 1) rfl
  have c8_f1 := I8.fr 1
  have c8_c2 := I8.at (i := 2) rfl
  have c8_f2 := I8.fr 2
  have c8_c3 := I8.at (i := 3) rfl
  have c8_f3 := I8.fr 3
  have c8_c4 := I8.at (i := 4) rfl
  have c8_f4 := I8.fr 4
  have c8_c5 := I8.at (i := 5) rfl
  have c8_f5 := I8.fr 5
  have c8_c6 := I8.at (i := 6) rfl
  have c8_f6 := I8.fr 6
  have c8_c7 := I8.at (i := 7) rfl
  have c8_f7 := I8.fr 7
  have c8_c8 := I8.at (i := 8) rfl
  have c8_f8 := I8.fr 8
  have c8_l := I8.lt
  go_wp2_with fail
  refine (look_er _ r s _ hL hs HS.out (((((h8.setFar mI _).setFar mI _).setFar mI _).setFar mI _).setFar mI _)).mono ?_
  rintro e w9 ⟨rfl, ⟨h9, _, _, _⟩, hw9⟩
  have R9 : Bk w9 w.heap.size #[.int .i64 0, .int .i64 0, .int .i64 0, .int .i64 0, .int .i64 0, .int .i64 0, .int .i64 0, .int .i64 0, .int .i64 0] := (((((R8.setFar mN _ _).setFar mN _ _).setFar mN _ _).setFar mN _ _).setFar mN _ _).wr hw9 nR
  have I9 : Bk w9 (w.heap.size + 1) #[.int .i64 5, .int .i64 (regP s S).1, .int .i64 0, .int .i64 (opdP s (expS s xEq (regP s S).2)).1.r, .int .i64 (opdP s (expS s xEq (regP s S).2)).1.v, .int .i64 0, .int .i64 (-1), .int .i64 0, .int .i64 0] := (((((I8.set 0 _).set 3 _).set 4 _).set 6 _).set 7 _).wr hw9 nI
  have W9 : Hid (Wr r w w9) := (((((W8.out.setNew lN _).setNew lN _).setNew lN _).setNew lN _).setNew lN _).trans hw9
  clear hw9 R8 I8 W8 h8 c8_c0 c8_f0 c8_c1 c8_f1 c8_c2 c8_f2 c8_c3 c8_f3 c8_c4 c8_f4 c8_c5 c8_f5 c8_c6 c8_f6 c8_c7 c8_f7 c8_c8 c8_f8 c8_l
  go_wp2_with fail
  refine (eat_ro _ r s _ hL hs xSemi (ne_nil _ _) (nnSemi s) (h9.alloc _)).mono ?_
  rintro e w10 ⟨rfl, h10, hw10⟩
  have R10 : Bk w10 w.heap.size #[.int .i64 0, .int .i64 0, .int .i64 0, .int .i64 0, .int .i64 0, .int .i64 0, .int .i64 0, .int .i64 0, .int .i64 0] := (R9.alloc _).wr hw10 nR
  have I10 : Bk w10 (w.heap.size + 1) #[.int .i64 5, .int .i64 (regP s S).1, .int .i64 0, .int .i64 (opdP s (expS s xEq (regP s S).2)).1.r, .int .i64 (opdP s (expS s xEq (regP s S).2)).1.v, .int .i64 0, .int .i64 (-1), .int .i64 0, .int .i64 0] := (I9.alloc _).wr hw10 nI
  have W10 : Hid (Wr r w w10) := (W9.out.alloc _).trans hw10
  clear hw10 R9 I9 W9 h9
  have c10_c0 := I10.at (i := 0) rfl
  have c10_f0 := I10.fr 0
  have c10_c1 := I10.at (i := 1) rfl
  have c10_f1 := I10.fr 1
  have c10_c2 := I10.at (i := 2) rfl
  have c10_f2 := I10.fr 2
  have c10_c3 := I10.at (i := 3) rfl
  have c10_f3 := I10.fr 3
  have c10_c4 := I10.at (i := 4) rfl
  have c10_f4 := I10.fr 4
  have c10_c5 := I10.at (i := 5) rfl
  have c10_f5 := I10.fr 5
  have c10_c6 := I10.at (i := 6) rfl
  have c10_f6 := I10.fr 6
  have c10_c7 := I10.at (i := 7) rfl
  have c10_f7 := I10.fr 7
  have c10_c8 := I10.at (i := 8) rfl
  have c10_f8 := I10.fr 8
  have c10_l := I10.lt
  have z_c0 : w10.cell? ⟨w.heap.size, 0, none⟩ = some (.int .i64 0) := R10.at rfl
  have z_f0 : w10.frozen? ⟨w.heap.size, 0, none⟩ = false := R10.fr 0
  have z_c1 : w10.cell? ⟨w.heap.size, 1, none⟩ = some (.int .i64 0) := R10.at rfl
  have z_f1 : w10.frozen? ⟨w.heap.size, 1, none⟩ = false := R10.fr 1
  have z_c2 : w10.cell? ⟨w.heap.size, 2, none⟩ = some (.int .i64 0) := R10.at rfl
  have z_f2 : w10.frozen? ⟨w.heap.size, 2, none⟩ = false := R10.fr 2
  have z_c3 : w10.cell? ⟨w.heap.size, 3, none⟩ = some (.int .i64 0) := R10.at rfl
  have z_f3 : w10.frozen? ⟨w.heap.size, 3, none⟩ = false := R10.fr 3
  have z_c4 : w10.cell? ⟨w.heap.size, 4, none⟩ = some (.int .i64 0) := R10.at rfl
  have z_f4 : w10.frozen? ⟨w.heap.size, 4, none⟩ = false := R10.fr 4
  have z_c5 : w10.cell? ⟨w.heap.size, 5, none⟩ = some (.int .i64 0) := R10.at rfl
  have z_f5 : w10.frozen? ⟨w.heap.size, 5, none⟩ = false := R10.fr 5
  have z_c6 : w10.cell? ⟨w.heap.size, 6, none⟩ = some (.int .i64 0) := R10.at rfl
  have z_f6 : w10.frozen? ⟨w.heap.size, 6, none⟩ = false := R10.fr 6
  have z_c7 : w10.cell? ⟨w.heap.size, 7, none⟩ = some (.int .i64 0) := R10.at rfl
  have z_f7 : w10.frozen? ⟨w.heap.size, 7, none⟩ = false := R10.fr 7
  have z_c8 : w10.cell? ⟨w.heap.size, 8, none⟩ = some (.int .i64 0) := R10.at rfl
  have z_f8 : w10.frozen? ⟨w.heap.size, 8, none⟩ = false := R10.fr 8
  have z_l := R10.lt
  clear R10 I10
  go_wp2
  (try simp only [Exit.inBlock, Exit.then])
  refine bodyPost_ret (v := .agg #[.int .i64 5, .int .i64 (regP s S).1, .int .i64 0, .int .i64 (opdP s (expS s xEq (regP s S).2)).1.r, .int .i64 (opdP s (expS s xEq (regP s S).2)).1.v, .int .i64 0, .int .i64 (-1), .int .i64 0, .int .i64 0]) ?_ rfl ⟨rfl, (((((((((h10.setFar mR _).setFar mR _).setFar mR _).setFar mR _).setFar mR _).setFar mR _).setFar mR _).setFar mR _).setFar mR _), (((((((((W10.out.setNew (Nat.le_refl _) _).setNew (Nat.le_refl _) _).setNew (Nat.le_refl _) _).setNew (Nat.le_refl _) _).setNew (Nat.le_refl _) _).setNew (Nat.le_refl _) _).setNew (Nat.le_refl _) _).setNew (Nat.le_refl _) _).setNew (Nat.le_refl _) _)⟩
  rw [results_cell rfl]
  go_simp

include hL hs in
theorem rins_told (q1 : isX s xStore S = false) (q2 : isX s xFence S = false) (q3 : isX s xSkip S = false) (q4 : isX s xLoad (expS s xEq (regP s S).2) = false) (q5 : isX s xCas (expS s xEq (regP s S).2) = false) {c e : Nat} (hS : (opdP s (expS s xEq (regP s S).2)).2 = .error (c, e)) (h : Ro w r s S) :
    Calls Tryz.prog 40 #[.pointer (some ⟨r, 0, none⟩)] w fun en w' => en = .returned (insA ⟨5, (regP s S).1, 0, (opdP s (expS s xEq (regP s S).2)).1, 0, ⟨-1, 0⟩, 0⟩) ∧ Rx w' r s (.error (c, e)) false ∧ Wr r w w' := by
  have hlt := h.lt
  have hx : ∀ o1 o2, Ro ((w.alloc o1).alloc o2) r s S := fun o1 o2 => (h.alloc o1).alloc o2
  have nR : w.heap.size ≠ r := by omega
  have nI : w.heap.size + 1 ≠ r := by omega
  have mR : r ≠ w.heap.size := by omega
  have mI : r ≠ w.heap.size + 1 := by omega
  have mN : w.heap.size ≠ w.heap.size + 1 := by omega
  have lN : w.heap.size ≤ w.heap.size + 1 := by omega
  clear h
  have HS : Hid ((opdP s (expS s xEq (regP s S).2)).2 = .error (c, e)) := hS
  clear hS
  go_enter Tryz.func40, Tryz.ntmps40
  go_wp2_with fail
  refine (is_no _ r s S hL hs xStore (ne_nil _ _) (nnStore s) q1 (hx _ _)).mono ?_
  rintro e w1 ⟨rfl, h1, hw1⟩
  have R1 : Bk w1 w.heap.size #[.int .i64 0, .int .i64 0, .int .i64 0, .int .i64 0, .int .i64 0, .int .i64 0, .int .i64 0, .int .i64 0, .int .i64 0] := ((Bk.new w _ _).alloc _).wr hw1 nR
  have I1 : Bk w1 (w.heap.size + 1) #[.int .i64 0, .int .i64 0, .int .i64 0, .int .i64 0, .int .i64 0, .int .i64 0, .int .i64 0, .int .i64 0, .int .i64 0] := (Bk.new2 w _ _ _).wr hw1 nI
  have W1 : Hid (Wr r w w1) := (((Wr.refl r w).alloc _).alloc _).trans hw1
  clear hw1 hx
  go_wp2_with fail
  refine (is_no _ r s S hL hs xFence (ne_nil _ _) (nnFence s) q2 h1).mono ?_
  rintro e w2 ⟨rfl, h2, hw2⟩
  have R2 := R1.wr hw2 nR
  have I2 := I1.wr hw2 nI
  have W2 : Hid (Wr r w w2) := W1.out.trans hw2
  clear hw2 R1 I1 W1 h1
  go_wp2_with fail
  refine (is_no _ r s S hL hs xSkip (ne_nil _ _) (nnSkip s) q3 h2).mono ?_
  rintro e w3 ⟨rfl, h3, hw3⟩
  have R3 := R2.wr hw3 nR
  have I3 := I2.wr hw3 nI
  have W3 : Hid (Wr r w w3) := W2.out.trans hw3
  clear hw3 R2 I2 W2 h2
  go_wp2_with fail
  refine (register_ro _ r s _ hL hs h3).mono ?_
  rintro e w4 ⟨rfl, h4, hw4⟩
  have R4 := R3.wr hw4 nR
  have I4 := I3.wr hw4 nI
  have W4 : Hid (Wr r w w4) := W3.out.trans hw4
  clear hw4 R3 I3 W3 h3
  have c4_c0 := I4.at (i := 0) rfl
  have c4_f0 := I4.fr 0
  have c4_c1 := I4.at (i := 1) rfl
  have c4_f1 := I4.fr 1
  have c4_c2 := I4.at (i := 2) rfl
  have c4_f2 := I4.fr 2
  have c4_c3 := I4.at (i := 3) rfl
  have c4_f3 := I4.fr 3
  have c4_c4 := I4.at (i := 4) rfl
  have c4_f4 := I4.fr 4
  have c4_c5 := I4.at (i := 5) rfl
  have c4_f5 := I4.fr 5
  have c4_c6 := I4.at (i := 6) rfl
  have c4_f6 := I4.fr 6
  have c4_c7 := I4.at (i := 7) rfl
  have c4_f7 := I4.fr 7
  have c4_c8 := I4.at (i := 8) rfl
  have c4_f8 := I4.fr 8
  have c4_l := I4.lt
  go_wp2_with fail
  refine (eat_ro _ r s _ hL hs xEq (ne_nil _ _) (nnEq s) (h4.setFar mI _)).mono ?_
  rintro e w5 ⟨rfl, h5, hw5⟩
  have R5 : Bk w5 w.heap.size #[.int .i64 0, .int .i64 0, .int .i64 0, .int .i64 0, .int .i64 0, .int .i64 0, .int .i64 0, .int .i64 0, .int .i64 0] := (R4.setFar mN _ _).wr hw5 nR
  have I5 : Bk w5 (w.heap.size + 1) #[.int .i64 0, .int .i64 (regP s S).1, .int .i64 0, .int .i64 0, .int .i64 0, .int .i64 0, .int .i64 0, .int .i64 0, .int .i64 0] := (I4.set 1 _).wr hw5 nI
  have W5 : Hid (Wr r w w5) := (W4.out.setNew lN _).trans hw5
  clear hw5 R4 I4 W4 h4 c4_c0 c4_f0 c4_c1 c4_f1 c4_c2 c4_f2 c4_c3 c4_f3 c4_c4 c4_f4 c4_c5 c4_f5 c4_c6 c4_f6 c4_c7 c4_f7 c4_c8 c4_f8 c4_l
  go_wp2_with fail
  refine (is_no _ r s (expS s xEq (regP s S).2) hL hs xLoad (ne_nil _ _) (nnLoad s) q4 h5).mono ?_
  rintro e w6 ⟨rfl, h6, hw6⟩
  have R6 := R5.wr hw6 nR
  have I6 := I5.wr hw6 nI
  have W6 : Hid (Wr r w w6) := W5.out.trans hw6
  clear hw6 R5 I5 W5 h5
  go_wp2_with fail
  refine (is_no _ r s (expS s xEq (regP s S).2) hL hs xCas (ne_nil _ _) (nnCas s) q5 h6).mono ?_
  rintro e w7 ⟨rfl, h7, hw7⟩
  have R7 := R6.wr hw7 nR
  have I7 := I6.wr hw7 nI
  have W7 : Hid (Wr r w w7) := W6.out.trans hw7
  clear hw7 R6 I6 W6 h6
  go_wp2_with fail
  refine (operand_ro _ r s _ hL hs h7).mono ?_
  rintro e w8 ⟨rfl, h8, hw8⟩
  have R8 := R7.wr hw8 nR
  have I8 := I7.wr hw8 nI
  have W8 : Hid (Wr r w w8) := W7.out.trans hw8
  clear hw8 R7 I7 W7 h7
  have c8_c0 := I8.at (i := 0) rfl
  have c8_f0 := I8.fr 0
  have c8_c1 := I8.at (i := 1) rfl
  have c8_f1 := I8.fr 1
  have c8_c2 := I8.at (i := 2) rfl
  have c8_f2 := I8.fr 2
  have c8_c3 := I8.at (i := 3) rfl
  have c8_f3 := I8.fr 3
  have c8_c4 := I8.at (i := 4) rfl
  have c8_f4 := I8.fr 4
  have c8_c5 := I8.at (i := 5) rfl
  have c8_f5 := I8.fr 5
  have c8_c6 := I8.at (i := 6) rfl
  have c8_f6 := I8.fr 6
  have c8_c7 := I8.at (i := 7) rfl
  have c8_f7 := I8.fr 7
  have c8_c8 := I8.at (i := 8) rfl
  have c8_f8 := I8.fr 8
  have c8_l := I8.lt
  go_wp2_with fail
  refine (look_er _ r s _ hL hs HS.out (((((h8.setFar mI _).setFar mI _).setFar mI _).setFar mI _).setFar mI _)).mono ?_
  rintro e w9 ⟨rfl, ⟨h9, _, _, _⟩, hw9⟩
  have R9 : Bk w9 w.heap.size #[.int .i64 0, .int .i64 0, .int .i64 0, .int .i64 0, .int .i64 0, .int .i64 0, .int .i64 0, .int .i64 0, .int .i64 0] := (((((R8.setFar mN _ _).setFar mN _ _).setFar mN _ _).setFar mN _ _).setFar mN _ _).wr hw9 nR
  have I9 : Bk w9 (w.heap.size + 1) #[.int .i64 5, .int .i64 (regP s S).1, .int .i64 0, .int .i64 (opdP s (expS s xEq (regP s S).2)).1.r, .int .i64 (opdP s (expS s xEq (regP s S).2)).1.v, .int .i64 0, .int .i64 (-1), .int .i64 0, .int .i64 0] := (((((I8.set 0 _).set 3 _).set 4 _).set 6 _).set 7 _).wr hw9 nI
  have W9 : Hid (Wr r w w9) := (((((W8.out.setNew lN _).setNew lN _).setNew lN _).setNew lN _).setNew lN _).trans hw9
  clear hw9 R8 I8 W8 h8 c8_c0 c8_f0 c8_c1 c8_f1 c8_c2 c8_f2 c8_c3 c8_f3 c8_c4 c8_f4 c8_c5 c8_f5 c8_c6 c8_f6 c8_c7 c8_f7 c8_c8 c8_f8 c8_l
  have h9 : Ro w9 r s (.error (c, e)) := by rw [← HS.out]; exact h9
  go_wp2_with fail
  refine (eat_told _ r s (c, e) hL hs xSemi (ne_nil _ _) (nnSemi s) (h9.alloc _)).mono ?_
  rintro e w10 ⟨rfl, h10, hw10⟩
  have R10 : Bk w10 w.heap.size #[.int .i64 0, .int .i64 0, .int .i64 0, .int .i64 0, .int .i64 0, .int .i64 0, .int .i64 0, .int .i64 0, .int .i64 0] := (R9.alloc _).wr hw10 nR
  have I10 : Bk w10 (w.heap.size + 1) #[.int .i64 5, .int .i64 (regP s S).1, .int .i64 0, .int .i64 (opdP s (expS s xEq (regP s S).2)).1.r, .int .i64 (opdP s (expS s xEq (regP s S).2)).1.v, .int .i64 0, .int .i64 (-1), .int .i64 0, .int .i64 0] := (I9.alloc _).wr hw10 nI
  have W10 : Hid (Wr r w w10) := (W9.out.alloc _).trans hw10
  clear hw10 R9 I9 W9 h9
  have c10_c0 := I10.at (i := 0) rfl
  have c10_f0 := I10.fr 0
  have c10_c1 := I10.at (i := 1) rfl
  have c10_f1 := I10.fr 1
  have c10_c2 := I10.at (i := 2) rfl
  have c10_f2 := I10.fr 2
  have c10_c3 := I10.at (i := 3) rfl
  have c10_f3 := I10.fr 3
  have c10_c4 := I10.at (i := 4) rfl
  have c10_f4 := I10.fr 4
  have c10_c5 := I10.at (i := 5) rfl
  have c10_f5 := I10.fr 5
  have c10_c6 := I10.at (i := 6) rfl
  have c10_f6 := I10.fr 6
  have c10_c7 := I10.at (i := 7) rfl
  have c10_f7 := I10.fr 7
  have c10_c8 := I10.at (i := 8) rfl
  have c10_f8 := I10.fr 8
  have c10_l := I10.lt
  have z_c0 : w10.cell? ⟨w.heap.size, 0, none⟩ = some (.int .i64 0) := R10.at rfl
  have z_f0 : w10.frozen? ⟨w.heap.size, 0, none⟩ = false := R10.fr 0
  have z_c1 : w10.cell? ⟨w.heap.size, 1, none⟩ = some (.int .i64 0) := R10.at rfl
  have z_f1 : w10.frozen? ⟨w.heap.size, 1, none⟩ = false := R10.fr 1
  have z_c2 : w10.cell? ⟨w.heap.size, 2, none⟩ = some (.int .i64 0) := R10.at rfl
  have z_f2 : w10.frozen? ⟨w.heap.size, 2, none⟩ = false := R10.fr 2
  have z_c3 : w10.cell? ⟨w.heap.size, 3, none⟩ = some (.int .i64 0) := R10.at rfl
  have z_f3 : w10.frozen? ⟨w.heap.size, 3, none⟩ = false := R10.fr 3
  have z_c4 : w10.cell? ⟨w.heap.size, 4, none⟩ = some (.int .i64 0) := R10.at rfl
  have z_f4 : w10.frozen? ⟨w.heap.size, 4, none⟩ = false := R10.fr 4
  have z_c5 : w10.cell? ⟨w.heap.size, 5, none⟩ = some (.int .i64 0) := R10.at rfl
  have z_f5 : w10.frozen? ⟨w.heap.size, 5, none⟩ = false := R10.fr 5
  have z_c6 : w10.cell? ⟨w.heap.size, 6, none⟩ = some (.int .i64 0) := R10.at rfl
  have z_f6 : w10.frozen? ⟨w.heap.size, 6, none⟩ = false := R10.fr 6
  have z_c7 : w10.cell? ⟨w.heap.size, 7, none⟩ = some (.int .i64 0) := R10.at rfl
  have z_f7 : w10.frozen? ⟨w.heap.size, 7, none⟩ = false := R10.fr 7
  have z_c8 : w10.cell? ⟨w.heap.size, 8, none⟩ = some (.int .i64 0) := R10.at rfl
  have z_f8 : w10.frozen? ⟨w.heap.size, 8, none⟩ = false := R10.fr 8
  have z_l := R10.lt
  clear R10 I10
  go_wp2
  (try simp only [Exit.inBlock, Exit.then])
  refine bodyPost_ret (v := .agg #[.int .i64 5, .int .i64 (regP s S).1, .int .i64 0, .int .i64 (opdP s (expS s xEq (regP s S).2)).1.r, .int .i64 (opdP s (expS s xEq (regP s S).2)).1.v, .int .i64 0, .int .i64 (-1), .int .i64 0, .int .i64 0]) ?_ rfl ⟨rfl, (((((((((h10.setFar mR _).setFar mR _).setFar mR _).setFar mR _).setFar mR _).setFar mR _).setFar mR _).setFar mR _).setFar mR _), (((((((((W10.out.setNew (Nat.le_refl _) _).setNew (Nat.le_refl _) _).setNew (Nat.le_refl _) _).setNew (Nat.le_refl _) _).setNew (Nat.le_refl _) _).setNew (Nat.le_refl _) _).setNew (Nat.le_refl _) _).setNew (Nat.le_refl _) _).setNew (Nat.le_refl _) _)⟩
  rw [results_cell rfl]
  go_simp

include hL hs in
theorem rins_skip (q1 : isX s xStore S = false) (q2 : isX s xFence S = false) (q3 : isX s xSkip S = true) {a : Nat} (hS : (nx s S) = .ok a) (hk : kd s a = 2) (hn : 0 ≤ (numP s (nx s S)).1) (h : Ro w r s S) :
    Calls Tryz.prog 40 #[.pointer (some ⟨r, 0, none⟩)] w fun e w' => e = .returned (insA ⟨6, 0, 0, (opdP s (expS s xIf (numP s (nx s S)).2)).1, 0, (opdP s (expS s xEqq (opdP s (expS s xIf (numP s (nx s S)).2)).2)).1, (numP s (nx s S)).1⟩) ∧ Ro w' r s (expS s xSemi (opdP s (expS s xEqq (opdP s (expS s xIf (numP s (nx s S)).2)).2)).2) ∧ Wr r w w' := by
  have hlt := h.lt
  have hx : ∀ o1 o2, Ro ((w.alloc o1).alloc o2) r s S := fun o1 o2 => (h.alloc o1).alloc o2
  have nR : w.heap.size ≠ r := by omega
  have nI : w.heap.size + 1 ≠ r := by omega
  have mR : r ≠ w.heap.size := by omega
  have mI : r ≠ w.heap.size + 1 := by omega
  have mN : w.heap.size ≠ w.heap.size + 1 := by omega
  have lN : w.heap.size ≤ w.heap.size + 1 := by omega
  clear h
  have HS : Hid ((nx s S) = .ok a) := hS
  clear hS
  have hn0 : ¬ (numP s (nx s S)).1 < 0 := by omega
  clear hn
  go_enter Tryz.func40, Tryz.ntmps40
  go_wp2_with fail
  refine (is_no _ r s S hL hs xStore (ne_nil _ _) (nnStore s) q1 (hx _ _)).mono ?_
  rintro e w1 ⟨rfl, h1, hw1⟩
  have R1 : Bk w1 w.heap.size #[.int .i64 0, .int .i64 0, .int .i64 0, .int .i64 0, .int .i64 0, .int .i64 0, .int .i64 0, .int .i64 0, .int .i64 0] := ((Bk.new w _ _).alloc _).wr hw1 nR
  have I1 : Bk w1 (w.heap.size + 1) #[.int .i64 0, .int .i64 0, .int .i64 0, .int .i64 0, .int .i64 0, .int .i64 0, .int .i64 0, .int .i64 0, .int .i64 0] := (Bk.new2 w _ _ _).wr hw1 nI
  have W1 : Hid (Wr r w w1) := (((Wr.refl r w).alloc _).alloc _).trans hw1
  clear hw1 hx
  go_wp2_with fail
  refine (is_no _ r s S hL hs xFence (ne_nil _ _) (nnFence s) q2 h1).mono ?_
  rintro e w2 ⟨rfl, h2, hw2⟩
  have R2 := R1.wr hw2 nR
  have I2 := I1.wr hw2 nI
  have W2 : Hid (Wr r w w2) := W1.out.trans hw2
  clear hw2 R1 I1 W1 h1
  go_wp2_with fail
  refine (is_yes _ r s S hL hs xSkip (ne_nil _ _) (nnSkip s) q3 h2).mono ?_
  rintro e w3 ⟨rfl, h3, hw3⟩
  have R3 := R2.wr hw3 nR
  have I3 := I2.wr hw3 nI
  have W3 : Hid (Wr r w w3) := W2.out.trans hw3
  clear hw3 R2 I2 W2 h2
  go_wp2_with fail
  refine (go1_ro _ r s _ h3).mono ?_
  rintro e w4 ⟨rfl, h4, hw4⟩
  have R4 := R3.wr hw4 nR
  have I4 := I3.wr hw4 nI
  have W4 : Hid (Wr r w w4) := W3.out.trans hw4
  clear hw4 R3 I3 W3 h3
  have c4_c0 := I4.at (i := 0) rfl
  have c4_f0 := I4.fr 0
  have c4_c1 := I4.at (i := 1) rfl
  have c4_f1 := I4.fr 1
  have c4_c2 := I4.at (i := 2) rfl
  have c4_f2 := I4.fr 2
  have c4_c3 := I4.at (i := 3) rfl
  have c4_f3 := I4.fr 3
  have c4_c4 := I4.at (i := 4) rfl
  have c4_f4 := I4.fr 4
  have c4_c5 := I4.at (i := 5) rfl
  have c4_f5 := I4.fr 5
  have c4_c6 := I4.at (i := 6) rfl
  have c4_f6 := I4.fr 6
  have c4_c7 := I4.at (i := 7) rfl
  have c4_f7 := I4.fr 7
  have c4_c8 := I4.at (i := 8) rfl
  have c4_f8 := I4.fr 8
  have c4_l := I4.lt
  go_wp2_with fail
  refine (num_tn _ r s _ hL hs HS.out hk (h4.setFar mI _)).mono ?_
  rintro e w5 ⟨rfl, ⟨h5, hb5⟩, hw5⟩
  have R5 : Bk w5 w.heap.size #[.int .i64 0, .int .i64 0, .int .i64 0, .int .i64 0, .int .i64 0, .int .i64 0, .int .i64 0, .int .i64 0, .int .i64 0] := (R4.setFar mN _ _).wr hw5 nR
  have I5 : Bk w5 (w.heap.size + 1) #[.int .i64 6, .int .i64 0, .int .i64 0, .int .i64 0, .int .i64 0, .int .i64 0, .int .i64 0, .int .i64 0, .int .i64 0] := (I4.set 0 _).wr hw5 nI
  have W5 : Hid (Wr r w w5) := (W4.out.setNew lN _).trans hw5
  clear hw5 R4 I4 W4 h4 c4_c0 c4_f0 c4_c1 c4_f1 c4_c2 c4_f2 c4_c3 c4_f3 c4_c4 c4_f4 c4_c5 c4_f5 c4_c6 c4_f6 c4_c7 c4_f7 c4_c8 c4_f8 c4_l
  have c5_c0 := I5.at (i := 0) rfl
  have c5_f0 := I5.fr 0
  have c5_c1 := I5.at (i := 1) rfl
  have c5_f1 := I5.fr 1
  have c5_c2 := I5.at (i := 2) rfl
  have c5_f2 := I5.fr 2
  have c5_c3 := I5.at (i := 3) rfl
  have c5_f3 := I5.fr 3
  have c5_c4 := I5.at (i := 4) rfl
  have c5_f4 := I5.fr 4
  have c5_c5 := I5.at (i := 5) rfl
  have c5_f5 := I5.fr 5
  have c5_c6 := I5.at (i := 6) rfl
  have c5_f6 := I5.fr 6
  have c5_c7 := I5.at (i := 7) rfl
  have c5_f7 := I5.fr 7
  have c5_c8 := I5.at (i := 8) rfl
  have c5_f8 := I5.fr 8
  have c5_l := I5.lt
  have e6 : w5.cell? ⟨r, 6, none⟩ = some (.int .i64 0) := hb5.at rfl
  have lr := hb5.lt
  clear hb5
  go_wp2_with fail
  refine (eat_ro _ r s _ hL hs xIf (ne_nil _ _) (nnIf s) (h5.setFar mI _)).mono ?_
  rintro e w6 ⟨rfl, h6, hw6⟩
  have R6 : Bk w6 w.heap.size #[.int .i64 0, .int .i64 0, .int .i64 0, .int .i64 0, .int .i64 0, .int .i64 0, .int .i64 0, .int .i64 0, .int .i64 0] := (R5.setFar mN _ _).wr hw6 nR
  have I6 : Bk w6 (w.heap.size + 1) #[.int .i64 6, .int .i64 0, .int .i64 0, .int .i64 0, .int .i64 0, .int .i64 0, .int .i64 0, .int .i64 0, .int .i64 (numP s (nx s S)).1] := (I5.set 8 _).wr hw6 nI
  have W6 : Hid (Wr r w w6) := (W5.out.setNew lN _).trans hw6
  clear hw6 R5 I5 W5 h5 c5_c0 c5_f0 c5_c1 c5_f1 c5_c2 c5_f2 c5_c3 c5_f3 c5_c4 c5_f4 c5_c5 c5_f5 c5_c6 c5_f6 c5_c7 c5_f7 c5_c8 c5_f8 c5_l
  go_wp2_with fail
  refine (operand_ro _ r s _ hL hs h6).mono ?_
  rintro e w7 ⟨rfl, h7, hw7⟩
  have R7 := R6.wr hw7 nR
  have I7 := I6.wr hw7 nI
  have W7 : Hid (Wr r w w7) := W6.out.trans hw7
  clear hw7 R6 I6 W6 h6
  have c7_c0 := I7.at (i := 0) rfl
  have c7_f0 := I7.fr 0
  have c7_c1 := I7.at (i := 1) rfl
  have c7_f1 := I7.fr 1
  have c7_c2 := I7.at (i := 2) rfl
  have c7_f2 := I7.fr 2
  have c7_c3 := I7.at (i := 3) rfl
  have c7_f3 := I7.fr 3
  have c7_c4 := I7.at (i := 4) rfl
  have c7_f4 := I7.fr 4
  have c7_c5 := I7.at (i := 5) rfl
  have c7_f5 := I7.fr 5
  have c7_c6 := I7.at (i := 6) rfl
  have c7_f6 := I7.fr 6
  have c7_c7 := I7.at (i := 7) rfl
  have c7_f7 := I7.fr 7
  have c7_c8 := I7.at (i := 8) rfl
  have c7_f8 := I7.fr 8
  have c7_l := I7.lt
  go_wp2_with fail
  refine (eat_ro _ r s _ hL hs xEqq (ne_nil _ _) (nnEqq s) ((h7.setFar mI _).setFar mI _)).mono ?_
  rintro e w8 ⟨rfl, h8, hw8⟩
  have R8 : Bk w8 w.heap.size #[.int .i64 0, .int .i64 0, .int .i64 0, .int .i64 0, .int .i64 0, .int .i64 0, .int .i64 0, .int .i64 0, .int .i64 0] := ((R7.setFar mN _ _).setFar mN _ _).wr hw8 nR
  have I8 : Bk w8 (w.heap.size + 1) #[.int .i64 6, .int .i64 0, .int .i64 0, .int .i64 (opdP s (expS s xIf (numP s (nx s S)).2)).1.r, .int .i64 (opdP s (expS s xIf (numP s (nx s S)).2)).1.v, .int .i64 0, .int .i64 0, .int .i64 0, .int .i64 (numP s (nx s S)).1] := ((I7.set 3 _).set 4 _).wr hw8 nI
  have W8 : Hid (Wr r w w8) := ((W7.out.setNew lN _).setNew lN _).trans hw8
  clear hw8 R7 I7 W7 h7 c7_c0 c7_f0 c7_c1 c7_f1 c7_c2 c7_f2 c7_c3 c7_f3 c7_c4 c7_f4 c7_c5 c7_f5 c7_c6 c7_f6 c7_c7 c7_f7 c7_c8 c7_f8 c7_l
  go_wp2_with fail
  refine (operand_ro _ r s _ hL hs h8).mono ?_
  rintro e w9 ⟨rfl, h9, hw9⟩
  have R9 := R8.wr hw9 nR
  have I9 := I8.wr hw9 nI
  have W9 : Hid (Wr r w w9) := W8.out.trans hw9
  clear hw9 R8 I8 W8 h8
  have c9_c0 := I9.at (i := 0) rfl
  have c9_f0 := I9.fr 0
  have c9_c1 := I9.at (i := 1) rfl
  have c9_f1 := I9.fr 1
  have c9_c2 := I9.at (i := 2) rfl
  have c9_f2 := I9.fr 2
  have c9_c3 := I9.at (i := 3) rfl
  have c9_f3 := I9.fr 3
  have c9_c4 := I9.at (i := 4) rfl
  have c9_f4 := I9.fr 4
  have c9_c5 := I9.at (i := 5) rfl
  have c9_f5 := I9.fr 5
  have c9_c6 := I9.at (i := 6) rfl
  have c9_f6 := I9.fr 6
  have c9_c7 := I9.at (i := 7) rfl
  have c9_f7 := I9.fr 7
  have c9_c8 := I9.at (i := 8) rfl
  have c9_f8 := I9.fr 8
  have c9_l := I9.lt
  go_wp2_with fail
  refine (eat_ro _ r s _ hL hs xSemi (ne_nil _ _) (nnSemi s) ((h9.setFar mI _).setFar mI _)).mono ?_
  rintro e w10 ⟨rfl, h10, hw10⟩
  have R10 : Bk w10 w.heap.size #[.int .i64 0, .int .i64 0, .int .i64 0, .int .i64 0, .int .i64 0, .int .i64 0, .int .i64 0, .int .i64 0, .int .i64 0] := ((R9.setFar mN _ _).setFar mN _ _).wr hw10 nR
  have I10 : Bk w10 (w.heap.size + 1) #[.int .i64 6, .int .i64 0, .int .i64 0, .int .i64 (opdP s (expS s xIf (numP s (nx s S)).2)).1.r, .int .i64 (opdP s (expS s xIf (numP s (nx s S)).2)).1.v, .int .i64 0, .int .i64 (opdP s (expS s xEqq (opdP s (expS s xIf (numP s (nx s S)).2)).2)).1.r, .int .i64 (opdP s (expS s xEqq (opdP s (expS s xIf (numP s (nx s S)).2)).2)).1.v, .int .i64 (numP s (nx s S)).1] := ((I9.set 6 _).set 7 _).wr hw10 nI
  have W10 : Hid (Wr r w w10) := ((W9.out.setNew lN _).setNew lN _).trans hw10
  clear hw10 R9 I9 W9 h9 c9_c0 c9_f0 c9_c1 c9_f1 c9_c2 c9_f2 c9_c3 c9_f3 c9_c4 c9_f4 c9_c5 c9_f5 c9_c6 c9_f6 c9_c7 c9_f7 c9_c8 c9_f8 c9_l
  have c10_c0 := I10.at (i := 0) rfl
  have c10_f0 := I10.fr 0
  have c10_c1 := I10.at (i := 1) rfl
  have c10_f1 := I10.fr 1
  have c10_c2 := I10.at (i := 2) rfl
  have c10_f2 := I10.fr 2
  have c10_c3 := I10.at (i := 3) rfl
  have c10_f3 := I10.fr 3
  have c10_c4 := I10.at (i := 4) rfl
  have c10_f4 := I10.fr 4
  have c10_c5 := I10.at (i := 5) rfl
  have c10_f5 := I10.fr 5
  have c10_c6 := I10.at (i := 6) rfl
  have c10_f6 := I10.fr 6
  have c10_c7 := I10.at (i := 7) rfl
  have c10_f7 := I10.fr 7
  have c10_c8 := I10.at (i := 8) rfl
  have c10_f8 := I10.fr 8
  have c10_l := I10.lt
  have z_c0 : w10.cell? ⟨w.heap.size, 0, none⟩ = some (.int .i64 0) := R10.at rfl
  have z_f0 : w10.frozen? ⟨w.heap.size, 0, none⟩ = false := R10.fr 0
  have z_c1 : w10.cell? ⟨w.heap.size, 1, none⟩ = some (.int .i64 0) := R10.at rfl
  have z_f1 : w10.frozen? ⟨w.heap.size, 1, none⟩ = false := R10.fr 1
  have z_c2 : w10.cell? ⟨w.heap.size, 2, none⟩ = some (.int .i64 0) := R10.at rfl
  have z_f2 : w10.frozen? ⟨w.heap.size, 2, none⟩ = false := R10.fr 2
  have z_c3 : w10.cell? ⟨w.heap.size, 3, none⟩ = some (.int .i64 0) := R10.at rfl
  have z_f3 : w10.frozen? ⟨w.heap.size, 3, none⟩ = false := R10.fr 3
  have z_c4 : w10.cell? ⟨w.heap.size, 4, none⟩ = some (.int .i64 0) := R10.at rfl
  have z_f4 : w10.frozen? ⟨w.heap.size, 4, none⟩ = false := R10.fr 4
  have z_c5 : w10.cell? ⟨w.heap.size, 5, none⟩ = some (.int .i64 0) := R10.at rfl
  have z_f5 : w10.frozen? ⟨w.heap.size, 5, none⟩ = false := R10.fr 5
  have z_c6 : w10.cell? ⟨w.heap.size, 6, none⟩ = some (.int .i64 0) := R10.at rfl
  have z_f6 : w10.frozen? ⟨w.heap.size, 6, none⟩ = false := R10.fr 6
  have z_c7 : w10.cell? ⟨w.heap.size, 7, none⟩ = some (.int .i64 0) := R10.at rfl
  have z_f7 : w10.frozen? ⟨w.heap.size, 7, none⟩ = false := R10.fr 7
  have z_c8 : w10.cell? ⟨w.heap.size, 8, none⟩ = some (.int .i64 0) := R10.at rfl
  have z_f8 : w10.frozen? ⟨w.heap.size, 8, none⟩ = false := R10.fr 8
  have z_l := R10.lt
  clear R10 I10
  go_wp2
  (try simp only [Exit.inBlock, Exit.then])
  refine bodyPost_ret (v := .agg #[.int .i64 6, .int .i64 0, .int .i64 0, .int .i64 (opdP s (expS s xIf (numP s (nx s S)).2)).1.r, .int .i64 (opdP s (expS s xIf (numP s (nx s S)).2)).1.v, .int .i64 0, .int .i64 (opdP s (expS s xEqq (opdP s (expS s xIf (numP s (nx s S)).2)).2)).1.r, .int .i64 (opdP s (expS s xEqq (opdP s (expS s xIf (numP s (nx s S)).2)).2)).1.v, .int .i64 (numP s (nx s S)).1]) ?_ rfl ⟨rfl, (((((((((h10.setFar mR _).setFar mR _).setFar mR _).setFar mR _).setFar mR _).setFar mR _).setFar mR _).setFar mR _).setFar mR _), (((((((((W10.out.setNew (Nat.le_refl _) _).setNew (Nat.le_refl _) _).setNew (Nat.le_refl _) _).setNew (Nat.le_refl _) _).setNew (Nat.le_refl _) _).setNew (Nat.le_refl _) _).setNew (Nat.le_refl _) _).setNew (Nat.le_refl _) _).setNew (Nat.le_refl _) _)⟩
  rw [results_cell rfl]
  go_simp

include hL hs in
theorem rins_skipno (q1 : isX s xStore S = false) (q2 : isX s xFence S = false) (q3 : isX s xSkip S = true) (hS : ∀ a, (nx s S) = .ok a → kd s a ≠ 2) (h : Ro w r s S) :
    Calls Tryz.prog 40 #[.pointer (some ⟨r, 0, none⟩)] w fun e w' => e = .returned (insA ⟨6, 0, 0, (opdP s (expS s xIf (numP s (nx s S)).2)).1, 0, (opdP s (expS s xEqq (opdP s (expS s xIf (numP s (nx s S)).2)).2)).1, (numP s (nx s S)).1⟩) ∧ Ro w' r s (expS s xSemi (opdP s (expS s xEqq (opdP s (expS s xIf (numP s (nx s S)).2)).2)).2) ∧ Wr r w w' := by
  have hlt := h.lt
  have hx : ∀ o1 o2, Ro ((w.alloc o1).alloc o2) r s S := fun o1 o2 => (h.alloc o1).alloc o2
  have nR : w.heap.size ≠ r := by omega
  have nI : w.heap.size + 1 ≠ r := by omega
  have mR : r ≠ w.heap.size := by omega
  have mI : r ≠ w.heap.size + 1 := by omega
  have mN : w.heap.size ≠ w.heap.size + 1 := by omega
  have lN : w.heap.size ≤ w.heap.size + 1 := by omega
  clear h
  have HS : Hid (∀ a, (nx s S) = .ok a → kd s a ≠ 2) := hS
  clear hS
  go_enter Tryz.func40, Tryz.ntmps40
  go_wp2_with fail
  refine (is_no _ r s S hL hs xStore (ne_nil _ _) (nnStore s) q1 (hx _ _)).mono ?_
  rintro e w1 ⟨rfl, h1, hw1⟩
  have R1 : Bk w1 w.heap.size #[.int .i64 0, .int .i64 0, .int .i64 0, .int .i64 0, .int .i64 0, .int .i64 0, .int .i64 0, .int .i64 0, .int .i64 0] := ((Bk.new w _ _).alloc _).wr hw1 nR
  have I1 : Bk w1 (w.heap.size + 1) #[.int .i64 0, .int .i64 0, .int .i64 0, .int .i64 0, .int .i64 0, .int .i64 0, .int .i64 0, .int .i64 0, .int .i64 0] := (Bk.new2 w _ _ _).wr hw1 nI
  have W1 : Hid (Wr r w w1) := (((Wr.refl r w).alloc _).alloc _).trans hw1
  clear hw1 hx
  go_wp2_with fail
  refine (is_no _ r s S hL hs xFence (ne_nil _ _) (nnFence s) q2 h1).mono ?_
  rintro e w2 ⟨rfl, h2, hw2⟩
  have R2 := R1.wr hw2 nR
  have I2 := I1.wr hw2 nI
  have W2 : Hid (Wr r w w2) := W1.out.trans hw2
  clear hw2 R1 I1 W1 h1
  go_wp2_with fail
  refine (is_yes _ r s S hL hs xSkip (ne_nil _ _) (nnSkip s) q3 h2).mono ?_
  rintro e w3 ⟨rfl, h3, hw3⟩
  have R3 := R2.wr hw3 nR
  have I3 := I2.wr hw3 nI
  have W3 : Hid (Wr r w w3) := W2.out.trans hw3
  clear hw3 R2 I2 W2 h2
  go_wp2_with fail
  refine (go1_ro _ r s _ h3).mono ?_
  rintro e w4 ⟨rfl, h4, hw4⟩
  have R4 := R3.wr hw4 nR
  have I4 := I3.wr hw4 nI
  have W4 : Hid (Wr r w w4) := W3.out.trans hw4
  clear hw4 R3 I3 W3 h3
  have c4_c0 := I4.at (i := 0) rfl
  have c4_f0 := I4.fr 0
  have c4_c1 := I4.at (i := 1) rfl
  have c4_f1 := I4.fr 1
  have c4_c2 := I4.at (i := 2) rfl
  have c4_f2 := I4.fr 2
  have c4_c3 := I4.at (i := 3) rfl
  have c4_f3 := I4.fr 3
  have c4_c4 := I4.at (i := 4) rfl
  have c4_f4 := I4.fr 4
  have c4_c5 := I4.at (i := 5) rfl
  have c4_f5 := I4.fr 5
  have c4_c6 := I4.at (i := 6) rfl
  have c4_f6 := I4.fr 6
  have c4_c7 := I4.at (i := 7) rfl
  have c4_f7 := I4.fr 7
  have c4_c8 := I4.at (i := 8) rfl
  have c4_f8 := I4.fr 8
  have c4_l := I4.lt
  go_wp2_with fail
  refine (num_no _ r s _ hL hs HS.out (h4.setFar mI _)).mono ?_
  rintro e w5 ⟨rfl, ⟨h5, c, hc, e6⟩, hw5⟩
  have R5 : Bk w5 w.heap.size #[.int .i64 0, .int .i64 0, .int .i64 0, .int .i64 0, .int .i64 0, .int .i64 0, .int .i64 0, .int .i64 0, .int .i64 0] := (R4.setFar mN _ _).wr hw5 nR
  have I5 : Bk w5 (w.heap.size + 1) #[.int .i64 6, .int .i64 0, .int .i64 0, .int .i64 0, .int .i64 0, .int .i64 0, .int .i64 0, .int .i64 0, .int .i64 0] := (I4.set 0 _).wr hw5 nI
  have W5 : Hid (Wr r w w5) := (W4.out.setNew lN _).trans hw5
  clear hw5 R4 I4 W4 h4 c4_c0 c4_f0 c4_c1 c4_f1 c4_c2 c4_f2 c4_c3 c4_f3 c4_c4 c4_f4 c4_c5 c4_f5 c4_c6 c4_f6 c4_c7 c4_f7 c4_c8 c4_f8 c4_l
  have c5_c0 := I5.at (i := 0) rfl
  have c5_f0 := I5.fr 0
  have c5_c1 := I5.at (i := 1) rfl
  have c5_f1 := I5.fr 1
  have c5_c2 := I5.at (i := 2) rfl
  have c5_f2 := I5.fr 2
  have c5_c3 := I5.at (i := 3) rfl
  have c5_f3 := I5.fr 3
  have c5_c4 := I5.at (i := 4) rfl
  have c5_f4 := I5.fr 4
  have c5_c5 := I5.at (i := 5) rfl
  have c5_f5 := I5.fr 5
  have c5_c6 := I5.at (i := 6) rfl
  have c5_f6 := I5.fr 6
  have c5_c7 := I5.at (i := 7) rfl
  have c5_f7 := I5.fr 7
  have c5_c8 := I5.at (i := 8) rfl
  have c5_f8 := I5.fr 8
  have c5_l := I5.lt
  have lr := h5.lt
  have hc0 : ((c : Int) == 0) = false := by rw [beq_eq_false_iff_ne]; omega
  clear hc
  go_wp2_with fail
  refine (eat_ro _ r s _ hL hs xIf (ne_nil _ _) (nnIf s) (h5.setFar mI _)).mono ?_
  rintro e w6 ⟨rfl, h6, hw6⟩
  have R6 : Bk w6 w.heap.size #[.int .i64 0, .int .i64 0, .int .i64 0, .int .i64 0, .int .i64 0, .int .i64 0, .int .i64 0, .int .i64 0, .int .i64 0] := (R5.setFar mN _ _).wr hw6 nR
  have I6 : Bk w6 (w.heap.size + 1) #[.int .i64 6, .int .i64 0, .int .i64 0, .int .i64 0, .int .i64 0, .int .i64 0, .int .i64 0, .int .i64 0, .int .i64 (numP s (nx s S)).1] := (I5.set 8 _).wr hw6 nI
  have W6 : Hid (Wr r w w6) := (W5.out.setNew lN _).trans hw6
  clear hw6 R5 I5 W5 h5 c5_c0 c5_f0 c5_c1 c5_f1 c5_c2 c5_f2 c5_c3 c5_f3 c5_c4 c5_f4 c5_c5 c5_f5 c5_c6 c5_f6 c5_c7 c5_f7 c5_c8 c5_f8 c5_l
  go_wp2_with fail
  refine (operand_ro _ r s _ hL hs h6).mono ?_
  rintro e w7 ⟨rfl, h7, hw7⟩
  have R7 := R6.wr hw7 nR
  have I7 := I6.wr hw7 nI
  have W7 : Hid (Wr r w w7) := W6.out.trans hw7
  clear hw7 R6 I6 W6 h6
  have c7_c0 := I7.at (i := 0) rfl
  have c7_f0 := I7.fr 0
  have c7_c1 := I7.at (i := 1) rfl
  have c7_f1 := I7.fr 1
  have c7_c2 := I7.at (i := 2) rfl
  have c7_f2 := I7.fr 2
  have c7_c3 := I7.at (i := 3) rfl
  have c7_f3 := I7.fr 3
  have c7_c4 := I7.at (i := 4) rfl
  have c7_f4 := I7.fr 4
  have c7_c5 := I7.at (i := 5) rfl
  have c7_f5 := I7.fr 5
  have c7_c6 := I7.at (i := 6) rfl
  have c7_f6 := I7.fr 6
  have c7_c7 := I7.at (i := 7) rfl
  have c7_f7 := I7.fr 7
  have c7_c8 := I7.at (i := 8) rfl
  have c7_f8 := I7.fr 8
  have c7_l := I7.lt
  go_wp2_with fail
  refine (eat_ro _ r s _ hL hs xEqq (ne_nil _ _) (nnEqq s) ((h7.setFar mI _).setFar mI _)).mono ?_
  rintro e w8 ⟨rfl, h8, hw8⟩
  have R8 : Bk w8 w.heap.size #[.int .i64 0, .int .i64 0, .int .i64 0, .int .i64 0, .int .i64 0, .int .i64 0, .int .i64 0, .int .i64 0, .int .i64 0] := ((R7.setFar mN _ _).setFar mN _ _).wr hw8 nR
  have I8 : Bk w8 (w.heap.size + 1) #[.int .i64 6, .int .i64 0, .int .i64 0, .int .i64 (opdP s (expS s xIf (numP s (nx s S)).2)).1.r, .int .i64 (opdP s (expS s xIf (numP s (nx s S)).2)).1.v, .int .i64 0, .int .i64 0, .int .i64 0, .int .i64 (numP s (nx s S)).1] := ((I7.set 3 _).set 4 _).wr hw8 nI
  have W8 : Hid (Wr r w w8) := ((W7.out.setNew lN _).setNew lN _).trans hw8
  clear hw8 R7 I7 W7 h7 c7_c0 c7_f0 c7_c1 c7_f1 c7_c2 c7_f2 c7_c3 c7_f3 c7_c4 c7_f4 c7_c5 c7_f5 c7_c6 c7_f6 c7_c7 c7_f7 c7_c8 c7_f8 c7_l
  go_wp2_with fail
  refine (operand_ro _ r s _ hL hs h8).mono ?_
  rintro e w9 ⟨rfl, h9, hw9⟩
  have R9 := R8.wr hw9 nR
  have I9 := I8.wr hw9 nI
  have W9 : Hid (Wr r w w9) := W8.out.trans hw9
  clear hw9 R8 I8 W8 h8
  have c9_c0 := I9.at (i := 0) rfl
  have c9_f0 := I9.fr 0
  have c9_c1 := I9.at (i := 1) rfl
  have c9_f1 := I9.fr 1
  have c9_c2 := I9.at (i := 2) rfl
  have c9_f2 := I9.fr 2
  have c9_c3 := I9.at (i := 3) rfl
  have c9_f3 := I9.fr 3
  have c9_c4 := I9.at (i := 4) rfl
  have c9_f4 := I9.fr 4
  have c9_c5 := I9.at (i := 5) rfl
  have c9_f5 := I9.fr 5
  have c9_c6 := I9.at (i := 6) rfl
  have c9_f6 := I9.fr 6
  have c9_c7 := I9.at (i := 7) rfl
  have c9_f7 := I9.fr 7
  have c9_c8 := I9.at (i := 8) rfl
  have c9_f8 := I9.fr 8
  have c9_l := I9.lt
  go_wp2_with fail
  refine (eat_ro _ r s _ hL hs xSemi (ne_nil _ _) (nnSemi s) ((h9.setFar mI _).setFar mI _)).mono ?_
  rintro e w10 ⟨rfl, h10, hw10⟩
  have R10 : Bk w10 w.heap.size #[.int .i64 0, .int .i64 0, .int .i64 0, .int .i64 0, .int .i64 0, .int .i64 0, .int .i64 0, .int .i64 0, .int .i64 0] := ((R9.setFar mN _ _).setFar mN _ _).wr hw10 nR
  have I10 : Bk w10 (w.heap.size + 1) #[.int .i64 6, .int .i64 0, .int .i64 0, .int .i64 (opdP s (expS s xIf (numP s (nx s S)).2)).1.r, .int .i64 (opdP s (expS s xIf (numP s (nx s S)).2)).1.v, .int .i64 0, .int .i64 (opdP s (expS s xEqq (opdP s (expS s xIf (numP s (nx s S)).2)).2)).1.r, .int .i64 (opdP s (expS s xEqq (opdP s (expS s xIf (numP s (nx s S)).2)).2)).1.v, .int .i64 (numP s (nx s S)).1] := ((I9.set 6 _).set 7 _).wr hw10 nI
  have W10 : Hid (Wr r w w10) := ((W9.out.setNew lN _).setNew lN _).trans hw10
  clear hw10 R9 I9 W9 h9 c9_c0 c9_f0 c9_c1 c9_f1 c9_c2 c9_f2 c9_c3 c9_f3 c9_c4 c9_f4 c9_c5 c9_f5 c9_c6 c9_f6 c9_c7 c9_f7 c9_c8 c9_f8 c9_l
  have c10_c0 := I10.at (i := 0) rfl
  have c10_f0 := I10.fr 0
  have c10_c1 := I10.at (i := 1) rfl
  have c10_f1 := I10.fr 1
  have c10_c2 := I10.at (i := 2) rfl
  have c10_f2 := I10.fr 2
  have c10_c3 := I10.at (i := 3) rfl
  have c10_f3 := I10.fr 3
  have c10_c4 := I10.at (i := 4) rfl
  have c10_f4 := I10.fr 4
  have c10_c5 := I10.at (i := 5) rfl
  have c10_f5 := I10.fr 5
  have c10_c6 := I10.at (i := 6) rfl
  have c10_f6 := I10.fr 6
  have c10_c7 := I10.at (i := 7) rfl
  have c10_f7 := I10.fr 7
  have c10_c8 := I10.at (i := 8) rfl
  have c10_f8 := I10.fr 8
  have c10_l := I10.lt
  have z_c0 : w10.cell? ⟨w.heap.size, 0, none⟩ = some (.int .i64 0) := R10.at rfl
  have z_f0 : w10.frozen? ⟨w.heap.size, 0, none⟩ = false := R10.fr 0
  have z_c1 : w10.cell? ⟨w.heap.size, 1, none⟩ = some (.int .i64 0) := R10.at rfl
  have z_f1 : w10.frozen? ⟨w.heap.size, 1, none⟩ = false := R10.fr 1
  have z_c2 : w10.cell? ⟨w.heap.size, 2, none⟩ = some (.int .i64 0) := R10.at rfl
  have z_f2 : w10.frozen? ⟨w.heap.size, 2, none⟩ = false := R10.fr 2
  have z_c3 : w10.cell? ⟨w.heap.size, 3, none⟩ = some (.int .i64 0) := R10.at rfl
  have z_f3 : w10.frozen? ⟨w.heap.size, 3, none⟩ = false := R10.fr 3
  have z_c4 : w10.cell? ⟨w.heap.size, 4, none⟩ = some (.int .i64 0) := R10.at rfl
  have z_f4 : w10.frozen? ⟨w.heap.size, 4, none⟩ = false := R10.fr 4
  have z_c5 : w10.cell? ⟨w.heap.size, 5, none⟩ = some (.int .i64 0) := R10.at rfl
  have z_f5 : w10.frozen? ⟨w.heap.size, 5, none⟩ = false := R10.fr 5
  have z_c6 : w10.cell? ⟨w.heap.size, 6, none⟩ = some (.int .i64 0) := R10.at rfl
  have z_f6 : w10.frozen? ⟨w.heap.size, 6, none⟩ = false := R10.fr 6
  have z_c7 : w10.cell? ⟨w.heap.size, 7, none⟩ = some (.int .i64 0) := R10.at rfl
  have z_f7 : w10.frozen? ⟨w.heap.size, 7, none⟩ = false := R10.fr 7
  have z_c8 : w10.cell? ⟨w.heap.size, 8, none⟩ = some (.int .i64 0) := R10.at rfl
  have z_f8 : w10.frozen? ⟨w.heap.size, 8, none⟩ = false := R10.fr 8
  have z_l := R10.lt
  clear R10 I10
  go_wp2
  (try simp only [Exit.inBlock, Exit.then])
  refine bodyPost_ret (v := .agg #[.int .i64 6, .int .i64 0, .int .i64 0, .int .i64 (opdP s (expS s xIf (numP s (nx s S)).2)).1.r, .int .i64 (opdP s (expS s xIf (numP s (nx s S)).2)).1.v, .int .i64 0, .int .i64 (opdP s (expS s xEqq (opdP s (expS s xIf (numP s (nx s S)).2)).2)).1.r, .int .i64 (opdP s (expS s xEqq (opdP s (expS s xIf (numP s (nx s S)).2)).2)).1.v, .int .i64 (numP s (nx s S)).1]) ?_ rfl ⟨rfl, (((((((((h10.setFar mR _).setFar mR _).setFar mR _).setFar mR _).setFar mR _).setFar mR _).setFar mR _).setFar mR _).setFar mR _), (((((((((W10.out.setNew (Nat.le_refl _) _).setNew (Nat.le_refl _) _).setNew (Nat.le_refl _) _).setNew (Nat.le_refl _) _).setNew (Nat.le_refl _) _).setNew (Nat.le_refl _) _).setNew (Nat.le_refl _) _).setNew (Nat.le_refl _) _).setNew (Nat.le_refl _) _)⟩
  rw [results_cell rfl]
  go_simp

include hL hs in
theorem rins_skipneg (q1 : isX s xStore S = false) (q2 : isX s xFence S = false) (q3 : isX s xSkip S = true) {a : Nat} (ha : a ≤ s.size) (hS : (nx s S) = .ok a) (hk : kd s a = 2) (hn : (numP s (nx s S)).1 < 0) (h : Ro w r s S) :
    Calls Tryz.prog 40 #[.pointer (some ⟨r, 0, none⟩)] w fun e w' => e = .returned (insA ⟨6, 0, 0, (opdP s (expS s xIf (.error (6, pl s a)))).1, 0, (opdP s (expS s xEqq (opdP s (expS s xIf (.error (6, pl s a)))).2)).1, (numP s (nx s S)).1⟩) ∧ Ro w' r s (expS s xSemi (opdP s (expS s xEqq (opdP s (expS s xIf (.error (6, pl s a)))).2)).2) ∧ Wr r w w' := by
  have hlt := h.lt
  have hx : ∀ o1 o2, Ro ((w.alloc o1).alloc o2) r s S := fun o1 o2 => (h.alloc o1).alloc o2
  have nR : w.heap.size ≠ r := by omega
  have nI : w.heap.size + 1 ≠ r := by omega
  have mR : r ≠ w.heap.size := by omega
  have mI : r ≠ w.heap.size + 1 := by omega
  have mN : w.heap.size ≠ w.heap.size + 1 := by omega
  have lN : w.heap.size ≤ w.heap.size + 1 := by omega
  clear h
  have HS : Hid ((nx s S) = .ok a) := hS
  clear hS
  go_enter Tryz.func40, Tryz.ntmps40
  go_wp2_with fail
  refine (is_no _ r s S hL hs xStore (ne_nil _ _) (nnStore s) q1 (hx _ _)).mono ?_
  rintro e w1 ⟨rfl, h1, hw1⟩
  have R1 : Bk w1 w.heap.size #[.int .i64 0, .int .i64 0, .int .i64 0, .int .i64 0, .int .i64 0, .int .i64 0, .int .i64 0, .int .i64 0, .int .i64 0] := ((Bk.new w _ _).alloc _).wr hw1 nR
  have I1 : Bk w1 (w.heap.size + 1) #[.int .i64 0, .int .i64 0, .int .i64 0, .int .i64 0, .int .i64 0, .int .i64 0, .int .i64 0, .int .i64 0, .int .i64 0] := (Bk.new2 w _ _ _).wr hw1 nI
  have W1 : Hid (Wr r w w1) := (((Wr.refl r w).alloc _).alloc _).trans hw1
  clear hw1 hx
  go_wp2_with fail
  refine (is_no _ r s S hL hs xFence (ne_nil _ _) (nnFence s) q2 h1).mono ?_
  rintro e w2 ⟨rfl, h2, hw2⟩
  have R2 := R1.wr hw2 nR
  have I2 := I1.wr hw2 nI
  have W2 : Hid (Wr r w w2) := W1.out.trans hw2
  clear hw2 R1 I1 W1 h1
  go_wp2_with fail
  refine (is_yes _ r s S hL hs xSkip (ne_nil _ _) (nnSkip s) q3 h2).mono ?_
  rintro e w3 ⟨rfl, h3, hw3⟩
  have R3 := R2.wr hw3 nR
  have I3 := I2.wr hw3 nI
  have W3 : Hid (Wr r w w3) := W2.out.trans hw3
  clear hw3 R2 I2 W2 h2
  go_wp2_with fail
  refine (go1_ro _ r s _ h3).mono ?_
  rintro e w4 ⟨rfl, h4, hw4⟩
  have R4 := R3.wr hw4 nR
  have I4 := I3.wr hw4 nI
  have W4 : Hid (Wr r w w4) := W3.out.trans hw4
  clear hw4 R3 I3 W3 h3
  have c4_c0 := I4.at (i := 0) rfl
  have c4_f0 := I4.fr 0
  have c4_c1 := I4.at (i := 1) rfl
  have c4_f1 := I4.fr 1
  have c4_c2 := I4.at (i := 2) rfl
  have c4_f2 := I4.fr 2
  have c4_c3 := I4.at (i := 3) rfl
  have c4_f3 := I4.fr 3
  have c4_c4 := I4.at (i := 4) rfl
  have c4_f4 := I4.fr 4
  have c4_c5 := I4.at (i := 5) rfl
  have c4_f5 := I4.fr 5
  have c4_c6 := I4.at (i := 6) rfl
  have c4_f6 := I4.fr 6
  have c4_c7 := I4.at (i := 7) rfl
  have c4_f7 := I4.fr 7
  have c4_c8 := I4.at (i := 8) rfl
  have c4_f8 := I4.fr 8
  have c4_l := I4.lt
  go_wp2_with fail
  refine (num_tn _ r s _ hL hs HS.out hk (h4.setFar mI _)).mono ?_
  rintro e w5 ⟨rfl, ⟨h5, hb5⟩, hw5⟩
  have R5 : Bk w5 w.heap.size #[.int .i64 0, .int .i64 0, .int .i64 0, .int .i64 0, .int .i64 0, .int .i64 0, .int .i64 0, .int .i64 0, .int .i64 0] := (R4.setFar mN _ _).wr hw5 nR
  have I5 : Bk w5 (w.heap.size + 1) #[.int .i64 6, .int .i64 0, .int .i64 0, .int .i64 0, .int .i64 0, .int .i64 0, .int .i64 0, .int .i64 0, .int .i64 0] := (I4.set 0 _).wr hw5 nI
  have W5 : Hid (Wr r w w5) := (W4.out.setNew lN _).trans hw5
  clear hw5 R4 I4 W4 h4 c4_c0 c4_f0 c4_c1 c4_f1 c4_c2 c4_f2 c4_c3 c4_f3 c4_c4 c4_f4 c4_c5 c4_f5 c4_c6 c4_f6 c4_c7 c4_f7 c4_c8 c4_f8 c4_l
  have c5_c0 := I5.at (i := 0) rfl
  have c5_f0 := I5.fr 0
  have c5_c1 := I5.at (i := 1) rfl
  have c5_f1 := I5.fr 1
  have c5_c2 := I5.at (i := 2) rfl
  have c5_f2 := I5.fr 2
  have c5_c3 := I5.at (i := 3) rfl
  have c5_f3 := I5.fr 3
  have c5_c4 := I5.at (i := 4) rfl
  have c5_f4 := I5.fr 4
  have c5_c5 := I5.at (i := 5) rfl
  have c5_f5 := I5.fr 5
  have c5_c6 := I5.at (i := 6) rfl
  have c5_f6 := I5.fr 6
  have c5_c7 := I5.at (i := 7) rfl
  have c5_f7 := I5.fr 7
  have c5_c8 := I5.at (i := 8) rfl
  have c5_f8 := I5.fr 8
  have c5_l := I5.lt
  obtain ⟨r0, r1, r2, r3, r4, r5, r6, r7, r8, r9, r10, r11, r12, r13, r14, r15⟩ := rFacts hb5
  go_wp2_with fail
  refine (eat_ro _ r s _ hL hs xIf (ne_nil _ _) (nnIf s) ((Ro.told (to_le ha) ((hb5.set 6 _).set 7 _) (by decide)).setFar mI _)).mono ?_
  rintro e w6 ⟨rfl, h6, hw6⟩
  have R6 : Bk w6 w.heap.size #[.int .i64 0, .int .i64 0, .int .i64 0, .int .i64 0, .int .i64 0, .int .i64 0, .int .i64 0, .int .i64 0, .int .i64 0] := (((R5.setFar nR _ _).setFar nR _ _).setFar mN _ _).wr hw6 nR
  have I6 : Bk w6 (w.heap.size + 1) #[.int .i64 6, .int .i64 0, .int .i64 0, .int .i64 0, .int .i64 0, .int .i64 0, .int .i64 0, .int .i64 0, .int .i64 (numP s (nx s S)).1] := (((I5.setFar nI _ _).setFar nI _ _).set 8 _).wr hw6 nI
  have W6 : Hid (Wr r w w6) := (((W5.out.set _).set _).setNew lN _).trans hw6
  clear hw6 R5 I5 W5 h5 hb5 c5_c0 c5_f0 c5_c1 c5_f1 c5_c2 c5_f2 c5_c3 c5_f3 c5_c4 c5_f4 c5_c5 c5_f5 c5_c6 c5_f6 c5_c7 c5_f7 c5_c8 c5_f8 c5_l
  go_wp2_with fail
  refine (operand_ro _ r s _ hL hs h6).mono ?_
  rintro e w7 ⟨rfl, h7, hw7⟩
  have R7 := R6.wr hw7 nR
  have I7 := I6.wr hw7 nI
  have W7 : Hid (Wr r w w7) := W6.out.trans hw7
  clear hw7 R6 I6 W6 h6
  have c7_c0 := I7.at (i := 0) rfl
  have c7_f0 := I7.fr 0
  have c7_c1 := I7.at (i := 1) rfl
  have c7_f1 := I7.fr 1
  have c7_c2 := I7.at (i := 2) rfl
  have c7_f2 := I7.fr 2
  have c7_c3 := I7.at (i := 3) rfl
  have c7_f3 := I7.fr 3
  have c7_c4 := I7.at (i := 4) rfl
  have c7_f4 := I7.fr 4
  have c7_c5 := I7.at (i := 5) rfl
  have c7_f5 := I7.fr 5
  have c7_c6 := I7.at (i := 6) rfl
  have c7_f6 := I7.fr 6
  have c7_c7 := I7.at (i := 7) rfl
  have c7_f7 := I7.fr 7
  have c7_c8 := I7.at (i := 8) rfl
  have c7_f8 := I7.fr 8
  have c7_l := I7.lt
  go_wp2_with fail
  refine (eat_ro _ r s _ hL hs xEqq (ne_nil _ _) (nnEqq s) ((h7.setFar mI _).setFar mI _)).mono ?_
  rintro e w8 ⟨rfl, h8, hw8⟩
  have R8 : Bk w8 w.heap.size #[.int .i64 0, .int .i64 0, .int .i64 0, .int .i64 0, .int .i64 0, .int .i64 0, .int .i64 0, .int .i64 0, .int .i64 0] := ((R7.setFar mN _ _).setFar mN _ _).wr hw8 nR
  have I8 : Bk w8 (w.heap.size + 1) #[.int .i64 6, .int .i64 0, .int .i64 0, .int .i64 (opdP s (expS s xIf (.error (6, pl s a)))).1.r, .int .i64 (opdP s (expS s xIf (.error (6, pl s a)))).1.v, .int .i64 0, .int .i64 0, .int .i64 0, .int .i64 (numP s (nx s S)).1] := ((I7.set 3 _).set 4 _).wr hw8 nI
  have W8 : Hid (Wr r w w8) := ((W7.out.setNew lN _).setNew lN _).trans hw8
  clear hw8 R7 I7 W7 h7 c7_c0 c7_f0 c7_c1 c7_f1 c7_c2 c7_f2 c7_c3 c7_f3 c7_c4 c7_f4 c7_c5 c7_f5 c7_c6 c7_f6 c7_c7 c7_f7 c7_c8 c7_f8 c7_l
  go_wp2_with fail
  refine (operand_ro _ r s _ hL hs h8).mono ?_
  rintro e w9 ⟨rfl, h9, hw9⟩
  have R9 := R8.wr hw9 nR
  have I9 := I8.wr hw9 nI
  have W9 : Hid (Wr r w w9) := W8.out.trans hw9
  clear hw9 R8 I8 W8 h8
  have c9_c0 := I9.at (i := 0) rfl
  have c9_f0 := I9.fr 0
  have c9_c1 := I9.at (i := 1) rfl
  have c9_f1 := I9.fr 1
  have c9_c2 := I9.at (i := 2) rfl
  have c9_f2 := I9.fr 2
  have c9_c3 := I9.at (i := 3) rfl
  have c9_f3 := I9.fr 3
  have c9_c4 := I9.at (i := 4) rfl
  have c9_f4 := I9.fr 4
  have c9_c5 := I9.at (i := 5) rfl
  have c9_f5 := I9.fr 5
  have c9_c6 := I9.at (i := 6) rfl
  have c9_f6 := I9.fr 6
  have c9_c7 := I9.at (i := 7) rfl
  have c9_f7 := I9.fr 7
  have c9_c8 := I9.at (i := 8) rfl
  have c9_f8 := I9.fr 8
  have c9_l := I9.lt
  go_wp2_with fail
  refine (eat_ro _ r s _ hL hs xSemi (ne_nil _ _) (nnSemi s) ((h9.setFar mI _).setFar mI _)).mono ?_
  rintro e w10 ⟨rfl, h10, hw10⟩
  have R10 : Bk w10 w.heap.size #[.int .i64 0, .int .i64 0, .int .i64 0, .int .i64 0, .int .i64 0, .int .i64 0, .int .i64 0, .int .i64 0, .int .i64 0] := ((R9.setFar mN _ _).setFar mN _ _).wr hw10 nR
  have I10 : Bk w10 (w.heap.size + 1) #[.int .i64 6, .int .i64 0, .int .i64 0, .int .i64 (opdP s (expS s xIf (.error (6, pl s a)))).1.r, .int .i64 (opdP s (expS s xIf (.error (6, pl s a)))).1.v, .int .i64 0, .int .i64 (opdP s (expS s xEqq (opdP s (expS s xIf (.error (6, pl s a)))).2)).1.r, .int .i64 (opdP s (expS s xEqq (opdP s (expS s xIf (.error (6, pl s a)))).2)).1.v, .int .i64 (numP s (nx s S)).1] := ((I9.set 6 _).set 7 _).wr hw10 nI
  have W10 : Hid (Wr r w w10) := ((W9.out.setNew lN _).setNew lN _).trans hw10
  clear hw10 R9 I9 W9 h9 c9_c0 c9_f0 c9_c1 c9_f1 c9_c2 c9_f2 c9_c3 c9_f3 c9_c4 c9_f4 c9_c5 c9_f5 c9_c6 c9_f6 c9_c7 c9_f7 c9_c8 c9_f8 c9_l
  have c10_c0 := I10.at (i := 0) rfl
  have c10_f0 := I10.fr 0
  have c10_c1 := I10.at (i := 1) rfl
  have c10_f1 := I10.fr 1
  have c10_c2 := I10.at (i := 2) rfl
  have c10_f2 := I10.fr 2
  have c10_c3 := I10.at (i := 3) rfl
  have c10_f3 := I10.fr 3
  have c10_c4 := I10.at (i := 4) rfl
  have c10_f4 := I10.fr 4
  have c10_c5 := I10.at (i := 5) rfl
  have c10_f5 := I10.fr 5
  have c10_c6 := I10.at (i := 6) rfl
  have c10_f6 := I10.fr 6
  have c10_c7 := I10.at (i := 7) rfl
  have c10_f7 := I10.fr 7
  have c10_c8 := I10.at (i := 8) rfl
  have c10_f8 := I10.fr 8
  have c10_l := I10.lt
  have z_c0 : w10.cell? ⟨w.heap.size, 0, none⟩ = some (.int .i64 0) := R10.at rfl
  have z_f0 : w10.frozen? ⟨w.heap.size, 0, none⟩ = false := R10.fr 0
  have z_c1 : w10.cell? ⟨w.heap.size, 1, none⟩ = some (.int .i64 0) := R10.at rfl
  have z_f1 : w10.frozen? ⟨w.heap.size, 1, none⟩ = false := R10.fr 1
  have z_c2 : w10.cell? ⟨w.heap.size, 2, none⟩ = some (.int .i64 0) := R10.at rfl
  have z_f2 : w10.frozen? ⟨w.heap.size, 2, none⟩ = false := R10.fr 2
  have z_c3 : w10.cell? ⟨w.heap.size, 3, none⟩ = some (.int .i64 0) := R10.at rfl
  have z_f3 : w10.frozen? ⟨w.heap.size, 3, none⟩ = false := R10.fr 3
  have z_c4 : w10.cell? ⟨w.heap.size, 4, none⟩ = some (.int .i64 0) := R10.at rfl
  have z_f4 : w10.frozen? ⟨w.heap.size, 4, none⟩ = false := R10.fr 4
  have z_c5 : w10.cell? ⟨w.heap.size, 5, none⟩ = some (.int .i64 0) := R10.at rfl
  have z_f5 : w10.frozen? ⟨w.heap.size, 5, none⟩ = false := R10.fr 5
  have z_c6 : w10.cell? ⟨w.heap.size, 6, none⟩ = some (.int .i64 0) := R10.at rfl
  have z_f6 : w10.frozen? ⟨w.heap.size, 6, none⟩ = false := R10.fr 6
  have z_c7 : w10.cell? ⟨w.heap.size, 7, none⟩ = some (.int .i64 0) := R10.at rfl
  have z_f7 : w10.frozen? ⟨w.heap.size, 7, none⟩ = false := R10.fr 7
  have z_c8 : w10.cell? ⟨w.heap.size, 8, none⟩ = some (.int .i64 0) := R10.at rfl
  have z_f8 : w10.frozen? ⟨w.heap.size, 8, none⟩ = false := R10.fr 8
  have z_l := R10.lt
  clear R10 I10
  go_wp2
  (try simp only [Exit.inBlock, Exit.then])
  refine bodyPost_ret (v := .agg #[.int .i64 6, .int .i64 0, .int .i64 0, .int .i64 (opdP s (expS s xIf (.error (6, pl s a)))).1.r, .int .i64 (opdP s (expS s xIf (.error (6, pl s a)))).1.v, .int .i64 0, .int .i64 (opdP s (expS s xEqq (opdP s (expS s xIf (.error (6, pl s a)))).2)).1.r, .int .i64 (opdP s (expS s xEqq (opdP s (expS s xIf (.error (6, pl s a)))).2)).1.v, .int .i64 (numP s (nx s S)).1]) ?_ rfl ⟨rfl, (((((((((h10.setFar mR _).setFar mR _).setFar mR _).setFar mR _).setFar mR _).setFar mR _).setFar mR _).setFar mR _).setFar mR _), (((((((((W10.out.setNew (Nat.le_refl _) _).setNew (Nat.le_refl _) _).setNew (Nat.le_refl _) _).setNew (Nat.le_refl _) _).setNew (Nat.le_refl _) _).setNew (Nat.le_refl _) _).setNew (Nat.le_refl _) _).setNew (Nat.le_refl _) _).setNew (Nat.le_refl _) _)⟩
  rw [results_cell rfl]
  go_simp

include hL hs in
theorem ratom_own {a : Nat} (hS : S = .ok a) (hk : ((kd s a : Int) == 2) = true) (hp : pB (tx s a) = true) (hz : ((tx s a).size : Int) ≤ 9223372036854775807) (hn1 : ¬ pN (tx s a) < 0) (hn2 : ¬ 9 < pN (tx s a)) (h : Ro w r s S) :
    Calls Tryz.prog 41 #[.pointer (some ⟨r, 0, none⟩)] w fun e w' => e = .returned (atomA ⟨pN (tx s a), (regP s (expS s xColon (nx s S))).1, 0, (numP s (expS s xEq (regP s (expS s xColon (nx s S))).2)).1⟩) ∧ Ro w' r s (numP s (expS s xEq (regP s (expS s xColon (nx s S))).2)).2 ∧ Wr r w w' := by
  have hlt := h.lt
  have hx : ∀ o1 o2, Ro ((w.alloc o1).alloc o2) r s S := fun o1 o2 => (h.alloc o1).alloc o2
  have nR : w.heap.size ≠ r := by omega
  have nI : w.heap.size + 1 ≠ r := by omega
  have mR : r ≠ w.heap.size := by omega
  have mI : r ≠ w.heap.size + 1 := by omega
  have mN : w.heap.size ≠ w.heap.size + 1 := by omega
  have lN : w.heap.size ≤ w.heap.size + 1 := by omega
  clear h
  have HS : Hid (S = .ok a) := hS
  clear hS
  go_enter Tryz.func41, Tryz.ntmps41
  go_wp2_with fail
  refine (look_tn _ r s _ hL hs HS.out (hx _ _)).mono ?_
  rintro e w1 ⟨rfl, ⟨h1, he1, e6, lr⟩, hw1⟩
  have R1 : Bk w1 w.heap.size #[.int .i64 0, .int .i64 0, .int .i64 0, .int .i64 0] := ((Bk.new w _ _).alloc _).wr hw1 nR
  have I1 : Bk w1 (w.heap.size + 1) #[.int .i64 (-1), .int .i64 0, .int .i64 0, .int .i64 0] := (Bk.new2 w _ _ _).wr hw1 nI
  have W1 : Hid (Wr r w w1) := (((Wr.refl r w).alloc _).alloc _).trans hw1
  clear hw1 hx
  go_wp2_with fail
  refine (parse_tn _ r s _ _ hp hz (h1.alloc _)).mono ?_
  rintro e w2 ⟨rfl, h2, hw2⟩
  have R2 : Bk w2 w.heap.size #[.int .i64 0, .int .i64 0, .int .i64 0, .int .i64 0] := (R1.alloc _).wr hw2 nR
  have I2 : Bk w2 (w.heap.size + 1) #[.int .i64 (-1), .int .i64 0, .int .i64 0, .int .i64 0] := (I1.alloc _).wr hw2 nI
  have W2 : Hid (Wr r w w2) := (W1.out.alloc _).trans hw2
  clear hw2 R1 I1 W1 h1
  go_wp2_with fail
  refine (go1_ro _ r s _ h2).mono ?_
  rintro e w3 ⟨rfl, h3, hw3⟩
  have R3 := R2.wr hw3 nR
  have I3 := I2.wr hw3 nI
  have W3 : Hid (Wr r w w3) := W2.out.trans hw3
  clear hw3 R2 I2 W2 h2
  have c3_c0 := I3.at (i := 0) rfl
  have c3_f0 := I3.fr 0
  have c3_c1 := I3.at (i := 1) rfl
  have c3_f1 := I3.fr 1
  have c3_c2 := I3.at (i := 2) rfl
  have c3_f2 := I3.fr 2
  have c3_c3 := I3.at (i := 3) rfl
  have c3_f3 := I3.fr 3
  have c3_l := I3.lt
  go_wp2_with fail
  refine (eat_ro _ r s _ hL hs xColon (ne_nil _ _) (nnColon s) (h3.setFar mI _)).mono ?_
  rintro e w4 ⟨rfl, h4, hw4⟩
  have R4 : Bk w4 w.heap.size #[.int .i64 0, .int .i64 0, .int .i64 0, .int .i64 0] := (R3.setFar mN _ _).wr hw4 nR
  have I4 : Bk w4 (w.heap.size + 1) #[.int .i64 (pN (tx s a)), .int .i64 0, .int .i64 0, .int .i64 0] := (I3.set 0 _).wr hw4 nI
  have W4 : Hid (Wr r w w4) := (W3.out.setNew lN _).trans hw4
  clear hw4 R3 I3 W3 h3 c3_c0 c3_f0 c3_c1 c3_f1 c3_c2 c3_f2 c3_c3 c3_f3 c3_l
  go_wp2_with fail
  refine (register_ro _ r s _ hL hs h4).mono ?_
  rintro e w5 ⟨rfl, h5, hw5⟩
  have R5 := R4.wr hw5 nR
  have I5 := I4.wr hw5 nI
  have W5 : Hid (Wr r w w5) := W4.out.trans hw5
  clear hw5 R4 I4 W4 h4
  have c5_c0 := I5.at (i := 0) rfl
  have c5_f0 := I5.fr 0
  have c5_c1 := I5.at (i := 1) rfl
  have c5_f1 := I5.fr 1
  have c5_c2 := I5.at (i := 2) rfl
  have c5_f2 := I5.fr 2
  have c5_c3 := I5.at (i := 3) rfl
  have c5_f3 := I5.fr 3
  have c5_l := I5.lt
  go_wp2_with fail
  refine (eat_ro _ r s _ hL hs xEq (ne_nil _ _) (nnEq s) (h5.setFar mI _)).mono ?_
  rintro e w6 ⟨rfl, h6, hw6⟩
  have R6 : Bk w6 w.heap.size #[.int .i64 0, .int .i64 0, .int .i64 0, .int .i64 0] := (R5.setFar mN _ _).wr hw6 nR
  have I6 : Bk w6 (w.heap.size + 1) #[.int .i64 (pN (tx s a)), .int .i64 (regP s (expS s xColon (nx s S))).1, .int .i64 0, .int .i64 0] := (I5.set 1 _).wr hw6 nI
  have W6 : Hid (Wr r w w6) := (W5.out.setNew lN _).trans hw6
  clear hw6 R5 I5 W5 h5 c5_c0 c5_f0 c5_c1 c5_f1 c5_c2 c5_f2 c5_c3 c5_f3 c5_l
  go_wp2_with fail
  refine (num_ro _ r s _ hL hs h6).mono ?_
  rintro e w7 ⟨rfl, h7, hw7⟩
  have R7 := R6.wr hw7 nR
  have I7 := I6.wr hw7 nI
  have W7 : Hid (Wr r w w7) := W6.out.trans hw7
  clear hw7 R6 I6 W6 h6
  have c7_c0 := I7.at (i := 0) rfl
  have c7_f0 := I7.fr 0
  have c7_c1 := I7.at (i := 1) rfl
  have c7_f1 := I7.fr 1
  have c7_c2 := I7.at (i := 2) rfl
  have c7_f2 := I7.fr 2
  have c7_c3 := I7.at (i := 3) rfl
  have c7_f3 := I7.fr 3
  have c7_l := I7.lt
  have z_c0 : w7.cell? ⟨w.heap.size, 0, none⟩ = some (.int .i64 0) := R7.at rfl
  have z_f0 : w7.frozen? ⟨w.heap.size, 0, none⟩ = false := R7.fr 0
  have z_c1 : w7.cell? ⟨w.heap.size, 1, none⟩ = some (.int .i64 0) := R7.at rfl
  have z_f1 : w7.frozen? ⟨w.heap.size, 1, none⟩ = false := R7.fr 1
  have z_c2 : w7.cell? ⟨w.heap.size, 2, none⟩ = some (.int .i64 0) := R7.at rfl
  have z_f2 : w7.frozen? ⟨w.heap.size, 2, none⟩ = false := R7.fr 2
  have z_c3 : w7.cell? ⟨w.heap.size, 3, none⟩ = some (.int .i64 0) := R7.at rfl
  have z_f3 : w7.frozen? ⟨w.heap.size, 3, none⟩ = false := R7.fr 3
  have z_l := R7.lt
  clear R7 I7
  go_wp2
  (try simp only [Exit.inBlock, Exit.then])
  refine bodyPost_ret (v := .agg #[.int .i64 (pN (tx s a)), .int .i64 (regP s (expS s xColon (nx s S))).1, .int .i64 0, .int .i64 (numP s (expS s xEq (regP s (expS s xColon (nx s S))).2)).1]) ?_ rfl ⟨rfl, (((((h7.setFar mI _).setFar mR _).setFar mR _).setFar mR _).setFar mR _), (((((W7.out.setNew lN _).setNew (Nat.le_refl _) _).setNew (Nat.le_refl _) _).setNew (Nat.le_refl _) _).setNew (Nat.le_refl _) _)⟩
  rw [results_cell rfl]
  go_simp

include hL hs in
theorem ratom_low {a : Nat} (hS : S = .ok a) (hk : ((kd s a : Int) == 2) = true) (hp : pB (tx s a) = true) (hz : ((tx s a).size : Int) ≤ 9223372036854775807) (hn1 : pN (tx s a) < 0) (h : Ro w r s S) :
    Calls Tryz.prog 41 #[.pointer (some ⟨r, 0, none⟩)] w fun e w' => e = .returned (atomA ⟨-1, 0, 0, 0⟩) ∧ Ro w' r s (flS s 7 S) ∧ Wr r w w' := by
  have hlt := h.lt
  have hx : ∀ o1 o2, Ro ((w.alloc o1).alloc o2) r s S := fun o1 o2 => (h.alloc o1).alloc o2
  have nR : w.heap.size ≠ r := by omega
  have nI : w.heap.size + 1 ≠ r := by omega
  have mR : r ≠ w.heap.size := by omega
  have mI : r ≠ w.heap.size + 1 := by omega
  have mN : w.heap.size ≠ w.heap.size + 1 := by omega
  have lN : w.heap.size ≤ w.heap.size + 1 := by omega
  clear h
  have HS : Hid (S = .ok a) := hS
  clear hS
  go_enter Tryz.func41, Tryz.ntmps41
  go_wp2_with fail
  refine (look_tn _ r s _ hL hs HS.out (hx _ _)).mono ?_
  rintro e w1 ⟨rfl, ⟨h1, he1, e6, lr⟩, hw1⟩
  have R1 : Bk w1 w.heap.size #[.int .i64 0, .int .i64 0, .int .i64 0, .int .i64 0] := ((Bk.new w _ _).alloc _).wr hw1 nR
  have I1 : Bk w1 (w.heap.size + 1) #[.int .i64 (-1), .int .i64 0, .int .i64 0, .int .i64 0] := (Bk.new2 w _ _ _).wr hw1 nI
  have W1 : Hid (Wr r w w1) := (((Wr.refl r w).alloc _).alloc _).trans hw1
  clear hw1 hx
  go_wp2_with fail
  refine (parse_tn _ r s _ _ hp hz (h1.alloc _)).mono ?_
  rintro e w2 ⟨rfl, h2, hw2⟩
  have R2 : Bk w2 w.heap.size #[.int .i64 0, .int .i64 0, .int .i64 0, .int .i64 0] := (R1.alloc _).wr hw2 nR
  have I2 : Bk w2 (w.heap.size + 1) #[.int .i64 (-1), .int .i64 0, .int .i64 0, .int .i64 0] := (I1.alloc _).wr hw2 nI
  have W2 : Hid (Wr r w w2) := (W1.out.alloc _).trans hw2
  clear hw2 R1 I1 W1 h1
  go_wp2_with fail
  refine (fail_tn _ r s _ 7 (by decide) he1 HS.out h2).mono ?_
  rintro e w3 ⟨rfl, h3, hw3⟩
  have R3 := R2.wr hw3 nR
  have I3 := I2.wr hw3 nI
  have W3 : Hid (Wr r w w3) := W2.out.trans hw3
  clear hw3 R2 I2 W2 h2
  have c3_c0 := I3.at (i := 0) rfl
  have c3_f0 := I3.fr 0
  have c3_c1 := I3.at (i := 1) rfl
  have c3_f1 := I3.fr 1
  have c3_c2 := I3.at (i := 2) rfl
  have c3_f2 := I3.fr 2
  have c3_c3 := I3.at (i := 3) rfl
  have c3_f3 := I3.fr 3
  have c3_l := I3.lt
  have z_c0 : w3.cell? ⟨w.heap.size, 0, none⟩ = some (.int .i64 0) := R3.at rfl
  have z_f0 : w3.frozen? ⟨w.heap.size, 0, none⟩ = false := R3.fr 0
  have z_c1 : w3.cell? ⟨w.heap.size, 1, none⟩ = some (.int .i64 0) := R3.at rfl
  have z_f1 : w3.frozen? ⟨w.heap.size, 1, none⟩ = false := R3.fr 1
  have z_c2 : w3.cell? ⟨w.heap.size, 2, none⟩ = some (.int .i64 0) := R3.at rfl
  have z_f2 : w3.frozen? ⟨w.heap.size, 2, none⟩ = false := R3.fr 2
  have z_c3 : w3.cell? ⟨w.heap.size, 3, none⟩ = some (.int .i64 0) := R3.at rfl
  have z_f3 : w3.frozen? ⟨w.heap.size, 3, none⟩ = false := R3.fr 3
  have z_l := R3.lt
  clear R3 I3
  go_wp2
  (try simp only [Exit.inBlock, Exit.then])
  refine bodyPost_ret (v := .agg #[.int .i64 (-1), .int .i64 0, .int .i64 0, .int .i64 0]) ?_ rfl ⟨rfl, ((((h3.setFar mR _).setFar mR _).setFar mR _).setFar mR _), ((((W3.out.setNew (Nat.le_refl _) _).setNew (Nat.le_refl _) _).setNew (Nat.le_refl _) _).setNew (Nat.le_refl _) _)⟩
  rw [results_cell rfl]
  go_simp

include hL hs in
theorem ratom_high {a : Nat} (hS : S = .ok a) (hk : ((kd s a : Int) == 2) = true) (hp : pB (tx s a) = true) (hz : ((tx s a).size : Int) ≤ 9223372036854775807) (hn1 : ¬ pN (tx s a) < 0) (hn2 : 9 < pN (tx s a)) (h : Ro w r s S) :
    Calls Tryz.prog 41 #[.pointer (some ⟨r, 0, none⟩)] w fun e w' => e = .returned (atomA ⟨-1, 0, 0, 0⟩) ∧ Ro w' r s (flS s 7 S) ∧ Wr r w w' := by
  have hlt := h.lt
  have hx : ∀ o1 o2, Ro ((w.alloc o1).alloc o2) r s S := fun o1 o2 => (h.alloc o1).alloc o2
  have nR : w.heap.size ≠ r := by omega
  have nI : w.heap.size + 1 ≠ r := by omega
  have mR : r ≠ w.heap.size := by omega
  have mI : r ≠ w.heap.size + 1 := by omega
  have mN : w.heap.size ≠ w.heap.size + 1 := by omega
  have lN : w.heap.size ≤ w.heap.size + 1 := by omega
  clear h
  have HS : Hid (S = .ok a) := hS
  clear hS
  go_enter Tryz.func41, Tryz.ntmps41
  go_wp2_with fail
  refine (look_tn _ r s _ hL hs HS.out (hx _ _)).mono ?_
  rintro e w1 ⟨rfl, ⟨h1, he1, e6, lr⟩, hw1⟩
  have R1 : Bk w1 w.heap.size #[.int .i64 0, .int .i64 0, .int .i64 0, .int .i64 0] := ((Bk.new w _ _).alloc _).wr hw1 nR
  have I1 : Bk w1 (w.heap.size + 1) #[.int .i64 (-1), .int .i64 0, .int .i64 0, .int .i64 0] := (Bk.new2 w _ _ _).wr hw1 nI
  have W1 : Hid (Wr r w w1) := (((Wr.refl r w).alloc _).alloc _).trans hw1
  clear hw1 hx
  go_wp2_with fail
  refine (parse_tn _ r s _ _ hp hz (h1.alloc _)).mono ?_
  rintro e w2 ⟨rfl, h2, hw2⟩
  have R2 : Bk w2 w.heap.size #[.int .i64 0, .int .i64 0, .int .i64 0, .int .i64 0] := (R1.alloc _).wr hw2 nR
  have I2 : Bk w2 (w.heap.size + 1) #[.int .i64 (-1), .int .i64 0, .int .i64 0, .int .i64 0] := (I1.alloc _).wr hw2 nI
  have W2 : Hid (Wr r w w2) := (W1.out.alloc _).trans hw2
  clear hw2 R1 I1 W1 h1
  go_wp2_with fail
  refine (fail_tn _ r s _ 7 (by decide) he1 HS.out h2).mono ?_
  rintro e w3 ⟨rfl, h3, hw3⟩
  have R3 := R2.wr hw3 nR
  have I3 := I2.wr hw3 nI
  have W3 : Hid (Wr r w w3) := W2.out.trans hw3
  clear hw3 R2 I2 W2 h2
  have c3_c0 := I3.at (i := 0) rfl
  have c3_f0 := I3.fr 0
  have c3_c1 := I3.at (i := 1) rfl
  have c3_f1 := I3.fr 1
  have c3_c2 := I3.at (i := 2) rfl
  have c3_f2 := I3.fr 2
  have c3_c3 := I3.at (i := 3) rfl
  have c3_f3 := I3.fr 3
  have c3_l := I3.lt
  have z_c0 : w3.cell? ⟨w.heap.size, 0, none⟩ = some (.int .i64 0) := R3.at rfl
  have z_f0 : w3.frozen? ⟨w.heap.size, 0, none⟩ = false := R3.fr 0
  have z_c1 : w3.cell? ⟨w.heap.size, 1, none⟩ = some (.int .i64 0) := R3.at rfl
  have z_f1 : w3.frozen? ⟨w.heap.size, 1, none⟩ = false := R3.fr 1
  have z_c2 : w3.cell? ⟨w.heap.size, 2, none⟩ = some (.int .i64 0) := R3.at rfl
  have z_f2 : w3.frozen? ⟨w.heap.size, 2, none⟩ = false := R3.fr 2
  have z_c3 : w3.cell? ⟨w.heap.size, 3, none⟩ = some (.int .i64 0) := R3.at rfl
  have z_f3 : w3.frozen? ⟨w.heap.size, 3, none⟩ = false := R3.fr 3
  have z_l := R3.lt
  clear R3 I3
  go_wp2
  (try simp only [Exit.inBlock, Exit.then])
  refine bodyPost_ret (v := .agg #[.int .i64 (-1), .int .i64 0, .int .i64 0, .int .i64 0]) ?_ rfl ⟨rfl, ((((h3.setFar mR _).setFar mR _).setFar mR _).setFar mR _), ((((W3.out.setNew (Nat.le_refl _) _).setNew (Nat.le_refl _) _).setNew (Nat.le_refl _) _).setNew (Nat.le_refl _) _)⟩
  rw [results_cell rfl]
  go_simp

include hL hs in
theorem ratom_word {a : Nat} (hS : S = .ok a) (hk : ((kd s a : Int) == 2) = false) (h : Ro w r s S) :
    Calls Tryz.prog 41 #[.pointer (some ⟨r, 0, none⟩)] w fun e w' => e = .returned (atomA ⟨-1, 0, (locP s S).1, (numP s (expS s xEq (locP s S).2)).1⟩) ∧ Ro w' r s (numP s (expS s xEq (locP s S).2)).2 ∧ Wr r w w' := by
  have hlt := h.lt
  have hx : ∀ o1 o2, Ro ((w.alloc o1).alloc o2) r s S := fun o1 o2 => (h.alloc o1).alloc o2
  have nR : w.heap.size ≠ r := by omega
  have nI : w.heap.size + 1 ≠ r := by omega
  have mR : r ≠ w.heap.size := by omega
  have mI : r ≠ w.heap.size + 1 := by omega
  have mN : w.heap.size ≠ w.heap.size + 1 := by omega
  have lN : w.heap.size ≤ w.heap.size + 1 := by omega
  clear h
  have HS : Hid (S = .ok a) := hS
  clear hS
  go_enter Tryz.func41, Tryz.ntmps41
  go_wp2_with fail
  refine (look_tn _ r s _ hL hs HS.out (hx _ _)).mono ?_
  rintro e w1 ⟨rfl, ⟨h1, he1, e6, lr⟩, hw1⟩
  have R1 : Bk w1 w.heap.size #[.int .i64 0, .int .i64 0, .int .i64 0, .int .i64 0] := ((Bk.new w _ _).alloc _).wr hw1 nR
  have I1 : Bk w1 (w.heap.size + 1) #[.int .i64 (-1), .int .i64 0, .int .i64 0, .int .i64 0] := (Bk.new2 w _ _ _).wr hw1 nI
  have W1 : Hid (Wr r w w1) := (((Wr.refl r w).alloc _).alloc _).trans hw1
  clear hw1 hx
  have h1 : Ro w1 r s S := by rw [HS.out] at h1 ⊢; exact h1.ro he1
  go_wp2_with fail
  refine (loc_ro _ r s _ hL hs (h1.alloc _)).mono ?_
  rintro e w2 ⟨rfl, h2, hw2⟩
  have R2 : Bk w2 w.heap.size #[.int .i64 0, .int .i64 0, .int .i64 0, .int .i64 0] := (R1.alloc _).wr hw2 nR
  have I2 : Bk w2 (w.heap.size + 1) #[.int .i64 (-1), .int .i64 0, .int .i64 0, .int .i64 0] := (I1.alloc _).wr hw2 nI
  have W2 : Hid (Wr r w w2) := (W1.out.alloc _).trans hw2
  clear hw2 R1 I1 W1 h1
  have c2_c0 := I2.at (i := 0) rfl
  have c2_f0 := I2.fr 0
  have c2_c1 := I2.at (i := 1) rfl
  have c2_f1 := I2.fr 1
  have c2_c2 := I2.at (i := 2) rfl
  have c2_f2 := I2.fr 2
  have c2_c3 := I2.at (i := 3) rfl
  have c2_f3 := I2.fr 3
  have c2_l := I2.lt
  go_wp2_with fail
  refine (eat_ro _ r s _ hL hs xEq (ne_nil _ _) (nnEq s) (h2.setFar mI _)).mono ?_
  rintro e w3 ⟨rfl, h3, hw3⟩
  have R3 : Bk w3 w.heap.size #[.int .i64 0, .int .i64 0, .int .i64 0, .int .i64 0] := (R2.setFar mN _ _).wr hw3 nR
  have I3 : Bk w3 (w.heap.size + 1) #[.int .i64 (-1), .int .i64 0, .int .i64 (locP s S).1, .int .i64 0] := (I2.set 2 _).wr hw3 nI
  have W3 : Hid (Wr r w w3) := (W2.out.setNew lN _).trans hw3
  clear hw3 R2 I2 W2 h2 c2_c0 c2_f0 c2_c1 c2_f1 c2_c2 c2_f2 c2_c3 c2_f3 c2_l
  go_wp2_with fail
  refine (num_ro _ r s _ hL hs h3).mono ?_
  rintro e w4 ⟨rfl, h4, hw4⟩
  have R4 := R3.wr hw4 nR
  have I4 := I3.wr hw4 nI
  have W4 : Hid (Wr r w w4) := W3.out.trans hw4
  clear hw4 R3 I3 W3 h3
  have c4_c0 := I4.at (i := 0) rfl
  have c4_f0 := I4.fr 0
  have c4_c1 := I4.at (i := 1) rfl
  have c4_f1 := I4.fr 1
  have c4_c2 := I4.at (i := 2) rfl
  have c4_f2 := I4.fr 2
  have c4_c3 := I4.at (i := 3) rfl
  have c4_f3 := I4.fr 3
  have c4_l := I4.lt
  have z_c0 : w4.cell? ⟨w.heap.size, 0, none⟩ = some (.int .i64 0) := R4.at rfl
  have z_f0 : w4.frozen? ⟨w.heap.size, 0, none⟩ = false := R4.fr 0
  have z_c1 : w4.cell? ⟨w.heap.size, 1, none⟩ = some (.int .i64 0) := R4.at rfl
  have z_f1 : w4.frozen? ⟨w.heap.size, 1, none⟩ = false := R4.fr 1
  have z_c2 : w4.cell? ⟨w.heap.size, 2, none⟩ = some (.int .i64 0) := R4.at rfl
  have z_f2 : w4.frozen? ⟨w.heap.size, 2, none⟩ = false := R4.fr 2
  have z_c3 : w4.cell? ⟨w.heap.size, 3, none⟩ = some (.int .i64 0) := R4.at rfl
  have z_f3 : w4.frozen? ⟨w.heap.size, 3, none⟩ = false := R4.fr 3
  have z_l := R4.lt
  clear R4 I4
  go_wp2
  (try simp only [Exit.inBlock, Exit.then])
  refine bodyPost_ret (v := .agg #[.int .i64 (-1), .int .i64 0, .int .i64 (locP s S).1, .int .i64 (numP s (expS s xEq (locP s S).2)).1]) ?_ rfl ⟨rfl, (((((h4.setFar mI _).setFar mR _).setFar mR _).setFar mR _).setFar mR _), (((((W4.out.setNew lN _).setNew (Nat.le_refl _) _).setNew (Nat.le_refl _) _).setNew (Nat.le_refl _) _).setNew (Nat.le_refl _) _)⟩
  rw [results_cell rfl]
  go_simp

include hL hs in
theorem ratom_ended {c e : Nat} (hS : S = .error (c, e)) (h : Ro w r s S) :
    Calls Tryz.prog 41 #[.pointer (some ⟨r, 0, none⟩)] w fun e w' => e = .returned (atomA ⟨-1, 0, (locP s S).1, (numP s (expS s xEq (locP s S).2)).1⟩) ∧ Ro w' r s (numP s (expS s xEq (locP s S).2)).2 ∧ Wr r w w' := by
  have hlt := h.lt
  have hx : ∀ o1 o2, Ro ((w.alloc o1).alloc o2) r s S := fun o1 o2 => (h.alloc o1).alloc o2
  have nR : w.heap.size ≠ r := by omega
  have nI : w.heap.size + 1 ≠ r := by omega
  have mR : r ≠ w.heap.size := by omega
  have mI : r ≠ w.heap.size + 1 := by omega
  have mN : w.heap.size ≠ w.heap.size + 1 := by omega
  have lN : w.heap.size ≤ w.heap.size + 1 := by omega
  clear h
  have HS : Hid (S = .error (c, e)) := hS
  clear hS
  go_enter Tryz.func41, Tryz.ntmps41
  go_wp2_with fail
  refine (look_er _ r s _ hL hs HS.out (hx _ _)).mono ?_
  rintro e w1 ⟨rfl, ⟨h1, hc, e6, lr⟩, hw1⟩
  have R1 : Bk w1 w.heap.size #[.int .i64 0, .int .i64 0, .int .i64 0, .int .i64 0] := ((Bk.new w _ _).alloc _).wr hw1 nR
  have I1 : Bk w1 (w.heap.size + 1) #[.int .i64 (-1), .int .i64 0, .int .i64 0, .int .i64 0] := (Bk.new2 w _ _ _).wr hw1 nI
  have W1 : Hid (Wr r w w1) := (((Wr.refl r w).alloc _).alloc _).trans hw1
  clear hw1 hx
  have hc0 : ((c : Int) == 0) = false := by rw [beq_eq_false_iff_ne]; omega
  clear hc
  go_wp2_with fail
  refine (loc_ro _ r s _ hL hs (h1.alloc _)).mono ?_
  rintro e w2 ⟨rfl, h2, hw2⟩
  have R2 : Bk w2 w.heap.size #[.int .i64 0, .int .i64 0, .int .i64 0, .int .i64 0] := (R1.alloc _).wr hw2 nR
  have I2 : Bk w2 (w.heap.size + 1) #[.int .i64 (-1), .int .i64 0, .int .i64 0, .int .i64 0] := (I1.alloc _).wr hw2 nI
  have W2 : Hid (Wr r w w2) := (W1.out.alloc _).trans hw2
  clear hw2 R1 I1 W1 h1
  have c2_c0 := I2.at (i := 0) rfl
  have c2_f0 := I2.fr 0
  have c2_c1 := I2.at (i := 1) rfl
  have c2_f1 := I2.fr 1
  have c2_c2 := I2.at (i := 2) rfl
  have c2_f2 := I2.fr 2
  have c2_c3 := I2.at (i := 3) rfl
  have c2_f3 := I2.fr 3
  have c2_l := I2.lt
  go_wp2_with fail
  refine (eat_ro _ r s _ hL hs xEq (ne_nil _ _) (nnEq s) (h2.setFar mI _)).mono ?_
  rintro e w3 ⟨rfl, h3, hw3⟩
  have R3 : Bk w3 w.heap.size #[.int .i64 0, .int .i64 0, .int .i64 0, .int .i64 0] := (R2.setFar mN _ _).wr hw3 nR
  have I3 : Bk w3 (w.heap.size + 1) #[.int .i64 (-1), .int .i64 0, .int .i64 (locP s S).1, .int .i64 0] := (I2.set 2 _).wr hw3 nI
  have W3 : Hid (Wr r w w3) := (W2.out.setNew lN _).trans hw3
  clear hw3 R2 I2 W2 h2 c2_c0 c2_f0 c2_c1 c2_f1 c2_c2 c2_f2 c2_c3 c2_f3 c2_l
  go_wp2_with fail
  refine (num_ro _ r s _ hL hs h3).mono ?_
  rintro e w4 ⟨rfl, h4, hw4⟩
  have R4 := R3.wr hw4 nR
  have I4 := I3.wr hw4 nI
  have W4 : Hid (Wr r w w4) := W3.out.trans hw4
  clear hw4 R3 I3 W3 h3
  have c4_c0 := I4.at (i := 0) rfl
  have c4_f0 := I4.fr 0
  have c4_c1 := I4.at (i := 1) rfl
  have c4_f1 := I4.fr 1
  have c4_c2 := I4.at (i := 2) rfl
  have c4_f2 := I4.fr 2
  have c4_c3 := I4.at (i := 3) rfl
  have c4_f3 := I4.fr 3
  have c4_l := I4.lt
  have z_c0 : w4.cell? ⟨w.heap.size, 0, none⟩ = some (.int .i64 0) := R4.at rfl
  have z_f0 : w4.frozen? ⟨w.heap.size, 0, none⟩ = false := R4.fr 0
  have z_c1 : w4.cell? ⟨w.heap.size, 1, none⟩ = some (.int .i64 0) := R4.at rfl
  have z_f1 : w4.frozen? ⟨w.heap.size, 1, none⟩ = false := R4.fr 1
  have z_c2 : w4.cell? ⟨w.heap.size, 2, none⟩ = some (.int .i64 0) := R4.at rfl
  have z_f2 : w4.frozen? ⟨w.heap.size, 2, none⟩ = false := R4.fr 2
  have z_c3 : w4.cell? ⟨w.heap.size, 3, none⟩ = some (.int .i64 0) := R4.at rfl
  have z_f3 : w4.frozen? ⟨w.heap.size, 3, none⟩ = false := R4.fr 3
  have z_l := R4.lt
  clear R4 I4
  go_wp2
  (try simp only [Exit.inBlock, Exit.then])
  refine bodyPost_ret (v := .agg #[.int .i64 (-1), .int .i64 0, .int .i64 (locP s S).1, .int .i64 (numP s (expS s xEq (locP s S).2)).1]) ?_ rfl ⟨rfl, (((((h4.setFar mI _).setFar mR _).setFar mR _).setFar mR _).setFar mR _), (((((W4.out.setNew lN _).setNew (Nat.le_refl _) _).setNew (Nat.le_refl _) _).setNew (Nat.le_refl _) _).setNew (Nat.le_refl _) _)⟩
  rw [results_cell rfl]
  go_simp

end
end Go.Proofs.YtacflahkofmcpaaGreatDoor
