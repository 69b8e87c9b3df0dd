/- The document's After. -/
import Derived.Test.YtioiabfheeglgaaGreatDoorJ14RNext
import Derived.Laws.BitsAllLaws
import Derived.IntWalk
namespace Go.Proofs.YtioiabfheeglgaaGreatDoor
open Go.RowKit

theorem next_some {L : List InsT} {l : LocT} {x : InsT} (h : nextP L l = some x) : ∃ n : Nat, l.pc = (n : Int) ∧ L[n]? = some x ∧ seenB x.k = true := by
 unfold nextP at h
 split at h
 ·
  rename_i h0
  cases hx : L[l.pc.toNat]? with
  | none => rw [hx] at h; cases h
  | some y =>
   rw [hx] at h
   simp only at h
   split at h
   ·
    rename_i hs
    have : y = x := Option.some.inj h
    subst this
    exact ⟨l.pc.toNat, by omega, hx, hs⟩
   ·
    cases h
 ·
  cases h
set_option maxHeartbeats 8000000 in
set_option maxRecDepth 8000 in
theorem rafter_is (LL : List (List InsT)) (t : Int) (l : LocT) (rv : Int) (v : Value) (w : World) (h : ProgRd w v LL) (hf : ∀ L ∈ LL, fineL L) :
  Calls Tryz.prog 39 #[v, .int .i64 t, locV l, .int .i64 rv] w fun e w' => e = .returned (locV (afterP (threadP LL t) l rv)) ∧ On w w' := by
 have hN := fun W (k : On w W) => rnext_is LL t l v W (h.on k) hf
 have hNo := fun (k : Nat) (L : List InsT) (hL : LL[k]? = some L) (hm : L ∈ LL) (l0 : LocT) (h0 : 0 ≤ l0.pc) W (kk : On w W) => rnormal_is LL k L l0 v W (h.on kk) hL h0 (fun i x hx => (hf L hm i x hx).1)
 obtain ⟨a1, m1, c1, a2, m2, c2, a, c, rfl, r⟩ := h
 have hml : ∀ (k : Nat) (L : List InsT), LL[k]? = some L → L.length ≤ 9223372036854775807 := fun k L hL => by
  obtain ⟨_, _, _, _, _, _, _, hm, _⟩ := r.row hL
  exact hm
 clear r
 obtain ⟨pc, r0, r1, r2, r3⟩ := l
 obtain ⟨R, hR0⟩ : ∃ R, R = locV (afterP (threadP LL t) ⟨pc, r0, r1, r2, r3⟩ rv) := ⟨_, rfl⟩
 rw [← hR0]
 unfold locV at hN
 simp only at hN
 show Calls Tryz.prog 39 #[.agg #[.slice a1 m1 c1, .slice a2 m2 c2, .slice a LL.length c], .int .i64 t, .agg #[.int .i64 pc, .int .i64 r0, .int .i64 r1, .int .i64 r2, .int .i64 r3], .int .i64 rv] w _
 unfold afterP at hR0
 obtain ⟨W0, hW0⟩ : ∃ W0, W0 = ((w.alloc (.cells #[.slice a1 m1 c1, .slice a2 m2 c2, .slice a LL.length c] 27)).alloc (.cells #[.int .i64 pc, .int .i64 r0, .int .i64 r1, .int .i64 r2, .int .i64 r3] 73)).alloc (.cells #[.int .i64 0, .int .i64 0, .int .i64 0, .int .i64 0, .int .i64 0] 73) := ⟨_, rfl⟩
 have K0 : On w W0 := by rw [hW0]; exact (((On.refl w).alloc _).alloc _).alloc _
 have PB : Bk W0 w.heap.size #[.slice a1 m1 c1, .slice a2 m2 c2, .slice a LL.length c] := by rw [hW0]; exact ((Bk.new w _ _).alloc _).alloc _
 have CB : Bk W0 (w.heap.size + 1) #[.int .i64 pc, .int .i64 r0, .int .i64 r1, .int .i64 r2, .int .i64 r3] := by
  rw [hW0]
  have := (Bk.new (w.alloc (.cells #[.slice a1 m1 c1, .slice a2 m2 c2, .slice a LL.length c] 27)) #[.int .i64 pc, .int .i64 r0, .int .i64 r1, .int .i64 r2, .int .i64 r3] 73).alloc (.cells #[.int .i64 0, .int .i64 0, .int .i64 0, .int .i64 0, .int .i64 0] 73)
  rwa [World.size_alloc] at this
 have ZB : Bk W0 (w.heap.size + 1 + 1) #[.int .i64 0, .int .i64 0, .int .i64 0, .int .i64 0, .int .i64 0] := by
  rw [hW0]
  have := Bk.new ((w.alloc (.cells #[.slice a1 m1 c1, .slice a2 m2 c2, .slice a LL.length c] 27)).alloc (.cells #[.int .i64 pc, .int .i64 r0, .int .i64 r1, .int .i64 r2, .int .i64 r3] 73)) #[.int .i64 0, .int .i64 0, .int .i64 0, .int .i64 0, .int .i64 0] 73
  rwa [World.size_alloc, World.size_alloc] at this
 cases hx : nextP (threadP LL t) ⟨pc, r0, r1, r2, r3⟩ with
 | none =>
  rw [hx] at hN hR0
  have hN1 := hN _ K0
  rw [hW0] at hN1
  simp only [nextV, Option.getD_none, Option.isSome_none] at hN1
  unfold insV insZ at hN1
  simp only at hN1
  obtain rfl : R = .agg #[.int .i64 pc, .int .i64 r0, .int .i64 r1, .int .i64 r2, .int .i64 r3] := hR0
  clear hN hNo hx hml
  go_enter Tryz.func39, Tryz.ntmps39
  go_wp2_with fail
  refine hN1.mono ?_
  rw [← hW0]
  rintro _ w1 ⟨rfl, k1⟩
  have C1 := CB.on k1
  have Z1 := ZB.on k1
  have O1 : On w w1 := K0.trans k1
  have zf := fun i => Z1.fr i
  have z0 := Z1.at (i := 0) rfl
  have z1 := Z1.at (i := 1) rfl
  have z2 := Z1.at (i := 2) rfl
  have z3 := Z1.at (i := 3) rfl
  have z4 := Z1.at (i := 4) rfl
  have zl := Z1.lt
  have c0' := C1.at (i := 0) rfl
  have c1' := C1.at (i := 1) rfl
  have c2' := C1.at (i := 2) rfl
  have c3' := C1.at (i := 3) rfl
  have c4' := C1.at (i := 4) rfl
  have cf := fun i => C1.fr i
  have cl' := C1.lt
  go_wp2
  refine bodyPost_ret (v := .agg #[.int .i64 pc, .int .i64 r0, .int .i64 r1, .int .i64 r2, .int .i64 r3]) ?_ rfl ⟨rfl, ?_⟩
  ·
   rw [results_cell rfl]
   go_simp
  ·
   repeat' (first | with_reducible refine On.setNew ?_ (by omega) _ | with_reducible exact O1 | with_reducible refine On.alloc ?_ _ | with_reducible refine On.drew ?_)
 | some x =>
  rw [hx] at hN hR0
  have hN1 := hN _ K0
  rw [hW0] at hN1
  simp only [nextV, Option.getD_some, Option.isSome_some] at hN1
  unfold insV at hN1
  obtain ⟨n, rfl, hxn, hseen⟩ := next_some hx
  cases hb : thereB LL t with
  | false => rw [there_none LL t hb] at hxn; simp at hxn
  | true =>
   obtain ⟨k, L, rfl, hk, hL, e, hm⟩ := there_some LL t hb
   rw [e] at hxn hR0
   have hlt : n < L.length := (List.getElem?_eq_some_iff.1 hxn).1
   have hLm := hml k L hL
   have hreg := (hf L hm n x hxn).2.2
   clear hN hx hb e hf hml
   have hS : ∀ s0 s1 s2 s3 : Int, stepTo x ⟨(n : Int), r0, r1, r2, r3⟩ rv = ⟨((n : Int) + 1), s0, s1, s2, s3⟩ → ∀ W, On w W → Calls Tryz.prog 54 #[.agg #[.slice a1 m1 c1, .slice a2 m2 c2, .slice a LL.length c], .int .i64 (k : Int), .agg #[.int .i64 ((n : Int) + 1), .int .i64 s0, .int .i64 s1, .int .i64 s2, .int .i64 s3]] W fun e w' => e = .returned (locV (settleP L (stepTo x ⟨(n : Int), r0, r1, r2, r3⟩ rv))) ∧ On W w' := fun s0 s1 s2 s3 es W kk => by
    rw [es]
    exact hNo k L hL hm ⟨((n : Int) + 1), s0, s1, s2, s3⟩ (by show 0 ≤ (n : Int) + 1; omega) W kk
   obtain ⟨⟨f0, f1, f2, f3, f4⟩, hR⟩ : ∃ R, settleP L (stepTo x ⟨(n : Int), r0, r1, r2, r3⟩ rv) = R := ⟨_, rfl⟩
   rw [hR] at hS
   unfold locV at hS
   simp only at hS
   obtain rfl : R = .agg #[.int .i64 f0, .int .i64 f1, .int .i64 f2, .int .i64 f3, .int .i64 f4] := by
    rw [hR0]
    show locV (settleP L (stepTo x ⟨(n : Int), r0, r1, r2, r3⟩ rv)) = _
    rw [hR]
    rfl
   clear hR hR0 hNo hL hm hxn
   cases hrd : readB x.k with
   | false =>
    have es : stepTo x ⟨(n : Int), r0, r1, r2, r3⟩ rv = ⟨((n : Int) + 1), r0, r1, r2, r3⟩ := by unfold stepTo; rw [hrd]; rfl
    have hS1 := hS _ _ _ _ es
    unfold readB at hrd
    have hk2 : (x.k == 2) = false := by revert hrd; cases (x.k == 2) <;> simp
    have hk4 : (x.k == 4) = false := by revert hrd; cases (x.k == 4) <;> simp
    clear hS es hrd hreg hseen
    go_enter Tryz.func39, Tryz.ntmps39
    go_wp2_with fail
    refine hN1.mono ?_
    rw [← hW0]
    rintro _ w1 ⟨rfl, k1⟩
    have P1 := PB.on k1
    have C1 := CB.on k1
    have Z1 := ZB.on k1
    have O1 : On w w1 := K0.trans k1
    have hw1 : w.heap.size + 1 + 1 < w1.heap.size := Z1.lt
    have hne : ¬ w1.heap.size = w.heap.size + 1 := by omega
    have c0' := C1.at (i := 0) rfl
    have c1' := C1.at (i := 1) rfl
    have c2' := C1.at (i := 2) rfl
    have c3' := C1.at (i := 3) rfl
    have c4' := C1.at (i := 4) rfl
    have cf := fun i => C1.fr i
    have cl' := C1.lt
    have p0' := P1.at (i := 0) rfl
    have p1' := P1.at (i := 1) rfl
    have p2' := P1.at (i := 2) rfl
    have pl' := P1.lt
    clear hN1 hW0
    go_wp2_with fail
    have O2 : On w ((w1.setCell ⟨w.heap.size + 1, 0, none⟩ (.int .i64 ((n : Int) + 1))).alloc (.cells #[.int .i64 x.k, .int .i64 x.r, .int .i64 x.l, .int .i64 x.a.r, .int .i64 x.a.v, .int .i64 x.o, .int .i64 x.b.r, .int .i64 x.b.v, .int .i64 x.n] 67)) := (O1.setNew (by omega) _).alloc _
    refine (hS1 _ O2).mono ?_
    rintro _ w2 ⟨rfl, k2⟩
    have Z2 := ((Z1.far (N := w.heap.size + 1) (by omega) 0 (.int .i64 ((n : Int) + 1))).alloc (.cells #[.int .i64 x.k, .int .i64 x.r, .int .i64 x.l, .int .i64 x.a.r, .int .i64 x.a.v, .int .i64 x.o, .int .i64 x.b.r, .int .i64 x.b.v, .int .i64 x.n] 67)).on k2
    have O3 := O2.trans k2
    have zf := fun i => Z2.fr i
    have z0 := Z2.at (i := 0) rfl
    have z1 := Z2.at (i := 1) rfl
    have z2 := Z2.at (i := 2) rfl
    have z3 := Z2.at (i := 3) rfl
    have z4 := Z2.at (i := 4) rfl
    have zl := Z2.lt
    go_wp2
    refine bodyPost_ret (v := .agg #[.int .i64 f0, .int .i64 f1, .int .i64 f2, .int .i64 f3, .int .i64 f4]) ?_ rfl ⟨rfl, ?_⟩
    ·
     rw [results_cell rfl]
     go_simp
    ·
     repeat' (first | with_reducible refine On.setNew ?_ (by omega) _ | with_reducible exact O3 | with_reducible refine On.alloc ?_ _ | with_reducible refine On.drew ?_)
   | true =>
    have hrk : x.k = 2 ∨ x.k = 4 := by unfold readB at hrd; simpa using hrd
    have hok := hreg hrk
    rcases regOk_four hok with hr | hr | hr | hr
    ·
     have es : stepTo x ⟨(n : Int), r0, r1, r2, r3⟩ rv = ⟨((n : Int) + 1), rv, r1, r2, r3⟩ := by unfold stepTo; rw [hrd, hr]; rfl
     have hS1 := hS _ _ _ _ es
     clear hS es hrd hreg hseen hok
     rcases hrk with hq | hq
     ·
      have hk2 : (x.k == 2) = true := by simpa using hq
      clear hq
      go_enter Tryz.func39, Tryz.ntmps39
      go_wp2_with fail
      refine hN1.mono ?_
      rw [← hW0]
      rintro _ w1 ⟨rfl, k1⟩
      have P1 := PB.on k1
      have C1 := CB.on k1
      have Z1 := ZB.on k1
      have O1 : On w w1 := K0.trans k1
      have hw1 : w.heap.size + 1 + 1 < w1.heap.size := Z1.lt
      have hne : ¬ w1.heap.size = w.heap.size + 1 := by omega
      have c0' := C1.at (i := 0) rfl
      have c1' := C1.at (i := 1) rfl
      have c2' := C1.at (i := 2) rfl
      have c3' := C1.at (i := 3) rfl
      have c4' := C1.at (i := 4) rfl
      have cf := fun i => C1.fr i
      have cl' := C1.lt
      have p0' := P1.at (i := 0) rfl
      have p1' := P1.at (i := 1) rfl
      have p2' := P1.at (i := 2) rfl
      have pl' := P1.lt
      clear hN1 hW0
      go_wp2_with fail
      have O2 : On w (((w1.setCell ⟨w.heap.size + 1, 1, none⟩ (.int .i64 rv)).setCell ⟨w.heap.size + 1, 0, none⟩ (.int .i64 ((n : Int) + 1))).alloc (.cells #[.int .i64 x.k, .int .i64 0, .int .i64 x.l, .int .i64 x.a.r, .int .i64 x.a.v, .int .i64 x.o, .int .i64 x.b.r, .int .i64 x.b.v, .int .i64 x.n] 67)) := ((O1.setNew (by omega) _).setNew (by omega) _).alloc _
      refine (hS1 _ O2).mono ?_
      rintro _ w2 ⟨rfl, k2⟩
      have Z2 := (((Z1.far (N := w.heap.size + 1) (by omega) 1 (.int .i64 rv)).far (N := w.heap.size + 1) (by omega) 0 (.int .i64 ((n : Int) + 1))).alloc (.cells #[.int .i64 x.k, .int .i64 0, .int .i64 x.l, .int .i64 x.a.r, .int .i64 x.a.v, .int .i64 x.o, .int .i64 x.b.r, .int .i64 x.b.v, .int .i64 x.n] 67)).on k2
      have O3 := O2.trans k2
      have zf := fun i => Z2.fr i
      have z0 := Z2.at (i := 0) rfl
      have z1 := Z2.at (i := 1) rfl
      have z2 := Z2.at (i := 2) rfl
      have z3 := Z2.at (i := 3) rfl
      have z4 := Z2.at (i := 4) rfl
      have zl := Z2.lt
      go_wp2
      refine bodyPost_ret (v := .agg #[.int .i64 f0, .int .i64 f1, .int .i64 f2, .int .i64 f3, .int .i64 f4]) ?_ rfl ⟨rfl, ?_⟩
      ·
       rw [results_cell rfl]
       go_simp
      ·
       repeat' (first | with_reducible refine On.setNew ?_ (by omega) _ | with_reducible exact O3 | with_reducible refine On.alloc ?_ _ | with_reducible refine On.drew ?_)
     ·
      have hk2 : (x.k == 2) = false := by rw [hq]; rfl
      have hk4 : (x.k == 4) = true := by simpa using hq
      clear hq
      go_enter Tryz.func39, Tryz.ntmps39
      go_wp2_with fail
      refine hN1.mono ?_
      rw [← hW0]
      rintro _ w1 ⟨rfl, k1⟩
      have P1 := PB.on k1
      have C1 := CB.on k1
      have Z1 := ZB.on k1
      have O1 : On w w1 := K0.trans k1
      have hw1 : w.heap.size + 1 + 1 < w1.heap.size := Z1.lt
      have hne : ¬ w1.heap.size = w.heap.size + 1 := by omega
      have c0' := C1.at (i := 0) rfl
      have c1' := C1.at (i := 1) rfl
      have c2' := C1.at (i := 2) rfl
      have c3' := C1.at (i := 3) rfl
      have c4' := C1.at (i := 4) rfl
      have cf := fun i => C1.fr i
      have cl' := C1.lt
      have p0' := P1.at (i := 0) rfl
      have p1' := P1.at (i := 1) rfl
      have p2' := P1.at (i := 2) rfl
      have pl' := P1.lt
      clear hN1 hW0
      go_wp2_with fail
      have O2 : On w (((w1.setCell ⟨w.heap.size + 1, 1, none⟩ (.int .i64 rv)).setCell ⟨w.heap.size + 1, 0, none⟩ (.int .i64 ((n : Int) + 1))).alloc (.cells #[.int .i64 x.k, .int .i64 0, .int .i64 x.l, .int .i64 x.a.r, .int .i64 x.a.v, .int .i64 x.o, .int .i64 x.b.r, .int .i64 x.b.v, .int .i64 x.n] 67)) := ((O1.setNew (by omega) _).setNew (by omega) _).alloc _
      refine (hS1 _ O2).mono ?_
      rintro _ w2 ⟨rfl, k2⟩
      have Z2 := (((Z1.far (N := w.heap.size + 1) (by omega) 1 (.int .i64 rv)).far (N := w.heap.size + 1) (by omega) 0 (.int .i64 ((n : Int) + 1))).alloc (.cells #[.int .i64 x.k, .int .i64 0, .int .i64 x.l, .int .i64 x.a.r, .int .i64 x.a.v, .int .i64 x.o, .int .i64 x.b.r, .int .i64 x.b.v, .int .i64 x.n] 67)).on k2
      have O3 := O2.trans k2
      have zf := fun i => Z2.fr i
      have z0 := Z2.at (i := 0) rfl
      have z1 := Z2.at (i := 1) rfl
      have z2 := Z2.at (i := 2) rfl
      have z3 := Z2.at (i := 3) rfl
      have z4 := Z2.at (i := 4) rfl
      have zl := Z2.lt
      go_wp2
      refine bodyPost_ret (v := .agg #[.int .i64 f0, .int .i64 f1, .int .i64 f2, .int .i64 f3, .int .i64 f4]) ?_ rfl ⟨rfl, ?_⟩
      ·
       rw [results_cell rfl]
       go_simp
      ·
       repeat' (first | with_reducible refine On.setNew ?_ (by omega) _ | with_reducible exact O3 | with_reducible refine On.alloc ?_ _ | with_reducible refine On.drew ?_)
    ·
     have es : stepTo x ⟨(n : Int), r0, r1, r2, r3⟩ rv = ⟨((n : Int) + 1), r0, rv, r2, r3⟩ := by unfold stepTo; rw [hrd, hr]; rfl
     have hS1 := hS _ _ _ _ es
     clear hS es hrd hreg hseen hok
     rcases hrk with hq | hq
     ·
      have hk2 : (x.k == 2) = true := by simpa using hq
      clear hq
      go_enter Tryz.func39, Tryz.ntmps39
      go_wp2_with fail
      refine hN1.mono ?_
      rw [← hW0]
      rintro _ w1 ⟨rfl, k1⟩
      have P1 := PB.on k1
      have C1 := CB.on k1
      have Z1 := ZB.on k1
      have O1 : On w w1 := K0.trans k1
      have hw1 : w.heap.size + 1 + 1 < w1.heap.size := Z1.lt
      have hne : ¬ w1.heap.size = w.heap.size + 1 := by omega
      have c0' := C1.at (i := 0) rfl
      have c1' := C1.at (i := 1) rfl
      have c2' := C1.at (i := 2) rfl
      have c3' := C1.at (i := 3) rfl
      have c4' := C1.at (i := 4) rfl
      have cf := fun i => C1.fr i
      have cl' := C1.lt
      have p0' := P1.at (i := 0) rfl
      have p1' := P1.at (i := 1) rfl
      have p2' := P1.at (i := 2) rfl
      have pl' := P1.lt
      clear hN1 hW0
      go_wp2_with fail
      have O2 : On w (((w1.setCell ⟨w.heap.size + 1, 2, none⟩ (.int .i64 rv)).setCell ⟨w.heap.size + 1, 0, none⟩ (.int .i64 ((n : Int) + 1))).alloc (.cells #[.int .i64 x.k, .int .i64 1, .int .i64 x.l, .int .i64 x.a.r, .int .i64 x.a.v, .int .i64 x.o, .int .i64 x.b.r, .int .i64 x.b.v, .int .i64 x.n] 67)) := ((O1.setNew (by omega) _).setNew (by omega) _).alloc _
      refine (hS1 _ O2).mono ?_
      rintro _ w2 ⟨rfl, k2⟩
      have Z2 := (((Z1.far (N := w.heap.size + 1) (by omega) 2 (.int .i64 rv)).far (N := w.heap.size + 1) (by omega) 0 (.int .i64 ((n : Int) + 1))).alloc (.cells #[.int .i64 x.k, .int .i64 1, .int .i64 x.l, .int .i64 x.a.r, .int .i64 x.a.v, .int .i64 x.o, .int .i64 x.b.r, .int .i64 x.b.v, .int .i64 x.n] 67)).on k2
      have O3 := O2.trans k2
      have zf := fun i => Z2.fr i
      have z0 := Z2.at (i := 0) rfl
      have z1 := Z2.at (i := 1) rfl
      have z2 := Z2.at (i := 2) rfl
      have z3 := Z2.at (i := 3) rfl
      have z4 := Z2.at (i := 4) rfl
      have zl := Z2.lt
      go_wp2
      refine bodyPost_ret (v := .agg #[.int .i64 f0, .int .i64 f1, .int .i64 f2, .int .i64 f3, .int .i64 f4]) ?_ rfl ⟨rfl, ?_⟩
      ·
       rw [results_cell rfl]
       go_simp
      ·
       repeat' (first | with_reducible refine On.setNew ?_ (by omega) _ | with_reducible exact O3 | with_reducible refine On.alloc ?_ _ | with_reducible refine On.drew ?_)
     ·
      have hk2 : (x.k == 2) = false := by rw [hq]; rfl
      have hk4 : (x.k == 4) = true := by simpa using hq
      clear hq
      go_enter Tryz.func39, Tryz.ntmps39
      go_wp2_with fail
      refine hN1.mono ?_
      rw [← hW0]
      rintro _ w1 ⟨rfl, k1⟩
      have P1 := PB.on k1
      have C1 := CB.on k1
      have Z1 := ZB.on k1
      have O1 : On w w1 := K0.trans k1
      have hw1 : w.heap.size + 1 + 1 < w1.heap.size := Z1.lt
      have hne : ¬ w1.heap.size = w.heap.size + 1 := by omega
      have c0' := C1.at (i := 0) rfl
      have c1' := C1.at (i := 1) rfl
      have c2' := C1.at (i := 2) rfl
      have c3' := C1.at (i := 3) rfl
      have c4' := C1.at (i := 4) rfl
      have cf := fun i => C1.fr i
      have cl' := C1.lt
      have p0' := P1.at (i := 0) rfl
      have p1' := P1.at (i := 1) rfl
      have p2' := P1.at (i := 2) rfl
      have pl' := P1.lt
      clear hN1 hW0
      go_wp2_with fail
      have O2 : On w (((w1.setCell ⟨w.heap.size + 1, 2, none⟩ (.int .i64 rv)).setCell ⟨w.heap.size + 1, 0, none⟩ (.int .i64 ((n : Int) + 1))).alloc (.cells #[.int .i64 x.k, .int .i64 1, .int .i64 x.l, .int .i64 x.a.r, .int .i64 x.a.v, .int .i64 x.o, .int .i64 x.b.r, .int .i64 x.b.v, .int .i64 x.n] 67)) := ((O1.setNew (by omega) _).setNew (by omega) _).alloc _
      refine (hS1 _ O2).mono ?_
      rintro _ w2 ⟨rfl, k2⟩
      have Z2 := (((Z1.far (N := w.heap.size + 1) (by omega) 2 (.int .i64 rv)).far (N := w.heap.size + 1) (by omega) 0 (.int .i64 ((n : Int) + 1))).alloc (.cells #[.int .i64 x.k, .int .i64 1, .int .i64 x.l, .int .i64 x.a.r, .int .i64 x.a.v, .int .i64 x.o, .int .i64 x.b.r, .int .i64 x.b.v, .int .i64 x.n] 67)).on k2
      have O3 := O2.trans k2
      have zf := fun i => Z2.fr i
      have z0 := Z2.at (i := 0) rfl
      have z1 := Z2.at (i := 1) rfl
      have z2 := Z2.at (i := 2) rfl
      have z3 := Z2.at (i := 3) rfl
      have z4 := Z2.at (i := 4) rfl
      have zl := Z2.lt
      go_wp2
      refine bodyPost_ret (v := .agg #[.int .i64 f0, .int .i64 f1, .int .i64 f2, .int .i64 f3, .int .i64 f4]) ?_ rfl ⟨rfl, ?_⟩
      ·
       rw [results_cell rfl]
       go_simp
      ·
       repeat' (first | with_reducible refine On.setNew ?_ (by omega) _ | with_reducible exact O3 | with_reducible refine On.alloc ?_ _ | with_reducible refine On.drew ?_)
    ·
     have es : stepTo x ⟨(n : Int), r0, r1, r2, r3⟩ rv = ⟨((n : Int) + 1), r0, r1, rv, r3⟩ := by unfold stepTo; rw [hrd, hr]; rfl
     have hS1 := hS _ _ _ _ es
     clear hS es hrd hreg hseen hok
     rcases hrk with hq | hq
     ·
      have hk2 : (x.k == 2) = true := by simpa using hq
      clear hq
      go_enter Tryz.func39, Tryz.ntmps39
      go_wp2_with fail
      refine hN1.mono ?_
      rw [← hW0]
      rintro _ w1 ⟨rfl, k1⟩
      have P1 := PB.on k1
      have C1 := CB.on k1
      have Z1 := ZB.on k1
      have O1 : On w w1 := K0.trans k1
      have hw1 : w.heap.size + 1 + 1 < w1.heap.size := Z1.lt
      have hne : ¬ w1.heap.size = w.heap.size + 1 := by omega
      have c0' := C1.at (i := 0) rfl
      have c1' := C1.at (i := 1) rfl
      have c2' := C1.at (i := 2) rfl
      have c3' := C1.at (i := 3) rfl
      have c4' := C1.at (i := 4) rfl
      have cf := fun i => C1.fr i
      have cl' := C1.lt
      have p0' := P1.at (i := 0) rfl
      have p1' := P1.at (i := 1) rfl
      have p2' := P1.at (i := 2) rfl
      have pl' := P1.lt
      clear hN1 hW0
      go_wp2_with fail
      have O2 : On w (((w1.setCell ⟨w.heap.size + 1, 3, none⟩ (.int .i64 rv)).setCell ⟨w.heap.size + 1, 0, none⟩ (.int .i64 ((n : Int) + 1))).alloc (.cells #[.int .i64 x.k, .int .i64 2, .int .i64 x.l, .int .i64 x.a.r, .int .i64 x.a.v, .int .i64 x.o, .int .i64 x.b.r, .int .i64 x.b.v, .int .i64 x.n] 67)) := ((O1.setNew (by omega) _).setNew (by omega) _).alloc _
      refine (hS1 _ O2).mono ?_
      rintro _ w2 ⟨rfl, k2⟩
      have Z2 := (((Z1.far (N := w.heap.size + 1) (by omega) 3 (.int .i64 rv)).far (N := w.heap.size + 1) (by omega) 0 (.int .i64 ((n : Int) + 1))).alloc (.cells #[.int .i64 x.k, .int .i64 2, .int .i64 x.l, .int .i64 x.a.r, .int .i64 x.a.v, .int .i64 x.o, .int .i64 x.b.r, .int .i64 x.b.v, .int .i64 x.n] 67)).on k2
      have O3 := O2.trans k2
      have zf := fun i => Z2.fr i
      have z0 := Z2.at (i := 0) rfl
      have z1 := Z2.at (i := 1) rfl
      have z2 := Z2.at (i := 2) rfl
      have z3 := Z2.at (i := 3) rfl
      have z4 := Z2.at (i := 4) rfl
      have zl := Z2.lt
      go_wp2
      refine bodyPost_ret (v := .agg #[.int .i64 f0, .int .i64 f1, .int .i64 f2, .int .i64 f3, .int .i64 f4]) ?_ rfl ⟨rfl, ?_⟩
      ·
       rw [results_cell rfl]
       go_simp
      ·
       repeat' (first | with_reducible refine On.setNew ?_ (by omega) _ | with_reducible exact O3 | with_reducible refine On.alloc ?_ _ | with_reducible refine On.drew ?_)
     ·
      have hk2 : (x.k == 2) = false := by rw [hq]; rfl
      have hk4 : (x.k == 4) = true := by simpa using hq
      clear hq
      go_enter Tryz.func39, Tryz.ntmps39
      go_wp2_with fail
      refine hN1.mono ?_
      rw [← hW0]
      rintro _ w1 ⟨rfl, k1⟩
      have P1 := PB.on k1
      have C1 := CB.on k1
      have Z1 := ZB.on k1
      have O1 : On w w1 := K0.trans k1
      have hw1 : w.heap.size + 1 + 1 < w1.heap.size := Z1.lt
      have hne : ¬ w1.heap.size = w.heap.size + 1 := by omega
      have c0' := C1.at (i := 0) rfl
      have c1' := C1.at (i := 1) rfl
      have c2' := C1.at (i := 2) rfl
      have c3' := C1.at (i := 3) rfl
      have c4' := C1.at (i := 4) rfl
      have cf := fun i => C1.fr i
      have cl' := C1.lt
      have p0' := P1.at (i := 0) rfl
      have p1' := P1.at (i := 1) rfl
      have p2' := P1.at (i := 2) rfl
      have pl' := P1.lt
      clear hN1 hW0
      go_wp2_with fail
      have O2 : On w (((w1.setCell ⟨w.heap.size + 1, 3, none⟩ (.int .i64 rv)).setCell ⟨w.heap.size + 1, 0, none⟩ (.int .i64 ((n : Int) + 1))).alloc (.cells #[.int .i64 x.k, .int .i64 2, .int .i64 x.l, .int .i64 x.a.r, .int .i64 x.a.v, .int .i64 x.o, .int .i64 x.b.r, .int .i64 x.b.v, .int .i64 x.n] 67)) := ((O1.setNew (by omega) _).setNew (by omega) _).alloc _
      refine (hS1 _ O2).mono ?_
      rintro _ w2 ⟨rfl, k2⟩
      have Z2 := (((Z1.far (N := w.heap.size + 1) (by omega) 3 (.int .i64 rv)).far (N := w.heap.size + 1) (by omega) 0 (.int .i64 ((n : Int) + 1))).alloc (.cells #[.int .i64 x.k, .int .i64 2, .int .i64 x.l, .int .i64 x.a.r, .int .i64 x.a.v, .int .i64 x.o, .int .i64 x.b.r, .int .i64 x.b.v, .int .i64 x.n] 67)).on k2
      have O3 := O2.trans k2
      have zf := fun i => Z2.fr i
      have z0 := Z2.at (i := 0) rfl
      have z1 := Z2.at (i := 1) rfl
      have z2 := Z2.at (i := 2) rfl
      have z3 := Z2.at (i := 3) rfl
      have z4 := Z2.at (i := 4) rfl
      have zl := Z2.lt
      go_wp2
      refine bodyPost_ret (v := .agg #[.int .i64 f0, .int .i64 f1, .int .i64 f2, .int .i64 f3, .int .i64 f4]) ?_ rfl ⟨rfl, ?_⟩
      ·
       rw [results_cell rfl]
       go_simp
      ·
       repeat' (first | with_reducible refine On.setNew ?_ (by omega) _ | with_reducible exact O3 | with_reducible refine On.alloc ?_ _ | with_reducible refine On.drew ?_)
    ·
     have es : stepTo x ⟨(n : Int), r0, r1, r2, r3⟩ rv = ⟨((n : Int) + 1), r0, r1, r2, rv⟩ := by unfold stepTo; rw [hrd, hr]; rfl
     have hS1 := hS _ _ _ _ es
     clear hS es hrd hreg hseen hok
     rcases hrk with hq | hq
     ·
      have hk2 : (x.k == 2) = true := by simpa using hq
      clear hq
      go_enter Tryz.func39, Tryz.ntmps39
      go_wp2_with fail
      refine hN1.mono ?_
      rw [← hW0]
      rintro _ w1 ⟨rfl, k1⟩
      have P1 := PB.on k1
      have C1 := CB.on k1
      have Z1 := ZB.on k1
      have O1 : On w w1 := K0.trans k1
      have hw1 : w.heap.size + 1 + 1 < w1.heap.size := Z1.lt
      have hne : ¬ w1.heap.size = w.heap.size + 1 := by omega
      have c0' := C1.at (i := 0) rfl
      have c1' := C1.at (i := 1) rfl
      have c2' := C1.at (i := 2) rfl
      have c3' := C1.at (i := 3) rfl
      have c4' := C1.at (i := 4) rfl
      have cf := fun i => C1.fr i
      have cl' := C1.lt
      have p0' := P1.at (i := 0) rfl
      have p1' := P1.at (i := 1) rfl
      have p2' := P1.at (i := 2) rfl
      have pl' := P1.lt
      clear hN1 hW0
      go_wp2_with fail
      have O2 : On w (((w1.setCell ⟨w.heap.size + 1, 4, none⟩ (.int .i64 rv)).setCell ⟨w.heap.size + 1, 0, none⟩ (.int .i64 ((n : Int) + 1))).alloc (.cells #[.int .i64 x.k, .int .i64 3, .int .i64 x.l, .int .i64 x.a.r, .int .i64 x.a.v, .int .i64 x.o, .int .i64 x.b.r, .int .i64 x.b.v, .int .i64 x.n] 67)) := ((O1.setNew (by omega) _).setNew (by omega) _).alloc _
      refine (hS1 _ O2).mono ?_
      rintro _ w2 ⟨rfl, k2⟩
      have Z2 := (((Z1.far (N := w.heap.size + 1) (by omega) 4 (.int .i64 rv)).far (N := w.heap.size + 1) (by omega) 0 (.int .i64 ((n : Int) + 1))).alloc (.cells #[.int .i64 x.k, .int .i64 3, .int .i64 x.l, .int .i64 x.a.r, .int .i64 x.a.v, .int .i64 x.o, .int .i64 x.b.r, .int .i64 x.b.v, .int .i64 x.n] 67)).on k2
      have O3 := O2.trans k2
      have zf := fun i => Z2.fr i
      have z0 := Z2.at (i := 0) rfl
      have z1 := Z2.at (i := 1) rfl
      have z2 := Z2.at (i := 2) rfl
      have z3 := Z2.at (i := 3) rfl
      have z4 := Z2.at (i := 4) rfl
      have zl := Z2.lt
      go_wp2
      refine bodyPost_ret (v := .agg #[.int .i64 f0, .int .i64 f1, .int .i64 f2, .int .i64 f3, .int .i64 f4]) ?_ rfl ⟨rfl, ?_⟩
      ·
       rw [results_cell rfl]
       go_simp
      ·
       repeat' (first | with_reducible refine On.setNew ?_ (by omega) _ | with_reducible exact O3 | with_reducible refine On.alloc ?_ _ | with_reducible refine On.drew ?_)
     ·
      have hk2 : (x.k == 2) = false := by rw [hq]; rfl
      have hk4 : (x.k == 4) = true := by simpa using hq
      clear hq
      go_enter Tryz.func39, Tryz.ntmps39
      go_wp2_with fail
      refine hN1.mono ?_
      rw [← hW0]
      rintro _ w1 ⟨rfl, k1⟩
      have P1 := PB.on k1
      have C1 := CB.on k1
      have Z1 := ZB.on k1
      have O1 : On w w1 := K0.trans k1
      have hw1 : w.heap.size + 1 + 1 < w1.heap.size := Z1.lt
      have hne : ¬ w1.heap.size = w.heap.size + 1 := by omega
      have c0' := C1.at (i := 0) rfl
      have c1' := C1.at (i := 1) rfl
      have c2' := C1.at (i := 2) rfl
      have c3' := C1.at (i := 3) rfl
      have c4' := C1.at (i := 4) rfl
      have cf := fun i => C1.fr i
      have cl' := C1.lt
      have p0' := P1.at (i := 0) rfl
      have p1' := P1.at (i := 1) rfl
      have p2' := P1.at (i := 2) rfl
      have pl' := P1.lt
      clear hN1 hW0
      go_wp2_with fail
      have O2 : On w (((w1.setCell ⟨w.heap.size + 1, 4, none⟩ (.int .i64 rv)).setCell ⟨w.heap.size + 1, 0, none⟩ (.int .i64 ((n : Int) + 1))).alloc (.cells #[.int .i64 x.k, .int .i64 3, .int .i64 x.l, .int .i64 x.a.r, .int .i64 x.a.v, .int .i64 x.o, .int .i64 x.b.r, .int .i64 x.b.v, .int .i64 x.n] 67)) := ((O1.setNew (by omega) _).setNew (by omega) _).alloc _
      refine (hS1 _ O2).mono ?_
      rintro _ w2 ⟨rfl, k2⟩
      have Z2 := (((Z1.far (N := w.heap.size + 1) (by omega) 4 (.int .i64 rv)).far (N := w.heap.size + 1) (by omega) 0 (.int .i64 ((n : Int) + 1))).alloc (.cells #[.int .i64 x.k, .int .i64 3, .int .i64 x.l, .int .i64 x.a.r, .int .i64 x.a.v, .int .i64 x.o, .int .i64 x.b.r, .int .i64 x.b.v, .int .i64 x.n] 67)).on k2
      have O3 := O2.trans k2
      have zf := fun i => Z2.fr i
      have z0 := Z2.at (i := 0) rfl
      have z1 := Z2.at (i := 1) rfl
      have z2 := Z2.at (i := 2) rfl
      have z3 := Z2.at (i := 3) rfl
      have z4 := Z2.at (i := 4) rfl
      have zl := Z2.lt
      go_wp2
      refine bodyPost_ret (v := .agg #[.int .i64 f0, .int .i64 f1, .int .i64 f2, .int .i64 f3, .int .i64 f4]) ?_ rfl ⟨rfl, ?_⟩
      ·
       rw [results_cell rfl]
       go_simp
      ·
       repeat' (first | with_reducible refine On.setNew ?_ (by omega) _ | with_reducible exact O3 | with_reducible refine On.alloc ?_ _ | with_reducible refine On.drew ?_)
end Go.Proofs.YtioiabfheeglgaaGreatDoor

namespace Go.Proofs.YtioiabfheeglgaaGreatDoor
open Go.RowKit

theorem wrap_toInt (v : BitVec 64) : IntKind.i64.wrap (v.toNat : Nat) = v.toInt := by
 rw [IntKind.wrap_i64, BitVec.toInt_eq_toNat_cond]
 have := v.isLt
 split <;> omega
theorem band_eq (a b : Int) : bits .and .i64 a b = (BitVec.ofInt 64 a &&& BitVec.ofInt 64 b).toInt := wrap_toInt _
theorem bor_eq (a b : Int) : bits .or .i64 a b = (BitVec.ofInt 64 a ||| BitVec.ofInt 64 b).toInt := wrap_toInt _
theorem bxor_eq (a b : Int) : bits .xor .i64 a b = (BitVec.ofInt 64 a ^^^ BitVec.ofInt 64 b).toInt := wrap_toInt _
theorem wrap64_eq (n : Int) : wrap64 n = (BitVec.ofInt 64 n).toInt := by
 rw [BitVec.toInt_ofInt]; unfold wrap64; rw [Int.bmod_def]; split <;> omega
theorem toInt_of {a : Int} (h0 : -9223372036854775808 ≤ a) (h1 : a ≤ 9223372036854775807) : (BitVec.ofInt 64 a).toInt = a := by
 rw [← wrap64_eq]; unfold wrap64; omega

theorem nat_and_or : ∀ n a b : Nat, a < n → (a &&& b) + (a ||| b) = a + b
 | 0, a, b, h => by omega
 | n + 1, a, b, h => by
  by_cases ha : a = 0
  ·
   subst ha; simp
  ·
   have ih := nat_and_or n (a / 2) (b / 2) (by omega)
   rw [← Nat.and_div_two, ← Nat.or_div_two] at ih
   have m1 : (a &&& b) % 2 = (a % 2) &&& (b % 2) := Nat.and_mod_two_pow (n := 1)
   have m2 : (a ||| b) % 2 = (a % 2) ||| (b % 2) := Nat.or_mod_two_pow (n := 1)
   have m : (a &&& b) % 2 + (a ||| b) % 2 = a % 2 + b % 2 := by
    rw [m1, m2]
    rcases Nat.mod_two_eq_zero_or_one a with e1 | e1 <;> rcases Nat.mod_two_eq_zero_or_one b with e2 | e2 <;> rw [e1, e2] <;> rfl
   omega

theorem bv_and_or (x y : BitVec 64) : (x &&& y) + (x ||| y) = x + y := by
 apply BitVec.eq_of_toNat_eq
 simp only [BitVec.toNat_add, BitVec.toNat_and, BitVec.toNat_or]
 rw [nat_and_or (x.toNat + 1) x.toNat y.toNat (by omega)]

theorem bits_back (a b : Int) (h0 : -9223372036854775808 ≤ a) (h1 : a ≤ 9223372036854775807) : bits .xor .i64 (bits .xor .i64 a b) b = a := by
 rw [bxor_eq, bxor_eq, BitVec.ofInt_toInt, BitVec.xor_assoc, BitVec.xor_self, BitVec.xor_zero, toInt_of h0 h1]
theorem bits_sum (a b : Int) : wrap64 (bits .and .i64 a b + bits .or .i64 a b) = wrap64 (a + b) := by
 rw [band_eq, bor_eq, wrap64_eq, wrap64_eq, BitVec.ofInt_add, BitVec.ofInt_add, BitVec.ofInt_toInt, BitVec.ofInt_toInt, bv_and_or]
theorem bits_or (a b : Int) : bits .or .i64 (bits .and .i64 a b) (bits .xor .i64 a b) = bits .or .i64 a b := by
 rw [bor_eq, bor_eq, band_eq, bxor_eq, BitVec.ofInt_toInt, BitVec.ofInt_toInt]
 congr 1
 apply BitVec.eq_of_getLsbD_eq
 intro i _
 simp only [BitVec.getLsbD_or, BitVec.getLsbD_and, BitVec.getLsbD_xor]
 cases (BitVec.ofInt 64 a).getLsbD i <;> cases (BitVec.ofInt 64 b).getLsbD i <;> rfl

theorem i64_and31 (n : Int) : bits .and .i64 n 31 = n % 32 := by
 have h63 : (BitVec.ofInt 64 31).toNat = 2 ^ 5 - 1 := by decide
 have key : (BitVec.ofInt 64 n &&& BitVec.ofInt 64 31).toNat = (n % ((2 ^ 64 : Nat) : Int)).toNat % 2 ^ 5 := by
  rw [BitVec.toNat_and, BitVec.toNat_ofInt, h63, Nat.and_two_pow_sub_one_eq_mod]
 show IntKind.i64.wrap ((BitVec.ofInt 64 n &&& BitVec.ofInt 64 31).toNat : Nat) = n % 32
 rw [key, IntKind.wrap_i64]
 omega
theorem i64_and1 (n : Int) : bits .and .i64 n 1 = n % 2 := by
 have h63 : (BitVec.ofInt 64 1).toNat = 2 ^ 1 - 1 := by decide
 have key : (BitVec.ofInt 64 n &&& BitVec.ofInt 64 1).toNat = (n % ((2 ^ 64 : Nat) : Int)).toNat % 2 ^ 1 := by
  rw [BitVec.toNat_and, BitVec.toNat_ofInt, h63, Nat.and_two_pow_sub_one_eq_mod]
 show IntKind.i64.wrap ((BitVec.ofInt 64 n &&& BitVec.ofInt 64 1).toNat : Nat) = n % 2
 rw [key, IntKind.wrap_i64]
 omega
theorem i64_and255 (n : Int) : bits .and .i64 n 255 = n % 256 := by
 have h63 : (BitVec.ofInt 64 255).toNat = 2 ^ 8 - 1 := by decide
 have key : (BitVec.ofInt 64 n &&& BitVec.ofInt 64 255).toNat = (n % ((2 ^ 64 : Nat) : Int)).toNat % 2 ^ 8 := by
  rw [BitVec.toNat_and, BitVec.toNat_ofInt, h63, Nat.and_two_pow_sub_one_eq_mod]
 show IntKind.i64.wrap ((BitVec.ofInt 64 n &&& BitVec.ofInt 64 255).toNat : Nat) = n % 256
 rw [key, IntKind.wrap_i64]
 omega

theorem pow_bounds (m n : Nat) (h : m ≤ n) : (1 : Int) ≤ 2 ^ m ∧ (2 : Int) ^ m ≤ 2 ^ n := by
 have a := Nat.one_le_two_pow (n := m)
 have b := Nat.pow_le_pow_right (n := 2) (by decide) h
 have c : ((2 ^ m : Nat) : Int) = 2 ^ m := by simp
 have d : ((2 ^ n : Nat) : Int) = 2 ^ n := by simp
 omega

/-- A small number times a small power of two does not wrap. -/
theorem shl_small (a : Int) (m : Nat) (h0 : -2147483648 ≤ a) (h1 : a ≤ 2147483647) (hm : m ≤ 31) : wrap64 (a * 2 ^ m) = a * 2 ^ m := by
 obtain ⟨p1, p2⟩ := pow_bounds m 31 hm
 generalize (2 : Int) ^ m = p at *
 have u := Int.mul_le_mul_of_nonneg_right (show a ≤ 2147483648 by omega) (show 0 ≤ p by omega)
 have l := Int.mul_le_mul_of_nonneg_right (show -2147483648 ≤ a by omega) (show 0 ≤ p by omega)
 generalize a * p = x at *
 unfold wrap64
 omega
theorem shr_back (a : Int) (m : Nat) : a * 2 ^ m / 2 ^ m = a := Int.mul_ediv_cancel _ (by have := (pow_bounds m m (Nat.le_refl _)).1; omega)

/-- What is shifted up wraps to a multiple. -/
theorem wrap_dvd (n : Int) (m : Nat) (hm : m ≤ 63) : wrap64 (n * 2 ^ m) / 2 ^ m * 2 ^ m = wrap64 (n * 2 ^ m) := by
 apply Int.ediv_mul_cancel
 have e64 : (18446744073709551616 : Int) = 2 ^ m * 2 ^ (64 - m) := by
  rw [← Int.pow_add, show m + (64 - m) = 64 by omega]; rfl
 have e63 : (9223372036854775808 : Int) = 2 ^ m * 2 ^ (63 - m) := by
  rw [← Int.pow_add, show m + (63 - m) = 63 by omega]; rfl
 unfold wrap64
 rw [Int.emod_def]
 refine Int.dvd_sub (Int.dvd_sub (Int.dvd_add (Int.dvd_mul_left _ _) ?_) ?_) ?_
 ·
  rw [e63]; exact Int.dvd_mul_right _ _
 ·
  rw [e64, Int.mul_assoc]; exact Int.dvd_mul_right _ _
 ·
  rw [e63]; exact Int.dvd_mul_right _ _
theorem wrap_wrap (n : Int) : wrap64 (wrap64 n) = wrap64 n := by unfold wrap64; omega
end Go.Proofs.YtioiabfheeglgaaGreatDoor
