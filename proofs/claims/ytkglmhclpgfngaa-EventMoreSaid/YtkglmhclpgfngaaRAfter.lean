/- The document's After. -/
import Derived.Test.YtkglmhclpgfngaaRNext
namespace Go.Proofs.Ytkglmhclpgfngaa
open Go.RowKit

theorem next_some {L : List InsT} {l : LocT} {x : InsT} (h : nextP L l = some x) : ∃ n : Nat, l.pc = (n : Int) ∧ L[n]? = some x ∧ seenB x.k = true := by
  unfold nextP at h
  split at h
  · rename_i h0
    cases hx : L[l.pc.toNat]? with
    | none => rw [hx] at h; cases h
    | some y =>
      rw [hx] at h
      simp only at h
      split at h
      · rename_i hs
        have : y = x := Option.some.inj h
        subst this
        exact ⟨l.pc.toNat, by omega, hx, hs⟩
      · cases h
  · cases h
set_option maxHeartbeats 8000000 in
set_option maxRecDepth 8000 in
theorem rafter_is (LL : List (List InsT)) (t : Int) (l : LocT) (rv : Int) (v : Value) (w : World) (h : ProgRd w v LL) (hf : ∀ L ∈ LL, fineL L) :
    Calls Try.prog 36 #[v, .int .i64 t, locV l, .int .i64 rv] w fun e w' => e = .returned (locV (afterP (threadP LL t) l rv)) ∧ On w w' := by
  have hN := fun W (k : On w W) => rnext_is LL t l v W (h.on k) hf
  have hNo := fun (k : Nat) (L : List InsT) (hL : LL[k]? = some L) (hm : L ∈ LL) (l0 : LocT) (h0 : 0 ≤ l0.pc) W (kk : On w W) => rnormal_is LL k L l0 v W (h.on kk) hL h0 (fun i x hx => (hf L hm i x hx).1)
  obtain ⟨a1, m1, c1, a2, m2, c2, a, c, rfl, r⟩ := h
  have hml : ∀ (k : Nat) (L : List InsT), LL[k]? = some L → L.length ≤ 9223372036854775807 := fun k L hL => by
    obtain ⟨_, _, _, _, _, _, _, hm, _⟩ := r.row hL
    exact hm
  clear r
  obtain ⟨pc, r0, r1, r2, r3⟩ := l
  obtain ⟨R, hR0⟩ : ∃ R, R = locV (afterP (threadP LL t) ⟨pc, r0, r1, r2, r3⟩ rv) := ⟨_, rfl⟩
  rw [← hR0]
  unfold locV at hN
  simp only at hN
  show Calls Try.prog 36 #[.agg #[.slice a1 m1 c1, .slice a2 m2 c2, .slice a LL.length c], .int .i64 t, .agg #[.int .i64 pc, .int .i64 r0, .int .i64 r1, .int .i64 r2, .int .i64 r3], .int .i64 rv] w _
  unfold afterP at hR0
  obtain ⟨W0, hW0⟩ : ∃ W0, W0 = ((w.alloc (.cells #[.slice a1 m1 c1, .slice a2 m2 c2, .slice a LL.length c] 32)).alloc (.cells #[.int .i64 pc, .int .i64 r0, .int .i64 r1, .int .i64 r2, .int .i64 r3] 37)).alloc (.cells #[.int .i64 0, .int .i64 0, .int .i64 0, .int .i64 0, .int .i64 0] 37) := ⟨_, rfl⟩
  have K0 : On w W0 := by rw [hW0]; exact (((On.refl w).alloc _).alloc _).alloc _
  have PB : Bk W0 w.heap.size #[.slice a1 m1 c1, .slice a2 m2 c2, .slice a LL.length c] := by rw [hW0]; exact ((Bk.new w _ _).alloc _).alloc _
  have CB : Bk W0 (w.heap.size + 1) #[.int .i64 pc, .int .i64 r0, .int .i64 r1, .int .i64 r2, .int .i64 r3] := by
    rw [hW0]
    have := (Bk.new (w.alloc (.cells #[.slice a1 m1 c1, .slice a2 m2 c2, .slice a LL.length c] 32)) #[.int .i64 pc, .int .i64 r0, .int .i64 r1, .int .i64 r2, .int .i64 r3] 37).alloc (.cells #[.int .i64 0, .int .i64 0, .int .i64 0, .int .i64 0, .int .i64 0] 37)
    rwa [World.size_alloc] at this
  have ZB : Bk W0 (w.heap.size + 1 + 1) #[.int .i64 0, .int .i64 0, .int .i64 0, .int .i64 0, .int .i64 0] := by
    rw [hW0]
    have := Bk.new ((w.alloc (.cells #[.slice a1 m1 c1, .slice a2 m2 c2, .slice a LL.length c] 32)).alloc (.cells #[.int .i64 pc, .int .i64 r0, .int .i64 r1, .int .i64 r2, .int .i64 r3] 37)) #[.int .i64 0, .int .i64 0, .int .i64 0, .int .i64 0, .int .i64 0] 37
    rwa [World.size_alloc, World.size_alloc] at this
  cases hx : nextP (threadP LL t) ⟨pc, r0, r1, r2, r3⟩ with
  | none =>
    rw [hx] at hN hR0
    have hN1 := hN _ K0
    rw [hW0] at hN1
    simp only [nextV, Option.getD_none, Option.isSome_none] at hN1
    unfold insV insZ at hN1
    simp only at hN1
    obtain rfl : R = .agg #[.int .i64 pc, .int .i64 r0, .int .i64 r1, .int .i64 r2, .int .i64 r3] := hR0
    clear hN hNo hx hml
    go_enter Try.func36, Try.ntmps36
    go_wp2_with fail
    refine hN1.mono ?_
    rw [← hW0]
    rintro _ w1 ⟨rfl, k1⟩
    have C1 := CB.on k1
    have Z1 := ZB.on k1
    have O1 : On w w1 := K0.trans k1
    have zf := fun i => Z1.fr i
    have z0 := Z1.at (i := 0) rfl
    have z1 := Z1.at (i := 1) rfl
    have z2 := Z1.at (i := 2) rfl
    have z3 := Z1.at (i := 3) rfl
    have z4 := Z1.at (i := 4) rfl
    have zl := Z1.lt
    have c0' := C1.at (i := 0) rfl
    have c1' := C1.at (i := 1) rfl
    have c2' := C1.at (i := 2) rfl
    have c3' := C1.at (i := 3) rfl
    have c4' := C1.at (i := 4) rfl
    have cf := fun i => C1.fr i
    have cl' := C1.lt
    go_wp2
    refine bodyPost_ret (v := .agg #[.int .i64 pc, .int .i64 r0, .int .i64 r1, .int .i64 r2, .int .i64 r3]) ?_ rfl ⟨rfl, ?_⟩
    · rw [results_cell rfl]
      go_simp
    · repeat' (first | with_reducible refine On.setNew ?_ (by omega) _ | with_reducible exact O1 | with_reducible refine On.alloc ?_ _ | with_reducible refine On.drew ?_)
  | some x =>
    rw [hx] at hN hR0
    have hN1 := hN _ K0
    rw [hW0] at hN1
    simp only [nextV, Option.getD_some, Option.isSome_some] at hN1
    unfold insV at hN1
    obtain ⟨n, rfl, hxn, hseen⟩ := next_some hx
    cases hb : thereB LL t with
    | false => rw [there_none LL t hb] at hxn; simp at hxn
    | true =>
      obtain ⟨k, L, rfl, hk, hL, e, hm⟩ := there_some LL t hb
      rw [e] at hxn hR0
      have hlt : n < L.length := (List.getElem?_eq_some_iff.1 hxn).1
      have hLm := hml k L hL
      have hreg := (hf L hm n x hxn).2.2
      clear hN hx hb e hf hml
      have hS : ∀ s0 s1 s2 s3 : Int, stepTo x ⟨(n : Int), r0, r1, r2, r3⟩ rv = ⟨((n : Int) + 1), s0, s1, s2, s3⟩ → ∀ W, On w W → Calls Try.prog 52 #[.agg #[.slice a1 m1 c1, .slice a2 m2 c2, .slice a LL.length c], .int .i64 (k : Int), .agg #[.int .i64 ((n : Int) + 1), .int .i64 s0, .int .i64 s1, .int .i64 s2, .int .i64 s3]] W fun e w' => e = .returned (locV (settleP L (stepTo x ⟨(n : Int), r0, r1, r2, r3⟩ rv))) ∧ On W w' := fun s0 s1 s2 s3 es W kk => by
        rw [es]
        exact hNo k L hL hm ⟨((n : Int) + 1), s0, s1, s2, s3⟩ (by show 0 ≤ (n : Int) + 1; omega) W kk
      obtain ⟨⟨f0, f1, f2, f3, f4⟩, hR⟩ : ∃ R, settleP L (stepTo x ⟨(n : Int), r0, r1, r2, r3⟩ rv) = R := ⟨_, rfl⟩
      rw [hR] at hS
      unfold locV at hS
      simp only at hS
      obtain rfl : R = .agg #[.int .i64 f0, .int .i64 f1, .int .i64 f2, .int .i64 f3, .int .i64 f4] := by
        rw [hR0]
        show locV (settleP L (stepTo x ⟨(n : Int), r0, r1, r2, r3⟩ rv)) = _
        rw [hR]
        rfl
      clear hR hR0 hNo hL hm hxn
      cases hrd : readB x.k with
      | false =>
        have es : stepTo x ⟨(n : Int), r0, r1, r2, r3⟩ rv = ⟨((n : Int) + 1), r0, r1, r2, r3⟩ := by unfold stepTo; rw [hrd]; rfl
        have hS1 := hS _ _ _ _ es
        unfold readB at hrd
        have hk2 : (x.k == 2) = false := by revert hrd; cases (x.k == 2) <;> simp
        have hk4 : (x.k == 4) = false := by revert hrd; cases (x.k == 4) <;> simp
        clear hS es hrd hreg hseen
        go_enter Try.func36, Try.ntmps36
        go_wp2_with fail
        refine hN1.mono ?_
        rw [← hW0]
        rintro _ w1 ⟨rfl, k1⟩
        have P1 := PB.on k1
        have C1 := CB.on k1
        have Z1 := ZB.on k1
        have O1 : On w w1 := K0.trans k1
        have hw1 : w.heap.size + 1 + 1 < w1.heap.size := Z1.lt
        have hne : ¬ w1.heap.size = w.heap.size + 1 := by omega
        have c0' := C1.at (i := 0) rfl
        have c1' := C1.at (i := 1) rfl
        have c2' := C1.at (i := 2) rfl
        have c3' := C1.at (i := 3) rfl
        have c4' := C1.at (i := 4) rfl
        have cf := fun i => C1.fr i
        have cl' := C1.lt
        have p0' := P1.at (i := 0) rfl
        have p1' := P1.at (i := 1) rfl
        have p2' := P1.at (i := 2) rfl
        have pl' := P1.lt
        clear hN1 hW0
        go_wp2_with fail
        have O2 : On w ((w1.setCell ⟨w.heap.size + 1, 0, none⟩ (.int .i64 ((n : Int) + 1))).alloc (.cells #[.int .i64 x.k, .int .i64 x.r, .int .i64 x.l, .int .i64 x.a.r, .int .i64 x.a.v, .int .i64 x.o, .int .i64 x.b.r, .int .i64 x.b.v, .int .i64 x.n] 43)) := (O1.setNew (by omega) _).alloc _
        refine (hS1 _ O2).mono ?_
        rintro _ w2 ⟨rfl, k2⟩
        have Z2 := ((Z1.far (N := w.heap.size + 1) (by omega) 0 (.int .i64 ((n : Int) + 1))).alloc (.cells #[.int .i64 x.k, .int .i64 x.r, .int .i64 x.l, .int .i64 x.a.r, .int .i64 x.a.v, .int .i64 x.o, .int .i64 x.b.r, .int .i64 x.b.v, .int .i64 x.n] 43)).on k2
        have O3 := O2.trans k2
        have zf := fun i => Z2.fr i
        have z0 := Z2.at (i := 0) rfl
        have z1 := Z2.at (i := 1) rfl
        have z2 := Z2.at (i := 2) rfl
        have z3 := Z2.at (i := 3) rfl
        have z4 := Z2.at (i := 4) rfl
        have zl := Z2.lt
        go_wp2
        refine bodyPost_ret (v := .agg #[.int .i64 f0, .int .i64 f1, .int .i64 f2, .int .i64 f3, .int .i64 f4]) ?_ rfl ⟨rfl, ?_⟩
        · rw [results_cell rfl]
          go_simp
        · repeat' (first | with_reducible refine On.setNew ?_ (by omega) _ | with_reducible exact O3 | with_reducible refine On.alloc ?_ _ | with_reducible refine On.drew ?_)
      | true =>
        have hrk : x.k = 2 ∨ x.k = 4 := by unfold readB at hrd; simpa using hrd
        have hok := hreg hrk
        rcases regOk_four hok with hr | hr | hr | hr
        · have es : stepTo x ⟨(n : Int), r0, r1, r2, r3⟩ rv = ⟨((n : Int) + 1), rv, r1, r2, r3⟩ := by unfold stepTo; rw [hrd, hr]; rfl
          have hS1 := hS _ _ _ _ es
          clear hS es hrd hreg hseen hok
          rcases hrk with hq | hq
          · have hk2 : (x.k == 2) = true := by simpa using hq
            clear hq
            go_enter Try.func36, Try.ntmps36
            go_wp2_with fail
            refine hN1.mono ?_
            rw [← hW0]
            rintro _ w1 ⟨rfl, k1⟩
            have P1 := PB.on k1
            have C1 := CB.on k1
            have Z1 := ZB.on k1
            have O1 : On w w1 := K0.trans k1
            have hw1 : w.heap.size + 1 + 1 < w1.heap.size := Z1.lt
            have hne : ¬ w1.heap.size = w.heap.size + 1 := by omega
            have c0' := C1.at (i := 0) rfl
            have c1' := C1.at (i := 1) rfl
            have c2' := C1.at (i := 2) rfl
            have c3' := C1.at (i := 3) rfl
            have c4' := C1.at (i := 4) rfl
            have cf := fun i => C1.fr i
            have cl' := C1.lt
            have p0' := P1.at (i := 0) rfl
            have p1' := P1.at (i := 1) rfl
            have p2' := P1.at (i := 2) rfl
            have pl' := P1.lt
            clear hN1 hW0
            go_wp2_with fail
            have O2 : On w (((w1.setCell ⟨w.heap.size + 1, 1, none⟩ (.int .i64 rv)).setCell ⟨w.heap.size + 1, 0, none⟩ (.int .i64 ((n : Int) + 1))).alloc (.cells #[.int .i64 x.k, .int .i64 0, .int .i64 x.l, .int .i64 x.a.r, .int .i64 x.a.v, .int .i64 x.o, .int .i64 x.b.r, .int .i64 x.b.v, .int .i64 x.n] 43)) := ((O1.setNew (by omega) _).setNew (by omega) _).alloc _
            refine (hS1 _ O2).mono ?_
            rintro _ w2 ⟨rfl, k2⟩
            have Z2 := (((Z1.far (N := w.heap.size + 1) (by omega) 1 (.int .i64 rv)).far (N := w.heap.size + 1) (by omega) 0 (.int .i64 ((n : Int) + 1))).alloc (.cells #[.int .i64 x.k, .int .i64 0, .int .i64 x.l, .int .i64 x.a.r, .int .i64 x.a.v, .int .i64 x.o, .int .i64 x.b.r, .int .i64 x.b.v, .int .i64 x.n] 43)).on k2
            have O3 := O2.trans k2
            have zf := fun i => Z2.fr i
            have z0 := Z2.at (i := 0) rfl
            have z1 := Z2.at (i := 1) rfl
            have z2 := Z2.at (i := 2) rfl
            have z3 := Z2.at (i := 3) rfl
            have z4 := Z2.at (i := 4) rfl
            have zl := Z2.lt
            go_wp2
            refine bodyPost_ret (v := .agg #[.int .i64 f0, .int .i64 f1, .int .i64 f2, .int .i64 f3, .int .i64 f4]) ?_ rfl ⟨rfl, ?_⟩
            · rw [results_cell rfl]
              go_simp
            · repeat' (first | with_reducible refine On.setNew ?_ (by omega) _ | with_reducible exact O3 | with_reducible refine On.alloc ?_ _ | with_reducible refine On.drew ?_)
          · have hk2 : (x.k == 2) = false := by rw [hq]; rfl
            have hk4 : (x.k == 4) = true := by simpa using hq
            clear hq
            go_enter Try.func36, Try.ntmps36
            go_wp2_with fail
            refine hN1.mono ?_
            rw [← hW0]
            rintro _ w1 ⟨rfl, k1⟩
            have P1 := PB.on k1
            have C1 := CB.on k1
            have Z1 := ZB.on k1
            have O1 : On w w1 := K0.trans k1
            have hw1 : w.heap.size + 1 + 1 < w1.heap.size := Z1.lt
            have hne : ¬ w1.heap.size = w.heap.size + 1 := by omega
            have c0' := C1.at (i := 0) rfl
            have c1' := C1.at (i := 1) rfl
            have c2' := C1.at (i := 2) rfl
            have c3' := C1.at (i := 3) rfl
            have c4' := C1.at (i := 4) rfl
            have cf := fun i => C1.fr i
            have cl' := C1.lt
            have p0' := P1.at (i := 0) rfl
            have p1' := P1.at (i := 1) rfl
            have p2' := P1.at (i := 2) rfl
            have pl' := P1.lt
            clear hN1 hW0
            go_wp2_with fail
            have O2 : On w (((w1.setCell ⟨w.heap.size + 1, 1, none⟩ (.int .i64 rv)).setCell ⟨w.heap.size + 1, 0, none⟩ (.int .i64 ((n : Int) + 1))).alloc (.cells #[.int .i64 x.k, .int .i64 0, .int .i64 x.l, .int .i64 x.a.r, .int .i64 x.a.v, .int .i64 x.o, .int .i64 x.b.r, .int .i64 x.b.v, .int .i64 x.n] 43)) := ((O1.setNew (by omega) _).setNew (by omega) _).alloc _
            refine (hS1 _ O2).mono ?_
            rintro _ w2 ⟨rfl, k2⟩
            have Z2 := (((Z1.far (N := w.heap.size + 1) (by omega) 1 (.int .i64 rv)).far (N := w.heap.size + 1) (by omega) 0 (.int .i64 ((n : Int) + 1))).alloc (.cells #[.int .i64 x.k, .int .i64 0, .int .i64 x.l, .int .i64 x.a.r, .int .i64 x.a.v, .int .i64 x.o, .int .i64 x.b.r, .int .i64 x.b.v, .int .i64 x.n] 43)).on k2
            have O3 := O2.trans k2
            have zf := fun i => Z2.fr i
            have z0 := Z2.at (i := 0) rfl
            have z1 := Z2.at (i := 1) rfl
            have z2 := Z2.at (i := 2) rfl
            have z3 := Z2.at (i := 3) rfl
            have z4 := Z2.at (i := 4) rfl
            have zl := Z2.lt
            go_wp2
            refine bodyPost_ret (v := .agg #[.int .i64 f0, .int .i64 f1, .int .i64 f2, .int .i64 f3, .int .i64 f4]) ?_ rfl ⟨rfl, ?_⟩
            · rw [results_cell rfl]
              go_simp
            · repeat' (first | with_reducible refine On.setNew ?_ (by omega) _ | with_reducible exact O3 | with_reducible refine On.alloc ?_ _ | with_reducible refine On.drew ?_)
        · have es : stepTo x ⟨(n : Int), r0, r1, r2, r3⟩ rv = ⟨((n : Int) + 1), r0, rv, r2, r3⟩ := by unfold stepTo; rw [hrd, hr]; rfl
          have hS1 := hS _ _ _ _ es
          clear hS es hrd hreg hseen hok
          rcases hrk with hq | hq
          · have hk2 : (x.k == 2) = true := by simpa using hq
            clear hq
            go_enter Try.func36, Try.ntmps36
            go_wp2_with fail
            refine hN1.mono ?_
            rw [← hW0]
            rintro _ w1 ⟨rfl, k1⟩
            have P1 := PB.on k1
            have C1 := CB.on k1
            have Z1 := ZB.on k1
            have O1 : On w w1 := K0.trans k1
            have hw1 : w.heap.size + 1 + 1 < w1.heap.size := Z1.lt
            have hne : ¬ w1.heap.size = w.heap.size + 1 := by omega
            have c0' := C1.at (i := 0) rfl
            have c1' := C1.at (i := 1) rfl
            have c2' := C1.at (i := 2) rfl
            have c3' := C1.at (i := 3) rfl
            have c4' := C1.at (i := 4) rfl
            have cf := fun i => C1.fr i
            have cl' := C1.lt
            have p0' := P1.at (i := 0) rfl
            have p1' := P1.at (i := 1) rfl
            have p2' := P1.at (i := 2) rfl
            have pl' := P1.lt
            clear hN1 hW0
            go_wp2_with fail
            have O2 : On w (((w1.setCell ⟨w.heap.size + 1, 2, none⟩ (.int .i64 rv)).setCell ⟨w.heap.size + 1, 0, none⟩ (.int .i64 ((n : Int) + 1))).alloc (.cells #[.int .i64 x.k, .int .i64 1, .int .i64 x.l, .int .i64 x.a.r, .int .i64 x.a.v, .int .i64 x.o, .int .i64 x.b.r, .int .i64 x.b.v, .int .i64 x.n] 43)) := ((O1.setNew (by omega) _).setNew (by omega) _).alloc _
            refine (hS1 _ O2).mono ?_
            rintro _ w2 ⟨rfl, k2⟩
            have Z2 := (((Z1.far (N := w.heap.size + 1) (by omega) 2 (.int .i64 rv)).far (N := w.heap.size + 1) (by omega) 0 (.int .i64 ((n : Int) + 1))).alloc (.cells #[.int .i64 x.k, .int .i64 1, .int .i64 x.l, .int .i64 x.a.r, .int .i64 x.a.v, .int .i64 x.o, .int .i64 x.b.r, .int .i64 x.b.v, .int .i64 x.n] 43)).on k2
            have O3 := O2.trans k2
            have zf := fun i => Z2.fr i
            have z0 := Z2.at (i := 0) rfl
            have z1 := Z2.at (i := 1) rfl
            have z2 := Z2.at (i := 2) rfl
            have z3 := Z2.at (i := 3) rfl
            have z4 := Z2.at (i := 4) rfl
            have zl := Z2.lt
            go_wp2
            refine bodyPost_ret (v := .agg #[.int .i64 f0, .int .i64 f1, .int .i64 f2, .int .i64 f3, .int .i64 f4]) ?_ rfl ⟨rfl, ?_⟩
            · rw [results_cell rfl]
              go_simp
            · repeat' (first | with_reducible refine On.setNew ?_ (by omega) _ | with_reducible exact O3 | with_reducible refine On.alloc ?_ _ | with_reducible refine On.drew ?_)
          · have hk2 : (x.k == 2) = false := by rw [hq]; rfl
            have hk4 : (x.k == 4) = true := by simpa using hq
            clear hq
            go_enter Try.func36, Try.ntmps36
            go_wp2_with fail
            refine hN1.mono ?_
            rw [← hW0]
            rintro _ w1 ⟨rfl, k1⟩
            have P1 := PB.on k1
            have C1 := CB.on k1
            have Z1 := ZB.on k1
            have O1 : On w w1 := K0.trans k1
            have hw1 : w.heap.size + 1 + 1 < w1.heap.size := Z1.lt
            have hne : ¬ w1.heap.size = w.heap.size + 1 := by omega
            have c0' := C1.at (i := 0) rfl
            have c1' := C1.at (i := 1) rfl
            have c2' := C1.at (i := 2) rfl
            have c3' := C1.at (i := 3) rfl
            have c4' := C1.at (i := 4) rfl
            have cf := fun i => C1.fr i
            have cl' := C1.lt
            have p0' := P1.at (i := 0) rfl
            have p1' := P1.at (i := 1) rfl
            have p2' := P1.at (i := 2) rfl
            have pl' := P1.lt
            clear hN1 hW0
            go_wp2_with fail
            have O2 : On w (((w1.setCell ⟨w.heap.size + 1, 2, none⟩ (.int .i64 rv)).setCell ⟨w.heap.size + 1, 0, none⟩ (.int .i64 ((n : Int) + 1))).alloc (.cells #[.int .i64 x.k, .int .i64 1, .int .i64 x.l, .int .i64 x.a.r, .int .i64 x.a.v, .int .i64 x.o, .int .i64 x.b.r, .int .i64 x.b.v, .int .i64 x.n] 43)) := ((O1.setNew (by omega) _).setNew (by omega) _).alloc _
            refine (hS1 _ O2).mono ?_
            rintro _ w2 ⟨rfl, k2⟩
            have Z2 := (((Z1.far (N := w.heap.size + 1) (by omega) 2 (.int .i64 rv)).far (N := w.heap.size + 1) (by omega) 0 (.int .i64 ((n : Int) + 1))).alloc (.cells #[.int .i64 x.k, .int .i64 1, .int .i64 x.l, .int .i64 x.a.r, .int .i64 x.a.v, .int .i64 x.o, .int .i64 x.b.r, .int .i64 x.b.v, .int .i64 x.n] 43)).on k2
            have O3 := O2.trans k2
            have zf := fun i => Z2.fr i
            have z0 := Z2.at (i := 0) rfl
            have z1 := Z2.at (i := 1) rfl
            have z2 := Z2.at (i := 2) rfl
            have z3 := Z2.at (i := 3) rfl
            have z4 := Z2.at (i := 4) rfl
            have zl := Z2.lt
            go_wp2
            refine bodyPost_ret (v := .agg #[.int .i64 f0, .int .i64 f1, .int .i64 f2, .int .i64 f3, .int .i64 f4]) ?_ rfl ⟨rfl, ?_⟩
            · rw [results_cell rfl]
              go_simp
            · repeat' (first | with_reducible refine On.setNew ?_ (by omega) _ | with_reducible exact O3 | with_reducible refine On.alloc ?_ _ | with_reducible refine On.drew ?_)
        · have es : stepTo x ⟨(n : Int), r0, r1, r2, r3⟩ rv = ⟨((n : Int) + 1), r0, r1, rv, r3⟩ := by unfold stepTo; rw [hrd, hr]; rfl
          have hS1 := hS _ _ _ _ es
          clear hS es hrd hreg hseen hok
          rcases hrk with hq | hq
          · have hk2 : (x.k == 2) = true := by simpa using hq
            clear hq
            go_enter Try.func36, Try.ntmps36
            go_wp2_with fail
            refine hN1.mono ?_
            rw [← hW0]
            rintro _ w1 ⟨rfl, k1⟩
            have P1 := PB.on k1
            have C1 := CB.on k1
            have Z1 := ZB.on k1
            have O1 : On w w1 := K0.trans k1
            have hw1 : w.heap.size + 1 + 1 < w1.heap.size := Z1.lt
            have hne : ¬ w1.heap.size = w.heap.size + 1 := by omega
            have c0' := C1.at (i := 0) rfl
            have c1' := C1.at (i := 1) rfl
            have c2' := C1.at (i := 2) rfl
            have c3' := C1.at (i := 3) rfl
            have c4' := C1.at (i := 4) rfl
            have cf := fun i => C1.fr i
            have cl' := C1.lt
            have p0' := P1.at (i := 0) rfl
            have p1' := P1.at (i := 1) rfl
            have p2' := P1.at (i := 2) rfl
            have pl' := P1.lt
            clear hN1 hW0
            go_wp2_with fail
            have O2 : On w (((w1.setCell ⟨w.heap.size + 1, 3, none⟩ (.int .i64 rv)).setCell ⟨w.heap.size + 1, 0, none⟩ (.int .i64 ((n : Int) + 1))).alloc (.cells #[.int .i64 x.k, .int .i64 2, .int .i64 x.l, .int .i64 x.a.r, .int .i64 x.a.v, .int .i64 x.o, .int .i64 x.b.r, .int .i64 x.b.v, .int .i64 x.n] 43)) := ((O1.setNew (by omega) _).setNew (by omega) _).alloc _
            refine (hS1 _ O2).mono ?_
            rintro _ w2 ⟨rfl, k2⟩
            have Z2 := (((Z1.far (N := w.heap.size + 1) (by omega) 3 (.int .i64 rv)).far (N := w.heap.size + 1) (by omega) 0 (.int .i64 ((n : Int) + 1))).alloc (.cells #[.int .i64 x.k, .int .i64 2, .int .i64 x.l, .int .i64 x.a.r, .int .i64 x.a.v, .int .i64 x.o, .int .i64 x.b.r, .int .i64 x.b.v, .int .i64 x.n] 43)).on k2
            have O3 := O2.trans k2
            have zf := fun i => Z2.fr i
            have z0 := Z2.at (i := 0) rfl
            have z1 := Z2.at (i := 1) rfl
            have z2 := Z2.at (i := 2) rfl
            have z3 := Z2.at (i := 3) rfl
            have z4 := Z2.at (i := 4) rfl
            have zl := Z2.lt
            go_wp2
            refine bodyPost_ret (v := .agg #[.int .i64 f0, .int .i64 f1, .int .i64 f2, .int .i64 f3, .int .i64 f4]) ?_ rfl ⟨rfl, ?_⟩
            · rw [results_cell rfl]
              go_simp
            · repeat' (first | with_reducible refine On.setNew ?_ (by omega) _ | with_reducible exact O3 | with_reducible refine On.alloc ?_ _ | with_reducible refine On.drew ?_)
          · have hk2 : (x.k == 2) = false := by rw [hq]; rfl
            have hk4 : (x.k == 4) = true := by simpa using hq
            clear hq
            go_enter Try.func36, Try.ntmps36
            go_wp2_with fail
            refine hN1.mono ?_
            rw [← hW0]
            rintro _ w1 ⟨rfl, k1⟩
            have P1 := PB.on k1
            have C1 := CB.on k1
            have Z1 := ZB.on k1
            have O1 : On w w1 := K0.trans k1
            have hw1 : w.heap.size + 1 + 1 < w1.heap.size := Z1.lt
            have hne : ¬ w1.heap.size = w.heap.size + 1 := by omega
            have c0' := C1.at (i := 0) rfl
            have c1' := C1.at (i := 1) rfl
            have c2' := C1.at (i := 2) rfl
            have c3' := C1.at (i := 3) rfl
            have c4' := C1.at (i := 4) rfl
            have cf := fun i => C1.fr i
            have cl' := C1.lt
            have p0' := P1.at (i := 0) rfl
            have p1' := P1.at (i := 1) rfl
            have p2' := P1.at (i := 2) rfl
            have pl' := P1.lt
            clear hN1 hW0
            go_wp2_with fail
            have O2 : On w (((w1.setCell ⟨w.heap.size + 1, 3, none⟩ (.int .i64 rv)).setCell ⟨w.heap.size + 1, 0, none⟩ (.int .i64 ((n : Int) + 1))).alloc (.cells #[.int .i64 x.k, .int .i64 2, .int .i64 x.l, .int .i64 x.a.r, .int .i64 x.a.v, .int .i64 x.o, .int .i64 x.b.r, .int .i64 x.b.v, .int .i64 x.n] 43)) := ((O1.setNew (by omega) _).setNew (by omega) _).alloc _
            refine (hS1 _ O2).mono ?_
            rintro _ w2 ⟨rfl, k2⟩
            have Z2 := (((Z1.far (N := w.heap.size + 1) (by omega) 3 (.int .i64 rv)).far (N := w.heap.size + 1) (by omega) 0 (.int .i64 ((n : Int) + 1))).alloc (.cells #[.int .i64 x.k, .int .i64 2, .int .i64 x.l, .int .i64 x.a.r, .int .i64 x.a.v, .int .i64 x.o, .int .i64 x.b.r, .int .i64 x.b.v, .int .i64 x.n] 43)).on k2
            have O3 := O2.trans k2
            have zf := fun i => Z2.fr i
            have z0 := Z2.at (i := 0) rfl
            have z1 := Z2.at (i := 1) rfl
            have z2 := Z2.at (i := 2) rfl
            have z3 := Z2.at (i := 3) rfl
            have z4 := Z2.at (i := 4) rfl
            have zl := Z2.lt
            go_wp2
            refine bodyPost_ret (v := .agg #[.int .i64 f0, .int .i64 f1, .int .i64 f2, .int .i64 f3, .int .i64 f4]) ?_ rfl ⟨rfl, ?_⟩
            · rw [results_cell rfl]
              go_simp
            · repeat' (first | with_reducible refine On.setNew ?_ (by omega) _ | with_reducible exact O3 | with_reducible refine On.alloc ?_ _ | with_reducible refine On.drew ?_)
        · have es : stepTo x ⟨(n : Int), r0, r1, r2, r3⟩ rv = ⟨((n : Int) + 1), r0, r1, r2, rv⟩ := by unfold stepTo; rw [hrd, hr]; rfl
          have hS1 := hS _ _ _ _ es
          clear hS es hrd hreg hseen hok
          rcases hrk with hq | hq
          · have hk2 : (x.k == 2) = true := by simpa using hq
            clear hq
            go_enter Try.func36, Try.ntmps36
            go_wp2_with fail
            refine hN1.mono ?_
            rw [← hW0]
            rintro _ w1 ⟨rfl, k1⟩
            have P1 := PB.on k1
            have C1 := CB.on k1
            have Z1 := ZB.on k1
            have O1 : On w w1 := K0.trans k1
            have hw1 : w.heap.size + 1 + 1 < w1.heap.size := Z1.lt
            have hne : ¬ w1.heap.size = w.heap.size + 1 := by omega
            have c0' := C1.at (i := 0) rfl
            have c1' := C1.at (i := 1) rfl
            have c2' := C1.at (i := 2) rfl
            have c3' := C1.at (i := 3) rfl
            have c4' := C1.at (i := 4) rfl
            have cf := fun i => C1.fr i
            have cl' := C1.lt
            have p0' := P1.at (i := 0) rfl
            have p1' := P1.at (i := 1) rfl
            have p2' := P1.at (i := 2) rfl
            have pl' := P1.lt
            clear hN1 hW0
            go_wp2_with fail
            have O2 : On w (((w1.setCell ⟨w.heap.size + 1, 4, none⟩ (.int .i64 rv)).setCell ⟨w.heap.size + 1, 0, none⟩ (.int .i64 ((n : Int) + 1))).alloc (.cells #[.int .i64 x.k, .int .i64 3, .int .i64 x.l, .int .i64 x.a.r, .int .i64 x.a.v, .int .i64 x.o, .int .i64 x.b.r, .int .i64 x.b.v, .int .i64 x.n] 43)) := ((O1.setNew (by omega) _).setNew (by omega) _).alloc _
            refine (hS1 _ O2).mono ?_
            rintro _ w2 ⟨rfl, k2⟩
            have Z2 := (((Z1.far (N := w.heap.size + 1) (by omega) 4 (.int .i64 rv)).far (N := w.heap.size + 1) (by omega) 0 (.int .i64 ((n : Int) + 1))).alloc (.cells #[.int .i64 x.k, .int .i64 3, .int .i64 x.l, .int .i64 x.a.r, .int .i64 x.a.v, .int .i64 x.o, .int .i64 x.b.r, .int .i64 x.b.v, .int .i64 x.n] 43)).on k2
            have O3 := O2.trans k2
            have zf := fun i => Z2.fr i
            have z0 := Z2.at (i := 0) rfl
            have z1 := Z2.at (i := 1) rfl
            have z2 := Z2.at (i := 2) rfl
            have z3 := Z2.at (i := 3) rfl
            have z4 := Z2.at (i := 4) rfl
            have zl := Z2.lt
            go_wp2
            refine bodyPost_ret (v := .agg #[.int .i64 f0, .int .i64 f1, .int .i64 f2, .int .i64 f3, .int .i64 f4]) ?_ rfl ⟨rfl, ?_⟩
            · rw [results_cell rfl]
              go_simp
            · repeat' (first | with_reducible refine On.setNew ?_ (by omega) _ | with_reducible exact O3 | with_reducible refine On.alloc ?_ _ | with_reducible refine On.drew ?_)
          · have hk2 : (x.k == 2) = false := by rw [hq]; rfl
            have hk4 : (x.k == 4) = true := by simpa using hq
            clear hq
            go_enter Try.func36, Try.ntmps36
            go_wp2_with fail
            refine hN1.mono ?_
            rw [← hW0]
            rintro _ w1 ⟨rfl, k1⟩
            have P1 := PB.on k1
            have C1 := CB.on k1
            have Z1 := ZB.on k1
            have O1 : On w w1 := K0.trans k1
            have hw1 : w.heap.size + 1 + 1 < w1.heap.size := Z1.lt
            have hne : ¬ w1.heap.size = w.heap.size + 1 := by omega
            have c0' := C1.at (i := 0) rfl
            have c1' := C1.at (i := 1) rfl
            have c2' := C1.at (i := 2) rfl
            have c3' := C1.at (i := 3) rfl
            have c4' := C1.at (i := 4) rfl
            have cf := fun i => C1.fr i
            have cl' := C1.lt
            have p0' := P1.at (i := 0) rfl
            have p1' := P1.at (i := 1) rfl
            have p2' := P1.at (i := 2) rfl
            have pl' := P1.lt
            clear hN1 hW0
            go_wp2_with fail
            have O2 : On w (((w1.setCell ⟨w.heap.size + 1, 4, none⟩ (.int .i64 rv)).setCell ⟨w.heap.size + 1, 0, none⟩ (.int .i64 ((n : Int) + 1))).alloc (.cells #[.int .i64 x.k, .int .i64 3, .int .i64 x.l, .int .i64 x.a.r, .int .i64 x.a.v, .int .i64 x.o, .int .i64 x.b.r, .int .i64 x.b.v, .int .i64 x.n] 43)) := ((O1.setNew (by omega) _).setNew (by omega) _).alloc _
            refine (hS1 _ O2).mono ?_
            rintro _ w2 ⟨rfl, k2⟩
            have Z2 := (((Z1.far (N := w.heap.size + 1) (by omega) 4 (.int .i64 rv)).far (N := w.heap.size + 1) (by omega) 0 (.int .i64 ((n : Int) + 1))).alloc (.cells #[.int .i64 x.k, .int .i64 3, .int .i64 x.l, .int .i64 x.a.r, .int .i64 x.a.v, .int .i64 x.o, .int .i64 x.b.r, .int .i64 x.b.v, .int .i64 x.n] 43)).on k2
            have O3 := O2.trans k2
            have zf := fun i => Z2.fr i
            have z0 := Z2.at (i := 0) rfl
            have z1 := Z2.at (i := 1) rfl
            have z2 := Z2.at (i := 2) rfl
            have z3 := Z2.at (i := 3) rfl
            have z4 := Z2.at (i := 4) rfl
            have zl := Z2.lt
            go_wp2
            refine bodyPost_ret (v := .agg #[.int .i64 f0, .int .i64 f1, .int .i64 f2, .int .i64 f3, .int .i64 f4]) ?_ rfl ⟨rfl, ?_⟩
            · rw [results_cell rfl]
              go_simp
            · repeat' (first | with_reducible refine On.setNew ?_ (by omega) _ | with_reducible exact O3 | with_reducible refine On.alloc ?_ _ | with_reducible refine On.drew ?_)
end Go.Proofs.Ytkglmhclpgfngaa
