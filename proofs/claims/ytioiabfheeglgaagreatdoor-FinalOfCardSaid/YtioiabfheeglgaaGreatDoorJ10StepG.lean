/- The instruction of noughts (its texts lie in StepL). -/
import Derived.Test.YtioiabfheeglgaaGreatDoorJ09StepD
import Derived.Test.YtioiabfheeglgaaGreatDoorJ08StepB

namespace Go.Proofs.YtioiabfheeglgaaGreatDoor
open Go.RowKit

def seenB (k : Int) : Bool := k == 1 || (k == 2 || (k == 3 || k == 4))
theorem isSeen_is (k : Int) (w : World) : Calls Tryz.prog 58 #[.int .i64 k] w fun e w' => e = .returned (.bool (seenB k)) ∧ w' = w := by
 unfold seenB
 cases h1 : (k == 1) with
 | true =>
  go_enter Tryz.func58, Tryz.ntmps58
  go_wp2
  go_ret
  exact ⟨rfl, rfl⟩
 | false =>
  cases h2 : (k == 2) with
  | true =>
   go_enter Tryz.func58, Tryz.ntmps58
   go_wp2
   go_ret
   exact ⟨rfl, rfl⟩
  | false =>
   cases h3 : (k == 3) with
   | true =>
    go_enter Tryz.func58, Tryz.ntmps58
    go_wp2
    go_ret
    exact ⟨rfl, rfl⟩
   | false =>
    cases h4 : (k == 4)
    all_goals
     go_enter Tryz.func58, Tryz.ntmps58
     go_wp2
     go_ret
     exact ⟨rfl, rfl⟩
/-- The instruction that stands at a normal Local. -/
def nextP (L : List InsT) (l : LocT) : Option InsT := if 0 ≤ l.pc then (match L[l.pc.toNat]? with | some x => if seenB x.k then some x else none | none => none) else none
def nextV (o : Option InsT) : Value := .tuple #[insV (o.getD insZ), .bool o.isSome]
set_option maxHeartbeats 4000000 in
set_option maxRecDepth 8000 in
theorem pnext_is (LL : List (List InsT)) (t : Int) (l : LocT) (v : Value) (w : World) (h : ProgRd w v LL) :
  Calls Tryz.prog 42 #[v, .int .i64 t, locV l] w fun e w' => e = .returned (nextV (nextP (threadP LL t) l)) ∧ On w w' := by
 have hT := fun W (k : On w W) => thread_is LL t v W (h.on k)
 obtain ⟨a1, m1, c1, a2, m2, c2, a, c, rfl, r⟩ := h
 generalize threadP LL t = L at *
 obtain ⟨pc, r0, r1, r2, r3⟩ := l
 unfold locV
 clear r
 have k0 : ∀ A B C, On w (((w.alloc A).alloc B).alloc C) := fun A B C => (((On.refl w).alloc A).alloc B).alloc C
 have bl : ∀ A cs T C, Bk (((w.alloc A).alloc (.cells cs T)).alloc C) (w.heap.size + 1) cs := fun A cs T C => by have := (Bk.new (w.alloc A) cs T).alloc C; rwa [World.size_alloc] at this
 have br : ∀ A B cs T, Bk (((w.alloc A).alloc B).alloc (.cells cs T)) (w.heap.size + 1 + 1) cs := fun A B cs T => by have := Bk.new ((w.alloc A).alloc B) cs T; rwa [World.size_alloc, World.size_alloc] at this
 unfold nextP
 by_cases h0 : 0 ≤ pc
 ·
  have d0 : decide (pc < 0) = false := by simp; omega
  obtain ⟨n, rfl⟩ : ∃ n : Nat, pc = (n : Int) := ⟨pc.toNat, by omega⟩
  rcases Nat.lt_or_ge n L.length with hlt | hge
  ·
   obtain ⟨x, hx⟩ : ∃ x, L[n]? = some x := ⟨_, List.getElem?_eq_getElem hlt⟩
   simp only [Int.natCast_nonneg, if_true, Int.toNat_natCast, hx]
   have hN := fun W => isSeen_is x.k W
   cases hs : seenB x.k with
   | true =>
    rw [hs] at hN
    simp only [if_true]
    show Calls _ _ _ _ (fun e w' => e = .returned (.tuple #[.agg #[.int .i64 x.k, .int .i64 x.r, .int .i64 x.l, .int .i64 x.a.r, .int .i64 x.a.v, .int .i64 x.o, .int .i64 x.b.r, .int .i64 x.b.v, .int .i64 x.n], .bool true]) ∧ On w w')
    go_enter Tryz.func42, Tryz.ntmps42
    go_wp2_with fail
    refine (hT _ (k0 _ _ _)).mono ?_
    rintro e w1 ⟨ax, cx, rfl, rx, k1⟩
    have L1 := (bl _ _ _ _).on k1
    have R1 := (br _ _ _ _).on k1
    have K1 : Hid (On w w1) := (k0 _ _ _).trans k1
    have y0 := L1.at (i := 0) rfl
    have yl := L1.lt
    have z0 := R1.at (i := 0) rfl
    have z1 := R1.at (i := 1) rfl
    have z2 := R1.at (i := 2) rfl
    have z3 := R1.at (i := 3) rfl
    have z4 := R1.at (i := 4) rfl
    have z5 := R1.at (i := 5) rfl
    have z6 := R1.at (i := 6) rfl
    have z7 := R1.at (i := 7) rfl
    have z8 := R1.at (i := 8) rfl
    have zf := fun i => R1.fr i
    clear hT k1 bl br k0
    obtain ⟨g, off, rfl, hg, hcell⟩ := rx.at hx
    have q0 : w1.cell? ⟨g, off + n * 9, none⟩ = _ := hcell 0 _ rfl
    have q1 : w1.cell? ⟨g, off + n * 9 + 1, none⟩ = _ := hcell 1 _ rfl
    have q2 : w1.cell? ⟨g, off + n * 9 + 2, none⟩ = _ := hcell 2 _ rfl
    have q3 : w1.cell? ⟨g, off + n * 9 + 3, none⟩ = _ := hcell 3 _ rfl
    have q4 : w1.cell? ⟨g, off + n * 9 + 4, none⟩ = _ := hcell 4 _ rfl
    have q5 : w1.cell? ⟨g, off + n * 9 + 5, none⟩ = _ := hcell 5 _ rfl
    have q6 : w1.cell? ⟨g, off + n * 9 + 6, none⟩ = _ := hcell 6 _ rfl
    have q7 : w1.cell? ⟨g, off + n * 9 + 7, none⟩ = _ := hcell 7 _ rfl
    have q8 : w1.cell? ⟨g, off + n * 9 + 8, none⟩ = _ := hcell 8 _ rfl
    clear hcell hx rx
    go_wp2_with (go_at_call 58; refine (hN _).mono ?_; rintro e w' ⟨rfl, rfl⟩)
    refine bodyPost_ret (v := .tuple #[.agg #[.int .i64 x.k, .int .i64 x.r, .int .i64 x.l, .int .i64 x.a.r, .int .i64 x.a.v, .int .i64 x.o, .int .i64 x.b.r, .int .i64 x.b.v, .int .i64 x.n], .bool true]) ?_ rfl ⟨rfl, ?_⟩
    ·
     rw [results_cell_slot rfl]
     go_simp
    ·
     repeat' (first | with_reducible refine On.setNew ?_ (by omega) _ | with_reducible exact K1.out)
   | false =>
    rw [hs] at hN
    simp only [Bool.false_eq_true, if_false]
    show Calls _ _ _ _ (fun e w' => e = .returned (.tuple #[.agg #[.int .i64 0, .int .i64 0, .int .i64 0, .int .i64 0, .int .i64 0, .int .i64 0, .int .i64 0, .int .i64 0, .int .i64 0], .bool false]) ∧ On w w')
    go_enter Tryz.func42, Tryz.ntmps42
    go_wp2_with fail
    refine (hT _ (k0 _ _ _)).mono ?_
    rintro e w1 ⟨ax, cx, rfl, rx, k1⟩
    have L1 := (bl _ _ _ _).on k1
    have R1 := (br _ _ _ _).on k1
    have K1 : Hid (On w w1) := (k0 _ _ _).trans k1
    have y0 := L1.at (i := 0) rfl
    have yl := L1.lt
    have z0 := R1.at (i := 0) rfl
    have z1 := R1.at (i := 1) rfl
    have z2 := R1.at (i := 2) rfl
    have z3 := R1.at (i := 3) rfl
    have z4 := R1.at (i := 4) rfl
    have z5 := R1.at (i := 5) rfl
    have z6 := R1.at (i := 6) rfl
    have z7 := R1.at (i := 7) rfl
    have z8 := R1.at (i := 8) rfl
    have zf := fun i => R1.fr i
    clear hT k1 bl br k0
    obtain ⟨g, off, rfl, hg, hcell⟩ := rx.at hx
    have q0 : w1.cell? ⟨g, off + n * 9, none⟩ = _ := hcell 0 _ rfl
    clear hcell hx rx
    go_wp2_with (go_at_call 58; refine (hN _).mono ?_; rintro e w' ⟨rfl, rfl⟩)
    refine bodyPost_ret (v := .tuple #[.agg #[.int .i64 0, .int .i64 0, .int .i64 0, .int .i64 0, .int .i64 0, .int .i64 0, .int .i64 0, .int .i64 0, .int .i64 0], .bool false]) ?_ rfl ⟨rfl, ?_⟩
    ·
     rw [results_cell_slot rfl]
     go_simp
    ·
     repeat' (first | with_reducible refine On.setNew ?_ (by omega) _ | with_reducible exact K1.out)
  ·
   have hx : L[n]? = none := List.getElem?_eq_none hge
   simp only [Int.natCast_nonneg, if_true, Int.toNat_natCast, hx]
   show Calls _ _ _ _ (fun e w' => e = .returned (.tuple #[.agg #[.int .i64 0, .int .i64 0, .int .i64 0, .int .i64 0, .int .i64 0, .int .i64 0, .int .i64 0, .int .i64 0, .int .i64 0], .bool false]) ∧ On w w')
   go_enter Tryz.func42, Tryz.ntmps42
   go_wp2_with fail
   refine (hT _ (k0 _ _ _)).mono ?_
   rintro e w1 ⟨ax, cx, rfl, rx, k1⟩
   have L1 := (bl _ _ _ _).on k1
   have R1 := (br _ _ _ _).on k1
   have K1 : Hid (On w w1) := (k0 _ _ _).trans k1
   have y0 := L1.at (i := 0) rfl
   have yl := L1.lt
   have z0 := R1.at (i := 0) rfl
   have z1 := R1.at (i := 1) rfl
   have z2 := R1.at (i := 2) rfl
   have z3 := R1.at (i := 3) rfl
   have z4 := R1.at (i := 4) rfl
   have z5 := R1.at (i := 5) rfl
   have z6 := R1.at (i := 6) rfl
   have z7 := R1.at (i := 7) rfl
   have z8 := R1.at (i := 8) rfl
   have zf := fun i => R1.fr i
   clear hT k1 bl br k0
   clear hx rx
   go_wp2
   refine bodyPost_ret (v := .tuple #[.agg #[.int .i64 0, .int .i64 0, .int .i64 0, .int .i64 0, .int .i64 0, .int .i64 0, .int .i64 0, .int .i64 0, .int .i64 0], .bool false]) ?_ rfl ⟨rfl, ?_⟩
   ·
    rw [results_cell_slot rfl]
    go_simp
   ·
    repeat' (first | with_reducible refine On.setNew ?_ (by omega) _ | with_reducible exact K1.out)
 ·
  rw [if_neg h0]
  have d0 : decide (pc < 0) = true := by simp; omega
  show Calls _ _ _ _ (fun e w' => e = .returned (.tuple #[.agg #[.int .i64 0, .int .i64 0, .int .i64 0, .int .i64 0, .int .i64 0, .int .i64 0, .int .i64 0, .int .i64 0, .int .i64 0], .bool false]) ∧ On w w')
  go_enter Tryz.func42, Tryz.ntmps42
  go_wp2_with fail
  refine (hT _ (k0 _ _ _)).mono ?_
  rintro e w1 ⟨ax, cx, rfl, rx, k1⟩
  have L1 := (bl _ _ _ _).on k1
  have R1 := (br _ _ _ _).on k1
  have K1 : Hid (On w w1) := (k0 _ _ _).trans k1
  have y0 := L1.at (i := 0) rfl
  have yl := L1.lt
  have z0 := R1.at (i := 0) rfl
  have z1 := R1.at (i := 1) rfl
  have z2 := R1.at (i := 2) rfl
  have z3 := R1.at (i := 3) rfl
  have z4 := R1.at (i := 4) rfl
  have z5 := R1.at (i := 5) rfl
  have z6 := R1.at (i := 6) rfl
  have z7 := R1.at (i := 7) rfl
  have z8 := R1.at (i := 8) rfl
  have zf := fun i => R1.fr i
  clear hT k1 bl br k0
  clear rx
  go_wp2
  refine bodyPost_ret (v := .tuple #[.agg #[.int .i64 0, .int .i64 0, .int .i64 0, .int .i64 0, .int .i64 0, .int .i64 0, .int .i64 0, .int .i64 0, .int .i64 0], .bool false]) ?_ rfl ⟨rfl, ?_⟩
  ·
   rw [results_cell_slot rfl]
   go_simp
  ·
   repeat' (first | with_reducible refine On.setNew ?_ (by omega) _ | with_reducible exact K1.out)
end Go.Proofs.YtioiabfheeglgaaGreatDoor
