/- prog.isSeen, Next, Size. -/
import Derived.Test.YtplihlmejnohnaaGreatDoorJ07OkLeaf
import Derived.Test.YtplihlmejnohnaaGreatDoorJ15RowPut
namespace Go.Proofs.YtplihlmejnohnaaGreatDoor
open Go.RowKit

def seenB (k : Int) : Bool := k == 1 || (k == 2 || (k == 3 || k == 4))
theorem isSeen_is (k : Int) (w : World) : Calls Tryz.prog 85 #[.int .i64 k] w fun e w' => e = .returned (.bool (seenB k)) ∧ w' = w := by
  unfold seenB
  cases h1 : (k == 1) with
  | true =>
    go_enter Tryz.func85, Tryz.ntmps85
    go_wp2
    go_ret
    exact ⟨rfl, rfl⟩
  | false =>
    cases h2 : (k == 2) with
    | true =>
      go_enter Tryz.func85, Tryz.ntmps85
      go_wp2
      go_ret
      exact ⟨rfl, rfl⟩
    | false =>
      cases h3 : (k == 3) with
      | true =>
        go_enter Tryz.func85, Tryz.ntmps85
        go_wp2
        go_ret
        exact ⟨rfl, rfl⟩
      | false =>
        cases h4 : (k == 4)
        all_goals
          go_enter Tryz.func85, Tryz.ntmps85
          go_wp2
          go_ret
          exact ⟨rfl, rfl⟩
/-- The instruction that stands at a normal Local. -/
def nextP (L : List InsT) (l : LocT) : Option InsT := if 0 ≤ l.pc then (match L[l.pc.toNat]? with | some x => if seenB x.k then some x else none | none => none) else none
def nextV (o : Option InsT) : Value := .tuple #[insV (o.getD insZ), .bool o.isSome]
set_option maxHeartbeats 4000000 in
set_option maxRecDepth 8000 in
theorem pnext_is (LL : List (List InsT)) (t : Int) (l : LocT) (v : Value) (w : World) (h : ProgRd w v LL) :
    Calls Tryz.prog 65 #[v, .int .i64 t, locV l] w fun e w' => e = .returned (nextV (nextP (threadP LL t) l)) ∧ On w w' := by
  have hT := fun W (k : On w W) => thread_is LL t v W (h.on k)
  obtain ⟨a1, m1, c1, a2, m2, c2, a, c, rfl, r⟩ := h
  generalize threadP LL t = L at *
  obtain ⟨pc, r0, r1, r2, r3⟩ := l
  unfold locV
  clear r
  have k0 : ∀ A B C, On w (((w.alloc A).alloc B).alloc C) := fun A B C => (((On.refl w).alloc A).alloc B).alloc C
  have bl : ∀ A cs T C, Bk (((w.alloc A).alloc (.cells cs T)).alloc C) (w.heap.size + 1) cs := fun A cs T C => by have := (Bk.new (w.alloc A) cs T).alloc C; rwa [World.size_alloc] at this
  have br : ∀ A B cs T, Bk (((w.alloc A).alloc B).alloc (.cells cs T)) (w.heap.size + 1 + 1) cs := fun A B cs T => by have := Bk.new ((w.alloc A).alloc B) cs T; rwa [World.size_alloc, World.size_alloc] at this
  unfold nextP
  by_cases h0 : 0 ≤ pc
  · have d0 : decide (pc < 0) = false := by simp; omega
    obtain ⟨n, rfl⟩ : ∃ n : Nat, pc = (n : Int) := ⟨pc.toNat, by omega⟩
    rcases Nat.lt_or_ge n L.length with hlt | hge
    · obtain ⟨x, hx⟩ : ∃ x, L[n]? = some x := ⟨_, List.getElem?_eq_getElem hlt⟩
      simp only [Int.natCast_nonneg, if_true, Int.toNat_natCast, hx]
      have hN := fun W => isSeen_is x.k W
      cases hs : seenB x.k with
      | true =>
        rw [hs] at hN
        simp only [if_true]
        show Calls _ _ _ _ (fun e w' => e = .returned (.tuple #[.agg #[.int .i64 x.k, .int .i64 x.r, .int .i64 x.l, .int .i64 x.a.r, .int .i64 x.a.v, .int .i64 x.o, .int .i64 x.b.r, .int .i64 x.b.v, .int .i64 x.n], .bool true]) ∧ On w w')
        go_enter Tryz.func65, Tryz.ntmps65
        go_wp2_with fail
        refine (hT _ (k0 _ _ _)).mono ?_
        rintro e w1 ⟨ax, cx, rfl, rx, k1⟩
        have L1 := (bl _ _ _ _).on k1
        have R1 := (br _ _ _ _).on k1
        have K1 : Hid (On w w1) := (k0 _ _ _).trans k1
        have y0 := L1.at (i := 0) rfl
        have yl := L1.lt
        have z0 := R1.at (i := 0) rfl
        have z1 := R1.at (i := 1) rfl
        have z2 := R1.at (i := 2) rfl
        have z3 := R1.at (i := 3) rfl
        have z4 := R1.at (i := 4) rfl
        have z5 := R1.at (i := 5) rfl
        have z6 := R1.at (i := 6) rfl
        have z7 := R1.at (i := 7) rfl
        have z8 := R1.at (i := 8) rfl
        have zf := fun i => R1.fr i
        clear hT k1 bl br k0
        obtain ⟨g, off, rfl, hg, hcell⟩ := rx.at hx
        have q0 : w1.cell? ⟨g, off + n * 9, none⟩ = _ := hcell 0 _ rfl
        have q1 : w1.cell? ⟨g, off + n * 9 + 1, none⟩ = _ := hcell 1 _ rfl
        have q2 : w1.cell? ⟨g, off + n * 9 + 2, none⟩ = _ := hcell 2 _ rfl
        have q3 : w1.cell? ⟨g, off + n * 9 + 3, none⟩ = _ := hcell 3 _ rfl
        have q4 : w1.cell? ⟨g, off + n * 9 + 4, none⟩ = _ := hcell 4 _ rfl
        have q5 : w1.cell? ⟨g, off + n * 9 + 5, none⟩ = _ := hcell 5 _ rfl
        have q6 : w1.cell? ⟨g, off + n * 9 + 6, none⟩ = _ := hcell 6 _ rfl
        have q7 : w1.cell? ⟨g, off + n * 9 + 7, none⟩ = _ := hcell 7 _ rfl
        have q8 : w1.cell? ⟨g, off + n * 9 + 8, none⟩ = _ := hcell 8 _ rfl
        clear hcell hx rx
        go_wp2_with (go_at_call 85; refine (hN _).mono ?_; rintro e w' ⟨rfl, rfl⟩)
        refine bodyPost_ret (v := .tuple #[.agg #[.int .i64 x.k, .int .i64 x.r, .int .i64 x.l, .int .i64 x.a.r, .int .i64 x.a.v, .int .i64 x.o, .int .i64 x.b.r, .int .i64 x.b.v, .int .i64 x.n], .bool true]) ?_ rfl ⟨rfl, ?_⟩
        · rw [results_cell_slot rfl]
          go_simp
        · repeat' (first | with_reducible refine On.setNew ?_ (by omega) _ | with_reducible exact K1.out)
      | false =>
        rw [hs] at hN
        simp only [Bool.false_eq_true, if_false]
        show Calls _ _ _ _ (fun e w' => e = .returned (.tuple #[.agg #[.int .i64 0, .int .i64 0, .int .i64 0, .int .i64 0, .int .i64 0, .int .i64 0, .int .i64 0, .int .i64 0, .int .i64 0], .bool false]) ∧ On w w')
        go_enter Tryz.func65, Tryz.ntmps65
        go_wp2_with fail
        refine (hT _ (k0 _ _ _)).mono ?_
        rintro e w1 ⟨ax, cx, rfl, rx, k1⟩
        have L1 := (bl _ _ _ _).on k1
        have R1 := (br _ _ _ _).on k1
        have K1 : Hid (On w w1) := (k0 _ _ _).trans k1
        have y0 := L1.at (i := 0) rfl
        have yl := L1.lt
        have z0 := R1.at (i := 0) rfl
        have z1 := R1.at (i := 1) rfl
        have z2 := R1.at (i := 2) rfl
        have z3 := R1.at (i := 3) rfl
        have z4 := R1.at (i := 4) rfl
        have z5 := R1.at (i := 5) rfl
        have z6 := R1.at (i := 6) rfl
        have z7 := R1.at (i := 7) rfl
        have z8 := R1.at (i := 8) rfl
        have zf := fun i => R1.fr i
        clear hT k1 bl br k0
        obtain ⟨g, off, rfl, hg, hcell⟩ := rx.at hx
        have q0 : w1.cell? ⟨g, off + n * 9, none⟩ = _ := hcell 0 _ rfl
        clear hcell hx rx
        go_wp2_with (go_at_call 85; refine (hN _).mono ?_; rintro e w' ⟨rfl, rfl⟩)
        refine bodyPost_ret (v := .tuple #[.agg #[.int .i64 0, .int .i64 0, .int .i64 0, .int .i64 0, .int .i64 0, .int .i64 0, .int .i64 0, .int .i64 0, .int .i64 0], .bool false]) ?_ rfl ⟨rfl, ?_⟩
        · rw [results_cell_slot rfl]
          go_simp
        · repeat' (first | with_reducible refine On.setNew ?_ (by omega) _ | with_reducible exact K1.out)
    · have hx : L[n]? = none := List.getElem?_eq_none hge
      simp only [Int.natCast_nonneg, if_true, Int.toNat_natCast, hx]
      show Calls _ _ _ _ (fun e w' => e = .returned (.tuple #[.agg #[.int .i64 0, .int .i64 0, .int .i64 0, .int .i64 0, .int .i64 0, .int .i64 0, .int .i64 0, .int .i64 0, .int .i64 0], .bool false]) ∧ On w w')
      go_enter Tryz.func65, Tryz.ntmps65
      go_wp2_with fail
      refine (hT _ (k0 _ _ _)).mono ?_
      rintro e w1 ⟨ax, cx, rfl, rx, k1⟩
      have L1 := (bl _ _ _ _).on k1
      have R1 := (br _ _ _ _).on k1
      have K1 : Hid (On w w1) := (k0 _ _ _).trans k1
      have y0 := L1.at (i := 0) rfl
      have yl := L1.lt
      have z0 := R1.at (i := 0) rfl
      have z1 := R1.at (i := 1) rfl
      have z2 := R1.at (i := 2) rfl
      have z3 := R1.at (i := 3) rfl
      have z4 := R1.at (i := 4) rfl
      have z5 := R1.at (i := 5) rfl
      have z6 := R1.at (i := 6) rfl
      have z7 := R1.at (i := 7) rfl
      have z8 := R1.at (i := 8) rfl
      have zf := fun i => R1.fr i
      clear hT k1 bl br k0
      clear hx rx
      go_wp2
      refine bodyPost_ret (v := .tuple #[.agg #[.int .i64 0, .int .i64 0, .int .i64 0, .int .i64 0, .int .i64 0, .int .i64 0, .int .i64 0, .int .i64 0, .int .i64 0], .bool false]) ?_ rfl ⟨rfl, ?_⟩
      · rw [results_cell_slot rfl]
        go_simp
      · repeat' (first | with_reducible refine On.setNew ?_ (by omega) _ | with_reducible exact K1.out)
  · rw [if_neg h0]
    have d0 : decide (pc < 0) = true := by simp; omega
    show Calls _ _ _ _ (fun e w' => e = .returned (.tuple #[.agg #[.int .i64 0, .int .i64 0, .int .i64 0, .int .i64 0, .int .i64 0, .int .i64 0, .int .i64 0, .int .i64 0, .int .i64 0], .bool false]) ∧ On w w')
    go_enter Tryz.func65, Tryz.ntmps65
    go_wp2_with fail
    refine (hT _ (k0 _ _ _)).mono ?_
    rintro e w1 ⟨ax, cx, rfl, rx, k1⟩
    have L1 := (bl _ _ _ _).on k1
    have R1 := (br _ _ _ _).on k1
    have K1 : Hid (On w w1) := (k0 _ _ _).trans k1
    have y0 := L1.at (i := 0) rfl
    have yl := L1.lt
    have z0 := R1.at (i := 0) rfl
    have z1 := R1.at (i := 1) rfl
    have z2 := R1.at (i := 2) rfl
    have z3 := R1.at (i := 3) rfl
    have z4 := R1.at (i := 4) rfl
    have z5 := R1.at (i := 5) rfl
    have z6 := R1.at (i := 6) rfl
    have z7 := R1.at (i := 7) rfl
    have z8 := R1.at (i := 8) rfl
    have zf := fun i => R1.fr i
    clear hT k1 bl br k0
    clear rx
    go_wp2
    refine bodyPost_ret (v := .tuple #[.agg #[.int .i64 0, .int .i64 0, .int .i64 0, .int .i64 0, .int .i64 0, .int .i64 0, .int .i64 0, .int .i64 0, .int .i64 0], .bool false]) ?_ rfl ⟨rfl, ?_⟩
    · rw [results_cell_slot rfl]
      go_simp
    · repeat' (first | with_reducible refine On.setNew ?_ (by omega) _ | with_reducible exact K1.out)
end Go.Proofs.YtplihlmejnohnaaGreatDoor

namespace Go.Proofs.YtplihlmejnohnaaGreatDoor
open Go.RowKit

structure Sx (w : World) (zs : List Int) (a : Option Addr) (cap : Nat) (c1 c2 : Value) (i : Nat) (wr : World) : Prop where
  bl : Bk wr w.heap.size #[.slice a zs.length cap]
  br : Bk wr (w.heap.size + 1) #[.string ⟨#[]⟩, .slice none 0 0, .slice none 0 0, .int .i64 0, .slice none 0 0]
  bt : Bk wr (w.heap.size + 1 + 1) #[.string ⟨#[116]⟩, c1, c2, .int .i64 0, .slice none 0 0]
  ba : Bk wr (w.heap.size + 1 + 1 + 1) #[.int .i64 (i : Int)]
  on : On w wr
section
variable {w wr wr' : World} {zs : List Int} {a : Option Addr} {cap : Nat} {c1 c2 : Value} {i : Nat}
theorem Sx.wa (h : Sx w zs a cap c1 c2 i wr) (k : Wa (w.heap.size + 1 + 1 + 1) wr wr') {j : Nat} (ba : Bk wr' (w.heap.size + 1 + 1 + 1) #[.int .i64 (j : Int)]) : Sx w zs a cap c1 c2 j wr' :=
  ⟨h.bl.wa k (by omega), h.br.wa k (by omega), h.bt.wa k (by omega), ba, h.on.wa k (by omega)⟩
theorem Sx.alloc (h : Sx w zs a cap c1 c2 i wr) (o : Obj) : Sx w zs a cap c1 c2 i (wr.alloc o) := ⟨h.bl.alloc o, h.br.alloc o, h.bt.alloc o, h.ba.alloc o, h.on.alloc o⟩
theorem Sx.drew (h : Sx w zs a cap c1 c2 i wr) : Sx w zs a cap c1 c2 i wr.drew := ⟨h.bl, h.br, h.bt, h.ba, h.on.drew⟩
theorem Sx.grown (h : Sx w zs a cap c1 c2 i wr) {v : Value} {base : Nat} (hg : wr.grownBy wr' v.ownBlock) (hb : w.heap.size + 1 + 1 + 1 < base) (hv : ∀ g, v.ownBlock = some g → base ≤ g) : Sx w zs a cap c1 c2 i wr' :=
  ⟨h.bl.grown hg (base := base) (by omega) hv, h.br.grown hg (base := base) (by omega) hv, h.bt.grown hg (base := base) (by omega) hv, h.ba.grown hg (base := base) (by omega) hv, h.on.grown hg (fun g hg => by have := hv g hg; omega)⟩
theorem Sx.step (h : Sx w zs a cap c1 c2 i wr) : Sx w zs a cap c1 c2 (i + 1) (wr.setCell ⟨w.heap.size + 1 + 1 + 1, 0, none⟩ (.int .i64 ((i + 1 : Nat) : Int))) :=
  h.wa ((Wa.refl _ _).setAt 0 _) (Bk.put (cs := [.int .i64 (i : Int)]) h.ba 0 _)
theorem Sx.size (h : Sx w zs a cap c1 c2 i wr) : w.heap.size + 1 + 1 + 1 < wr.heap.size := h.ba.lt
theorem Sx.put1 (h : Sx w zs a cap c1 c2 i wr) (v : Value) : Sx w zs a cap v c2 i (wr.setCell ⟨w.heap.size + 1 + 1, 1, none⟩ v) :=
  ⟨h.bl.far (by omega) _ _, h.br.far (by omega) _ _, Bk.put (cs := [.string ⟨#[116]⟩, c1, c2, .int .i64 0, .slice none 0 0]) h.bt 1 v, h.ba.far (by omega) _ _, h.on.setNew (by omega) v⟩
theorem Sx.put2 (h : Sx w zs a cap c1 c2 i wr) (v : Value) : Sx w zs a cap c1 v i (wr.setCell ⟨w.heap.size + 1 + 1, 2, none⟩ v) :=
  ⟨h.bl.far (by omega) _ _, h.br.far (by omega) _ _, Bk.put (cs := [.string ⟨#[116]⟩, c1, c2, .int .i64 0, .slice none 0 0]) h.bt 2 v, h.ba.far (by omega) _ _, h.on.setNew (by omega) v⟩
theorem sx_start (w : World) (zs : List Int) (a : Option Addr) (cap : Nat) (T1 T2 T3 T4 : TypeId) : Sx w zs a cap (.slice none 0 0) (.slice none 0 0) 0 ((((w.alloc (.cells #[.slice a zs.length cap] T1)).alloc (.cells #[.string ⟨#[]⟩, .slice none 0 0, .slice none 0 0, .int .i64 0, .slice none 0 0] T2)).alloc (.cells #[.string ⟨#[116]⟩, .slice none 0 0, .slice none 0 0, .int .i64 0, .slice none 0 0] T3)).alloc (.cells #[.int .i64 0] T4)) := by
  refine ⟨(((Bk.new w _ _).alloc _).alloc _).alloc _, ?_, ?_, ?_, ((((On.refl w).alloc _).alloc _).alloc _).alloc _⟩
  · have := Bk.new (w.alloc (.cells #[.slice a zs.length cap] T1)) #[.string ⟨#[]⟩, .slice none 0 0, .slice none 0 0, .int .i64 0, .slice none 0 0] T2
    rw [World.size_alloc] at this
    exact (this.alloc _).alloc _
  · have := Bk.new ((w.alloc (.cells #[.slice a zs.length cap] T1)).alloc (.cells #[.string ⟨#[]⟩, .slice none 0 0, .slice none 0 0, .int .i64 0, .slice none 0 0] T2)) #[.string ⟨#[116]⟩, .slice none 0 0, .slice none 0 0, .int .i64 0, .slice none 0 0] T3
    rw [World.size_alloc, World.size_alloc] at this
    exact this.alloc _
  · have := Bk.new (((w.alloc (.cells #[.slice a zs.length cap] T1)).alloc (.cells #[.string ⟨#[]⟩, .slice none 0 0, .slice none 0 0, .int .i64 0, .slice none 0 0] T2)).alloc (.cells #[.string ⟨#[116]⟩, .slice none 0 0, .slice none 0 0, .int .i64 0, .slice none 0 0] T3)) #[.int .i64 0] T4
    rw [World.size_alloc, World.size_alloc, World.size_alloc] at this
    exact this
end
abbrev thrO (w : World) (base : Nat) (v : Value) (LL : List (List InsT)) : Prop := Own2 insC 9 117 107 w base v LL
/-- The closure's next number, in such a world. -/
theorem Sx.next {w wr : World} {zs : List Int} {a : Option Addr} {cap : Nat} {c1 c2 : Value} {i : Nat} (h : Sx w zs a cap c1 c2 i wr) (hi : i < 1000) (hz : zs.length ≤ 9223372036854775807) (hr : Rd intC 1 w (.slice a zs.length cap) zs) :
    Calls Tryz.prog 54 #[.pointer (some ⟨w.heap.size + 1 + 1 + 1, 0, none⟩), .pointer (some ⟨w.heap.size, 0, none⟩)] wr fun e w' => e = .returned (.int .i64 (nxtV zs i : Nat)) ∧ Sx w zs a cap c1 c2 (i + 1) w' ∧ Wa (w.heap.size + 1 + 1 + 1) wr w' := by
  refine (next_is zs a cap i (w.heap.size + 1 + 1 + 1) w.heap.size w wr hi hz h.ba h.bl (by omega) h.on (by omega) hr).mono ?_
  rintro e w' ⟨rfl, rfl⟩
  exact ⟨rfl, h.step, (Wa.refl _ _).setAt 0 _⟩
end Go.Proofs.YtplihlmejnohnaaGreatDoor
