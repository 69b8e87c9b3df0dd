/- A row's block can be read. -/
import Derived.Test.YtioiabfheeglgaaGreatDoorJ01Puts
import Derived.Test.YtioiabfheeglgaaGreatDoorJ21ExC
import Derived.Test.YtioiabfheeglgaaGreatDoorJ03RegGrow
import Derived.Deep.DeepCutAuto
namespace Go.Proofs.YtioiabfheeglgaaGreatDoor
open Go.RowKit

theorem Rd.bk {α : Type} {C : α → List Value} {k : Nat} (hC : ∀ x, (C x).length = k) {w : World} {N : Nat} {L : List α} (h : Bk w N (L.flatMap C).toArray) (c : Nat) (hc : L.length ≤ c) (hm : L.length ≤ 9223372036854775807) : Rd C k w (.slice (some ⟨N, 0, none⟩) L.length c) L := by
 refine ⟨_, c, rfl, hc, hm, fun _ => ⟨N, 0, rfl, h.lt, fun i x j u hi hj => h.at ?_⟩⟩
 have hj' : j < k := by have := (List.getElem?_eq_some_iff.1 hj).1; rwa [hC] at this
 rw [Nat.zero_add, List.getElem?_toArray, flat_at C k hC L i j x hi hj', hj]
theorem Rd2.one {α : Type} {C : α → List Value} {k n : Nat} {w : World} {N : Nat} {L : List α} {a : Option Addr} {c : Nat} (hn : L.length = n) (h : Bk w N #[.slice a n c]) (hr : Rd C k w (.slice a L.length c) L) : Rd2 C k w (.slice (some ⟨N, 0, none⟩) 1 1) [L] := by
 subst hn
 refine ⟨[.slice a L.length c], rfl, Rd.bk (C := oneC) (fun _ => rfl) (L := [.slice a L.length c]) h 1 (Nat.le_refl _) (by simp), fun i u M hi hM => ?_⟩
 match i, hi, hM with
 | 0, hi, hM =>
  simp only [List.getElem?_cons_zero, Option.some.injEq] at hi hM
  subst hi; subst hM
  exact hr
 | i + 1, hi, _ => simp at hi
end Go.Proofs.YtioiabfheeglgaaGreatDoor

namespace Go.Proofs.YtioiabfheeglgaaGreatDoor
open Go.RowKit

theorem eqEv_any (w : World) (x0 x1 x2 x3 x4 x5 y0 y1 y2 y3 y4 y5 : Int) :
  (Op.equalIn 10000 58 (.agg #[.int .i64 x0, .int .i64 x1, .int .i64 x2, .int .i64 x3, .int .i64 x4, .int .i64 x5]) (.agg #[.int .i64 y0, .int .i64 y1, .int .i64 y2, .int .i64 y3, .int .i64 y4, .int .i64 y5])).run Tryz.prog w = .ok (x0 == y0 && (x1 == y1 && (x2 == y2 && (x3 == y3 && (x4 == y4 && x5 == y5))))) w := by
 go_simp
 by_cases h0 : x0 = y0
 ·
  by_cases h1 : x1 = y1
  ·
   by_cases h2 : x2 = y2
   ·
    by_cases h3 : x3 = y3
    ·
     by_cases h4 : x4 = y4
     ·
      by_cases h5 : x5 = y5
      ·
       simp [h0, h1, h2, h3, h4, h5]
      ·
       simp [h0, h1, h2, h3, h4, h5]
     ·
      simp [h0, h1, h2, h3, h4]
    ·
     simp [h0, h1, h2, h3]
   ·
    simp [h0, h1, h2]
  ·
   simp [h0, h1]
 ·
  simp [h0]
def evE2 (a b : EvT) : Bool := a.t == b.t && (a.i == b.i && (a.k == b.k && (a.l == b.l && (a.r == b.r && a.w == b.w))))
theorem evE2_eq {a b : EvT} (h : evE2 a b = true) : a = b := by
 obtain ⟨a0, a1, a2, a3, a4, a5⟩ := a
 obtain ⟨b0, b1, b2, b3, b4, b5⟩ := b
 simp only [evE2, Bool.and_eq_true, beq_iff_eq] at h
 obtain ⟨rfl, rfl, rfl, rfl, rfl, rfl⟩ := h
 rfl
/-- An execution in memory, as it is read. -/
structure ExRd (w : World) (v : Value) (x : ExT) : Prop where
 ex : ∃ a1 c1 a2 c2 a3 c3, v = .agg #[.slice a1 x.evs.length c1, .slice a2 x.rf.length c2, .slice a3 x.co.length c3] ∧
  Rd evC 6 w (.slice a1 x.evs.length c1) x.evs ∧ Rd intC 1 w (.slice a2 x.rf.length c2) x.rf ∧ Rd2 intC 1 w (.slice a3 x.co.length c3) x.co
theorem ExRd.on {w w' : World} {v : Value} {x : ExT} (h : ExRd w v x) (k : On w w') : ExRd w' v x := by
 obtain ⟨a1, c1, a2, c2, a3, c3, e, r1, r2, r3⟩ := h.ex
 exact ⟨a1, c1, a2, c2, a3, c3, e, r1.on k, r2.on k, r3.on k⟩
abbrev eA (x : ExT) (a1 : Option Addr) (c1 : Nat) (a2 : Option Addr) (c2 : Nat) (a3 : Option Addr) (c3 : Nat) : Array Value := #[.slice a1 x.evs.length c1, .slice a2 x.rf.length c2, .slice a3 x.co.length c3]
end Go.Proofs.YtioiabfheeglgaaGreatDoor
