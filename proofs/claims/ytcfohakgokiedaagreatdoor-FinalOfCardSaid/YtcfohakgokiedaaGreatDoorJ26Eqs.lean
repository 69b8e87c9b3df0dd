/- Blocks told apart by their types, events in a row of the call's own. -/
import Derived.Test.YtcfohakgokiedaaGreatDoorJ20RStep
import Derived.Test.YtcfohakgokiedaaGreatDoorJ21RAfter
import Derived.Test.YtcfohakgokiedaaGreatDoorJ24SmallH
import Derived.Test.YtcfohakgokiedaaGreatDoorJ25Tys
import Derived.Test.YtcfohakgokiedaaGreatDoorJ14StepA
import Derived.DeepKeys
import Derived.Laws.StructEq
namespace Go.Proofs.YtcfohakgokiedaaGreatDoor
open Go.RowKit

theorem infoEv : (Tryz.prog.info? 58).map (fun i => (i.zero, i.size, i.bytes)) = some (some (.agg #[.int .i64 0, .int .i64 0, .int .i64 0, .int .i64 0, .int .i64 0, .int .i64 0]), 6, 48) := by kernel_rfl
theorem neEvIns : (58 : TypeId) ≠ 67 := by decide
theorem one_ev (x : EvT) : ∀ u ∈ evC x, u.oneCell' = true := by
 intro u hu
 simp only [evC, List.mem_cons, List.not_mem_nil, or_false] at hu
 rcases hu with rfl | rfl | rfl | rfl | rfl | rfl <;> rfl
/-- The first of a row, and the others. -/
theorem Rd.pop {w : World} {b : Option Addr} {d : Nat} {v : Int} {R : List Int} (h : Rd intC 1 w (.slice b (R.length + 1) d) (v :: R)) :
  ∃ g off cap, b = some ⟨g, off, none⟩ ∧ d = cap + 1 ∧ R.length ≤ cap ∧ g < w.heap.size ∧ w.cell? ⟨g, off, none⟩ = some (.int .i64 v) ∧ Rd intC 1 w (.slice (some ⟨g, off + 1, none⟩) R.length cap) R := by
 obtain ⟨a', c', hv, hc, hm, hr⟩ := h
 simp only [List.length_cons, Value.slice.injEq] at hv hc hm
 obtain ⟨rfl, _, rfl⟩ := hv
 obtain ⟨g, off, ha, hg, hcell⟩ := hr (by simp)
 refine ⟨g, off, d - 1, ha, by omega, by omega, hg, ?_, _, _, rfl, by omega, by omega, fun _ => ⟨g, off + 1, rfl, hg, fun i x j u hi hj => ?_⟩⟩
 ·
  have := hcell 0 v 0 _ rfl rfl
  simpa using this
 ·
  have := hcell (i + 1) x j u (by simpa using hi) hj
  rw [← this]
  congr 2
  omega
theorem Rd.nilAt {α : Type} (C : α → List Value) (k : Nat) (w : World) (a : Option Addr) (c : Nat) : Rd C k w (.slice a 0 c) [] := ⟨a, c, rfl, Nat.zero_le _, by simp, fun h => absurd h (Nat.lt_irrefl 0)⟩
theorem results_scs {fn : Func} {p q u : Tmp} {ty : TypeId} (h : fn.results = #[.tmp p, .cell q ty, .tmp u]) (tmps : Array Value) (P : Program) (w : World) :
  (results fn tmps).run P w = ((asAddr (tmps.getD q undef)).run P w).andThen fun a w₁ => ((loadVar ty a).run P w₁).andThen fun v w₂ => .ok (.tuple #[tmps.getD p undef, v, tmps.getD u undef]) w₂ := by
 simp only [results, h]
 simp [Sem.run_bind, Result.andThen]
end Go.Proofs.YtcfohakgokiedaaGreatDoor

namespace Go.Proofs.YtcfohakgokiedaaGreatDoor
open Go.RowKit

theorem eq4_is (w : World) (x0 x1 x2 x3 y0 y1 y2 y3 : Int) :
  (Op.equalIn 10000 33 (.agg #[.int .i64 x0, .int .i64 x1, .int .i64 x2, .int .i64 x3]) (.agg #[.int .i64 y0, .int .i64 y1, .int .i64 y2, .int .i64 y3])).run Tryz.prog w = .ok (x0 == y0 && (x1 == y1 && (x2 == y2 && x3 == y3))) w := by
 have hc : Tryz.prog.cellsOf 2 = 1 := by kernel_rfl
 have hint := fun (d : Nat) (a b : Int) => run_equalIn_int (P := Tryz.prog) w d 2 .i64 .i64 a b Tryz.underlying2
 obtain ⟨i, hi⟩ : ∃ i, Tryz.prog.info? 2 = some i := info_of_underlying Tryz.underlying2
 rw [show (10000 : Nat) = 9999 + 1 from rfl, run_equalIn_array w 9999 _ _ Tryz.underlying33 hi, hc]
 have ez := Tryz.sizeOf2
 have ea := Tryz.isAgg2
 simp only [show List.range 4 = [0, 1, 2, 3] from rfl, Op.eqItems]
 go_simp
 by_cases h0 : x0 = y0
 ·
  by_cases h1 : x1 = y1
  ·
   by_cases h2 : x2 = y2
   ·
    by_cases h3 : x3 = y3
    ·
     simp [h0, h1, h2, h3]
    ·
     simp [h0, h1, h2, h3]
   ·
    simp [h0, h1, h2]
  ·
   simp [h0, h1]
 ·
  simp [h0]
end Go.Proofs.YtcfohakgokiedaaGreatDoor
