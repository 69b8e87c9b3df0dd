/- Arrays of four numbers, held against each other. -/
import Derived.Test.YtioiabfheeglgaaGreatDoorJ08StepB
import Derived.DeepKeys
import Derived.Laws.StructEq
namespace Go.Proofs.YtioiabfheeglgaaGreatDoor
open Go.RowKit

theorem eq4_is (w : World) (x0 x1 x2 x3 y0 y1 y2 y3 : Int) :
  (Op.equalIn 10000 33 (.agg #[.int .i64 x0, .int .i64 x1, .int .i64 x2, .int .i64 x3]) (.agg #[.int .i64 y0, .int .i64 y1, .int .i64 y2, .int .i64 y3])).run Tryz.prog w = .ok (x0 == y0 && (x1 == y1 && (x2 == y2 && x3 == y3))) w := by
 have hc : Tryz.prog.cellsOf 2 = 1 := by kernel_rfl
 have hint := fun (d : Nat) (a b : Int) => run_equalIn_int (P := Tryz.prog) w d 2 .i64 .i64 a b Tryz.underlying2
 obtain ⟨i, hi⟩ : ∃ i, Tryz.prog.info? 2 = some i := info_of_underlying Tryz.underlying2
 rw [show (10000 : Nat) = 9999 + 1 from rfl, run_equalIn_array w 9999 _ _ Tryz.underlying33 hi, hc]
 have ez := Tryz.sizeOf2
 have ea := Tryz.isAgg2
 simp only [show List.range 4 = [0, 1, 2, 3] from rfl, Op.eqItems]
 go_simp
 by_cases h0 : x0 = y0
 ·
  by_cases h1 : x1 = y1
  ·
   by_cases h2 : x2 = y2
   ·
    by_cases h3 : x3 = y3
    ·
     simp [h0, h1, h2, h3]
    ·
     simp [h0, h1, h2, h3]
   ·
    simp [h0, h1, h2]
  ·
   simp [h0, h1]
 ·
  simp [h0]
end Go.Proofs.YtioiabfheeglgaaGreatDoor

namespace Go.Proofs.YtioiabfheeglgaaGreatDoor
open Go.RowKit

theorem eq4b_is (w : World) (x0 x1 x2 x3 y0 y1 y2 y3 : Int) :
  (Op.equalIn 9999 33 (.agg #[.int .i64 x0, .int .i64 x1, .int .i64 x2, .int .i64 x3]) (.agg #[.int .i64 y0, .int .i64 y1, .int .i64 y2, .int .i64 y3])).run Tryz.prog w = .ok (x0 == y0 && (x1 == y1 && (x2 == y2 && x3 == y3))) w := by
 have hc : Tryz.prog.cellsOf 2 = 1 := by kernel_rfl
 obtain ⟨i, hi⟩ : ∃ i, Tryz.prog.info? 2 = some i := info_of_underlying Tryz.underlying2
 rw [show (9999 : Nat) = 9998 + 1 from rfl, run_equalIn_array w 9998 _ _ Tryz.underlying33 hi, hc]
 simp only [show List.range 4 = [0, 1, 2, 3] from rfl, Op.eqItems]
 go_simp
 by_cases h0 : x0 = y0
 ·
  by_cases h1 : x1 = y1
  ·
   by_cases h2 : x2 = y2
   ·
    by_cases h3 : x3 = y3
    ·
     simp [h0, h1, h2, h3]
    ·
     simp [h0, h1, h2, h3]
   ·
    simp [h0, h1, h2]
  ·
   simp [h0, h1]
 ·
  simp [h0]
theorem eqLoc_same (w : World) (x0 x1 x2 x3 x4 : Int) :
  (Op.equalIn 10000 73 (.agg #[.int .i64 x0, .int .i64 x1, .int .i64 x2, .int .i64 x3, .int .i64 x4]) (.agg #[.int .i64 x0, .int .i64 x1, .int .i64 x2, .int .i64 x3, .int .i64 x4])).run Tryz.prog w = .ok true w := by
 have hq := fun W => eq4b_is W x1 x2 x3 x4 x1 x2 x3 x4
 have ea := Tryz.isAgg33
 have ez := Tryz.sizeOf33
 go_simp
end Go.Proofs.YtioiabfheeglgaaGreatDoor
