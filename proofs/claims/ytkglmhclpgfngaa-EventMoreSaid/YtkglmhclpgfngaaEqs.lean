/- Arrays of four numbers, held against each other. -/
import Derived.Test.YtkglmhclpgfngaaStepA
import Derived.DeepKeys
import Derived.Laws.StructEq
namespace Go.Proofs.Ytkglmhclpgfngaa
open Go.RowKit

theorem eq4_is (w : World) (x0 x1 x2 x3 y0 y1 y2 y3 : Int) :
    (Op.equalIn 10000 35 (.agg #[.int .i64 x0, .int .i64 x1, .int .i64 x2, .int .i64 x3]) (.agg #[.int .i64 y0, .int .i64 y1, .int .i64 y2, .int .i64 y3])).run Try.prog w = .ok (x0 == y0 && (x1 == y1 && (x2 == y2 && x3 == y3))) w := by
  have hc : Try.prog.cellsOf 2 = 1 := by kernel_rfl
  have hint := fun (d : Nat) (a b : Int) => run_equalIn_int (P := Try.prog) w d 2 .i64 .i64 a b Try.underlying2
  obtain ⟨i, hi⟩ : ∃ i, Try.prog.info? 2 = some i := info_of_underlying Try.underlying2
  rw [show (10000 : Nat) = 9999 + 1 from rfl, run_equalIn_array w 9999 _ _ Try.underlying35 hi, hc]
  have ez := Try.sizeOf2
  have ea := Try.isAgg2
  simp only [show List.range 4 = [0, 1, 2, 3] from rfl, Op.eqItems]
  go_simp
  by_cases h0 : x0 = y0
  · by_cases h1 : x1 = y1
    · by_cases h2 : x2 = y2
      · by_cases h3 : x3 = y3
        · simp [h0, h1, h2, h3]
        · simp [h0, h1, h2, h3]
      · simp [h0, h1, h2]
    · simp [h0, h1]
  · simp [h0]
end Go.Proofs.Ytkglmhclpgfngaa
