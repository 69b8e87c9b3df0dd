/- A relation is the same as itself. -/
import Derived.Test.YthbiaojefmdcmaaRelI
import Derived.DeepKeys
import Derived.Laws.StructEq
namespace Go.Proofs.Ythbiaojefmdcmaa
open Go.RowKit

theorem plainSet : Try.prog.plainKey 24 = true := by kernel_rfl
theorem eqItems_same (w : World) (d : Nat) (xs : Array Value) : ∀ is : List Nat, (∀ i ∈ is, ∃ k : Int, xs[i]? = some (.int .u64 k)) → (Op.eqItems (d + 1) 24 1 xs xs is).run Try.prog w = .ok true w
  | [], _ => by simp [Op.eqItems]
  | i :: is, h => by
    obtain ⟨k, hk⟩ := h i (by simp)
    have h1 := run_part_plain (P := Try.prog) w plainSet (off := i * 1) (by rw [Nat.mul_one]; exact hk)
    have h2 := run_equalIn_int (P := Try.prog) w d 24 .u64 .u64 k k Try.underlying24
    simp only [Op.eqItems, Sem.run_bind, h1, h2, Result.andThen_ok, beq_self_eq_true, Bool.not_true, Bool.false_eq_true, if_false]
    exact eqItems_same w d xs is (fun j hj => h j (by simp [hj]))
theorem rows_at (r : RelT) (i : Nat) (h : i < 64) : ((relA r).extract 1 65)[i]? = some (.int .u64 (r.f i)) := by
  rw [Array.getElem?_extract, if_pos (by rw [relA_size]; omega)]
  exact relA_at r h
theorem eqRows_same (w : World) (r : RelT) : (Op.equalIn 9999 25 (.agg ((relA r).extract 1 65)) (.agg ((relA r).extract 1 65))).run Try.prog w = .ok true w := by
  have hc : Try.prog.cellsOf 24 = 1 := by kernel_rfl
  obtain ⟨i, hi⟩ : ∃ i, Try.prog.info? 24 = some i := info_of_underlying Try.underlying24
  rw [show (9999 : Nat) = 9998 + 1 from rfl, run_equalIn_array w 9998 _ _ Try.underlying25 hi, hc]
  exact eqItems_same w 9997 _ _ (fun i hi => ⟨r.f i, rows_at r i (by simpa using hi)⟩)
theorem eqRel_same (w : World) (r : RelT) : (Op.equalIn 10000 27 (.agg (relA r)) (.agg (relA r))).run Try.prog w = .ok true w := by
  have hq := fun W => eqRows_same W r
  have h0 := relA_zero r
  have ea := Try.isAgg25
  have ez := Try.sizeOf25
  generalize relA r = A at *
  go_simp
end Go.Proofs.Ythbiaojefmdcmaa
