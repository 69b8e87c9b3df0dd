/- The document's Value. -/
import Derived.Test.YtkglmhclpgfngaaStepD
import Derived.Test.YtkglmhclpgfngaaRDoW
namespace Go.Proofs.Ytkglmhclpgfngaa
open Go.RowKit

set_option maxHeartbeats 1000000 in
theorem rvalue_is (o : Opd) (l : LocT) (w : World) : Calls Try.prog 53 #[.agg #[.int .i64 o.r, .int .i64 o.v], locV l] w fun e w' => e = .returned (.int .i64 (valOf o l)) ∧ On w w' := by
  obtain ⟨r, v⟩ := o
  obtain ⟨pc, r0, r1, r2, r3⟩ := l
  unfold valOf locV
  cases h : regOk r with
  | false =>
    by_cases h0 : 0 ≤ r
    · have h3 : decide (r ≤ 3) = false := by unfold regOk at h; simp at h; simp; omega
      go_enter Try.func53, Try.ntmps53
      go_wp2
      go_ret
      exact ⟨rfl, ((On.refl w).alloc _).alloc _⟩
    · go_enter Try.func53, Try.ntmps53
      go_wp2
      go_ret
      exact ⟨rfl, ((On.refl w).alloc _).alloc _⟩
  | true =>
    rcases regOk_four h with rfl | rfl | rfl | rfl
    all_goals
      go_enter Try.func53, Try.ntmps53
      go_wp2
      go_ret
      exact ⟨rfl, ((On.refl w).alloc _).alloc _⟩
end Go.Proofs.Ytkglmhclpgfngaa
