/- The small parts of print.Ok. -/
import Derived.Test.YtlfeihgemdicfaaDoorJ00Trees
namespace Go.Proofs.YtlfeihgemdicfaaDoor
open Go.RowKit

theorem isRegister_is (n : Int) (w : World) :
    Calls Tryd.prog 65 #[.int .i64 n] w fun e w' => e = .returned (.bool (regOk n)) ∧ w' = w := by
  unfold regOk
  go_enter Tryd.func65, Tryd.ntmps65
  by_cases h0 : 0 ≤ n
  · go_wp2
    all_goals (try go_ret)
    all_goals exact ⟨by simp [h0], rfl⟩
  · go_wp2
    all_goals (try go_ret)
    all_goals exact ⟨by simp; intro h; omega, rfl⟩
theorem isLocation_is (n : Int) (w : World) :
    Calls Tryd.prog 53 #[.int .i64 n] w fun e w' => e = .returned (.bool (locOk n)) ∧ w' = w := by
  unfold locOk
  go_enter Tryd.func53, Tryd.ntmps53
  by_cases h0 : 97 ≤ n
  · go_wp2
    all_goals (try go_ret)
    all_goals exact ⟨by simp [h0], rfl⟩
  · go_wp2
    all_goals (try go_ret)
    all_goals exact ⟨by simp; intro h; omega, rfl⟩
set_option maxHeartbeats 400000 in
theorem okOperand_is (o : Opd) (w : World) :
    Calls Tryd.prog 64 #[.agg #[.int .i64 o.r, .int .i64 o.v]] w fun e w' => e = .returned (.bool (opdOk o)) ∧ On w w' := by
  obtain ⟨r, v⟩ := o
  unfold opdOk
  simp only
  have hR := fun W => isRegister_is r W
  cases h1 : (r == -1) with
  | true =>
    go_enter Tryd.func64, Tryd.ntmps64
    go_wp2
    all_goals (try go_ret)
    all_goals exact ⟨by simp, (On.refl w).alloc _⟩
  | false =>
    have hrr : ((r : Int) == r) = true := by simp
    cases h2 : (v == 0) with
    | true =>
      go_enter Tryd.func64, Tryd.ntmps64
      go_wp2_with fail
      refine (hR _).mono ?_
      rintro e w1 ⟨rfl, rfl⟩
      go_wp2
      all_goals (try go_ret)
      all_goals exact ⟨by simp, (On.refl w).alloc _⟩
    | false =>
      go_enter Tryd.func64, Tryd.ntmps64
      go_wp2
      all_goals (try go_ret)
      all_goals exact ⟨by simp, (On.refl w).alloc _⟩
end Go.Proofs.YtlfeihgemdicfaaDoor
