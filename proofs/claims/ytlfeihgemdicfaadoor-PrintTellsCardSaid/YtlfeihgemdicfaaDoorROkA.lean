/- The document's small parts of TestOk. -/
import Derived.Test.YtlfeihgemdicfaaDoorOkIns
namespace Go.Proofs.YtlfeihgemdicfaaDoor
open Go.RowKit
set_option linter.unusedSimpArgs false

theorem rnamed_is (n : Int) (w : World) :
    Calls Tryd.prog 39 #[.int .i64 n] w fun e w' => e = .returned (.bool (locOk n)) ∧ w' = w := by
  unfold locOk
  by_cases h0 : 97 ≤ n
  · by_cases h1 : n ≤ 122
    all_goals
      go_enter Tryd.func39, Tryd.ntmps39
      go_wp2
      all_goals (try go_ret)
      all_goals exact ⟨by simp [h0, h1], rfl⟩
  · go_enter Tryd.func39, Tryd.ntmps39
    go_wp2
    all_goals (try go_ret)
    all_goals exact ⟨by simp <;> omega, rfl⟩
theorem rlet_is (c : UInt8) (w : World) :
    Calls Tryd.prog 61 #[.int .u8 c.toNat] w fun e w' => e = .returned (.bool (locOk c.toNat)) ∧ w' = w := by
  unfold locOk
  generalize hn : ((c.toNat : Nat) : Int) = n
  clear hn
  by_cases h0 : 97 ≤ n
  · by_cases h1 : n ≤ 122
    all_goals
      go_enter Tryd.func61, Tryd.ntmps61
      go_wp2
      all_goals (try go_ret)
      all_goals exact ⟨by simp [h0, h1], rfl⟩
  · go_enter Tryd.func61, Tryd.ntmps61
    go_wp2
    all_goals (try go_ret)
    all_goals exact ⟨by simp <;> omega, rfl⟩
theorem rdig_is (c : UInt8) (w : World) :
    Calls Tryd.prog 62 #[.int .u8 c.toNat] w fun e w' => e = .returned (.bool (decide (48 ≤ c.toNat) && decide (c.toNat ≤ 57))) ∧ w' = w := by
  have e0 : decide (48 ≤ c.toNat) = decide ((48 : Int) ≤ (c.toNat : Nat)) := by simp; omega
  have e1 : decide (c.toNat ≤ 57) = decide (((c.toNat : Nat) : Int) ≤ 57) := by simp; omega
  rw [e0, e1]
  clear e0 e1
  generalize hn : ((c.toNat : Nat) : Int) = n
  clear hn
  by_cases h0 : 48 ≤ n
  · by_cases h1 : n ≤ 57
    all_goals
      go_enter Tryd.func62, Tryd.ntmps62
      go_wp2
      all_goals (try go_ret)
      all_goals exact ⟨by simp [h0, h1], rfl⟩
  · go_enter Tryd.func62, Tryd.ntmps62
    go_wp2
    all_goals (try go_ret)
    all_goals exact ⟨by simp <;> omega, rfl⟩
set_option maxHeartbeats 400000 in
theorem roperandOk_is (o : Opd) (w : World) :
    Calls Tryd.prog 63 #[.agg #[.int .i64 o.r, .int .i64 o.v]] w fun e w' => e = .returned (.bool (opdOk o)) ∧ On w w' := by
  obtain ⟨r, v⟩ := o
  unfold opdOk regOk
  simp only
  cases h1 : (r == -1) with
  | true =>
    go_enter Tryd.func63, Tryd.ntmps63
    go_wp2
    all_goals (try go_ret)
    all_goals exact ⟨by simp, (On.refl w).alloc _⟩
  | false =>
    by_cases h2 : 0 ≤ r
    · by_cases h3 : r ≤ 3
      · cases h4 : (v == 0) with
        | true =>
          go_enter Tryd.func63, Tryd.ntmps63
          go_wp2
          all_goals (try go_ret)
          all_goals exact ⟨by simp [h2, h3], (On.refl w).alloc _⟩
        | false =>
          go_enter Tryd.func63, Tryd.ntmps63
          go_wp2
          all_goals (try go_ret)
          all_goals exact ⟨by simp [h2, h3], (On.refl w).alloc _⟩
      · go_enter Tryd.func63, Tryd.ntmps63
        go_wp2
        all_goals (try go_ret)
        all_goals exact ⟨by simp [h2, h3], (On.refl w).alloc _⟩
    · go_enter Tryd.func63, Tryd.ntmps63
      go_wp2
      all_goals (try go_ret)
      all_goals exact ⟨by simp <;> omega, (On.refl w).alloc _⟩
end Go.Proofs.YtlfeihgemdicfaaDoor
