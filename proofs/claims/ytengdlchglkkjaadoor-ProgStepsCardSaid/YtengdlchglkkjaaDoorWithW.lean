/- Letters as bits: with, count. -/
import Derived.Test.YtengdlchglkkjaaDoorReads
import Derived.Deep.LoopGhost
import Derived.Laws.BitsAllLaws
import Derived.Deep.QuietTactic
import Derived.BigQuiet
namespace Go.Proofs.YtengdlchglkkjaaDoor
open Go.RowKit

theorem withL_lt {n : Nat} (h : n < 67108864) (l : Int) : withL n l < 67108864 := by
  unfold withL
  split
  · exact Nat.or_lt_two_pow (n := 26) h (Nat.pow_lt_pow_right (by decide) (by omega))
  · exact h
theorem bor_at {n : Nat} {l : Int} (hn : n < 67108864) (h0 : 97 ≤ l) (h1 : l ≤ 122) : bits .or .u32 (n : Int) (2 ^ (l - 97).toNat % 4294967296) = (withL n l : Nat) := by
  unfold withL
  rw [if_pos ⟨h0, h1⟩]
  have hp : (2 : Nat) ^ (l - 97).toNat < 67108864 := Nat.pow_lt_pow_right (a := 2) (n := 26) (by decide) (by omega)
  have e : ((2 : Int) ^ (l - 97).toNat % 4294967296) = ((2 ^ (l - 97).toNat : Nat) : Int) := by
    have e' : ((2 ^ (l - 97).toNat : Nat) : Int) = (2 : Int) ^ (l - 97).toNat := by push_cast; rfl
    rw [← e']
    exact Int.emod_eq_of_lt (Int.natCast_nonneg _) (by omega)
  rw [e]
  exact u32_or_nat _ _ (by omega) (by omega)
set_option maxHeartbeats 1000000 in
theorem with_is (n : Nat) (l : Int) (hn : n < 67108864) (w : World) :
    Calls Tryd.prog 57 #[.int .u32 n, .int .i64 l] w fun e w' => e = .returned (.int .u32 (withL n l : Nat)) ∧ w' = w := by
  by_cases h0 : 97 ≤ l
  · by_cases h1 : l ≤ 122
    · have hb := bor_at hn h0 h1
      go_enter Tryd.func57, Tryd.ntmps57
      go_wp2
      go_ret
      exact ⟨rfl, rfl⟩
    · have e : withL n l = n := by unfold withL; rw [if_neg (by omega)]
      rw [e]
      go_enter Tryd.func57, Tryd.ntmps57
      go_wp2
      go_ret
      exact ⟨rfl, rfl⟩
  · have e : withL n l = n := by unfold withL; rw [if_neg (by omega)]
    rw [e]
    go_enter Tryd.func57, Tryd.ntmps57
    go_wp2
    go_ret
    exact ⟨rfl, rfl⟩
end Go.Proofs.YtengdlchglkkjaaDoor
