/- What num.Op answers of any text. -/
import Derived.Test.YtnfmagafajpmpaaDoorNumBase
namespace Go.Proofs.YtnfmagafajpmpaaDoor
open Go.RowKit

theorem cell_sign {w : World} (hw : Lw w) (i : Nat) (h : i < 12) : w.cell? ⟨0, i, none⟩ = some (.string (signTexts.getD i ⟨#[]⟩)) := by
  have h0 := World.var?_cell gSgs hw.sgs i
  rw [h0]
  match i, h with
  | 0, _ | 1, _ | 2, _ | 3, _ | 4, _ | 5, _ | 6, _ | 7, _ | 8, _ | 9, _ | 10, _ | 11, _ => rfl
  | n + 12, h => omega

def sgn (k : Nat) : ByteArray := signTexts.getD k ⟨#[]⟩

set_option maxHeartbeats 400000 in
theorem op_any (s : ByteArray) (r : Nat) (h1 : 1 ≤ r) (h2 : r ≤ 12) (hlt : ∀ k, 1 ≤ k → k < r → ((sgn k).toList == s.toList) = false) (heq : r ≤ 11 → ((sgn r).toList == s.toList) = true) (w : World) (hw : Lw w) :
    Calls Tryd.prog 46 #[.string s] w fun e w' => e = .returned (.tuple #[.int .i64 (if r ≤ 11 then r else 0), .bool (decide (r ≤ 11))]) ∧ w' = w := by
  have hc : ∀ k, k < 12 → w.cell? ⟨0, k, none⟩ = some (.string (sgn k)) := fun k hk => cell_sign hw k hk
  clear hw
  go_enter Tryd.func46, Tryd.ntmps46
  go_wp2
  go_loop [4] (fun i => ∃ k : Nat, 1 ≤ k ∧ k ≤ r ∧ i = .int .i64 k) (fun i => 12 - (intOf i).toNat)
  case atStart => exact ⟨1, by omega, h1, rfl⟩
  case round =>
    obtain ⟨k, k1, k2, rfl⟩ := hrel
    by_cases hk : k < r
    · have e1 := hlt k k1 hk
      have e2 := hc k (by omega)
      clear hlt heq hc
      go_wp2
      go_round
      case rel => exact ⟨k + 1, by omega, by omega, by go_num⟩
      case measure => simp [intOf]; omega
    · obtain rfl : k = r := by omega
      by_cases h11 : k ≤ 11
      · have e1 := heq h11
        have e2 := hc k (by omega)
        clear hlt heq hc
        go_wp2
        go_ret2
        exact ⟨by simp, rfl⟩
      · clear hlt heq hc
        go_wp2
        go_ret2
        exact ⟨by simp, rfl⟩

/-- Where s stands among the signs; twelve if nowhere. -/
def opFrom (s : ByteArray) : Nat → Nat
  | 0 => 12
  | n + 1 => if ((sgn (12 - (n + 1))).toList == s.toList) = true then 12 - (n + 1) else opFrom s n
def opR (s : ByteArray) : Nat := opFrom s 11
theorem opFrom_is (s : ByteArray) (n : Nat) (hn : n ≤ 11) : 12 - n ≤ opFrom s n ∧ opFrom s n ≤ 12 ∧ (∀ k, 12 - n ≤ k → k < opFrom s n → ((sgn k).toList == s.toList) = false) ∧ (opFrom s n ≤ 11 → ((sgn (opFrom s n)).toList == s.toList) = true) := by
  induction n with
  | zero => exact ⟨by simp [opFrom], by simp [opFrom], fun k a b => by simp [opFrom] at b; omega, fun h => by simp [opFrom] at h⟩
  | succ n ih =>
    obtain ⟨r1, r2, r3, r4⟩ := ih (by omega)
    unfold opFrom
    by_cases e : ((sgn (12 - (n + 1))).toList == s.toList) = true
    · rw [if_pos e]
      exact ⟨by omega, by omega, fun k a b => by omega, fun _ => e⟩
    · rw [if_neg e]
      refine ⟨by omega, r2, fun k a b => ?_, r4⟩
      by_cases hk : k = 12 - (n + 1)
      · rw [hk]; simpa using e
      · exact r3 k (by omega) b
def opV (s : ByteArray) : Int := if opR s ≤ 11 then (opR s : Int) else 0
def opB (s : ByteArray) : Bool := decide (opR s ≤ 11)
theorem op_is (s : ByteArray) (w : World) (hw : Lw w) :
    Calls Tryd.prog 46 #[.string s] w fun e w' => e = .returned (.tuple #[.int .i64 (opV s), .bool (opB s)]) ∧ w' = w :=
  have h := opFrom_is s 11 (by omega)
  op_any s (opR s) h.1 h.2.1 h.2.2.1 h.2.2.2 w hw
end Go.Proofs.YtnfmagafajpmpaaDoor
