/- What the document's Op answers of any text. -/
import Derived.Test.YtoaepdjjjcaafaaGreatDoorOpW
namespace Go.Proofs.YtoaepdjjjcaafaaGreatDoor
open Go.RowKit

theorem alloc_cell (w : World) (cs : Array Value) (t : TypeId) (k : Nat) : (w.alloc (.cells cs t)).cell? ⟨w.heap.size, k, none⟩ = cs[k]? := by
  simp only [World.cell?, World.alloc, Array.getElem?_push_size]
  rfl

theorem rsigns (w : World) :
    Calls Tryz.prog 69 #[] w fun e w' => e = .returned (.slice (some ⟨w.heap.size, 0, none⟩) 11 11) ∧ On w w' ∧ ∀ k, k < 11 → w'.cell? ⟨w.heap.size, k, none⟩ = some (.string (sgn (k + 1))) := by
  go_enter Tryz.func69, Tryz.ntmps69
  go_wp2
  go_ret
  refine ⟨rfl, Below.alloc (Below.refl _ _) (Nat.le_refl _) _, fun k hk => ?_⟩
  rw [alloc_cell]
  match k, hk with
  | 0, _ | 1, _ | 2, _ | 3, _ | 4, _ | 5, _ | 6, _ | 7, _ | 8, _ | 9, _ | 10, _ => rfl
  | n + 11, h => omega

set_option maxHeartbeats 400000 in
theorem rop_any (s : ByteArray) (r : Nat) (h1 : 1 ≤ r) (h2 : r ≤ 12) (hlt : ∀ k, 1 ≤ k → k < r → ((sgn k).toList == s.toList) = false) (heq : r ≤ 11 → ((sgn r).toList == s.toList) = true) (w : World) :
    Calls Tryz.prog 48 #[.string s] w fun e w' => e = .returned (.tuple #[.int .i64 (if r ≤ 11 then r else 0), .bool (decide (r ≤ 11))]) ∧ On w w' := by
  have hR := rsigns w
  go_enter Tryz.func48, Tryz.ntmps48
  go_wp2_with (go_at_call 69; refine hR.mono ?_; rintro e w1 ⟨rfl, k1, hc⟩)
  clear hR
  go_loop [5] (fun i => ∃ k : Nat, k + 1 ≤ r ∧ i = .int .i64 k) (fun i => 12 - (intOf i).toNat)
  case atStart => exact ⟨0, h1, rfl⟩
  case round =>
    obtain ⟨k, k2, rfl⟩ := hrel
    by_cases hk : k + 1 < r
    · have e1 := hlt (k + 1) (by omega) hk
      have e2 := hc k (by omega)
      clear hlt heq hc
      go_wp2
      go_round
      case rel => exact ⟨k + 1, by omega, by go_num⟩
      case measure => simp [intOf]; omega
    · obtain rfl : k + 1 = r := by omega
      by_cases h11 : k + 1 ≤ 11
      · have e1 := heq h11
        have e2 := hc k (by omega)
        clear hlt heq hc
        go_wp2
        go_ret2
        exact ⟨by simp, k1⟩
      · clear hlt heq hc
        go_wp2
        go_ret2
        exact ⟨by simp, k1⟩

theorem rop_is (s : ByteArray) (w : World) :
    Calls Tryz.prog 48 #[.string s] w fun e w' => e = .returned (.tuple #[.int .i64 (opV s), .bool (opB s)]) ∧ On w w' :=
  have h := opFrom_is s 11 (by omega)
  rop_any s (opR s) h.1 h.2.1 h.2.2.1 h.2.2.2 w
end Go.Proofs.YtoaepdjjjcaafaaGreatDoor
