/- The document's Name of every number; the law's digit. -/
import Derived.Test.YtplihlmejnohnaaGreatDoorJ48Awake16
import Derived.BigQuiet
namespace Go.Proofs.YtplihlmejnohnaaGreatDoor
open Go.RowKit

set_option maxHeartbeats 8000000 in
set_option maxRecDepth 8000 in
theorem rname_lit (p : Nat) (hp : p < 24) (w : World) : Calls Tryz.prog 22 #[.int .i64 p] w fun e w' => e = .returned (.string (nameN p)) ∧ On w w' := by
  have hc : p = 0 ∨ p = 1 ∨ p = 2 ∨ p = 3 ∨ p = 4 ∨ p = 5 ∨ p = 6 ∨ p = 7 ∨ p = 8 ∨ p = 9 ∨ p = 10 ∨ p = 11 ∨ p = 12 ∨ p = 13 ∨ p = 14 ∨ p = 15 ∨ p = 16 ∨ p = 17 ∨ p = 18 ∨ p = 19 ∨ p = 20 ∨ p = 21 ∨ p = 22 ∨ p = 23 := by omega
  clear hp
  rcases hc with rfl | rfl | rfl | rfl | rfl | rfl | rfl | rfl | rfl | rfl | rfl | rfl | rfl | rfl | rfl | rfl | rfl | rfl | rfl | rfl | rfl | rfl | rfl | rfl
  · go_enter Tryz.func22, Tryz.ntmps22
    go_wp2
    go_ret
    exact ⟨rfl, by first | exact On.refl w | exact (On.refl w).drew | exact (On.refl w).drewN _⟩
  · go_enter Tryz.func22, Tryz.ntmps22
    go_wp2
    go_ret
    exact ⟨rfl, by first | exact On.refl w | exact (On.refl w).drew | exact (On.refl w).drewN _⟩
  · go_enter Tryz.func22, Tryz.ntmps22
    go_wp2
    go_ret
    exact ⟨rfl, by first | exact On.refl w | exact (On.refl w).drew | exact (On.refl w).drewN _⟩
  · go_enter Tryz.func22, Tryz.ntmps22
    go_wp2
    go_ret
    exact ⟨rfl, by first | exact On.refl w | exact (On.refl w).drew | exact (On.refl w).drewN _⟩
  · go_enter Tryz.func22, Tryz.ntmps22
    go_wp2
    go_ret
    exact ⟨rfl, by first | exact On.refl w | exact (On.refl w).drew | exact (On.refl w).drewN _⟩
  · go_enter Tryz.func22, Tryz.ntmps22
    go_wp2
    go_ret
    exact ⟨rfl, by first | exact On.refl w | exact (On.refl w).drew | exact (On.refl w).drewN _⟩
  · go_enter Tryz.func22, Tryz.ntmps22
    go_wp2
    go_ret
    exact ⟨rfl, by first | exact On.refl w | exact (On.refl w).drew | exact (On.refl w).drewN _⟩
  · go_enter Tryz.func22, Tryz.ntmps22
    go_wp2
    go_ret
    exact ⟨rfl, by first | exact On.refl w | exact (On.refl w).drew | exact (On.refl w).drewN _⟩
  · go_enter Tryz.func22, Tryz.ntmps22
    go_wp2
    go_quiet (fail)
    go_wp2
    go_ret
    exact ⟨rfl, by first | exact On.refl w | exact (On.refl w).drew | exact (On.refl w).drewN _⟩
  · go_enter Tryz.func22, Tryz.ntmps22
    go_wp2
    go_quiet (fail)
    go_wp2
    go_ret
    exact ⟨rfl, by first | exact On.refl w | exact (On.refl w).drew | exact (On.refl w).drewN _⟩
  · go_enter Tryz.func22, Tryz.ntmps22
    go_wp2
    go_quiet (fail)
    go_wp2
    go_ret
    exact ⟨rfl, by first | exact On.refl w | exact (On.refl w).drew | exact (On.refl w).drewN _⟩
  · go_enter Tryz.func22, Tryz.ntmps22
    go_wp2
    go_quiet (fail)
    go_wp2
    go_ret
    exact ⟨rfl, by first | exact On.refl w | exact (On.refl w).drew | exact (On.refl w).drewN _⟩
  · go_enter Tryz.func22, Tryz.ntmps22
    go_wp2
    go_quiet (fail)
    go_wp2
    go_ret
    exact ⟨rfl, by first | exact On.refl w | exact (On.refl w).drew | exact (On.refl w).drewN _⟩
  · go_enter Tryz.func22, Tryz.ntmps22
    go_wp2
    go_quiet (fail)
    go_wp2
    go_ret
    exact ⟨rfl, by first | exact On.refl w | exact (On.refl w).drew | exact (On.refl w).drewN _⟩
  · go_enter Tryz.func22, Tryz.ntmps22
    go_wp2
    go_quiet (fail)
    go_wp2
    go_ret
    exact ⟨rfl, by first | exact On.refl w | exact (On.refl w).drew | exact (On.refl w).drewN _⟩
  · go_enter Tryz.func22, Tryz.ntmps22
    go_wp2
    go_quiet (fail)
    go_wp2
    go_ret
    exact ⟨rfl, by first | exact On.refl w | exact (On.refl w).drew | exact (On.refl w).drewN _⟩
  · go_enter Tryz.func22, Tryz.ntmps22
    go_wp2
    go_quiet (fail)
    go_wp2
    go_ret
    exact ⟨rfl, by first | exact On.refl w | exact (On.refl w).drew | exact (On.refl w).drewN _⟩
  · go_enter Tryz.func22, Tryz.ntmps22
    go_wp2
    go_quiet (fail)
    go_wp2
    go_ret
    exact ⟨rfl, by first | exact On.refl w | exact (On.refl w).drew | exact (On.refl w).drewN _⟩
  · go_enter Tryz.func22, Tryz.ntmps22
    go_wp2
    go_quiet (fail)
    go_wp2
    go_ret
    exact ⟨rfl, by first | exact On.refl w | exact (On.refl w).drew | exact (On.refl w).drewN _⟩
  · go_enter Tryz.func22, Tryz.ntmps22
    go_wp2
    go_quiet (fail)
    go_wp2
    go_ret
    exact ⟨rfl, by first | exact On.refl w | exact (On.refl w).drew | exact (On.refl w).drewN _⟩
  · go_enter Tryz.func22, Tryz.ntmps22
    go_wp2
    go_quiet (fail)
    go_wp2
    go_ret
    exact ⟨rfl, by first | exact On.refl w | exact (On.refl w).drew | exact (On.refl w).drewN _⟩
  · go_enter Tryz.func22, Tryz.ntmps22
    go_wp2
    go_quiet (fail)
    go_wp2
    go_ret
    exact ⟨rfl, by first | exact On.refl w | exact (On.refl w).drew | exact (On.refl w).drewN _⟩
  · go_enter Tryz.func22, Tryz.ntmps22
    go_wp2
    go_quiet (fail)
    go_wp2
    go_ret
    exact ⟨rfl, by first | exact On.refl w | exact (On.refl w).drew | exact (On.refl w).drewN _⟩
  · go_enter Tryz.func22, Tryz.ntmps22
    go_wp2
    go_quiet (fail)
    go_wp2
    go_ret
    exact ⟨rfl, by first | exact On.refl w | exact (On.refl w).drew | exact (On.refl w).drewN _⟩
theorem rname_is (i : Int) (w : World) : Calls Tryz.prog 22 #[.int .i64 i] w fun e w' => e = .returned (.string (nameB i)) ∧ On w w' := by
  by_cases h0 : i < 0
  · have e : nameB i = ⟨#[]⟩ := by unfold nameB; rw [if_neg (by omega)]
    rw [e]
    have d0 : decide (0 ≤ i) = false := decide_eq_false (by omega)
    have d4 : decide (4 ≤ i) = false := decide_eq_false (by omega)
    have d8 : decide (8 ≤ i) = false := decide_eq_false (by omega)
    clear h0 e
    go_enter Tryz.func22, Tryz.ntmps22
    go_wp2
    go_ret
    exact ⟨rfl, On.refl w⟩
  by_cases h24 : 24 ≤ i
  · have e : nameB i = ⟨#[]⟩ := by unfold nameB; rw [if_neg (by omega)]
    rw [e]
    have d0 : decide (0 ≤ i) = true := decide_eq_true (by omega)
    have d4 : decide (4 ≤ i) = true := decide_eq_true (by omega)
    have d8 : decide (8 ≤ i) = true := decide_eq_true (by omega)
    have l4 : decide (i < 4) = false := decide_eq_false (by omega)
    have l8 : decide (i < 8) = false := decide_eq_false (by omega)
    have l24 : decide (i < 24) = false := decide_eq_false (by omega)
    clear h0 h24 e
    go_enter Tryz.func22, Tryz.ntmps22
    go_wp2
    go_ret
    exact ⟨rfl, On.refl w⟩
  obtain ⟨p, rfl⟩ : ∃ p : Nat, i = (p : Int) := ⟨i.toNat, by omega⟩
  have em : nameB (p : Int) = nameN p := by unfold nameB; rw [if_pos (by omega), Int.toNat_natCast]
  rw [em]
  exact rname_lit p (by omega) w
def digN (p : Nat) : ByteArray := match p with
  | 0 => ⟨#[48]⟩
  | 1 => ⟨#[49]⟩
  | 2 => ⟨#[50]⟩
  | 3 => ⟨#[51]⟩
  | _ => ⟨#[]⟩
theorem digit_is (p : Nat) (hp : p < 4) (w : World) : Calls Tryz.prog 23 #[.int .i64 p] w fun e w' => e = .returned (.string (digN p)) ∧ On w w' := by
  have hc : p = 0 ∨ p = 1 ∨ p = 2 ∨ p = 3 := by omega
  clear hp
  rcases hc with rfl | rfl | rfl | rfl
  all_goals
    go_enter Tryz.func23, Tryz.ntmps23
    go_wp2
    go_ret
    exact ⟨rfl, On.refl w⟩
theorem name_inj (i k : Int) (hi : 0 ≤ i ∧ i < 24) : (nameB i == nameB k) = (i == k) := by
  have h : ∀ p, p < 24 → ∀ q, q < 24 → (nameN p == nameN q) = (p == q) := by decide +kernel
  have h2 : ∀ p, p < 24 → (nameN p == ⟨#[]⟩) = false := by decide +kernel
  unfold nameB
  rw [if_pos hi]
  by_cases hk : 0 ≤ k ∧ k < 24
  · rw [if_pos hk, h i.toNat (by omega) k.toNat (by omega)]
    rw [Bool.eq_iff_iff]
    simp only [beq_iff_eq]
    omega
  · rw [if_neg hk, h2 i.toNat (by omega)]
    symm
    rw [beq_eq_false_iff_ne]
    rintro rfl
    exact hk hi
theorem name_none (i : Int) : (nameB i != ⟨#[]⟩) = (decide (0 ≤ i) && decide (i < 24)) := by
  have h2 : ∀ p, p < 24 → (nameN p != ⟨#[]⟩) = true := by decide +kernel
  unfold nameB
  by_cases hk : 0 ≤ i ∧ i < 24
  · rw [if_pos hk, h2 i.toNat (by omega), decide_eq_true hk.1, decide_eq_true hk.2]
    rfl
  · rw [if_neg hk]
    by_cases h : 0 ≤ i
    · rw [decide_eq_false (show ¬ i < 24 by omega), Bool.and_false]
      rfl
    · rw [decide_eq_false h]
      rfl
end Go.Proofs.YtplihlmejnohnaaGreatDoor
