/- The law VmNames, walked. -/
import Derived.Test.YtplihlmejnohnaaGreatDoorRName
import Derived.Test.YtplihlmejnohnaaGreatDoorJ48Awake16
import Derived.Laws.StructEq
namespace Go.Proofs.YtplihlmejnohnaaGreatDoor
open Go.RowKit

theorem sempty_is (s : ByteArray) : s.toList.isEmpty = !(s != ⟨#[]⟩) := by
  show _ = !(!(s == ⟨#[]⟩))
  rw [Bool.not_not, beq_toListBytes]
  have h : (⟨#[]⟩ : ByteArray).toList = [] := by rw [ByteArray.toList_eq]
  rw [h]
  cases s.toList <;> rfl
theorem empty_no {s : ByteArray} (h : (s != ⟨#[]⟩) = true) : s.toList.isEmpty = false := by rw [sempty_is, h]; rfl
theorem empty_yes {s : ByteArray} (h : (s != ⟨#[]⟩) = false) : s.toList.isEmpty = true := by rw [sempty_is, h]; rfl
theorem and_three (z : Int) : ∃ n : Nat, n < 4 ∧ bits .and .i64 z 3 = (n : Int) := by
  obtain ⟨k, h, e, g⟩ := i64_low z 2 3 (by decide) (by decide)
  exact ⟨k, by simpa using h, e⟩
theorem name_small (n : Nat) (h : n < 4) : nameB (n : Int) = ⟨#[116]⟩ ++ digN n := by
  have hc : n = 0 ∨ n = 1 ∨ n = 2 ∨ n = 3 := by omega
  rcases hc with rfl | rfl | rfl | rfl <;> rfl
set_option maxHeartbeats 4000000 in
set_option maxRecDepth 8000 in
theorem vmNames_walk (i k : Int) (w : World) (hW : W16 w) : Calls Tryz.prog 6 #[.int .i64 i, .int .i64 k] w fun e w' => e = .returned (.bool true) ∧ On w w' := by
  have HW : Hid (W16 w) := hW
  obtain ⟨n, hn4, hn⟩ := and_three i
  have HA : Hid (∀ W, On w W → Calls Tryz.prog 18 #[] W fun e w' => e = .returned (.bool true) ∧ On W w') := fun W h => awake16_is W (hW.on h).lw (hW.on h).db (hW.on h).pw
  have cI := fun W (h : On w W) => name_is i W (hW.on h).pw
  have cK := fun W (h : On w W) => name_is k W (hW.on h).pw
  have cR := fun W => rname_is i W
  have cS := fun W (h : On w W) => name_is n W (hW.on h).pw
  have cD := fun W => digit_is n hn4 W
  have hno := name_none i
  have hs := name_small n hn4
  have hinj := fun h => name_inj i k h
  obtain ⟨d, hd⟩ : ∃ d, digN n = ⟨#[d]⟩ := by
    have hc : n = 0 ∨ n = 1 ∨ n = 2 ∨ n = 3 := by omega
    rcases hc with rfl | rfl | rfl | rfl <;> exact ⟨_, rfl⟩
  rw [hs] at cS
  rw [hd] at cS cD
  clear hs hd hn4 hW
  have HINJ : Hid (0 ≤ i ∧ i < 24 → (nameB i == nameB k) = (i == k)) := hinj
  have HNO : Hid ((nameB i != ⟨#[]⟩) = (decide (0 ≤ i) && decide (i < 24))) := hno
  clear hinj hno
  generalize nameB i = s at *
  generalize nameB k = s2 at *
  go_enter Tryz.func6, Tryz.ntmps6
  go_wp2_with fail
  refine (cI _ (On.refl w)).mono ?_
  rintro _ w1 ⟨rfl, k1⟩
  have K1 : Hid (On w w1) := k1
  go_wp2_with fail
  refine (cK _ K1.out).mono ?_
  rintro _ w2 ⟨rfl, k2⟩
  have K2 : Hid (On w w2) := K1.out.trans k2
  clear k1 k2 cI cK
  have tail : ∀ W, On w W → True := fun _ _ => trivial
  rcases Decidable.em (0 ≤ i) with h0 | h0
  · have d0 : decide (0 ≤ i) = true := decide_eq_true h0
    rcases Decidable.em (i < 24) with h24 | h24
    · have d24 : decide (i < 24) = true := decide_eq_true h24
      have hne := empty_no (s := s) <| by rw [HNO.out, d0, d24]; rfl
      have heq : (s.toList == s2.toList) = (i == k) := by rw [← beq_toListBytes]; exact HINJ.out ⟨h0, h24⟩
      clear h0 h24 tail
      go_wp2_with fail
      refine (cR _).mono ?_
      rintro _ w3 ⟨rfl, k3⟩
      go_wp2_with fail
      refine (cS _ (K2.out.trans k3)).mono ?_
      rintro _ w4 ⟨rfl, k4⟩
      go_wp2_with fail
      refine (cD _).mono ?_
      rintro _ w5 ⟨rfl, k5⟩
      go_wp2_with fail
      refine (HA.out _ (((K2.out.trans k3).trans k4).trans k5)).mono ?_
      rintro _ w6 ⟨rfl, k6⟩
      go_wp2
      go_ret
      exact ⟨rfl, (((K2.out.trans k3).trans k4).trans k5).trans k6⟩
    · have d24 : decide (i < 24) = false := decide_eq_false h24
      have hne := empty_yes (s := s) <| by rw [HNO.out, d24, Bool.and_false]
      clear h0 h24 tail
      go_wp2_with fail
      refine (cR _).mono ?_
      rintro _ w3 ⟨rfl, k3⟩
      go_wp2_with fail
      refine (cS _ (K2.out.trans k3)).mono ?_
      rintro _ w4 ⟨rfl, k4⟩
      go_wp2_with fail
      refine (cD _).mono ?_
      rintro _ w5 ⟨rfl, k5⟩
      go_wp2_with fail
      refine (HA.out _ (((K2.out.trans k3).trans k4).trans k5)).mono ?_
      rintro _ w6 ⟨rfl, k6⟩
      go_wp2
      go_ret
      exact ⟨rfl, (((K2.out.trans k3).trans k4).trans k5).trans k6⟩
  · have d0 : decide (0 ≤ i) = false := decide_eq_false h0
    have hne := empty_yes (s := s) <| by rw [HNO.out, d0, Bool.false_and]
    clear h0 tail
    go_wp2_with fail
    refine (cR _).mono ?_
    rintro _ w3 ⟨rfl, k3⟩
    go_wp2_with fail
    refine (cS _ (K2.out.trans k3)).mono ?_
    rintro _ w4 ⟨rfl, k4⟩
    go_wp2_with fail
    refine (cD _).mono ?_
    rintro _ w5 ⟨rfl, k5⟩
    go_wp2_with fail
    refine (HA.out _ (((K2.out.trans k3).trans k4).trans k5)).mono ?_
    rintro _ w6 ⟨rfl, k6⟩
    go_wp2
    go_ret
    exact ⟨rfl, (((K2.out.trans k3).trans k4).trans k5).trans k6⟩
end Go.Proofs.YtplihlmejnohnaaGreatDoor
