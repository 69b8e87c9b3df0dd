/- What the document's own letter, digit and skip answer. -/
import Derived.Test.YtnfmagafajpmpaaDoorLexPure
import Derived.Test.YtnfmagafajpmpaaDoorNumBase
import Derived.Deep.LoopGhost
namespace Go.Proofs.YtnfmagafajpmpaaDoor
open Go.RowKit

theorem ret_b {x y : Bool} (h : x = y) : Ending.returned (.bool x) = .returned (.bool y) := by rw [h]
theorem rletter_is (c : Nat) (w : World) : Calls Tryd.prog 13 #[.int .u8 c] w fun e w' => e = .returned (.bool (letN c)) ∧ w' = w := by
  by_cases h1 : 97 ≤ c
  · go_enter Tryd.func13, Tryd.ntmps13
    go_wp2
    go_ret
    exact ⟨ret_b (by rw [Bool.eq_iff_iff]; simp [letN]; omega), rfl⟩
  · have e : letN c = false := by simp [letN, h1]
    rw [e]
    go_enter Tryd.func13, Tryd.ntmps13
    go_wp2
    go_ret
    exact ⟨rfl, rfl⟩
theorem rdigit_is (c : Nat) (w : World) : Calls Tryd.prog 14 #[.int .u8 c] w fun e w' => e = .returned (.bool (digN c)) ∧ w' = w := by
  by_cases h1 : 48 ≤ c
  · go_enter Tryd.func14, Tryd.ntmps14
    go_wp2
    go_ret
    exact ⟨ret_b (by rw [Bool.eq_iff_iff]; simp [digN]; omega), rfl⟩
  · have e : digN c = false := by simp [digN, h1]
    rw [e]
    go_enter Tryd.func14, Tryd.ntmps14
    go_wp2
    go_ret
    exact ⟨rfl, rfl⟩

set_option maxHeartbeats 1000000 in
theorem rskip_is (s : ByteArray) (a : Nat) (hs : s.size ≤ 140737488351232) (ha : a ≤ s.size) (w : World) :
    Calls Tryd.prog 12 #[.string s, .int .i64 a] w fun e w' => e = .returned (.int .i64 (pl s a)) ∧ On w w' := by
  go_enter Tryd.func12, Tryd.ntmps12
  go_wp2
  go_loopg [1] (s.size - a) (fun k v wr => ∃ a' : Nat, v = .int .i64 a' ∧ k = s.size - a' ∧ a' ≤ s.size ∧ a' + gap false (suf s a') = pl s a ∧ On w wr)
  case atStart => exact ⟨a, rfl, rfl, ha, rfl, On.refl _⟩
  case round =>
    obtain ⟨a', rfl, hk, ha', hg, hon⟩ := hrel
    have Hg : Hid (a' + gap false (suf s a') = pl s a) := hg
    clear hg
    by_cases hlt : a' < s.size
    · have hcN := bN_lt hlt
      obtain ⟨c, hc⟩ : ∃ c, (s[a']'hlt).toNat = c := ⟨_, rfl⟩
      rw [hc] at hcN
      have HCN : Hid (bN s a' = c) := hcN
      clear hcN
      rcases (show c = 32 ∨ c = 9 ∨ c = 10 ∨ c = 35 ∨ (c ≠ 32 ∧ c ≠ 9 ∧ c ≠ 10 ∧ c ≠ 35) from by omega) with h | h | h | h | ⟨h1, h2, h3, h4⟩
      · subst h
        go_wp2
        go_roundg (s.size - (a' + 1))
        case measure => omega
        case rel => exact ⟨a' + 1, by go_num, rfl, by omega, by rw [← Hg.out, gap_blank hlt (by rw [HCN.out]; decide) (by rw [HCN.out]; decide)]; omega, hon⟩
      · subst h
        go_wp2
        go_roundg (s.size - (a' + 1))
        case measure => omega
        case rel => exact ⟨a' + 1, by go_num, rfl, by omega, by rw [← Hg.out, gap_blank hlt (by rw [HCN.out]; decide) (by rw [HCN.out]; decide)]; omega, hon⟩
      · subst h
        go_wp2
        go_roundg (s.size - (a' + 1))
        case measure => omega
        case rel => exact ⟨a' + 1, by go_num, rfl, by omega, by rw [← Hg.out, gap_blank hlt (by rw [HCN.out]; decide) (by rw [HCN.out]; decide)]; omega, hon⟩
      · subst h
        go_wp2
        go_loopg [1] (s.size - a') (fun k v wx => ∃ a2 : Nat, v = .int .i64 a2 ∧ k = s.size - a2 ∧ a' ≤ a2 ∧ a2 ≤ s.size ∧ a2 + gap true (suf s a2) = pl s a ∧ On w wx)
        case atStart => exact ⟨a', rfl, rfl, Nat.le_refl _, ha', by rw [← Hg.out, gap_hash hlt HCN.out], hon⟩
        case round =>
          obtain ⟨a2, rfl, hk2, haa, ha2, hg2, hon2⟩ := hrel
          have HG2 : Hid (a2 + gap true (suf s a2) = pl s a) := hg2
          clear hg2
          by_cases hlt2 : a2 < s.size
          · have hcN2 := bN_lt hlt2
            obtain ⟨d, hd⟩ : ∃ d, (s[a2]'hlt2).toNat = d := ⟨_, rfl⟩
            rw [hd] at hcN2
            have HD : Hid (bN s a2 = d) := hcN2
            clear hcN2
            by_cases h10 : d = 10
            · subst h10
              go_wp2
              go_roundg (s.size - a2)
              case measure => have := HCN.out; have := HD.out; have : a' ≠ a2 := (fun e => by subst e; omega); omega
              case rel => exact ⟨a2, rfl, rfl, ha2, by rw [← HG2.out, gap_line hlt2 HD.out], hon2⟩
            · have hb : ((d : Int) != 10) = true := by simp; omega
              go_wp2
              go_roundg (s.size - (a2 + 1))
              case measure => omega
              case rel => exact ⟨a2 + 1, by go_num, rfl, by omega, by omega, by rw [← HG2.out, gap_note hlt2 (by rw [HD.out]; exact h10)]; omega, hon2⟩
          · go_wp2
            go_roundg (s.size - a2)
            case measure => omega
            case rel => exact ⟨a2, rfl, rfl, ha2, by rw [← HG2.out, gap_over _ (by omega), gap_over _ (by omega)], hon2⟩
      · have e1 : ((c : Int) == 32) = false := by rw [beq_eq_false_iff_ne]; omega
        have e2 : ((c : Int) == 9) = false := by rw [beq_eq_false_iff_ne]; omega
        have e3 : ((c : Int) == 10) = false := by rw [beq_eq_false_iff_ne]; omega
        have e4 : ((c : Int) == 35) = false := by rw [beq_eq_false_iff_ne]; omega
        go_wp2
        go_ret
        have e : pl s a = a' := by
          rw [← Hg.out, gap_stop hlt (by rw [HCN.out]; exact h4) (by rw [HCN.out]; simp [blN]; omega)]
          rfl
        rw [e]
        exact ⟨rfl, hon⟩
    · go_wp2
      go_ret
      have e : pl s a = a' := by rw [← Hg.out, gap_over _ (by omega)]; rfl
      rw [e]
      exact ⟨rfl, hon⟩
end Go.Proofs.YtnfmagafajpmpaaDoor
