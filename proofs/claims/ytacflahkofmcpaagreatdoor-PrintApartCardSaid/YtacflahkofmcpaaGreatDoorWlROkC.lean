/- The document's word. -/
import Derived.Test.YtacflahkofmcpaaGreatDoorJ33WlROkA
import Derived.Test.YtacflahkofmcpaaGreatDoorJ28WlTestW
namespace Go.Proofs.YtacflahkofmcpaaGreatDoor.Wl
open Go.RowKit
set_option linter.unusedSimpArgs false

set_option maxHeartbeats 4000000 in
set_option maxRecDepth 8000 in
theorem rword_is (s : ByteArray) (w : World) (hs : s.size ≤ 9223372036854775807) :
    Calls Tryz.prog 65 #[.string s] w fun e w' => e = .returned (.bool (wordOk s)) ∧ w' = w := by
  go_enter Tryz.func65, Tryz.ntmps65
  go_wp2
  go_loopg [3] s.size (fun gg s2 wr => ∃ n : Nat, n ≤ s.size ∧ gg = s.size - n ∧ s2 = .int .i64 n ∧ wr = w ∧ Hid (∀ j c, j < n → s.data.toList[j]? = some c → chOk j c = true))
  case atStart => exact ⟨0, Nat.zero_le _, rfl, rfl, rfl, fun j c hj => absurd hj (Nat.not_lt_zero _)⟩
  case round =>
    obtain ⟨n, hn, hk, rfl, rfl, hall⟩ := hrel
    rcases Nat.lt_or_ge n s.size with hlt | hge
    · obtain ⟨c, hc⟩ : ∃ c, s[n]'hlt = c := ⟨_, rfl⟩
      have hx : Hid (s.data.toList[n]? = some c) := by
        show s.data.toList[n]? = some c
        rw [← hc, List.getElem?_eq_getElem (by simpa using hlt)]; simp; rfl
      have hcb : (c.toNat : Int) < 256 := by have := c.toNat_lt; omega
      have hlo := fun W => rlet_is c W
      have hdi := fun W => rdig_is c W
      have step : ∀ (h : chOk n c = true), Hid (∀ j c', j < n + 1 → s.data.toList[j]? = some c' → chOk j c' = true) := fun h j c' hj hj' => by
        rcases Nat.lt_or_ge j n with h' | h'
        · exact hall.out j c' h' hj'
        · obtain rfl : j = n := by omega
          rw [hx.out] at hj'
          cases hj'
          exact h
      have hch : Hid (chOk n c = (locOk c.toNat || (decide (0 < n) && (decide (48 ≤ c.toNat) && decide (c.toNat ≤ 57))))) := rfl
      cases hl : locOk (c.toNat : Int) with
      | true =>
        rw [hl] at hlo
        have hok : Hid (chOk n c = true) := by rw [Hid, hch.out, hl]; rfl
        clear hdi
        go_wp2_with (go_at_call 110; refine (hlo _).mono ?_; rintro e w1 ⟨rfl, rfl⟩)
        go_roundg (s.size - (n + 1))
        case measure => omega
        case rel => exact ⟨n + 1, by omega, rfl, by go_num, rfl, step hok.out⟩
      | false =>
        rw [hl] at hlo
        rcases Nat.eq_zero_or_pos n with h0 | h0
        · subst h0
          have hno : Hid (wordOk s = false) := word_no hx.out (by rw [hch.out, hl]; rfl)
          clear hdi
          go_wp2_with (go_at_call 110; refine (hlo _).mono ?_; rintro e w1 ⟨rfl, rfl⟩)
          go_ret
          exact ⟨by rw [hno.out]; rfl, rfl⟩
        · have hn0 : ¬ (n : Int) = 0 := by omega
          cases hd : (decide (48 ≤ c.toNat) && decide (c.toNat ≤ 57)) with
          | true =>
            rw [hd] at hdi
            have hok : Hid (chOk n c = true) := by
              rw [Hid, hch.out, hd, decide_eq_true h0, hl]; rfl
            go_wp2_with (first | (go_at_call 110; refine (hlo _).mono ?_; rintro e w1 ⟨rfl, rfl⟩) | (go_at_call 111; refine (hdi _).mono ?_; rintro e w1 ⟨rfl, rfl⟩))
            go_roundg (s.size - (n + 1))
            case measure => omega
            case rel => exact ⟨n + 1, by omega, rfl, by go_num, rfl, step hok.out⟩
          | false =>
            rw [hd] at hdi
            have hno : Hid (wordOk s = false) := word_no hx.out (by rw [hch.out, hl, hd]; simp)
            go_wp2_with (first | (go_at_call 110; refine (hlo _).mono ?_; rintro e w1 ⟨rfl, rfl⟩) | (go_at_call 111; refine (hdi _).mono ?_; rintro e w1 ⟨rfl, rfl⟩))
            go_ret
            exact ⟨by rw [hno.out]; rfl, rfl⟩
    · have hyes : Hid (wordOk s = decide (0 < s.size)) := by
        show wordOk s = _
        unfold wordOk
        rw [chs_all _ 0 (fun j c hj => by
          rw [Nat.zero_add]
          refine hall.out j c ?_ hj
          have := (List.getElem?_eq_some_iff.1 hj).1
          have hsz : s.size = s.data.size := rfl
          simp at this; omega)]
        rfl
      rcases Nat.eq_zero_or_pos s.size with h0 | h0
      · have he := toList_nil h0
        go_wp2
        go_ret
        exact ⟨by rw [hyes.out]; simp [h0, he], rfl⟩
      · have he := toList_ne h0
        go_wp2
        go_ret
        exact ⟨by rw [hyes.out, decide_eq_true h0]; simp [he], rfl⟩
end Go.Proofs.YtacflahkofmcpaaGreatDoor.Wl
