/- print.isWord for every text. -/
import Derived.Test.YtacflahkofmcpaaGreatDoorJ13WlOwnR
import Derived.Test.YtacflahkofmcpaaGreatDoorJ27WlOkIns
import Derived.Deep.LoopGhost
import Derived.Laws.IdiomStrings
import Derived.Test.YtacflahkofmcpaaGreatDoorJ33WlROkA
namespace Go.Proofs.YtacflahkofmcpaaGreatDoor.Wl
open Go.RowKit

theorem chs_at : ∀ (l : List UInt8) (i n : Nat) (c : UInt8), l[n]? = some c → chsOk i l = true → chOk (i + n) c = true
  | [], i, n, c, h, _ => by simp at h
  | x :: l, i, 0, c, h, hk => by
    simp only [List.getElem?_cons_zero, Option.some.injEq] at h
    subst h
    unfold chsOk at hk
    simp only [Bool.and_eq_true] at hk
    exact hk.1
  | x :: l, i, n + 1, c, h, hk => by
    rw [List.getElem?_cons_succ] at h
    unfold chsOk at hk
    simp only [Bool.and_eq_true] at hk
    have := chs_at l (i + 1) n c h hk.2
    rwa [show i + 1 + n = i + (n + 1) by omega] at this
theorem chs_all : ∀ (l : List UInt8) (i : Nat), (∀ n c, l[n]? = some c → chOk (i + n) c = true) → chsOk i l = true
  | [], _, _ => rfl
  | x :: l, i, h => by
    unfold chsOk
    rw [show chOk i x = true from h 0 x rfl, chs_all l (i + 1) (fun n c hn => by
      have := h (n + 1) c (by rw [List.getElem?_cons_succ]; exact hn)
      rwa [show i + (n + 1) = i + 1 + n by omega] at this)]
    rfl
theorem word_no {s : ByteArray} {n : Nat} {c : UInt8} (h : s.data.toList[n]? = some c) (hc : chOk n c = false) : wordOk s = false := by
  unfold wordOk
  cases hk : chsOk 0 s.data.toList with
  | true => have := chs_at _ 0 n c h hk; rw [Nat.zero_add, hc] at this; cases this
  | false => rfl
theorem toList_nil {s : ByteArray} (h : s.size = 0) : s.toList = [] := by
  rw [ByteArray.toList_eq]
  exact List.eq_nil_of_length_eq_zero (by rw [Array.length_toList]; exact h)
theorem toList_ne {s : ByteArray} (h : 0 < s.size) : ¬ s.toList = [] := by
  rw [ByteArray.toList_eq]
  intro h'
  have := congrArg List.length h'
  rw [Array.length_toList] at this
  have h2 : s.data.size = 0 := this
  have h3 : s.size = s.data.size := rfl
  omega
set_option maxHeartbeats 4000000 in
set_option maxRecDepth 8000 in
theorem isWord_is (s : ByteArray) (w : World) (hs : s.size ≤ 9223372036854775807) :
    Calls Tryz.prog 55 #[.string s] w fun e w' => e = .returned (.bool (wordOk s)) ∧ On w w' := by
  obtain ⟨cap, W, hconv, hW, hcell⟩ : ∃ cap W, (convert 9 41 (.string s)).run Tryz.prog w = .ok (.slice (some ⟨w.heap.size, 0, none⟩) s.size cap) W ∧ On w W ∧ (∀ j (hj : j < s.data.size), W.cell? ⟨w.heap.size, j, none⟩ = some (.int .u8 (s.data[j].toNat : Int))) := by
    refine ⟨_, _, run_bytes_of_string w _ _ 5 s Tryz.underlying9 Tryz.underlying41 Tryz.underlying5, (On.refl w).drew.alloc _, fun j hj => ?_⟩
    have := World.cell?_alloc_mark w.drew (bytesRow s (grownCap w s.size 0 5)) 5 ((bytesRow s (grownCap w s.size 0 5)).size, (bytesRow s (grownCap w s.size 0 5)).size + 1) j
    exact this.trans (bytesRow_at s _ j hj)
  have hwW : w.heap.size < W.heap.size ∨ s.data.size = 0 := by
    rcases Nat.eq_zero_or_pos s.data.size with h | h
    · exact Or.inr h
    · left
      have := hcell 0 h
      rcases Nat.lt_or_ge w.heap.size W.heap.size with h' | h'
      · exact h'
      · simp [World.cell?, Array.getElem?_eq_none h'] at this
  have HC : Hid _ := hcell
  have HW : Hid (On w W) := hW
  clear hcell hW
  go_enter Tryz.func55, Tryz.ntmps55
  go_wp2
  clear hconv
  go_loopg [3, 4, 5, 9] s.size (fun gg _ _ _ s9 wr => ∃ n : Nat, n ≤ s.size ∧ gg = s.size - n ∧ s9 = .int .i64 n ∧ wr = W ∧ Hid (∀ j c, j < n → s.data.toList[j]? = some c → chOk j c = true))
  case atStart => exact ⟨0, Nat.zero_le _, rfl, rfl, rfl, fun j c hj => absurd hj (Nat.not_lt_zero _)⟩
  case round =>
    obtain ⟨n, hn, hk, rfl, rfl, hall⟩ := hrel
    rcases Nat.lt_or_ge n s.size with hlt | hge
    · have hsz : s.size = s.data.size := rfl
      obtain ⟨c, hc⟩ : ∃ c, c = s.data[n]'(by omega) := ⟨_, rfl⟩
      have hx : Hid (s.data.toList[n]? = some c) := by
        show s.data.toList[n]? = some c
        rw [hc, List.getElem?_eq_getElem (by simpa using hlt)]; simp
      have u0 : wr.cell? ⟨w.heap.size, n, none⟩ = some (.int .u8 (c.toNat : Int)) := by rw [hc]; exact HC.out n (by omega)
      have hlw : w.heap.size < wr.heap.size := by omega
      have hcb : (c.toNat : Int) < 256 := by have := c.toNat_lt; omega
      have hlo := fun W => isLocation_is (c.toNat : Int) W
      clear hc hsz
      have step : ∀ (h : chOk n c = true), Hid (∀ j c', j < n + 1 → s.data.toList[j]? = some c' → chOk j c' = true) := fun h j c' hj hj' => by
        rcases Nat.lt_or_ge j n with h' | h'
        · exact hall.out j c' h' hj'
        · obtain rfl : j = n := by omega
          rw [hx.out] at hj'
          cases hj'
          exact h
      have hch : Hid (chOk n c = (locOk c.toNat || (decide (0 < n) && (decide (48 ≤ c.toNat) && decide (c.toNat ≤ 57))))) := rfl
      cases hl : locOk (c.toNat : Int) with
      | true =>
        rw [hl] at hlo
        have hok : Hid (chOk n c = true) := by rw [Hid, hch.out, hl]; rfl
        by_cases h48 : (48 : Int) ≤ c.toNat
        all_goals
          go_wp2_with (go_at_call 95; refine (hlo _).mono ?_; rintro e w1 ⟨rfl, rfl⟩)
          go_roundg (s.size - (n + 1))
          case measure => omega
          case rel => exact ⟨n + 1, by omega, rfl, by go_num, rfl, step hok.out⟩
      | false =>
        rw [hl] at hlo
        rcases Nat.eq_zero_or_pos n with h0 | h0
        · subst h0
          have hno : Hid (wordOk s = false) := word_no hx.out (by rw [hch.out, hl]; rfl)
          by_cases h48 : (48 : Int) ≤ c.toNat
          all_goals
            go_wp2_with (go_at_call 95; refine (hlo _).mono ?_; rintro e w1 ⟨rfl, rfl⟩)
            go_ret
            exact ⟨by rw [hno.out]; rfl, HW.out⟩
        · have hn0 : ¬ (n : Int) = 0 := by omega
          by_cases h48 : (48 : Int) ≤ c.toNat
          · by_cases h57 : (c.toNat : Int) ≤ 57
            · have hok : Hid (chOk n c = true) := by
                rw [Hid, hch.out]; simp; right; omega
              go_wp2_with (go_at_call 95; refine (hlo _).mono ?_; rintro e w1 ⟨rfl, rfl⟩)
              go_roundg (s.size - (n + 1))
              case measure => omega
              case rel => exact ⟨n + 1, by omega, rfl, by go_num, rfl, step hok.out⟩
            · have hno : Hid (wordOk s = false) := word_no hx.out (by rw [hch.out, hl]; simp; omega)
              go_wp2_with (go_at_call 95; refine (hlo _).mono ?_; rintro e w1 ⟨rfl, rfl⟩)
              go_ret
              exact ⟨by rw [hno.out]; rfl, HW.out⟩
          · have hno : Hid (wordOk s = false) := word_no hx.out (by rw [hch.out, hl]; simp; omega)
            go_wp2_with (go_at_call 95; refine (hlo _).mono ?_; rintro e w1 ⟨rfl, rfl⟩)
            go_ret
            exact ⟨by rw [hno.out]; rfl, HW.out⟩
    · have hyes : Hid (wordOk s = decide (0 < s.size)) := by
        show wordOk s = _
        unfold wordOk
        rw [chs_all _ 0 (fun j c hj => by
          rw [Nat.zero_add]
          refine hall.out j c ?_ hj
          have := (List.getElem?_eq_some_iff.1 hj).1
          have hsz : s.size = s.data.size := rfl
          simp at this; omega)]
        rfl
      rcases Nat.eq_zero_or_pos s.size with h0 | h0
      · have he := toList_nil h0
        go_wp2
        go_ret
        exact ⟨by rw [hyes.out]; simp [h0], HW.out⟩
      · have he := toList_ne h0
        go_wp2
        go_ret
        exact ⟨by rw [hyes.out, decide_eq_true h0]; simp [he], HW.out⟩
end Go.Proofs.YtacflahkofmcpaaGreatDoor.Wl

namespace Go.Proofs.YtacflahkofmcpaaGreatDoor.Wl
open Go.RowKit
set_option linter.unusedSimpArgs false

set_option maxHeartbeats 4000000 in
set_option maxRecDepth 8000 in
theorem rword_is (s : ByteArray) (w : World) (hs : s.size ≤ 9223372036854775807) :
    Calls Tryz.prog 65 #[.string s] w fun e w' => e = .returned (.bool (wordOk s)) ∧ w' = w := by
  go_enter Tryz.func65, Tryz.ntmps65
  go_wp2
  go_loopg [3] s.size (fun gg s2 wr => ∃ n : Nat, n ≤ s.size ∧ gg = s.size - n ∧ s2 = .int .i64 n ∧ wr = w ∧ Hid (∀ j c, j < n → s.data.toList[j]? = some c → chOk j c = true))
  case atStart => exact ⟨0, Nat.zero_le _, rfl, rfl, rfl, fun j c hj => absurd hj (Nat.not_lt_zero _)⟩
  case round =>
    obtain ⟨n, hn, hk, rfl, rfl, hall⟩ := hrel
    rcases Nat.lt_or_ge n s.size with hlt | hge
    · obtain ⟨c, hc⟩ : ∃ c, s[n]'hlt = c := ⟨_, rfl⟩
      have hx : Hid (s.data.toList[n]? = some c) := by
        show s.data.toList[n]? = some c
        rw [← hc, List.getElem?_eq_getElem (by simpa using hlt)]; simp; rfl
      have hcb : (c.toNat : Int) < 256 := by have := c.toNat_lt; omega
      have hlo := fun W => rlet_is c W
      have hdi := fun W => rdig_is c W
      have step : ∀ (h : chOk n c = true), Hid (∀ j c', j < n + 1 → s.data.toList[j]? = some c' → chOk j c' = true) := fun h j c' hj hj' => by
        rcases Nat.lt_or_ge j n with h' | h'
        · exact hall.out j c' h' hj'
        · obtain rfl : j = n := by omega
          rw [hx.out] at hj'
          cases hj'
          exact h
      have hch : Hid (chOk n c = (locOk c.toNat || (decide (0 < n) && (decide (48 ≤ c.toNat) && decide (c.toNat ≤ 57))))) := rfl
      cases hl : locOk (c.toNat : Int) with
      | true =>
        rw [hl] at hlo
        have hok : Hid (chOk n c = true) := by rw [Hid, hch.out, hl]; rfl
        clear hdi
        go_wp2_with (go_at_call 110; refine (hlo _).mono ?_; rintro e w1 ⟨rfl, rfl⟩)
        go_roundg (s.size - (n + 1))
        case measure => omega
        case rel => exact ⟨n + 1, by omega, rfl, by go_num, rfl, step hok.out⟩
      | false =>
        rw [hl] at hlo
        rcases Nat.eq_zero_or_pos n with h0 | h0
        · subst h0
          have hno : Hid (wordOk s = false) := word_no hx.out (by rw [hch.out, hl]; rfl)
          clear hdi
          go_wp2_with (go_at_call 110; refine (hlo _).mono ?_; rintro e w1 ⟨rfl, rfl⟩)
          go_ret
          exact ⟨by rw [hno.out]; rfl, rfl⟩
        · have hn0 : ¬ (n : Int) = 0 := by omega
          cases hd : (decide (48 ≤ c.toNat) && decide (c.toNat ≤ 57)) with
          | true =>
            rw [hd] at hdi
            have hok : Hid (chOk n c = true) := by
              rw [Hid, hch.out, hd, decide_eq_true h0, hl]; rfl
            go_wp2_with (first | (go_at_call 110; refine (hlo _).mono ?_; rintro e w1 ⟨rfl, rfl⟩) | (go_at_call 111; refine (hdi _).mono ?_; rintro e w1 ⟨rfl, rfl⟩))
            go_roundg (s.size - (n + 1))
            case measure => omega
            case rel => exact ⟨n + 1, by omega, rfl, by go_num, rfl, step hok.out⟩
          | false =>
            rw [hd] at hdi
            have hno : Hid (wordOk s = false) := word_no hx.out (by rw [hch.out, hl, hd]; simp)
            go_wp2_with (first | (go_at_call 110; refine (hlo _).mono ?_; rintro e w1 ⟨rfl, rfl⟩) | (go_at_call 111; refine (hdi _).mono ?_; rintro e w1 ⟨rfl, rfl⟩))
            go_ret
            exact ⟨by rw [hno.out]; rfl, rfl⟩
    · have hyes : Hid (wordOk s = decide (0 < s.size)) := by
        show wordOk s = _
        unfold wordOk
        rw [chs_all _ 0 (fun j c hj => by
          rw [Nat.zero_add]
          refine hall.out j c ?_ hj
          have := (List.getElem?_eq_some_iff.1 hj).1
          have hsz : s.size = s.data.size := rfl
          simp at this; omega)]
        rfl
      rcases Nat.eq_zero_or_pos s.size with h0 | h0
      · have he := toList_nil h0
        go_wp2
        go_ret
        exact ⟨by rw [hyes.out]; simp [h0, he], rfl⟩
      · have he := toList_ne h0
        go_wp2
        go_ret
        exact ⟨by rw [hyes.out, decide_eq_true h0]; simp [he], rfl⟩
end Go.Proofs.YtacflahkofmcpaaGreatDoor.Wl
