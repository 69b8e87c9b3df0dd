/- The document's own Text: the numeral (cut out of RefText for seats with no strconv). -/
import Derived.Test.YtmgjcgolebfjjaaDoorPuts
import Derived.Test.YtmgjcgolebfjjaaDoorDigits
import Derived.Laws.IdiomStrings
import Derived.Lib.IndexBytes
import Derived.Lib.ItoaNum
namespace Go.Proofs.YtmgjcgolebfjjaaDoor
open Go.RowKit

theorem u64_eq {a b : Int} (h : a = b) : Value.int .u64 a = .int .u64 b := by rw [h]
theorem list_append (a b : ByteArray) : (a ++ b).data.toList = a.data.toList ++ b.data.toList := by
  obtain ⟨⟨x⟩⟩ := a
  obtain ⟨⟨y⟩⟩ := b
  rfl
theorem size_list (a : ByteArray) : a.size = a.data.toList.length := by
  obtain ⟨⟨x⟩⟩ := a
  rfl
theorem bytes_ext {a b : ByteArray} (h : a.data.toList = b.data.toList) : a = b := by
  obtain ⟨⟨x⟩⟩ := a
  obtain ⟨⟨y⟩⟩ := b
  simp only at h
  rw [h]
theorem digit_cut (r : Nat) (h : r < 10) : (ByteArray.mk #[48, 49, 50, 51, 52, 53, 54, 55, 56, 57]).extract r (r + 1) = ⟨#[UInt8.ofNat (48 + r)]⟩ := by
  have all : ∀ r : Fin 10, (ByteArray.mk #[48, 49, 50, 51, 52, 53, 54, 55, 56, 57]).extract r.val (r.val + 1) = ⟨#[UInt8.ofNat (48 + r.val)]⟩ := by
    intro r
    rw [ByteArray.extract_mk]
    revert r
    decide
  exact all ⟨r, h⟩

section
set_option maxHeartbeats 1000000
theorem rtext_pos (U : Nat) (hU : U ≤ 9223372036854775807) (w : World) :
    Calls Tryd.prog 22 #[.int .i64 U] w fun e w' => ∃ t : ByteArray, e = .returned (.string t) ∧ t.data.toList = Lib.decDigits U ∧ w' = w := by
  have hlen : (Lib.decDigits U).length ≤ 20 := by rw [Lib.decDigits_length]; exact nDigits_le 19 _ (by omega)
  have HL : Hid ((Lib.decDigits U).length ≤ 20) := hlen
  clear hlen
  go_enter Tryd.func22, Tryd.ntmps22
  go_wp2
  go_loop [3, 5] (fun u s => ∃ (q : Nat) (t : ByteArray), q ≤ 10000000000000000000 ∧ u = .int .u64 q ∧ s = .string t ∧ Lib.decDigits U = Lib.decDigits q ++ t.data.toList) (fun u _ => (intOf u).toNat)
  case atStart => exact ⟨U, ⟨#[]⟩, by omega, rfl, rfl, by simp⟩
  case round =>
    obtain ⟨q, t, hq, rfl, rfl, hdig⟩ := hrel
    have ht : t.size ≤ 20 := by
      have := HL.out
      rw [hdig, List.length_append, ← size_list] at this
      omega
    have HD : Hid (Lib.decDigits U = Lib.decDigits q ++ t.data.toList) := hdig
    clear hdig
    by_cases h9 : 9 < q
    · have hx := digit_cut (q % 10) (by omega)
      obtain ⟨c, hc⟩ : ∃ c : ByteArray, c = ⟨#[UInt8.ofNat (48 + q % 10)]⟩ := ⟨_, rfl⟩
      have hcs : c.size = 1 := by rw [hc]; rfl
      have HC : Hid (c.data.toList = [UInt8.ofNat (48 + q % 10)]) := by rw [hc]; rfl
      rw [← hc] at hx
      clear hc
      go_wp2
      go_round
      case rel =>
        refine ⟨q / 10, c ++ t, by omega, u64_eq (by omega), rfl, ?_⟩
        rw [HD.out, list_append, HC.out, Lib.decDigits, dif_neg (by omega), List.append_assoc]
      case measure => simp [intOf]; omega
    · have hx := digit_cut q (by omega)
      obtain ⟨c, hc⟩ : ∃ c : ByteArray, c = ⟨#[UInt8.ofNat (48 + q)]⟩ := ⟨_, rfl⟩
      have hcs : c.size = 1 := by rw [hc]; rfl
      have HC : Hid (c.data.toList = [UInt8.ofNat (48 + q)]) := by rw [hc]; rfl
      rw [← hc] at hx
      clear hc
      go_wp2
      go_ret
      refine ⟨_, rfl, ?_, rfl⟩
      rw [HD.out, list_append, list_append, HC.out, Lib.decDigits_one (by omega)]
      rfl
theorem rtext_neg (n : Int) (U : Nat) (hU : U ≤ 10000000000000000000) (hn : n < 0) (hu : IntKind.u64.wrap (-IntKind.u64.wrap n) = (U : Int)) (w : World) :
    Calls Tryd.prog 22 #[.int .i64 n] w fun e w' => ∃ t : ByteArray, e = .returned (.string t) ∧ t.data.toList = 45 :: Lib.decDigits U ∧ w' = w := by
  have hlen : (Lib.decDigits U).length ≤ 20 := by rw [Lib.decDigits_length]; exact nDigits_le 19 _ (by omega)
  have HL : Hid ((Lib.decDigits U).length ≤ 20) := hlen
  clear hlen
  go_enter Tryd.func22, Tryd.ntmps22
  go_wp2
  go_loop [3, 5] (fun u s => ∃ (q : Nat) (t : ByteArray), q ≤ 10000000000000000000 ∧ u = .int .u64 q ∧ s = .string t ∧ Lib.decDigits U = Lib.decDigits q ++ t.data.toList) (fun u _ => (intOf u).toNat)
  case atStart => exact ⟨U, ⟨#[]⟩, by omega, rfl, rfl, by simp⟩
  case round =>
    obtain ⟨q, t, hq, rfl, rfl, hdig⟩ := hrel
    have ht : t.size ≤ 20 := by
      have := HL.out
      rw [hdig, List.length_append, ← size_list] at this
      omega
    have HD : Hid (Lib.decDigits U = Lib.decDigits q ++ t.data.toList) := hdig
    clear hdig
    by_cases h9 : 9 < q
    · have hx := digit_cut (q % 10) (by omega)
      obtain ⟨c, hc⟩ : ∃ c : ByteArray, c = ⟨#[UInt8.ofNat (48 + q % 10)]⟩ := ⟨_, rfl⟩
      have hcs : c.size = 1 := by rw [hc]; rfl
      have HC : Hid (c.data.toList = [UInt8.ofNat (48 + q % 10)]) := by rw [hc]; rfl
      rw [← hc] at hx
      clear hc
      go_wp2
      go_round
      case rel =>
        refine ⟨q / 10, c ++ t, by omega, u64_eq (by omega), rfl, ?_⟩
        rw [HD.out, list_append, HC.out, Lib.decDigits, dif_neg (by omega), List.append_assoc]
      case measure => simp [intOf]; omega
    · have hx := digit_cut q (by omega)
      obtain ⟨c, hc⟩ : ∃ c : ByteArray, c = ⟨#[UInt8.ofNat (48 + q)]⟩ := ⟨_, rfl⟩
      have hcs : c.size = 1 := by rw [hc]; rfl
      have HC : Hid (c.data.toList = [UInt8.ofNat (48 + q)]) := by rw [hc]; rfl
      rw [← hc] at hx
      clear hc
      go_wp2
      go_ret
      refine ⟨_, rfl, ?_, rfl⟩
      rw [HD.out, list_append, list_append, HC.out, Lib.decDigits_one (by omega)]
      rfl
end

/-- TEXT, as the document says it, is the numeral. -/
theorem rtext_is (n : Int) (h0 : -9223372036854775808 ≤ n) (h1 : n ≤ 9223372036854775807) (w : World) :
    Calls Tryd.prog 22 #[.int .i64 n] w fun e w' => e = .returned (.string ⟨(Lib.itoa n).toArray⟩) ∧ w' = w := by
  by_cases hn : n < 0
  · refine (rtext_neg n n.natAbs (by omega) hn (by rw [IntKind.wrap_u64, IntKind.wrap_u64]; omega) w).mono ?_
    rintro e w' ⟨t, rfl, ht, rfl⟩
    refine ⟨?_, rfl⟩
    rw [bytes_ext (a := t) (b := ⟨(Lib.itoa n).toArray⟩) (by rw [ht]; unfold Lib.itoa; rw [if_pos hn])]
  · obtain ⟨U, rfl⟩ : ∃ U : Nat, n = U := ⟨n.toNat, by omega⟩
    refine (rtext_pos U (by omega) w).mono ?_
    rintro e w' ⟨t, rfl, ht, rfl⟩
    refine ⟨?_, rfl⟩
    rw [bytes_ext (a := t) (b := ⟨(Lib.itoa U).toArray⟩) (by rw [ht]; unfold Lib.itoa; rw [if_neg (by omega)]; simp)]

end Go.Proofs.YtmgjcgolebfjjaaDoor
