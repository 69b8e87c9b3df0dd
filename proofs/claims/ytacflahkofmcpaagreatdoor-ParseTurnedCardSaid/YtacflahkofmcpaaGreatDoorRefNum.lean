/- What the document's own Parse and Number answer. -/
import Derived.Test.YtacflahkofmcpaaGreatDoorJ02Canon
namespace Go.Proofs.YtacflahkofmcpaaGreatDoor
open Go.RowKit

def refB (neg : Bool) (m : List UInt8) : Bool :=
  match Lib.decFrom 0 m with
  | none => false
  | some u => if neg then decide ((u : Int) ≤ 9223372036854775808) else decide ((u : Int) < 9223372036854775808)
def refN (neg : Bool) (m : List UInt8) : Int :=
  match Lib.decFrom 0 m with
  | none => 0
  | some u => if neg then wrap64 (IntKind.u64.wrap (-(u : Int))) else wrap64 (u : Int)
theorem ref_none {m : List UInt8} (neg : Bool) (h : Lib.decFrom 0 m = none) : refB neg m = false ∧ refN neg m = 0 := by
  unfold refB refN; rw [h]; exact ⟨rfl, rfl⟩
theorem ref_neg {m : List UInt8} {u : Nat} (h : Lib.decFrom 0 m = some u) : refB true m = decide ((u : Int) ≤ 9223372036854775808) ∧ refN true m = wrap64 (IntKind.u64.wrap (-(u : Int))) := by
  unfold refB refN; rw [h]; exact ⟨rfl, rfl⟩
theorem ref_pos {m : List UInt8} {u : Nat} (h : Lib.decFrom 0 m = some u) : refB false m = decide ((u : Int) < 9223372036854775808) ∧ refN false m = wrap64 (u : Int) := by
  unfold refB refN; rw [h]; simp only [Bool.false_eq_true, if_false, and_self]
theorem u64_eq {a b : Int} (h : a = b) : Value.int .u64 a = .int .u64 b := by rw [h]
theorem ret2 {x y : Int} {a b : Bool} (h : x = y) (k : a = b) : Ending.returned (.tuple #[.int .i64 x, .bool a]) = .returned (.tuple #[.int .i64 y, .bool b]) := by rw [h, k]

theorem take_bound {l : List UInt8} {k u : Nat} (h : Lib.decFrom 0 (l.take k) = some u) (hk : k ≤ 18) : u < 1000000000000000000 := by
  have a := Lib.decFrom_lt _ _ _ h
  have b : (l.take k).length ≤ k := List.length_take_le _ _
  have c := Nat.pow_le_pow_right (n := 10) (by decide) (show (l.take k).length ≤ 18 by omega)
  omega
theorem getElem_list (d : ByteArray) (k : Nat) (h : k < d.size) : d.data.toList[k]? = some (d[k]'h) := by
  rw [List.getElem?_eq_getElem (by simpa using h)]
  rfl
theorem take_step {d : ByteArray} {k u : Nat} (h : Lib.decFrom 0 (d.data.toList.take k) = some u) (hk : k < d.size) (h1 : 48 ≤ (d[k]'hk).toNat) (h2 : (d[k]'hk).toNat ≤ 57) :
    Lib.decFrom 0 (d.data.toList.take (k + 1)) = some (u * 10 + ((d[k]'hk).toNat - 48)) :=
  Lib.decFrom_take _ _ _ _ _ _ h (getElem_list d k hk) (by unfold Lib.digitVal; rw [if_pos ⟨h1, h2⟩])
theorem no_digit {d : ByteArray} {k : Nat} (hk : k < d.size) (h : ¬ (48 ≤ (d[k]'hk).toNat ∧ (d[k]'hk).toNat ≤ 57)) : Lib.decFrom 0 d.data.toList = none := by
  cases e : Lib.decFrom 0 d.data.toList with
  | none => rfl
  | some n =>
    obtain ⟨x, hx⟩ := Lib.digit_of_decFrom _ _ _ e k _ (getElem_list d k hk)
    unfold Lib.digitVal at hx
    rw [if_neg h] at hx
    cases hx

section
set_option maxHeartbeats 1000000
variable (s d : ByteArray) (w : World)
/-- Nothing behind the minus, too much, or a nought ahead. -/
theorem rp_early_neg (h0 : 0 < s.size) (hmax : (s.size : Int) ≤ 9223372036854775807) (c0 : (((s[0]'h0).toNat : Int) == 45) = true) (hx : s.extract 1 s.size = d)
    (hd : d.toList.isEmpty = true ∨ d.toList.isEmpty = false ∧ 19 < d.size ∨ d.toList.isEmpty = false ∧ d.size ≤ 19 ∧ ∃ h : 0 < d.size, (((d[0]'h).toNat : Int) == 48) = true) :
    Calls Tryz.prog 82 #[.string s] w fun e w' => e = .returned (.tuple #[.int .i64 0, .bool false]) ∧ w' = w := by
  have q : ((s.size : Int) == 0) = false := by rw [beq_eq_false_iff_ne]; omega
  rcases hd with e1 | ⟨e1, e2⟩ | ⟨e1, e2, e3, e4⟩
  · go_enter Tryz.func82, Tryz.ntmps82
    go_wp2
    go_ret2
    exact ⟨rfl, rfl⟩
  · go_enter Tryz.func82, Tryz.ntmps82
    go_wp2
    go_ret2
    exact ⟨rfl, rfl⟩
  · rcases Nat.lt_or_ge 1 d.size with e5 | e5
    all_goals
      go_enter Tryz.func82, Tryz.ntmps82
      go_wp2
      go_ret2
      exact ⟨rfl, rfl⟩
/-- Nothing, too much, or a nought ahead of more. -/
theorem rp_early_pos (hmax : (s.size : Int) ≤ 9223372036854775807)
    (hd : s.size = 0 ∧ s.toList.isEmpty = true ∨ ∃ h0 : 0 < s.size, (((s[0]'h0).toNat : Int) == 45) = false ∧ s.toList.isEmpty = false ∧ (19 < s.size ∨ s.size ≤ 19 ∧ 1 < s.size ∧ (((s[0]'h0).toNat : Int) == 48) = true)) :
    Calls Tryz.prog 82 #[.string s] w fun e w' => e = .returned (.tuple #[.int .i64 0, .bool false]) ∧ w' = w := by
  rcases hd with ⟨e0, e1⟩ | ⟨h0, c0, e1, e2 | ⟨e2, e3, e4⟩⟩
  · go_enter Tryz.func82, Tryz.ntmps82
    go_wp2
    go_ret2
    exact ⟨rfl, rfl⟩
  · go_enter Tryz.func82, Tryz.ntmps82
    go_wp2
    go_ret2
    exact ⟨rfl, rfl⟩
  · go_enter Tryz.func82, Tryz.ntmps82
    go_wp2
    go_ret2
    exact ⟨rfl, rfl⟩
theorem rp_neg (h0 : 0 < s.size) (hmax : (s.size : Int) ≤ 9223372036854775807) (c0 : (((s[0]'h0).toNat : Int) == 45) = true) (hx : s.extract 1 s.size = d) (e1 : d.toList.isEmpty = false) (e2 : d.size ≤ 19) (e3 : 0 < d.size) (e4 : (((d[0]'e3).toNat : Int) == 48) = false) :
    Calls Tryz.prog 82 #[.string s] w fun e w' => e = .returned (.tuple #[.int .i64 (refN true d.data.toList), .bool (refB true d.data.toList)]) ∧ w' = w := by
  have q : ((s.size : Int) == 0) = false := by rw [beq_eq_false_iff_ne]; omega
  go_enter Tryz.func82, Tryz.ntmps82
  go_wp2
  go_loop [6, 7] (fun n i => ∃ k u : Nat, k ≤ d.size ∧ i = .int .i64 k ∧ n = .int .u64 u ∧ Lib.decFrom 0 (d.data.toList.take k) = some u) (fun _ i => d.size - (intOf i).toNat)
  case atStart => exact ⟨0, 0, Nat.zero_le _, rfl, rfl, rfl⟩
  case round =>
    obtain ⟨k, u, hk, rfl, rfl, hu⟩ := hrel
    by_cases hlt : k < d.size
    · have hb := take_bound hu (by omega)
      have HU : Hid (Lib.decFrom 0 (d.data.toList.take k) = some u) := hu
      clear hu
      by_cases g1 : (d[k].toNat : Int) < 48
      · have HN : Hid (refB true d.data.toList = false ∧ refN true d.data.toList = 0) := ref_none true (no_digit hlt (by omega))
        go_wp2
        go_ret2
        exact ⟨ret2 HN.out.2.symm HN.out.1.symm, rfl⟩
      · by_cases g2 : 57 < (d[k].toNat : Int)
        · have HN : Hid (refB true d.data.toList = false ∧ refN true d.data.toList = 0) := ref_none true (no_digit hlt (by omega))
          go_wp2
          go_ret2
          exact ⟨ret2 HN.out.2.symm HN.out.1.symm, rfl⟩
        · have HS : Hid (Lib.decFrom 0 (d.data.toList.take (k + 1)) = some (u * 10 + (d[k].toNat - 48))) := take_step HU.out hlt (by omega) (by omega)
          go_wp2
          go_round
          case rel => exact ⟨k + 1, _, by omega, by go_num, u64_eq (by omega), HS.out⟩
          case measure => simp [intOf]; omega
    · obtain rfl : k = d.size := by omega
      have hm : Lib.decFrom 0 d.data.toList = some u := by
        rw [List.take_of_length_le (by simp)] at hu; exact hu
      have HU : Hid (Lib.decFrom 0 d.data.toList = some u) := hm
      clear hm hu
      go_wp2
      go_ret2
      exact ⟨ret2 (ref_neg HU.out).2.symm (ref_neg HU.out).1.symm, rfl⟩
theorem rp_pos (h0 : 0 < s.size) (hmax : (s.size : Int) ≤ 9223372036854775807) (c0 : (((s[0]'h0).toNat : Int) == 45) = false) (e1 : s.toList.isEmpty = false) (e2 : s.size ≤ 19) (e4 : (((s[0]'h0).toNat : Int) == 48) = false ∨ (((s[0]'h0).toNat : Int) == 48) = true ∧ s.size ≤ 1) :
    Calls Tryz.prog 82 #[.string s] w fun e w' => e = .returned (.tuple #[.int .i64 (refN false s.data.toList), .bool (refB false s.data.toList)]) ∧ w' = w := by
  have q : ((s.size : Int) == 0) = false := by rw [beq_eq_false_iff_ne]; omega
  rcases e4 with e4 | ⟨e4, e5⟩
  all_goals
    go_enter Tryz.func82, Tryz.ntmps82
    go_wp2
    go_loop [6, 7] (fun n i => ∃ k u : Nat, k ≤ s.size ∧ i = .int .i64 k ∧ n = .int .u64 u ∧ Lib.decFrom 0 (s.data.toList.take k) = some u) (fun _ i => s.size - (intOf i).toNat)
    case atStart => exact ⟨0, 0, Nat.zero_le _, rfl, rfl, rfl⟩
    case round =>
      obtain ⟨k, u, hk, rfl, rfl, hu⟩ := hrel
      by_cases hlt : k < s.size
      · have hb := take_bound hu (by omega)
        have HU : Hid (Lib.decFrom 0 (s.data.toList.take k) = some u) := hu
        clear hu
        by_cases g1 : (s[k].toNat : Int) < 48
        · have HN : Hid (refB false s.data.toList = false ∧ refN false s.data.toList = 0) := ref_none false (no_digit hlt (by omega))
          go_wp2
          go_ret2
          exact ⟨ret2 HN.out.2.symm HN.out.1.symm, rfl⟩
        · by_cases g2 : 57 < (s[k].toNat : Int)
          · have HN : Hid (refB false s.data.toList = false ∧ refN false s.data.toList = 0) := ref_none false (no_digit hlt (by omega))
            go_wp2
            go_ret2
            exact ⟨ret2 HN.out.2.symm HN.out.1.symm, rfl⟩
          · have HS : Hid (Lib.decFrom 0 (s.data.toList.take (k + 1)) = some (u * 10 + (s[k].toNat - 48))) := take_step HU.out hlt (by omega) (by omega)
            go_wp2
            go_round
            case rel => exact ⟨k + 1, _, by omega, by go_num, u64_eq (by omega), HS.out⟩
            case measure => simp [intOf]; omega
      · obtain rfl : k = s.size := by omega
        have hm : Lib.decFrom 0 s.data.toList = some u := by
          rw [List.take_of_length_le (by simp)] at hu; exact hu
        have HU : Hid (Lib.decFrom 0 s.data.toList = some u) := hm
        clear hm hu
        go_wp2
        go_ret2
        exact ⟨ret2 (ref_pos HU.out).2.symm (ref_pos HU.out).1.symm, rfl⟩
end
end Go.Proofs.YtacflahkofmcpaaGreatDoor
