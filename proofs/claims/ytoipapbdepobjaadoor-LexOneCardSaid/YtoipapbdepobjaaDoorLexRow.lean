/- N blanks and a byte: what All answers. -/
import Derived.Test.YtoipapbdepobjaaDoorLexStep
import Derived.Test.YtoipapbdepobjaaDoorLexBlank
import Derived.Test.YtoipapbdepobjaaDoorRead

import Derived.Deep.OwnRows
import Derived.Laws.IdiomStrings
namespace Go.Proofs.YtoipapbdepobjaaDoor
open Go.RowKit

theorem i64_and7' (n : Int) : bits .and .i64 n 7 = n % 8 := by
  have h63 : (BitVec.ofInt 64 7).toNat = 2 ^ 3 - 1 := by decide
  have key : (BitVec.ofInt 64 n &&& BitVec.ofInt 64 7).toNat = (n % ((2 ^ 64 : Nat) : Int)).toNat % 2 ^ 3 := by
    rw [BitVec.toNat_and, BitVec.toNat_ofInt, h63, Nat.and_two_pow_sub_one_eq_mod]
  show IntKind.i64.wrap ((BitVec.ofInt 64 n &&& BitVec.ofInt 64 7).toNat : Nat) = n % 8
  rw [key, IntKind.wrap_i64]
  omega
theorem infoB : (Tryd.prog.info? 5).map (fun i => (i.zero, i.size, i.bytes)) = some (some (.int .u8 0), 1, 1) := by kernel_rfl

/-- N blanks and a byte. -/
def rowL (N k : Nat) : List UInt8 := List.replicate N 32 ++ [UInt8.ofNat k]
def rowS (N k : Nat) : ByteArray := ⟨(rowL N k).toArray⟩
theorem rowS_size (N k : Nat) : (rowS N k).size = N + 1 := by rw [size_list]; simp [rowS, rowL]
theorem rowS_suf (N k : Nat) : suf (rowS N k) 0 = rowL N k := by unfold suf rowS; simp
theorem gap_row (l : List UInt8) : ∀ N : Nat, gap false (List.replicate N 32 ++ l) = N + gap false l
  | 0 => by simp
  | N + 1 => by rw [List.replicate_succ, List.cons_append, gap_f, if_neg (by decide), if_pos (by decide), gap_row l N]; omega

theorem row_blank (N k : Nat) (hk : k ≤ 255) (h : k = 35 ∨ blN k = true) : tsA (rowS N k) = (if 4000 < N + 1 then [] else [⟨4, ⟨#[]⟩, N + 1⟩]) ∧ ecA (rowS N k) = (if 4000 < N + 1 then 2 else 0) ∧ epA (rowS N k) = (if 4000 < N + 1 then 4000 else 0) := by
  have hc : (UInt8.ofNat k).toNat = k := by rw [UInt8.toNat_ofNat']; omega
  have e := all_blank (good := pB) (S := rowS N k) (by
    rw [rowS_suf, rowS_size]
    unfold rowL
    rw [gap_row, gap_f, hc]
    by_cases h35 : k = 35
    · rw [if_pos h35]; rfl
    · rw [if_neg h35, if_pos (h.resolve_left h35)]; rfl)
  rw [rowS_size] at e
  unfold tsA ecA epA tsS ecS epS
  rw [rowS_size, e]
  exact ⟨rfl, rfl, rfl⟩
theorem row_place (N k : Nat) (hk : k ≤ 255) (h : ¬ (k = 35 ∨ blN k = true)) : pl (rowS N k) 0 = N ∧ suf (rowS N k) N = [UInt8.ofNat k] := by
  have hc : (UInt8.ofNat k).toNat = k := by rw [UInt8.toNat_ofNat']; omega
  have hp : pl (rowS N k) 0 = N := by
    unfold pl
    rw [rowS_suf]
    unfold rowL
    rw [gap_row, gap_f, hc, if_neg (fun e => h (Or.inl e)), if_neg (fun e => h (Or.inr e))]
    omega
  refine ⟨hp, ?_⟩
  have := suf_add (rowS N k) 0 N
  rw [rowS_suf] at this
  rw [Nat.zero_add] at this
  rw [this]
  unfold rowL
  rw [List.drop_left' (by simp)]
theorem row_none (N k : Nat) (hN : N ≤ 7) (hk : k ≤ 255) (h : ¬ (k = 35 ∨ blN k = true)) (h1 : letN k = false) (h2 : digN k = false) (h3 : oneN k = false) : tsA (rowS N k) = [] ∧ ecA (rowS N k) = 4 ∧ epA (rowS N k) = N := by
  have hc : (UInt8.ofNat k).toNat = k := by rw [UInt8.toNat_ofNat']; omega
  obtain ⟨hp, hs⟩ := row_place N k hk h
  have hkd : kd (rowS N k) 0 = 0 := by
    unfold kd
    rw [hp, hs, kind_cons, hc, h1, h2, h3]
    simp [hd, digN, pairN]
  have he : eC pB (rowS N k) 0 = 4 := by unfold eC; rw [if_pos hkd]
  have e := al_err (good := pB) (s := rowS N k) (Nat.zero_le _) (by rw [he]; decide)
  rw [he, hp] at e
  have hz : ¬ 4000 < (rowS N k).size := by rw [rowS_size]; omega
  unfold tsA ecA epA tsS ecS epS
  rw [if_neg hz, if_neg hz, if_neg hz, e]
  exact ⟨rfl, rfl, rfl⟩
theorem row_some (N k : Nat) (hN : N ≤ 7) (hk : k ≤ 255) (h : ¬ (k = 35 ∨ blN k = true)) (h1 : letN k = true ∨ digN k = true ∨ oneN k = true) : ecA (rowS N k) = 0 ∧ epA (rowS N k) = 0 := by
  have hc : (UInt8.ofNat k).toNat = k := by rw [UInt8.toNat_ofNat']; omega
  obtain ⟨hp, hs⟩ := row_place N k hk h
  have hrun : runL ([] : List UInt8) = 0 := rfl
  have hz1 : kd (rowS N k) 0 ≠ 0 ∧ kd (rowS N k) 0 ≠ 4 ∧ sz (rowS N k) 0 = 1 := by
    unfold kd sz
    rw [hp, hs, kind_cons, tsize_cons, hc]
    by_cases a : letN k = true
    · simp [a, hrun]
    · by_cases b : digN k = true
      · simp [a, b, hrun]
      · have c : oneN k = true := (h1.resolve_left a).resolve_left b
        have d3 : (k == 45 && digN (hd [])) = false := by simp [hd, digN]
        have d4 : pairN k (hd []) = false := by simp [hd, pairN]
        simp [a, b, c, d3, d4]
  obtain ⟨z0, z4, z1⟩ := hz1
  have hx : tx (rowS N k) 0 = ⟨#[UInt8.ofNat k]⟩ := by apply bytes_ext; rw [tx_list, hp, hs, z1]; rfl
  have he : eC pB (rowS N k) 0 = 0 := by
    unfold eC
    rw [if_neg z0, if_neg]
    rintro ⟨hk2, hb⟩
    rw [hx] at hb
    have hdig : digN k = true := by
      unfold kd at hk2
      rw [hp, hs, kind_cons, hc] at hk2
      by_cases a : letN k = true
      · simp [a] at hk2
      · by_cases b : digN k = true
        · exact b
        · have d3 : (k == 45 && digN (hd [])) = false := by simp [hd, digN]
          have d4 : pairN k (hd []) = false := by simp [hd, pairN]
          simp only [a, b, d3, d4, Bool.false_eq_true, if_false] at hk2
          split at hk2 <;> omega
    simp only [digN, Bool.and_eq_true, decide_eq_true_eq] at hdig
    have hv : Lib.digitVal (UInt8.ofNat k) = some (k - 48) := by
      unfold Lib.digitVal
      rw [hc, if_pos hdig]
    have hdec : Lib.decFrom 0 [UInt8.ofNat k] = some (k - 48) := by
      simp [Lib.decFrom, hv]
    have hpv := pos_yes (m := [UInt8.ofNat k]) (u := k - 48) (by simp) (Or.inr rfl) hdec (by omega)
    unfold pB at hb
    rw [show (ByteArray.mk #[UInt8.ofNat k]).data.toList = [UInt8.ofNat k] from rfl, hpv] at hb
    cases hb
  have ht : to (rowS N k) 0 = (rowS N k).size := by unfold to; rw [hp, z1, rowS_size]
  have hs' : suf (rowS N k) (rowS N k).size = [] := suf_ge (Nat.le_refl _)
  have hp2 : pl (rowS N k) (rowS N k).size = (rowS N k).size := by unfold pl; rw [hs']; rfl
  have hk2 : kd (rowS N k) (rowS N k).size = 4 := by unfold kd; rw [hp2, hs']; rfl
  have he2 : eC pB (rowS N k) (rowS N k).size = 0 := by unfold eC; rw [hk2]; simp
  have e := al_step (good := pB) (s := rowS N k) (Nat.zero_le _) he z4
  rw [ht, al_end (Nat.le_refl _) he2 hk2] at e
  have hz : ¬ 4000 < (rowS N k).size := by rw [rowS_size]; omega
  unfold ecA epA ecS epS
  rw [if_neg hz, if_neg hz, e]
  exact ⟨rfl, rfl⟩
theorem conv_row (N k B : Nat) (w : World) (hk : k ≤ 255) (h : w.rowIs B 5 (N + 1) (fun i => if i = N then .int .u8 k else .int .u8 32)) :
    (convert 22 9 (.slice (some ⟨B, 0, none⟩) (N + 1) (N + 1))).run Tryd.prog w = .ok (.string (rowS N k)) w := by
  have hc : (UInt8.ofNat k).toNat = k := by rw [UInt8.toNat_ofNat']; omega
  have hlen : (rowL N k).length = N + 1 := by simp [rowL]
  have e := run_convert_bytes_back (P := Tryd.prog) w 22 9 5 ⟨B, 0, none⟩ (N + 1) (rowL N k) Tryd.underlying22 Tryd.underlying5 Tryd.underlying9 (fun j hj => by
    rw [hlen] at hj
    rw [Addr.add_lit, Nat.zero_add, h.cell hj]
    by_cases hjN : j = N
    · subst hjN
      simp [rowL, hc]
    · have : (rowL N k)[j]'(by rw [hlen]; exact hj) = 32 := by
        unfold rowL
        rw [List.getElem_append_left (by simp; omega), List.getElem_replicate]
      rw [this, if_neg hjN]
      rfl)
  rw [hlen] at e
  exact e
end Go.Proofs.YtoipapbdepobjaaDoor
