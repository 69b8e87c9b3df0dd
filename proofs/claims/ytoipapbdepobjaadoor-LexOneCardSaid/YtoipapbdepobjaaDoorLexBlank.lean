/- Texts of blanks alone. Of no program. -/
import Derived.Test.YtoipapbdepobjaaDoorLexFacts
namespace Go.Proofs.YtoipapbdepobjaaDoor

theorem all_blank {good : ByteArray → Bool} {S : ByteArray} (h : gap false (suf S 0) = S.size) : al good S 0 = ([⟨4, ⟨#[]⟩, S.size⟩], 0, 0) := by
  have hp : pl S 0 = S.size := by unfold pl; omega
  have hs : suf S (pl S 0) = [] := suf_ge (by omega)
  have hk : kd S 0 = 4 := by unfold kd; rw [hs]; rfl
  have he : eC good S 0 = 0 := by unfold eC; rw [hk]; simp
  have hx : tx S 0 = ⟨#[]⟩ := by
    apply bytes_ext
    rw [tx_list, hs, List.take_nil]
  rw [al_end (Nat.zero_le _) he hk]
  unfold tk
  rw [hk, hx, hp]

theorem gap_hashes : ∀ n : Nat, gap true (List.replicate n (35 : UInt8)) = n
  | 0 => rfl
  | n + 1 => by rw [List.replicate_succ, gap_t]; show 1 + gap true _ = _; rw [gap_hashes n]; omega
theorem gap_blanks (c : UInt8) (h : c.toNat ≠ 35) (hb : blN c.toNat = true) : ∀ n : Nat, gap false (List.replicate n c) = n
  | 0 => rfl
  | n + 1 => by rw [List.replicate_succ, gap_f, if_neg h, if_pos hb, gap_blanks c h hb n]; omega
theorem gap_same (c : UInt8) (h : c.toNat = 35 ∨ blN c.toNat = true) (n : Nat) : gap false (List.replicate n c) = n := by
  by_cases h35 : c.toNat = 35
  · have e : c = 35 := UInt8.toNat_inj.1 h35
    subst e
    cases n with
    | zero => rfl
    | succ n => rw [List.replicate_succ, gap_f, if_pos h35, gap_hashes]; omega
  · exact gap_blanks c h35 (h.resolve_left h35) n

/-- n bytes c. -/
def rep (n : Nat) (c : UInt8) : ByteArray := ⟨(List.replicate n c).toArray⟩
theorem rep_size (n : Nat) (c : UInt8) : (rep n c).size = n := by unfold rep; rw [size_list]; simp
theorem rep_al {good : ByteArray → Bool} (n : Nat) (c : UInt8) (h : c.toNat = 35 ∨ blN c.toNat = true) : al good (rep n c) 0 = ([⟨4, ⟨#[]⟩, n⟩], 0, 0) := by
  have e := all_blank (good := good) (S := rep n c) (by
    rw [rep_size]
    have : suf (rep n c) 0 = List.replicate n c := by unfold suf rep; simp
    rw [this, gap_same c h n])
  rw [rep_size] at e
  exact e
end Go.Proofs.YtoipapbdepobjaaDoor
