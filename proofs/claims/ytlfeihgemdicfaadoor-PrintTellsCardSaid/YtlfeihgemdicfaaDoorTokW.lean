/- print.register, print.location: their texts. -/
import Derived.Test.YtlfeihgemdicfaaDoorNumberW
namespace Go.Proofs.YtlfeihgemdicfaaDoor
open Go.RowKit

theorem itoa_small {k : Nat} (h : k ≤ 9) : Lib.itoa (k : Int) = [UInt8.ofNat (48 + k)] := by
  rw [Lib.itoa, if_neg (by omega), Int.toNat_natCast, Lib.decDigits, dif_pos (by omega)]
theorem register_is (k : Nat) (h : k ≤ 9) (w : World) :
    Calls Tryd.prog 70 #[.int .i64 (k : Int)] w fun e w' => e = .returned (.string ⟨#[114, UInt8.ofNat (48 + k)]⟩) ∧ On w w' := by
  have hN := fun W => number_is (k : Int) (by omega) (by omega) W
  rw [itoa_small h] at hN
  generalize UInt8.ofNat (48 + k) = d at *
  go_enter Tryd.func70, Tryd.ntmps70
  go_wp2_with fail
  refine (hN _).mono ?_
  rintro e w1 ⟨rfl, k1⟩
  go_wp2
  go_ret
  exact ⟨rfl, k1⟩
theorem location_is (l : Nat) (h : l ≤ 255) (w : World) :
    Calls Tryd.prog 68 #[.int .i64 (l : Int)] w fun e w' => e = .returned (.string ⟨#[UInt8.ofNat l]⟩) ∧ On w w' := by
  have hv : ((UInt8.ofNat l).toNat : Int) = (l : Int) := by rw [UInt8.toNat_ofNat']; omega
  have hback := run_convert_bytes_back (P := Tryd.prog) (w.alloc (.cells #[.int .u8 (l : Int)] 5)) 57 9 5 ⟨w.heap.size, 0, none⟩ 1 [UInt8.ofNat l] Tryd.underlying57 Tryd.underlying5 Tryd.underlying9 (fun j hj => by
    rw [new_cell]
    match j, hj with
    | 0, _ => simp only [List.getElem?_cons_zero, List.getElem_cons_zero]; rw [hv])
  simp only [List.length_cons, List.length_nil] at hback
  generalize UInt8.ofNat l = d at *
  have hl : (l : Int) ≤ 255 := by omega
  clear hv
  go_enter Tryd.func68, Tryd.ntmps68
  go_wp2
  go_ret
  exact ⟨rfl, (On.refl w).alloc _⟩
end Go.Proofs.YtlfeihgemdicfaaDoor
