/- The document's regText, locText, operandText, Sign. -/
import Derived.Test.YtacflahkofmcpaaGreatDoorWlTokM
import Derived.Test.YtacflahkofmcpaaGreatDoorJ27WlOkIns
import Derived.Test.YtacflahkofmcpaaGreatDoorJ29WlRegFin3
import Derived.Test.YtacflahkofmcpaaGreatDoorWlRTxt
namespace Go.Proofs.YtacflahkofmcpaaGreatDoor.Wl
open Go.RowKit

theorem rreg_is {r : Int} (h : regOk r = true) (w : World) : Calls Tryz.prog 70 #[.int .i64 r] w fun e w' => e = .returned (.string (regT r)) ∧ On w w' := by
  unfold regOk at h
  rw [Bool.and_eq_true, decide_eq_true_eq, decide_eq_true_eq] at h
  obtain ⟨k, rfl⟩ : ∃ k : Nat, r = k := ⟨r.toNat, by omega⟩
  have hN := fun W => rtext_is (k : Int) (by omega) (by omega) W
  rw [itoa_small (by omega)] at hN
  unfold regT
  rw [Int.toNat_natCast]
  generalize UInt8.ofNat (48 + k) = d at *
  go_enter Tryz.func70, Tryz.ntmps70
  go_wp2_with fail
  refine (hN _).mono ?_
  rintro e w1 ⟨rfl, hw1⟩
  subst w1
  go_wp2
  go_ret
  exact ⟨rfl, On.refl w⟩
theorem rloc_go (l : Nat) (h : l ≤ 255) (w : World) :
    Calls Tryz.prog 24 #[.int .i64 (l : Int)] w fun e w' => e = .returned (.string ⟨#[UInt8.ofNat l]⟩) ∧ On w w' := by
  have hv : ((UInt8.ofNat l).toNat : Int) = (l : Int) := by rw [UInt8.toNat_ofNat']; omega
  have hback := run_convert_bytes_back (P := Tryz.prog) (w.alloc (.cells #[.int .u8 (l : Int)] 5)) 41 9 5 ⟨w.heap.size, 0, none⟩ 1 [UInt8.ofNat l] Tryz.underlying41 Tryz.underlying5 Tryz.underlying9 (fun j hj => by
    rw [new_cell]
    match j, hj with
    | 0, _ => simp only [List.getElem?_cons_zero, List.getElem_cons_zero]; rw [hv])
  simp only [List.length_cons, List.length_nil] at hback
  generalize UInt8.ofNat l = d at *
  have hl : (l : Int) ≤ 255 := by omega
  clear hv
  go_enter Tryz.func24, Tryz.ntmps24
  go_wp2
  go_ret
  exact ⟨rfl, (On.refl w).alloc _⟩
theorem rloc_is {l : Int} (h : locOk l = true) (w : World) : Calls Tryz.prog 24 #[.int .i64 l] w fun e w' => e = .returned (.string (locT l)) ∧ On w w' := by
  unfold locOk at h
  rw [Bool.and_eq_true, decide_eq_true_eq, decide_eq_true_eq] at h
  have := rloc_go l.toNat (by omega) w
  rw [show ((l.toNat : Nat) : Int) = l by omega] at this
  exact this
theorem rnum_is {v : Int} (h : B64 v) (w : World) : Calls Tryz.prog 25 #[.int .i64 v] w fun e w' => e = .returned (.string (numT v)) ∧ On w w' := by
  refine (rtext_is v h.1 h.2 w).mono ?_
  rintro e w' ⟨rfl, rfl⟩
  exact ⟨rfl, On.refl _⟩
set_option maxHeartbeats 400000 in
theorem ropd_is (o : Opd) (h : opdOk o = true) (hv : B64 o.v) (w : World) :
    Calls Tryz.prog 69 #[.agg #[.int .i64 o.r, .int .i64 o.v]] w fun e w' => e = .returned (.string (opdT o)) ∧ On w w' := by
  obtain ⟨r, v⟩ := o
  unfold opdT
  simp only at hv ⊢
  by_cases hr : r < 0
  · rw [if_pos hr]
    have hN := fun W => rnum_is hv W
    have k0 : ∀ T, On w (w.alloc T) := fun T => (On.refl w).alloc T
    clear hv
    go_enter Tryz.func69, Tryz.ntmps69
    go_wp2_with fail
    refine (hN _).mono ?_
    rintro e w1 ⟨rfl, k1⟩
    go_wp2
    go_ret
    exact ⟨rfl, (k0 _).trans k1⟩
  · rw [if_neg hr]
    have hk : regOk r = true := by
      unfold opdOk at h
      rw [Bool.or_eq_true, Bool.and_eq_true, beq_iff_eq] at h
      rcases h with h | h
      · simp only at h; omega
      · exact h.2
    have hR := fun W => rreg_is hk W
    have k0 : ∀ T, On w (w.alloc T) := fun T => (On.refl w).alloc T
    clear hk h
    go_enter Tryz.func69, Tryz.ntmps69
    go_wp2_with fail
    refine (hR _).mono ?_
    rintro e w1 ⟨rfl, k1⟩
    go_wp2
    go_ret
    exact ⟨rfl, (k0 _).trans k1⟩
def sgnA : Array Value := #[.string ⟨#[43]⟩, .string ⟨#[45]⟩, .string ⟨#[42]⟩, .string ⟨#[38]⟩, .string ⟨#[124]⟩, .string ⟨#[94]⟩, .string ⟨#[60, 60]⟩, .string ⟨#[62, 62]⟩, .string ⟨#[61, 61]⟩, .string ⟨#[33, 61]⟩, .string ⟨#[60]⟩]
theorem rsgns_is (w : World) : Calls Tryz.prog 113 #[] w fun e w' => ∃ N, e = .returned (.slice (some ⟨N, 0, none⟩) 11 11) ∧ Bk w' N sgnA ∧ On w w' := by
  go_enter Tryz.func113, Tryz.ntmps113
  go_wp2
  go_ret
  exact ⟨w.heap.size, rfl, Bk.new w _ _, (On.refl w).alloc _⟩
set_option maxHeartbeats 400000 in
theorem rsgn_is {k : Int} (h : signOk k = true) (w : World) : Calls Tryz.prog 71 #[.int .i64 k] w fun e w' => e = .returned (.string (sgnT k)) ∧ On w w' := by
  unfold signOk at h
  rw [Bool.and_eq_true, decide_eq_true_eq, decide_eq_true_eq] at h
  obtain ⟨j, rfl⟩ : ∃ j : Nat, k = ((j + 1 : Nat) : Int) := ⟨(k - 1).toNat, by omega⟩
  have hj : j < 11 := by omega
  have hA : sgnA[j]? = some (.string (sgnT ((j + 1 : Nat) : Int))) := by
    have : ∀ d : Fin 11, sgnA[d.val]? = some (.string (sgnT ((d.val + 1 : Nat) : Int))) := by
      intro d
      match d with
      | 0 | 1 | 2 | 3 | 4 | 5 | 6 | 7 | 8 | 9 | 10 => rfl
    exact this ⟨j, hj⟩
  generalize sgnT ((j + 1 : Nat) : Int) = T at *
  have hR := rsgns_is w
  clear h
  go_enter Tryz.func71, Tryz.ntmps71
  go_wp2_with fail
  refine hR.mono ?_
  rintro e w1 ⟨N, rfl, hB, k1⟩
  have hc := hB.at hA
  have hl := hB.lt
  clear hR hB hA
  go_wp2
  go_ret
  exact ⟨rfl, k1⟩
end Go.Proofs.YtacflahkofmcpaaGreatDoor.Wl
