/- What the document fixes of relations. -/
import Derived.Test.YthbiaojefmdcmaaRelI
namespace Go.Proofs.Ythbiaojefmdcmaa
open Go.RowKit

theorem newR_wr (n : Int) : Wr (newR n) := ⟨Nat.min_le_right _ _, fun _ => by show 0 < _; decide⟩
set_option maxHeartbeats 4000000 in
theorem awake8_is (w : World) : Calls Try.prog 11 #[] w fun e w' => e = .returned (.bool true) ∧ On w w' := by
  obtain ⟨hz, _⟩ := zero_of_info rel_info
  have hN := fun W => new_is 3 W
  have hw0 : Wr (newR 3) := newR_wr 3
  have hA := fun W => add_is (newR 3) hw0 0 1 W
  have hw1 := add_wr hw0 0 1
  have hB := fun W => add_is (addR (newR 3) 0 1) hw1 1 2 W
  have hw2 := add_wr hw1 1 2
  have e1 : hasR (closeR (addR (addR (newR 3) 0 1) 1 2)) 0 2 = true := by decide +kernel
  have e2 : hasR (addR (addR (newR 3) 0 1) 1 2) 0 2 = false := by decide +kernel
  have e3 : acycR (addR (addR (newR 3) 0 1) 1 2) = true := by decide +kernel
  have e4 : acycR (addR (addR (addR (newR 3) 0 1) 1 2) 2 0) = false := by decide +kernel
  have e5 : (addR (addR (newR 3) 0 1) 1 2).n = 3 := by decide +kernel
  generalize addR (addR (newR 3) 0 1) 1 2 = R at *
  generalize addR (newR 3) 0 1 = Q at *
  generalize newR 3 = P at *
  have hC := fun W => close_is R hw2 W
  have hH1 := fun W => rhas_is (closeR R) (close_wr hw2) 0 2 W
  have hH2 := fun W => rhas_is R hw2 0 2 W
  have hY := fun W => acyc_is R hw2 W
  have hD := fun W => add_is R hw2 2 0 W
  have hY2 := fun W => acyc_is (addR R 2 0) (add_wr hw2 2 0) W
  have hNN := fun W => n_is R W
  rw [e1] at hH1
  rw [e2] at hH2
  rw [e3] at hY
  rw [e4] at hY2
  rw [e5] at hNN
  generalize addR R 2 0 = T at *
  generalize closeR R = C at *
  clear e1 e2 e3 e4 e5 hw0 hw1 hw2
  go_enter Try.func11, Try.ntmps11
  go_wp2_with fail
  refine (hN _).mono ?_
  rintro _ w1 ⟨rfl, k1⟩
  go_wp2_with fail
  refine (hA _).mono ?_
  rintro _ w2 ⟨rfl, k2⟩
  go_wp2_with fail
  refine (hB _).mono ?_
  rintro _ w3 ⟨rfl, k3⟩
  have K3 := (k1.trans k2).trans k3
  have B3 := Bk.new w3 (relA zeroR) 27
  have C3 := B3.row (relA R)
  have KC := (K3.alloc (.cells (relA zeroR) 27)).row (N := w3.heap.size) K3.size (relA R)
  obtain ⟨W, hW⟩ : ∃ W, W = (w3.alloc (.cells (relA zeroR) 27)).setRow w3.heap.size (relA R) := ⟨_, rfl⟩
  rw [← hW] at C3 KC
  have HW : Hid (W = (w3.alloc (.cells (relA zeroR) 27)).setRow w3.heap.size (relA R)) := hW
  clear hW K3
  go_wp2_with (first | (refine wpList_st rfl rfl rfl rfl B3 ?_; rw [← HW.out]; clear B3 HW) | refine wpList_ldG (by rfl) rfl rfl C3 ?_)
  refine (hC _).mono ?_
  rintro _ w4 ⟨rfl, k4⟩
  have C4 := C3.on k4
  go_wp2_with fail
  refine (hH1 _).mono ?_
  rintro _ w5 ⟨rfl, k5⟩
  have C5 := C4.on k5
  go_wp2_with (refine wpList_ldG (by rfl) rfl rfl C5 ?_)
  refine (hH2 _).mono ?_
  rintro _ w6 ⟨rfl, k6⟩
  have C6 := C5.on k6
  go_wp2_with (refine wpList_ldG (by rfl) rfl rfl C6 ?_)
  refine (hY _).mono ?_
  rintro _ w7 ⟨rfl, k7⟩
  have C7 := C6.on k7
  go_wp2_with (refine wpList_ldG (by rfl) rfl rfl C7 ?_)
  refine (hD _).mono ?_
  rintro _ w8 ⟨rfl, k8⟩
  have C8 := C7.on k8
  go_wp2_with fail
  refine (hY2 _).mono ?_
  rintro _ w9 ⟨rfl, k9⟩
  have C9 := C8.on k9
  go_wp2_with (refine wpList_ldG (by rfl) rfl rfl C9 ?_)
  refine (hNN _).mono ?_
  rintro _ w10 ⟨rfl, k10⟩
  go_wp2
  go_ret
  exact ⟨rfl, KC.trans (k4.trans (k5.trans (k6.trans (k7.trans (k8.trans (k9.trans k10))))))⟩
end Go.Proofs.Ythbiaojefmdcmaa
