/- The law EventOrders, walked. -/
import Derived.Test.YtkglmhclpgfngaaAwake10
import Derived.Test.YtkglmhclpgfngaaEvO
namespace Go.Proofs.Ytkglmhclpgfngaa
open Go.RowKit

set_option maxHeartbeats 4000000 in
set_option maxRecDepth 8000 in
theorem eventOrders_walk (a : Option Addr) (E : List EvT) (c : Nat) (w : World) (h : Rd evC 6 w (.slice a E.length c) E) :
    Calls Try.prog 6 #[.slice a E.length c] w fun e w' => e = .returned (.bool true) ∧ On w w' := by
  obtain ⟨_, _, _, _, hm⟩ := h.slice
  have hA := fun W => awake10_is W
  have HR : Hid (Rd evC 6 w (.slice a E.length c) E) := h
  clear h
  by_cases h80 : 80 < E.length
  · go_enter Try.func6, Try.ntmps6
    go_wp2_with fail
    refine (hA _).mono ?_
    rintro _ w1 ⟨rfl, k1⟩
    go_wp2
    go_ret
    exact ⟨rfl, k1⟩
  · have d80 : decide ((80 : Int) < (E.length : Int)) = false := by simp; omega
    by_cases h64 : 64 < E.length
    · have hP := fun W => po_big E a c W hm h64
      have hN := fun W => n_is (newR 0) W
      have e0 : (newR 0).n = 0 := rfl
      rw [e0] at hN
      generalize newR 0 = Z at *
      clear e0 h80
      go_enter Try.func6, Try.ntmps6
      go_wp2_with fail
      refine (hP _).mono ?_
      rintro _ w1 ⟨rfl, k1⟩
      go_wp2_with fail
      refine (hN _).mono ?_
      rintro _ w2 ⟨rfl, k2⟩
      go_wp2_with fail
      refine (hA _).mono ?_
      rintro _ w3 ⟨rfl, k3⟩
      go_wp2
      go_ret
      exact ⟨rfl, (k1.trans k2).trans k3⟩
    · have hP := po_is E a c w HR.out (by omega)
      have hQ := fun W (k : On w W) => rpo_is E a c W (HR.out.on k) (by omega)
      have hS := fun W => same_is (poR E) (po_wf E) W
      have hE := fun W (k : On w W) => evSame_is E a c a c W (HR.out.on k) (HR.out.on k)
      have d64 : decide ((64 : Int) < (E.length : Int)) = false := by simp; omega
      generalize poR E = U at *
      clear h64 h80
      go_enter Try.func6, Try.ntmps6
      go_wp2_with fail
      refine hP.mono ?_
      rintro _ w1 ⟨rfl, k1⟩
      go_wp2_with fail
      refine (hQ _ k1).mono ?_
      rintro _ w2 ⟨rfl, k2⟩
      go_wp2_with fail
      refine (hS _).mono ?_
      rintro _ w3 ⟨rfl, k3⟩
      have K3 := (k1.trans k2).trans k3
      go_wp2_with fail
      refine (hE _ K3).mono ?_
      rintro _ w4 ⟨rfl, k4⟩
      go_wp2_with fail
      refine (hA _).mono ?_
      rintro _ w5 ⟨rfl, k5⟩
      go_wp2
      go_ret
      exact ⟨rfl, (K3.trans k4).trans k5⟩
end Go.Proofs.Ytkglmhclpgfngaa
