/- Layer 15's awake, walked. -/
import Derived.Test.YtnoeofbjnogkmaaBufV
import Derived.Test.YtnoeofbjnogkmaaBufO
import Derived.Test.YtnoeofbjnogkmaaBufN
namespace Go.Proofs.Ytnoeofbjnogkmaa
open Go.RowKit

theorem inr_small {z : Int} (h0 : -100 ≤ z) (h1 : z ≤ 1000) : InR z := ⟨by omega, by omega⟩
theorem enIn3 {x y z : Int} (h1 : InR x) (h2 : InR y) (h3 : InR z) : EnIn (x, y, z) := by
  intro u hu
  unfold enL at hu
  simp only [List.mem_cons, List.not_mem_nil, or_false] at hu
  rcases hu with rfl | rfl | rfl
  · exact h1
  · exact h2
  · exact h3
theorem aw_e1 : EnIn (0, 5, 1) := enIn3 (inr_small (by decide) (by decide)) (inr_small (by decide) (by decide)) (inr_small (by decide) (by decide))
theorem aw_e2 : EnIn (1, 6, 2) := enIn3 (inr_small (by decide) (by decide)) (inr_small (by decide) (by decide)) (inr_small (by decide) (by decide))
theorem aw_r2 : InR 2 := inr_small (by decide) (by decide)
def awB : BufT := putB (putB (newB 2 aw_r2) (0, 5, 1) aw_e1) (1, 6, 2) aw_e2
theorem aw_old : oldB awB 1 = some (0, 5, 1) := by decide +kernel
theorem aw_new : newestB awB 1 = some (1, 6, 2) := by decide +kernel
theorem aw_len : awB.l.length = 2 := by decide +kernel
set_option maxHeartbeats 2000000 in
set_option maxRecDepth 8000 in
theorem awake15_is (w : World) : Calls Try.prog 11 #[] w fun e w' => e = .returned (.bool true) ∧ On w w' := by
  have hz : ∀ w, (zeroValue 27).run Try.prog w = .ok (.agg (bufA bufZ)) w := fun w => (zero_of_info buf_info).1 w
  have h1 := fun W => new_is 2 aw_r2 W
  have h2 := fun W => put_is (newB 2 aw_r2) 0 5 1 aw_e1 W
  have h3 : ∀ W, Calls Try.prog 9 #[.agg (bufA (putB (newB 2 aw_r2) (0, 5, 1) aw_e1)), .int .i64 1, .int .i64 6, .int .i64 2] W fun e w' => e = .returned (.agg (bufA awB)) ∧ On W w' := fun W => put_is _ 1 6 2 aw_e2 W
  have h4 : ∀ W, Calls Try.prog 16 #[.agg (bufA awB), .int .i64 1] W fun e w' => e = .returned (.tuple #[.int .i64 0, .int .i64 5, .int .i64 1, .bool true]) ∧ On W w' := fun W => by
    have := oldest_is awB 1 W
    rw [aw_old] at this
    exact this
  have h5 : ∀ W, Calls Try.prog 18 #[.agg (bufA awB), .int .i64 1] W fun e w' => e = .returned (.tuple #[.int .i64 6, .int .i64 2, .bool true]) ∧ On W w' := fun W => by
    have := newest_is awB 1 W
    rw [aw_new] at this
    exact this
  have h6 : ∀ W, Calls Try.prog 8 #[.agg (bufA awB)] W fun e w' => e = .returned (.int .i64 2) ∧ On W w' := fun W => by
    have := len_is awB W
    rw [aw_len] at this
    exact this
  have h7 : ∀ W, Calls Try.prog 13 #[.agg (bufA awB)] W fun e w' => e = .returned (.bool false) ∧ On W w' := fun W => by
    have := empty_is awB W
    rw [aw_len] at this
    exact this
  generalize newB 2 aw_r2 = x1 at *
  generalize putB x1 (0, 5, 1) aw_e1 = x2 at *
  generalize awB = b at *
  go_enter Try.func11, Try.ntmps11
  go_wp2_with fail
  refine (h1 _).mono ?_
  rintro _ w1 ⟨rfl, k1⟩
  have K1 : Hid (On w w1) := k1
  clear k1 h1
  go_wp2_with fail
  refine (h2 _).mono ?_
  rintro _ w2 ⟨rfl, k2⟩
  have K2 : Hid (On w w2) := K1.out.trans k2
  clear k2 h2
  go_wp2_with fail
  refine (h3 _).mono ?_
  rintro _ w3 ⟨rfl, k3⟩
  have K3 : Hid (On w w3) := K2.out.trans k3
  obtain ⟨W4, hW4⟩ : ∃ W4, W4 = w3.alloc (.cells (bufA b) 27) := ⟨_, rfl⟩
  have HW4 : Hid (W4 = w3.alloc (.cells (bufA b) 27)) := hW4
  have B4 : Hid (Bk W4 w3.heap.size (bufA b)) := by show Bk _ _ _; rw [hW4]; exact Bk.new w3 _ _
  have K4 : Hid (On w W4) := by show On _ _; rw [hW4]; exact K3.out.alloc _
  clear k3 h3 hW4
  go_wp2_with (first | (refine wpList_bstN rfl rfl (bufA_size _) rfl (by exact rfl) ?_; rw [← HW4.out]) | (refine wpList_bld rfl rfl rfl B4.out ?_))
  refine (h4 _).mono ?_
  rintro _ w5 ⟨rfl, k5⟩
  have B5 : Hid (Bk w5 w3.heap.size (bufA b)) := B4.out.on k5
  have K5 : Hid (On w w5) := K4.out.trans k5
  clear k5 h4 hz
  go_wp2_with (refine wpList_bld rfl rfl rfl B5.out ?_)
  refine (h5 _).mono ?_
  rintro _ w6 ⟨rfl, k6⟩
  have B6 : Hid (Bk w6 w3.heap.size (bufA b)) := B5.out.on k6
  have K6 : Hid (On w w6) := K5.out.trans k6
  clear k6 h5
  go_wp2_with (refine wpList_bld rfl rfl rfl B6.out ?_)
  refine (h6 _).mono ?_
  rintro _ w7 ⟨rfl, k7⟩
  have B7 : Hid (Bk w7 w3.heap.size (bufA b)) := B6.out.on k7
  have K7 : Hid (On w w7) := K6.out.trans k7
  clear k7 h6
  go_wp2_with (refine wpList_bld rfl rfl rfl B7.out ?_)
  refine (h7 _).mono ?_
  rintro _ w8 ⟨rfl, k8⟩
  have K8 : Hid (On w w8) := K7.out.trans k8
  clear k8 h7
  go_wp2
  go_ret
  exact ⟨rfl, K8.out⟩
end Go.Proofs.Ytnoeofbjnogkmaa
