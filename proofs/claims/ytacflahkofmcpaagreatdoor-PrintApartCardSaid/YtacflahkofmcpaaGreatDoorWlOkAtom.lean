/- Which atoms may be: print.okAtom. -/
import Derived.Test.YtacflahkofmcpaaGreatDoorJ14WlRegFin3
namespace Go.Proofs.YtacflahkofmcpaaGreatDoor.Wl
open Go.RowKit

set_option linter.unusedSimpArgs false in
set_option maxHeartbeats 1000000 in
set_option maxRecDepth 8000 in
theorem okAtom_is (x : AtomT) (w : World) :
    Calls Tryz.prog 146 #[.agg #[.int .i64 x.t, .int .i64 x.r, .int .i64 x.l, .int .i64 x.v]] w fun e w' => e = .returned (.bool (atomOk x)) ∧ On w w' := by
  obtain ⟨t, r, l, v⟩ := x
  unfold atomOk
  simp only
  have hL := fun W => isLocation_is l W
  have hR := fun W => isRegister_is r W
  cases h1 : (t == -1) with
  | true =>
    obtain rfl : t = -1 := by simpa using h1
    clear h1
    by_cases h2 : r = 0
    · subst h2
      go_enter Tryz.func146, Tryz.ntmps146
      go_wp2_with fail
      refine (hL _).mono ?_
      rintro e w1 ⟨rfl, rfl⟩
      go_wp2
      all_goals (try go_ret)
      all_goals exact ⟨by simp, (On.refl w).alloc _⟩
    · have b2 : (r == 0) = false := by simp [h2]
      go_enter Tryz.func146, Tryz.ntmps146
      go_wp2
      all_goals (try go_ret)
      all_goals exact ⟨by simp [h2], (On.refl w).alloc _⟩
  | false =>
    by_cases h2 : l = 0
    · subst h2
      by_cases h3 : 0 ≤ t
      · by_cases h4 : t ≤ 9
        · go_enter Tryz.func146, Tryz.ntmps146
          go_wp2_with fail
          refine (hR _).mono ?_
          rintro e w1 ⟨rfl, rfl⟩
          go_wp2
          all_goals (try go_ret)
          all_goals exact ⟨by simp [h3, h4], (On.refl w).alloc _⟩
        · go_enter Tryz.func146, Tryz.ntmps146
          go_wp2
          all_goals (try go_ret)
          all_goals exact ⟨by simp; intros; omega, (On.refl w).alloc _⟩
      · go_enter Tryz.func146, Tryz.ntmps146
        go_wp2
        all_goals (try go_ret)
        all_goals exact ⟨by simp; intros; omega, (On.refl w).alloc _⟩
    · have b2 : (l == 0) = false := by simp [h2]
      go_enter Tryz.func146, Tryz.ntmps146
      go_wp2
      all_goals (try go_ret)
      all_goals exact ⟨by simp [h2], (On.refl w).alloc _⟩
end Go.Proofs.YtacflahkofmcpaaGreatDoor.Wl
