/- prog.isRegister, Value, with, result, skipped, for every instruction and every Local. -/
import Derived.Test.YtkglmhclpgfngaaStepP
import Derived.Test.YtkglmhclpgfngaaReads
import Derived.Test.YtkglmhclpgfngaaPuts
import Derived.Deep.RegionLaw
namespace Go.Proofs.Ytkglmhclpgfngaa
open Go.RowKit

def locV (l : LocT) : Value := .agg #[.int .i64 l.pc, .int .i64 l.r0, .int .i64 l.r1, .int .i64 l.r2, .int .i64 l.r3]
def insV (x : InsT) : Value := .agg #[.int .i64 x.k, .int .i64 x.r, .int .i64 x.l, .int .i64 x.a.r, .int .i64 x.a.v, .int .i64 x.o, .int .i64 x.b.r, .int .i64 x.b.v, .int .i64 x.n]
theorem pregister_is (r : Int) (w : World) : Calls Try.prog 58 #[.int .i64 r] w fun e w' => e = .returned (.bool (regOk r)) ∧ w' = w := by
  by_cases h : 0 ≤ r
  · by_cases h3 : r ≤ 3
    · have e : regOk r = true := by unfold regOk; simp; omega
      have h4 : decide (r < 4) = true := by simp; omega
      rw [e]
      go_enter Try.func58, Try.ntmps58
      go_wp2
      go_ret
      exact ⟨rfl, rfl⟩
    · have e : regOk r = false := by unfold regOk; simp; omega
      have h4 : decide (r < 4) = false := by simp; omega
      rw [e]
      go_enter Try.func58, Try.ntmps58
      go_wp2
      go_ret
      exact ⟨rfl, rfl⟩
  · have e : regOk r = false := by unfold regOk; simp; omega
    rw [e]
    go_enter Try.func58, Try.ntmps58
    go_wp2
    go_ret
    exact ⟨rfl, rfl⟩
set_option maxHeartbeats 1000000 in
theorem pvalue_is (o : Opd) (l : LocT) (w : World) : Calls Try.prog 49 #[.agg #[.int .i64 o.r, .int .i64 o.v], locV l] w fun e w' => e = .returned (.int .i64 (valOf o l)) ∧ On w w' := by
  obtain ⟨r, v⟩ := o
  obtain ⟨pc, r0, r1, r2, r3⟩ := l
  unfold valOf locV
  have hR := fun W => pregister_is r W
  cases h : regOk r with
  | false =>
    rw [h] at hR
    go_enter Try.func49, Try.ntmps49
    go_wp2_with (go_at_call 58; refine (hR _).mono ?_; rintro e w' ⟨rfl, rfl⟩)
    go_ret
    exact ⟨rfl, ((On.refl w).alloc _).alloc _⟩
  | true =>
    rw [h] at hR
    rcases regOk_four h with rfl | rfl | rfl | rfl
    all_goals
      go_enter Try.func49, Try.ntmps49
      go_wp2_with (go_at_call 58; refine (hR _).mono ?_; rintro e w' ⟨rfl, rfl⟩)
      go_ret
      exact ⟨rfl, ((On.refl w).alloc _).alloc _⟩
set_option maxHeartbeats 1000000 in
theorem pwith_is (l : LocT) (r v : Int) (w : World) : Calls Try.prog 51 #[locV l, .int .i64 r, .int .i64 v] w fun e w' => e = .returned (locV (withR l r v)) ∧ On w w' := by
  obtain ⟨pc, r0, r1, r2, r3⟩ := l
  unfold withR locV
  have hR := fun W => pregister_is r W
  have k0 : ∀ A B, On w ((w.alloc A).alloc B) := fun A B => ((On.refl w).alloc A).alloc B
  cases h : regOk r with
  | false =>
    rw [h] at hR
    go_enter Try.func51, Try.ntmps51
    go_wp2_with (go_at_call 58; refine (hR _).mono ?_; rintro e w' ⟨rfl, rfl⟩)
    refine bodyPost_ret (v := locV ⟨pc, r0, r1, r2, r3⟩) ?_ rfl ⟨rfl, ?_⟩
    · rw [results_cell rfl]
      unfold locV
      go_simp
    · repeat' (first | with_reducible refine On.setNew ?_ (by omega) _ | with_reducible exact On.refl _ | with_reducible refine On.alloc ?_ _)
  | true =>
    rw [h] at hR
    rcases regOk_four h with rfl | rfl | rfl | rfl
    all_goals
      go_enter Try.func51, Try.ntmps51
      go_wp2_with (go_at_call 58; refine (hR _).mono ?_; rintro e w' ⟨rfl, rfl⟩)
    · refine bodyPost_ret (v := locV ⟨pc, v, r1, r2, r3⟩) ?_ rfl ⟨rfl, ?_⟩
      · rw [results_cell rfl]
        unfold locV
        go_simp
      · repeat' (first | with_reducible refine On.setNew ?_ (by omega) _ | with_reducible exact On.refl _ | with_reducible refine On.alloc ?_ _)
    · refine bodyPost_ret (v := locV ⟨pc, r0, v, r2, r3⟩) ?_ rfl ⟨rfl, ?_⟩
      · rw [results_cell rfl]
        unfold locV
        go_simp
      · repeat' (first | with_reducible refine On.setNew ?_ (by omega) _ | with_reducible exact On.refl _ | with_reducible refine On.alloc ?_ _)
    · refine bodyPost_ret (v := locV ⟨pc, r0, r1, v, r3⟩) ?_ rfl ⟨rfl, ?_⟩
      · rw [results_cell rfl]
        unfold locV
        go_simp
      · repeat' (first | with_reducible refine On.setNew ?_ (by omega) _ | with_reducible exact On.refl _ | with_reducible refine On.alloc ?_ _)
    · refine bodyPost_ret (v := locV ⟨pc, r0, r1, r2, v⟩) ?_ rfl ⟨rfl, ?_⟩
      · rw [results_cell rfl]
        unfold locV
        go_simp
      · repeat' (first | with_reducible refine On.setNew ?_ (by omega) _ | with_reducible exact On.refl _ | with_reducible refine On.alloc ?_ _)
end Go.Proofs.Ytkglmhclpgfngaa
