/- Instructions and programs as values and in memory: what needs no package of the program. -/
import Derived.Test.YtplihlmejnohnaaGreatDoorJ03Gen0
import Derived.Test.YtplihlmejnohnaaGreatDoorJ02OwnR
import Derived.Test.YtplihlmejnohnaaGreatDoorJ01StepP
import Derived.Deep.RegionLaw
namespace Go.Proofs.YtplihlmejnohnaaGreatDoor
open Go.RowKit

def insV (x : InsT) : Value := .agg #[.int .i64 x.k, .int .i64 x.r, .int .i64 x.l, .int .i64 x.a.r, .int .i64 x.a.v, .int .i64 x.o, .int .i64 x.b.r, .int .i64 x.b.v, .int .i64 x.n]
/-- v is a program with these threads. -/
def ProgRd (w : World) (v : Value) (LL : List (List InsT)) : Prop :=
  ∃ a1 m1 c1 a2 m2 c2 a c, v = .agg #[.slice a1 m1 c1, .slice a2 m2 c2, .slice a LL.length c] ∧ Rd2 insC 9 w (.slice a LL.length c) LL
theorem ProgRd.on {w w' : World} {v : Value} {LL : List (List InsT)} (h : ProgRd w v LL) (k : On w w') : ProgRd w' v LL := by
  obtain ⟨a1, m1, c1, a2, m2, c2, a, c, rfl, r⟩ := h
  exact ⟨a1, m1, c1, a2, m2, c2, a, c, rfl, r.on k⟩
def insZ : InsT := ⟨0, 0, 0, ⟨0, 0⟩, 0, ⟨0, 0⟩, 0⟩
theorem infoInsE : (Tryz.prog.info? 107).map (fun i => (i.zero, i.size, i.bytes)) = some (some (insV insZ), 9, 72) := by kernel_rfl
theorem made_ins (n : Nat) : (madeCells (insV insZ).cells (n * 9)).toList = (List.replicate n insZ).flatMap insC := by
  apply List.ext_getElem?
  intro j
  have hl : ((List.replicate n insZ).flatMap insC).length = n * 9 := by simp [List.length_flatMap, insC]
  by_cases hj : j < n * 9
  · have h1 : (List.replicate n insZ)[j / 9]? = some insZ := by rw [List.getElem?_replicate]; simp; omega
    have h2 := flat_at insC 9 (fun _ => rfl) (List.replicate n insZ) (j / 9) (j % 9) insZ h1 (Nat.mod_lt _ (by decide))
    rw [show j / 9 * 9 + j % 9 = j by omega] at h2
    rw [h2]
    have h3 : (madeCells (insV insZ).cells (n * 9)).toList[j]? = some ((insV insZ).cells[j % (insV insZ).cells.size]!) := by simp [madeCells, hj]
    rw [h3]
    have h4 : ∀ k, k < 9 → some ((insV insZ).cells[k]!) = (insC insZ)[k]? := fun k hk => by
      match k, hk with
      | 0, _ => rfl
      | 1, _ => rfl
      | 2, _ => rfl
      | 3, _ => rfl
      | 4, _ => rfl
      | 5, _ => rfl
      | 6, _ => rfl
      | 7, _ => rfl
      | 8, _ => rfl
    exact h4 (j % 9) (Nat.mod_lt _ (by decide))
  · have h5 : (madeCells (insV insZ).cells (n * 9)).toList[j]? = none := List.getElem?_eq_none (by simp [madeCells]; omega)
    rw [h5, List.getElem?_eq_none (by rw [hl]; omega)]
end Go.Proofs.YtplihlmejnohnaaGreatDoor

namespace Go.Proofs.YtplihlmejnohnaaGreatDoor
open Go.RowKit

def locV (l : LocT) : Value := .agg #[.int .i64 l.pc, .int .i64 l.r0, .int .i64 l.r1, .int .i64 l.r2, .int .i64 l.r3]
theorem pregister_is (r : Int) (w : World) : Calls Tryz.prog 101 #[.int .i64 r] w fun e w' => e = .returned (.bool (regOk r)) ∧ w' = w := by
  by_cases h : 0 ≤ r
  · by_cases h3 : r ≤ 3
    · have e : regOk r = true := by unfold regOk; simp; omega
      have h4 : decide (r < 4) = true := by simp; omega
      rw [e]
      go_enter Tryz.func101, Tryz.ntmps101
      go_wp2
      go_ret
      exact ⟨rfl, rfl⟩
    · have e : regOk r = false := by unfold regOk; simp; omega
      have h4 : decide (r < 4) = false := by simp; omega
      rw [e]
      go_enter Tryz.func101, Tryz.ntmps101
      go_wp2
      go_ret
      exact ⟨rfl, rfl⟩
  · have e : regOk r = false := by unfold regOk; simp; omega
    rw [e]
    go_enter Tryz.func101, Tryz.ntmps101
    go_wp2
    go_ret
    exact ⟨rfl, rfl⟩
set_option maxHeartbeats 1000000 in
theorem pvalue_is (o : Opd) (l : LocT) (w : World) : Calls Tryz.prog 102 #[.agg #[.int .i64 o.r, .int .i64 o.v], locV l] w fun e w' => e = .returned (.int .i64 (valOf o l)) ∧ On w w' := by
  obtain ⟨r, v⟩ := o
  obtain ⟨pc, r0, r1, r2, r3⟩ := l
  unfold valOf locV
  have hR := fun W => pregister_is r W
  cases h : regOk r with
  | false =>
    rw [h] at hR
    go_enter Tryz.func102, Tryz.ntmps102
    go_wp2_with (go_at_call 101; refine (hR _).mono ?_; rintro e w' ⟨rfl, rfl⟩)
    go_ret
    exact ⟨rfl, ((On.refl w).alloc _).alloc _⟩
  | true =>
    rw [h] at hR
    rcases regOk_four h with rfl | rfl | rfl | rfl
    all_goals
      go_enter Tryz.func102, Tryz.ntmps102
      go_wp2_with (go_at_call 101; refine (hR _).mono ?_; rintro e w' ⟨rfl, rfl⟩)
      go_ret
      exact ⟨rfl, ((On.refl w).alloc _).alloc _⟩
set_option maxHeartbeats 1000000 in
theorem pwith_is (l : LocT) (r v : Int) (w : World) : Calls Tryz.prog 81 #[locV l, .int .i64 r, .int .i64 v] w fun e w' => e = .returned (locV (withR l r v)) ∧ On w w' := by
  obtain ⟨pc, r0, r1, r2, r3⟩ := l
  unfold withR locV
  have hR := fun W => pregister_is r W
  have k0 : ∀ A B, On w ((w.alloc A).alloc B) := fun A B => ((On.refl w).alloc A).alloc B
  cases h : regOk r with
  | false =>
    rw [h] at hR
    go_enter Tryz.func81, Tryz.ntmps81
    go_wp2_with (go_at_call 101; refine (hR _).mono ?_; rintro e w' ⟨rfl, rfl⟩)
    refine bodyPost_ret (v := locV ⟨pc, r0, r1, r2, r3⟩) ?_ rfl ⟨rfl, ?_⟩
    · rw [results_cell rfl]
      unfold locV
      go_simp
    · repeat' (first | with_reducible refine On.setNew ?_ (by omega) _ | with_reducible exact On.refl _ | with_reducible refine On.alloc ?_ _)
  | true =>
    rw [h] at hR
    rcases regOk_four h with rfl | rfl | rfl | rfl
    all_goals
      go_enter Tryz.func81, Tryz.ntmps81
      go_wp2_with (go_at_call 101; refine (hR _).mono ?_; rintro e w' ⟨rfl, rfl⟩)
    · refine bodyPost_ret (v := locV ⟨pc, v, r1, r2, r3⟩) ?_ rfl ⟨rfl, ?_⟩
      · rw [results_cell rfl]
        unfold locV
        go_simp
      · repeat' (first | with_reducible refine On.setNew ?_ (by omega) _ | with_reducible exact On.refl _ | with_reducible refine On.alloc ?_ _)
    · refine bodyPost_ret (v := locV ⟨pc, r0, v, r2, r3⟩) ?_ rfl ⟨rfl, ?_⟩
      · rw [results_cell rfl]
        unfold locV
        go_simp
      · repeat' (first | with_reducible refine On.setNew ?_ (by omega) _ | with_reducible exact On.refl _ | with_reducible refine On.alloc ?_ _)
    · refine bodyPost_ret (v := locV ⟨pc, r0, r1, v, r3⟩) ?_ rfl ⟨rfl, ?_⟩
      · rw [results_cell rfl]
        unfold locV
        go_simp
      · repeat' (first | with_reducible refine On.setNew ?_ (by omega) _ | with_reducible exact On.refl _ | with_reducible refine On.alloc ?_ _)
    · refine bodyPost_ret (v := locV ⟨pc, r0, r1, r2, v⟩) ?_ rfl ⟨rfl, ?_⟩
      · rw [results_cell rfl]
        unfold locV
        go_simp
      · repeat' (first | with_reducible refine On.setNew ?_ (by omega) _ | with_reducible exact On.refl _ | with_reducible refine On.alloc ?_ _)
end Go.Proofs.YtplihlmejnohnaaGreatDoor
