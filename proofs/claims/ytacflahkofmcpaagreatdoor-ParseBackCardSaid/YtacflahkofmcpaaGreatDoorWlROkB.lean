/- The document's InsOk, kind by kind. -/
import Derived.Test.YtacflahkofmcpaaGreatDoorJ33WlROkA
namespace Go.Proofs.YtacflahkofmcpaaGreatDoor.Wl
open Go.RowKit
set_option linter.unusedSimpArgs false
set_option maxHeartbeats 1000000
set_option maxRecDepth 8000

theorem Bk.newB2 (w : World) (o : Obj) (cs : Array Value) (T : TypeId) : Bk ((w.alloc o).alloc (.cells cs T)) (w.heap.size + 1) cs := by
  have h := Bk.new (w.alloc o) cs T
  rwa [World.size_alloc] at h

theorem rok_store (r l ar av o br bv n : Int) (w : World) :
    Calls Tryz.prog 68 #[.agg #[.int .i64 1, .int .i64 r, .int .i64 l, .int .i64 ar, .int .i64 av, .int .i64 o, .int .i64 br, .int .i64 bv, .int .i64 n]] w fun e w' => e = .returned (.bool ((r == 0 && o == 0 && br == 0 && bv == 0 && n == 0) && locOk l && opdOk ⟨ar, av⟩)) ∧ On w w' := by
  by_cases h_r : r = 0
  rotate_left
  · have b_r : (r == 0) = false := by simp [h_r]
    go_enter Tryz.func68, Tryz.ntmps68
    go_wp2
    all_goals (try go_ret)
    all_goals exact ⟨by simp_all <;> omega, by first | exact (((On.refl w).alloc _).alloc _) | exact ((On.refl w).alloc _)⟩
  subst h_r
  cases e_loc : locOk l with
  | false =>
    go_enter Tryz.func68, Tryz.ntmps68
    go_wp2_with fail
    refine (rnamed_is l _).mono ?_
    rintro e w_loc ⟨rfl, hw_loc⟩
    subst hw_loc
    rw [e_loc]
    go_wp2
    all_goals (try go_ret)
    all_goals exact ⟨by simp_all <;> omega, by first | exact (((On.refl w).alloc _).alloc _) | exact ((On.refl w).alloc _)⟩
  | true =>
    cases e_a : opdOk ⟨ar, av⟩ with
    | false =>
      go_enter Tryz.func68, Tryz.ntmps68
      go_wp2_with fail
      refine (rnamed_is l _).mono ?_
      rintro e w_loc ⟨rfl, hw_loc⟩
      subst hw_loc
      rw [e_loc]
      go_wp2_with fail
      refine (roperandOk_is ⟨ar, av⟩ _).mono ?_
      rintro e w_a ⟨rfl, k_a⟩
      have Bx := (Bk.new w #[.int .i64 1, .int .i64 0, .int .i64 l, .int .i64 ar, .int .i64 av, .int .i64 o, .int .i64 br, .int .i64 bv, .int .i64 n] 52).on (((On.refl _).alloc _).trans k_a)
      have By := (Bk.newB2 w _ #[.int .i64 0, .int .i64 0] 50).on k_a
      have x0 : w_a.cell? ⟨w.heap.size, 0, none⟩ = some (.int .i64 1) := Bx.at rfl
      have x1 : w_a.cell? ⟨w.heap.size, 1, none⟩ = some (.int .i64 0) := Bx.at rfl
      have x2 : w_a.cell? ⟨w.heap.size, 2, none⟩ = some (.int .i64 l) := Bx.at rfl
      have x3 : w_a.cell? ⟨w.heap.size, 3, none⟩ = some (.int .i64 ar) := Bx.at rfl
      have x4 : w_a.cell? ⟨w.heap.size, 4, none⟩ = some (.int .i64 av) := Bx.at rfl
      have x5 : w_a.cell? ⟨w.heap.size, 5, none⟩ = some (.int .i64 o) := Bx.at rfl
      have x6 : w_a.cell? ⟨w.heap.size, 6, none⟩ = some (.int .i64 br) := Bx.at rfl
      have x7 : w_a.cell? ⟨w.heap.size, 7, none⟩ = some (.int .i64 bv) := Bx.at rfl
      have x8 : w_a.cell? ⟨w.heap.size, 8, none⟩ = some (.int .i64 n) := Bx.at rfl
      have y0 : w_a.cell? ⟨w.heap.size + 1, 0, none⟩ = some (.int .i64 0) := By.at rfl
      have y1 : w_a.cell? ⟨w.heap.size + 1, 1, none⟩ = some (.int .i64 0) := By.at rfl
      have xl := Bx.lt
      have yl := By.lt
      rw [e_a]
      go_wp2
      all_goals (try go_ret)
      all_goals exact ⟨by simp_all <;> omega, by first | exact ((((On.refl w).alloc _).alloc _).trans k_a) | exact (((On.refl w).alloc _).trans k_a)⟩
    | true =>
      by_cases h_o : o = 0
      rotate_left
      · have b_o : (o == 0) = false := by simp [h_o]
        go_enter Tryz.func68, Tryz.ntmps68
        go_wp2_with fail
        refine (rnamed_is l _).mono ?_
        rintro e w_loc ⟨rfl, hw_loc⟩
        subst hw_loc
        rw [e_loc]
        go_wp2_with fail
        refine (roperandOk_is ⟨ar, av⟩ _).mono ?_
        rintro e w_a ⟨rfl, k_a⟩
        have Bx := (Bk.new w #[.int .i64 1, .int .i64 0, .int .i64 l, .int .i64 ar, .int .i64 av, .int .i64 o, .int .i64 br, .int .i64 bv, .int .i64 n] 52).on (((On.refl _).alloc _).trans k_a)
        have By := (Bk.newB2 w _ #[.int .i64 0, .int .i64 0] 50).on k_a
        have x0 : w_a.cell? ⟨w.heap.size, 0, none⟩ = some (.int .i64 1) := Bx.at rfl
        have x1 : w_a.cell? ⟨w.heap.size, 1, none⟩ = some (.int .i64 0) := Bx.at rfl
        have x2 : w_a.cell? ⟨w.heap.size, 2, none⟩ = some (.int .i64 l) := Bx.at rfl
        have x3 : w_a.cell? ⟨w.heap.size, 3, none⟩ = some (.int .i64 ar) := Bx.at rfl
        have x4 : w_a.cell? ⟨w.heap.size, 4, none⟩ = some (.int .i64 av) := Bx.at rfl
        have x5 : w_a.cell? ⟨w.heap.size, 5, none⟩ = some (.int .i64 o) := Bx.at rfl
        have x6 : w_a.cell? ⟨w.heap.size, 6, none⟩ = some (.int .i64 br) := Bx.at rfl
        have x7 : w_a.cell? ⟨w.heap.size, 7, none⟩ = some (.int .i64 bv) := Bx.at rfl
        have x8 : w_a.cell? ⟨w.heap.size, 8, none⟩ = some (.int .i64 n) := Bx.at rfl
        have y0 : w_a.cell? ⟨w.heap.size + 1, 0, none⟩ = some (.int .i64 0) := By.at rfl
        have y1 : w_a.cell? ⟨w.heap.size + 1, 1, none⟩ = some (.int .i64 0) := By.at rfl
        have xl := Bx.lt
        have yl := By.lt
        rw [e_a]
        go_wp2
        all_goals (try go_ret)
        all_goals exact ⟨by simp_all <;> omega, by first | exact ((((On.refl w).alloc _).alloc _).trans k_a) | exact (((On.refl w).alloc _).trans k_a)⟩
      subst h_o
      by_cases h_br : br = 0
      rotate_left
      · have b_br : (br == 0) = false := by simp [h_br]
        go_enter Tryz.func68, Tryz.ntmps68
        go_wp2_with fail
        refine (rnamed_is l _).mono ?_
        rintro e w_loc ⟨rfl, hw_loc⟩
        subst hw_loc
        rw [e_loc]
        go_wp2_with fail
        refine (roperandOk_is ⟨ar, av⟩ _).mono ?_
        rintro e w_a ⟨rfl, k_a⟩
        have Bx := (Bk.new w #[.int .i64 1, .int .i64 0, .int .i64 l, .int .i64 ar, .int .i64 av, .int .i64 0, .int .i64 br, .int .i64 bv, .int .i64 n] 52).on (((On.refl _).alloc _).trans k_a)
        have By := (Bk.newB2 w _ #[.int .i64 0, .int .i64 0] 50).on k_a
        have x0 : w_a.cell? ⟨w.heap.size, 0, none⟩ = some (.int .i64 1) := Bx.at rfl
        have x1 : w_a.cell? ⟨w.heap.size, 1, none⟩ = some (.int .i64 0) := Bx.at rfl
        have x2 : w_a.cell? ⟨w.heap.size, 2, none⟩ = some (.int .i64 l) := Bx.at rfl
        have x3 : w_a.cell? ⟨w.heap.size, 3, none⟩ = some (.int .i64 ar) := Bx.at rfl
        have x4 : w_a.cell? ⟨w.heap.size, 4, none⟩ = some (.int .i64 av) := Bx.at rfl
        have x5 : w_a.cell? ⟨w.heap.size, 5, none⟩ = some (.int .i64 0) := Bx.at rfl
        have x6 : w_a.cell? ⟨w.heap.size, 6, none⟩ = some (.int .i64 br) := Bx.at rfl
        have x7 : w_a.cell? ⟨w.heap.size, 7, none⟩ = some (.int .i64 bv) := Bx.at rfl
        have x8 : w_a.cell? ⟨w.heap.size, 8, none⟩ = some (.int .i64 n) := Bx.at rfl
        have y0 : w_a.cell? ⟨w.heap.size + 1, 0, none⟩ = some (.int .i64 0) := By.at rfl
        have y1 : w_a.cell? ⟨w.heap.size + 1, 1, none⟩ = some (.int .i64 0) := By.at rfl
        have xl := Bx.lt
        have yl := By.lt
        rw [e_a]
        go_wp2
        all_goals (try go_ret)
        all_goals exact ⟨by simp_all <;> omega, by first | exact ((((On.refl w).alloc _).alloc _).trans k_a) | exact (((On.refl w).alloc _).trans k_a)⟩
      subst h_br
      by_cases h_bv : bv = 0
      rotate_left
      · have b_bv : (bv == 0) = false := by simp [h_bv]
        go_enter Tryz.func68, Tryz.ntmps68
        go_wp2_with fail
        refine (rnamed_is l _).mono ?_
        rintro e w_loc ⟨rfl, hw_loc⟩
        subst hw_loc
        rw [e_loc]
        go_wp2_with fail
        refine (roperandOk_is ⟨ar, av⟩ _).mono ?_
        rintro e w_a ⟨rfl, k_a⟩
        have Bx := (Bk.new w #[.int .i64 1, .int .i64 0, .int .i64 l, .int .i64 ar, .int .i64 av, .int .i64 0, .int .i64 0, .int .i64 bv, .int .i64 n] 52).on (((On.refl _).alloc _).trans k_a)
        have By := (Bk.newB2 w _ #[.int .i64 0, .int .i64 0] 50).on k_a
        have x0 : w_a.cell? ⟨w.heap.size, 0, none⟩ = some (.int .i64 1) := Bx.at rfl
        have x1 : w_a.cell? ⟨w.heap.size, 1, none⟩ = some (.int .i64 0) := Bx.at rfl
        have x2 : w_a.cell? ⟨w.heap.size, 2, none⟩ = some (.int .i64 l) := Bx.at rfl
        have x3 : w_a.cell? ⟨w.heap.size, 3, none⟩ = some (.int .i64 ar) := Bx.at rfl
        have x4 : w_a.cell? ⟨w.heap.size, 4, none⟩ = some (.int .i64 av) := Bx.at rfl
        have x5 : w_a.cell? ⟨w.heap.size, 5, none⟩ = some (.int .i64 0) := Bx.at rfl
        have x6 : w_a.cell? ⟨w.heap.size, 6, none⟩ = some (.int .i64 0) := Bx.at rfl
        have x7 : w_a.cell? ⟨w.heap.size, 7, none⟩ = some (.int .i64 bv) := Bx.at rfl
        have x8 : w_a.cell? ⟨w.heap.size, 8, none⟩ = some (.int .i64 n) := Bx.at rfl
        have y0 : w_a.cell? ⟨w.heap.size + 1, 0, none⟩ = some (.int .i64 0) := By.at rfl
        have y1 : w_a.cell? ⟨w.heap.size + 1, 1, none⟩ = some (.int .i64 0) := By.at rfl
        have xl := Bx.lt
        have yl := By.lt
        rw [e_a]
        go_wp2
        all_goals (try go_ret)
        all_goals exact ⟨by simp_all <;> omega, by first | exact ((((On.refl w).alloc _).alloc _).trans k_a) | exact (((On.refl w).alloc _).trans k_a)⟩
      subst h_bv
      by_cases h_n : n = 0
      rotate_left
      · have b_n : (n == 0) = false := by simp [h_n]
        go_enter Tryz.func68, Tryz.ntmps68
        go_wp2_with fail
        refine (rnamed_is l _).mono ?_
        rintro e w_loc ⟨rfl, hw_loc⟩
        subst hw_loc
        rw [e_loc]
        go_wp2_with fail
        refine (roperandOk_is ⟨ar, av⟩ _).mono ?_
        rintro e w_a ⟨rfl, k_a⟩
        have Bx := (Bk.new w #[.int .i64 1, .int .i64 0, .int .i64 l, .int .i64 ar, .int .i64 av, .int .i64 0, .int .i64 0, .int .i64 0, .int .i64 n] 52).on (((On.refl _).alloc _).trans k_a)
        have By := (Bk.newB2 w _ #[.int .i64 0, .int .i64 0] 50).on k_a
        have x0 : w_a.cell? ⟨w.heap.size, 0, none⟩ = some (.int .i64 1) := Bx.at rfl
        have x1 : w_a.cell? ⟨w.heap.size, 1, none⟩ = some (.int .i64 0) := Bx.at rfl
        have x2 : w_a.cell? ⟨w.heap.size, 2, none⟩ = some (.int .i64 l) := Bx.at rfl
        have x3 : w_a.cell? ⟨w.heap.size, 3, none⟩ = some (.int .i64 ar) := Bx.at rfl
        have x4 : w_a.cell? ⟨w.heap.size, 4, none⟩ = some (.int .i64 av) := Bx.at rfl
        have x5 : w_a.cell? ⟨w.heap.size, 5, none⟩ = some (.int .i64 0) := Bx.at rfl
        have x6 : w_a.cell? ⟨w.heap.size, 6, none⟩ = some (.int .i64 0) := Bx.at rfl
        have x7 : w_a.cell? ⟨w.heap.size, 7, none⟩ = some (.int .i64 0) := Bx.at rfl
        have x8 : w_a.cell? ⟨w.heap.size, 8, none⟩ = some (.int .i64 n) := Bx.at rfl
        have y0 : w_a.cell? ⟨w.heap.size + 1, 0, none⟩ = some (.int .i64 0) := By.at rfl
        have y1 : w_a.cell? ⟨w.heap.size + 1, 1, none⟩ = some (.int .i64 0) := By.at rfl
        have xl := Bx.lt
        have yl := By.lt
        rw [e_a]
        go_wp2
        all_goals (try go_ret)
        all_goals exact ⟨by simp_all <;> omega, by first | exact ((((On.refl w).alloc _).alloc _).trans k_a) | exact (((On.refl w).alloc _).trans k_a)⟩
      subst h_n
      go_enter Tryz.func68, Tryz.ntmps68
      go_wp2_with fail
      refine (rnamed_is l _).mono ?_
      rintro e w_loc ⟨rfl, hw_loc⟩
      subst hw_loc
      rw [e_loc]
      go_wp2_with fail
      refine (roperandOk_is ⟨ar, av⟩ _).mono ?_
      rintro e w_a ⟨rfl, k_a⟩
      have Bx := (Bk.new w #[.int .i64 1, .int .i64 0, .int .i64 l, .int .i64 ar, .int .i64 av, .int .i64 0, .int .i64 0, .int .i64 0, .int .i64 0] 52).on (((On.refl _).alloc _).trans k_a)
      have By := (Bk.newB2 w _ #[.int .i64 0, .int .i64 0] 50).on k_a
      have x0 : w_a.cell? ⟨w.heap.size, 0, none⟩ = some (.int .i64 1) := Bx.at rfl
      have x1 : w_a.cell? ⟨w.heap.size, 1, none⟩ = some (.int .i64 0) := Bx.at rfl
      have x2 : w_a.cell? ⟨w.heap.size, 2, none⟩ = some (.int .i64 l) := Bx.at rfl
      have x3 : w_a.cell? ⟨w.heap.size, 3, none⟩ = some (.int .i64 ar) := Bx.at rfl
      have x4 : w_a.cell? ⟨w.heap.size, 4, none⟩ = some (.int .i64 av) := Bx.at rfl
      have x5 : w_a.cell? ⟨w.heap.size, 5, none⟩ = some (.int .i64 0) := Bx.at rfl
      have x6 : w_a.cell? ⟨w.heap.size, 6, none⟩ = some (.int .i64 0) := Bx.at rfl
      have x7 : w_a.cell? ⟨w.heap.size, 7, none⟩ = some (.int .i64 0) := Bx.at rfl
      have x8 : w_a.cell? ⟨w.heap.size, 8, none⟩ = some (.int .i64 0) := Bx.at rfl
      have y0 : w_a.cell? ⟨w.heap.size + 1, 0, none⟩ = some (.int .i64 0) := By.at rfl
      have y1 : w_a.cell? ⟨w.heap.size + 1, 1, none⟩ = some (.int .i64 0) := By.at rfl
      have xl := Bx.lt
      have yl := By.lt
      rw [e_a]
      go_wp2
      all_goals (try go_ret)
      all_goals exact ⟨by simp_all <;> omega, by first | exact ((((On.refl w).alloc _).alloc _).trans k_a) | exact (((On.refl w).alloc _).trans k_a)⟩
theorem rok_load (r l ar av o br bv n : Int) (w : World) :
    Calls Tryz.prog 68 #[.agg #[.int .i64 2, .int .i64 r, .int .i64 l, .int .i64 ar, .int .i64 av, .int .i64 o, .int .i64 br, .int .i64 bv, .int .i64 n]] w fun e w' => e = .returned (.bool ((ar == 0 && av == 0 && o == 0 && br == 0 && bv == 0 && n == 0) && regOk r && locOk l)) ∧ On w w' := by
  unfold regOk
  by_cases h_ger : 0 ≤ r
  rotate_left
  ·
    go_enter Tryz.func68, Tryz.ntmps68
    go_wp2
    all_goals (try go_ret)
    all_goals exact ⟨by simp_all <;> omega, by first | exact (((On.refl w).alloc _).alloc _) | exact ((On.refl w).alloc _)⟩
  by_cases h_ler : r ≤ 3
  rotate_left
  ·
    go_enter Tryz.func68, Tryz.ntmps68
    go_wp2
    all_goals (try go_ret)
    all_goals exact ⟨by simp_all <;> omega, by first | exact (((On.refl w).alloc _).alloc _) | exact ((On.refl w).alloc _)⟩
  cases e_loc : locOk l with
  | false =>
    go_enter Tryz.func68, Tryz.ntmps68
    go_wp2_with fail
    refine (rnamed_is l _).mono ?_
    rintro e w_loc ⟨rfl, hw_loc⟩
    subst hw_loc
    rw [e_loc]
    go_wp2
    all_goals (try go_ret)
    all_goals exact ⟨by simp_all <;> omega, by first | exact (((On.refl w).alloc _).alloc _) | exact ((On.refl w).alloc _)⟩
  | true =>
    by_cases h_ar : ar = 0
    rotate_left
    · have b_ar : (ar == 0) = false := by simp [h_ar]
      go_enter Tryz.func68, Tryz.ntmps68
      go_wp2_with fail
      refine (rnamed_is l _).mono ?_
      rintro e w_loc ⟨rfl, hw_loc⟩
      subst hw_loc
      rw [e_loc]
      go_wp2
      all_goals (try go_ret)
      all_goals exact ⟨by simp_all <;> omega, by first | exact (((On.refl w).alloc _).alloc _) | exact ((On.refl w).alloc _)⟩
    subst h_ar
    by_cases h_av : av = 0
    rotate_left
    · have b_av : (av == 0) = false := by simp [h_av]
      go_enter Tryz.func68, Tryz.ntmps68
      go_wp2_with fail
      refine (rnamed_is l _).mono ?_
      rintro e w_loc ⟨rfl, hw_loc⟩
      subst hw_loc
      rw [e_loc]
      go_wp2
      all_goals (try go_ret)
      all_goals exact ⟨by simp_all <;> omega, by first | exact (((On.refl w).alloc _).alloc _) | exact ((On.refl w).alloc _)⟩
    subst h_av
    by_cases h_o : o = 0
    rotate_left
    · have b_o : (o == 0) = false := by simp [h_o]
      go_enter Tryz.func68, Tryz.ntmps68
      go_wp2_with fail
      refine (rnamed_is l _).mono ?_
      rintro e w_loc ⟨rfl, hw_loc⟩
      subst hw_loc
      rw [e_loc]
      go_wp2
      all_goals (try go_ret)
      all_goals exact ⟨by simp_all <;> omega, by first | exact (((On.refl w).alloc _).alloc _) | exact ((On.refl w).alloc _)⟩
    subst h_o
    by_cases h_br : br = 0
    rotate_left
    · have b_br : (br == 0) = false := by simp [h_br]
      go_enter Tryz.func68, Tryz.ntmps68
      go_wp2_with fail
      refine (rnamed_is l _).mono ?_
      rintro e w_loc ⟨rfl, hw_loc⟩
      subst hw_loc
      rw [e_loc]
      go_wp2
      all_goals (try go_ret)
      all_goals exact ⟨by simp_all <;> omega, by first | exact (((On.refl w).alloc _).alloc _) | exact ((On.refl w).alloc _)⟩
    subst h_br
    by_cases h_bv : bv = 0
    rotate_left
    · have b_bv : (bv == 0) = false := by simp [h_bv]
      go_enter Tryz.func68, Tryz.ntmps68
      go_wp2_with fail
      refine (rnamed_is l _).mono ?_
      rintro e w_loc ⟨rfl, hw_loc⟩
      subst hw_loc
      rw [e_loc]
      go_wp2
      all_goals (try go_ret)
      all_goals exact ⟨by simp_all <;> omega, by first | exact (((On.refl w).alloc _).alloc _) | exact ((On.refl w).alloc _)⟩
    subst h_bv
    by_cases h_n : n = 0
    rotate_left
    · have b_n : (n == 0) = false := by simp [h_n]
      go_enter Tryz.func68, Tryz.ntmps68
      go_wp2_with fail
      refine (rnamed_is l _).mono ?_
      rintro e w_loc ⟨rfl, hw_loc⟩
      subst hw_loc
      rw [e_loc]
      go_wp2
      all_goals (try go_ret)
      all_goals exact ⟨by simp_all <;> omega, by first | exact (((On.refl w).alloc _).alloc _) | exact ((On.refl w).alloc _)⟩
    subst h_n
    go_enter Tryz.func68, Tryz.ntmps68
    go_wp2_with fail
    refine (rnamed_is l _).mono ?_
    rintro e w_loc ⟨rfl, hw_loc⟩
    subst hw_loc
    rw [e_loc]
    go_wp2
    all_goals (try go_ret)
    all_goals exact ⟨by simp_all <;> omega, by first | exact (((On.refl w).alloc _).alloc _) | exact ((On.refl w).alloc _)⟩
theorem rok_fence (r l ar av o br bv n : Int) (w : World) :
    Calls Tryz.prog 68 #[.agg #[.int .i64 3, .int .i64 r, .int .i64 l, .int .i64 ar, .int .i64 av, .int .i64 o, .int .i64 br, .int .i64 bv, .int .i64 n]] w fun e w' => e = .returned (.bool (r == 0 && l == 0 && ar == 0 && av == 0 && o == 0 && br == 0 && bv == 0 && n == 0)) ∧ On w w' := by
  by_cases h_r : r = 0
  rotate_left
  · have b_r : (r == 0) = false := by simp [h_r]
    go_enter Tryz.func68, Tryz.ntmps68
    go_wp2
    all_goals (try go_ret)
    all_goals exact ⟨by simp_all <;> omega, by first | exact (((On.refl w).alloc _).alloc _) | exact ((On.refl w).alloc _)⟩
  subst h_r
  by_cases h_l : l = 0
  rotate_left
  · have b_l : (l == 0) = false := by simp [h_l]
    go_enter Tryz.func68, Tryz.ntmps68
    go_wp2
    all_goals (try go_ret)
    all_goals exact ⟨by simp_all <;> omega, by first | exact (((On.refl w).alloc _).alloc _) | exact ((On.refl w).alloc _)⟩
  subst h_l
  by_cases h_ar : ar = 0
  rotate_left
  · have b_ar : (ar == 0) = false := by simp [h_ar]
    go_enter Tryz.func68, Tryz.ntmps68
    go_wp2
    all_goals (try go_ret)
    all_goals exact ⟨by simp_all <;> omega, by first | exact (((On.refl w).alloc _).alloc _) | exact ((On.refl w).alloc _)⟩
  subst h_ar
  by_cases h_av : av = 0
  rotate_left
  · have b_av : (av == 0) = false := by simp [h_av]
    go_enter Tryz.func68, Tryz.ntmps68
    go_wp2
    all_goals (try go_ret)
    all_goals exact ⟨by simp_all <;> omega, by first | exact (((On.refl w).alloc _).alloc _) | exact ((On.refl w).alloc _)⟩
  subst h_av
  by_cases h_o : o = 0
  rotate_left
  · have b_o : (o == 0) = false := by simp [h_o]
    go_enter Tryz.func68, Tryz.ntmps68
    go_wp2
    all_goals (try go_ret)
    all_goals exact ⟨by simp_all <;> omega, by first | exact (((On.refl w).alloc _).alloc _) | exact ((On.refl w).alloc _)⟩
  subst h_o
  by_cases h_br : br = 0
  rotate_left
  · have b_br : (br == 0) = false := by simp [h_br]
    go_enter Tryz.func68, Tryz.ntmps68
    go_wp2
    all_goals (try go_ret)
    all_goals exact ⟨by simp_all <;> omega, by first | exact (((On.refl w).alloc _).alloc _) | exact ((On.refl w).alloc _)⟩
  subst h_br
  by_cases h_bv : bv = 0
  rotate_left
  · have b_bv : (bv == 0) = false := by simp [h_bv]
    go_enter Tryz.func68, Tryz.ntmps68
    go_wp2
    all_goals (try go_ret)
    all_goals exact ⟨by simp_all <;> omega, by first | exact (((On.refl w).alloc _).alloc _) | exact ((On.refl w).alloc _)⟩
  subst h_bv
  by_cases h_n : n = 0
  rotate_left
  · have b_n : (n == 0) = false := by simp [h_n]
    go_enter Tryz.func68, Tryz.ntmps68
    go_wp2
    all_goals (try go_ret)
    all_goals exact ⟨by simp_all <;> omega, by first | exact (((On.refl w).alloc _).alloc _) | exact ((On.refl w).alloc _)⟩
  subst h_n
  go_enter Tryz.func68, Tryz.ntmps68
  go_wp2
  all_goals (try go_ret)
  all_goals exact ⟨by simp_all <;> omega, by first | exact (((On.refl w).alloc _).alloc _) | exact ((On.refl w).alloc _)⟩
theorem rok_cas (r l ar av o br bv n : Int) (w : World) :
    Calls Tryz.prog 68 #[.agg #[.int .i64 4, .int .i64 r, .int .i64 l, .int .i64 ar, .int .i64 av, .int .i64 o, .int .i64 br, .int .i64 bv, .int .i64 n]] w fun e w' => e = .returned (.bool ((o == 0 && n == 0) && regOk r && locOk l && opdOk ⟨ar, av⟩ && opdOk ⟨br, bv⟩)) ∧ On w w' := by
  unfold regOk
  by_cases h_ger : 0 ≤ r
  rotate_left
  ·
    go_enter Tryz.func68, Tryz.ntmps68
    go_wp2
    all_goals (try go_ret)
    all_goals exact ⟨by simp_all <;> omega, by first | exact (((On.refl w).alloc _).alloc _) | exact ((On.refl w).alloc _)⟩
  by_cases h_ler : r ≤ 3
  rotate_left
  ·
    go_enter Tryz.func68, Tryz.ntmps68
    go_wp2
    all_goals (try go_ret)
    all_goals exact ⟨by simp_all <;> omega, by first | exact (((On.refl w).alloc _).alloc _) | exact ((On.refl w).alloc _)⟩
  cases e_loc : locOk l with
  | false =>
    go_enter Tryz.func68, Tryz.ntmps68
    go_wp2_with fail
    refine (rnamed_is l _).mono ?_
    rintro e w_loc ⟨rfl, hw_loc⟩
    subst hw_loc
    rw [e_loc]
    go_wp2
    all_goals (try go_ret)
    all_goals exact ⟨by simp_all <;> omega, by first | exact (((On.refl w).alloc _).alloc _) | exact ((On.refl w).alloc _)⟩
  | true =>
    cases e_a : opdOk ⟨ar, av⟩ with
    | false =>
      go_enter Tryz.func68, Tryz.ntmps68
      go_wp2_with fail
      refine (rnamed_is l _).mono ?_
      rintro e w_loc ⟨rfl, hw_loc⟩
      subst hw_loc
      rw [e_loc]
      go_wp2_with fail
      refine (roperandOk_is ⟨ar, av⟩ _).mono ?_
      rintro e w_a ⟨rfl, k_a⟩
      have Bx := (Bk.new w #[.int .i64 4, .int .i64 r, .int .i64 l, .int .i64 ar, .int .i64 av, .int .i64 o, .int .i64 br, .int .i64 bv, .int .i64 n] 52).on (((On.refl _).alloc _).trans k_a)
      have By := (Bk.newB2 w _ #[.int .i64 0, .int .i64 0] 50).on k_a
      have x0 : w_a.cell? ⟨w.heap.size, 0, none⟩ = some (.int .i64 4) := Bx.at rfl
      have x1 : w_a.cell? ⟨w.heap.size, 1, none⟩ = some (.int .i64 r) := Bx.at rfl
      have x2 : w_a.cell? ⟨w.heap.size, 2, none⟩ = some (.int .i64 l) := Bx.at rfl
      have x3 : w_a.cell? ⟨w.heap.size, 3, none⟩ = some (.int .i64 ar) := Bx.at rfl
      have x4 : w_a.cell? ⟨w.heap.size, 4, none⟩ = some (.int .i64 av) := Bx.at rfl
      have x5 : w_a.cell? ⟨w.heap.size, 5, none⟩ = some (.int .i64 o) := Bx.at rfl
      have x6 : w_a.cell? ⟨w.heap.size, 6, none⟩ = some (.int .i64 br) := Bx.at rfl
      have x7 : w_a.cell? ⟨w.heap.size, 7, none⟩ = some (.int .i64 bv) := Bx.at rfl
      have x8 : w_a.cell? ⟨w.heap.size, 8, none⟩ = some (.int .i64 n) := Bx.at rfl
      have y0 : w_a.cell? ⟨w.heap.size + 1, 0, none⟩ = some (.int .i64 0) := By.at rfl
      have y1 : w_a.cell? ⟨w.heap.size + 1, 1, none⟩ = some (.int .i64 0) := By.at rfl
      have xl := Bx.lt
      have yl := By.lt
      rw [e_a]
      go_wp2
      all_goals (try go_ret)
      all_goals exact ⟨by simp_all <;> omega, by first | exact ((((On.refl w).alloc _).alloc _).trans k_a) | exact (((On.refl w).alloc _).trans k_a)⟩
    | true =>
      by_cases h_o : o = 0
      rotate_left
      · have b_o : (o == 0) = false := by simp [h_o]
        go_enter Tryz.func68, Tryz.ntmps68
        go_wp2_with fail
        refine (rnamed_is l _).mono ?_
        rintro e w_loc ⟨rfl, hw_loc⟩
        subst hw_loc
        rw [e_loc]
        go_wp2_with fail
        refine (roperandOk_is ⟨ar, av⟩ _).mono ?_
        rintro e w_a ⟨rfl, k_a⟩
        have Bx := (Bk.new w #[.int .i64 4, .int .i64 r, .int .i64 l, .int .i64 ar, .int .i64 av, .int .i64 o, .int .i64 br, .int .i64 bv, .int .i64 n] 52).on (((On.refl _).alloc _).trans k_a)
        have By := (Bk.newB2 w _ #[.int .i64 0, .int .i64 0] 50).on k_a
        have x0 : w_a.cell? ⟨w.heap.size, 0, none⟩ = some (.int .i64 4) := Bx.at rfl
        have x1 : w_a.cell? ⟨w.heap.size, 1, none⟩ = some (.int .i64 r) := Bx.at rfl
        have x2 : w_a.cell? ⟨w.heap.size, 2, none⟩ = some (.int .i64 l) := Bx.at rfl
        have x3 : w_a.cell? ⟨w.heap.size, 3, none⟩ = some (.int .i64 ar) := Bx.at rfl
        have x4 : w_a.cell? ⟨w.heap.size, 4, none⟩ = some (.int .i64 av) := Bx.at rfl
        have x5 : w_a.cell? ⟨w.heap.size, 5, none⟩ = some (.int .i64 o) := Bx.at rfl
        have x6 : w_a.cell? ⟨w.heap.size, 6, none⟩ = some (.int .i64 br) := Bx.at rfl
        have x7 : w_a.cell? ⟨w.heap.size, 7, none⟩ = some (.int .i64 bv) := Bx.at rfl
        have x8 : w_a.cell? ⟨w.heap.size, 8, none⟩ = some (.int .i64 n) := Bx.at rfl
        have y0 : w_a.cell? ⟨w.heap.size + 1, 0, none⟩ = some (.int .i64 0) := By.at rfl
        have y1 : w_a.cell? ⟨w.heap.size + 1, 1, none⟩ = some (.int .i64 0) := By.at rfl
        have xl := Bx.lt
        have yl := By.lt
        rw [e_a]
        go_wp2
        all_goals (try go_ret)
        all_goals exact ⟨by simp_all <;> omega, by first | exact ((((On.refl w).alloc _).alloc _).trans k_a) | exact (((On.refl w).alloc _).trans k_a)⟩
      subst h_o
      cases e_b : opdOk ⟨br, bv⟩ with
      | false =>
        go_enter Tryz.func68, Tryz.ntmps68
        go_wp2_with fail
        refine (rnamed_is l _).mono ?_
        rintro e w_loc ⟨rfl, hw_loc⟩
        subst hw_loc
        rw [e_loc]
        go_wp2_with fail
        refine (roperandOk_is ⟨ar, av⟩ _).mono ?_
        rintro e w_a ⟨rfl, k_a⟩
        have Bx := (Bk.new w #[.int .i64 4, .int .i64 r, .int .i64 l, .int .i64 ar, .int .i64 av, .int .i64 0, .int .i64 br, .int .i64 bv, .int .i64 n] 52).on (((On.refl _).alloc _).trans k_a)
        have By := (Bk.newB2 w _ #[.int .i64 0, .int .i64 0] 50).on k_a
        have x0 : w_a.cell? ⟨w.heap.size, 0, none⟩ = some (.int .i64 4) := Bx.at rfl
        have x1 : w_a.cell? ⟨w.heap.size, 1, none⟩ = some (.int .i64 r) := Bx.at rfl
        have x2 : w_a.cell? ⟨w.heap.size, 2, none⟩ = some (.int .i64 l) := Bx.at rfl
        have x3 : w_a.cell? ⟨w.heap.size, 3, none⟩ = some (.int .i64 ar) := Bx.at rfl
        have x4 : w_a.cell? ⟨w.heap.size, 4, none⟩ = some (.int .i64 av) := Bx.at rfl
        have x5 : w_a.cell? ⟨w.heap.size, 5, none⟩ = some (.int .i64 0) := Bx.at rfl
        have x6 : w_a.cell? ⟨w.heap.size, 6, none⟩ = some (.int .i64 br) := Bx.at rfl
        have x7 : w_a.cell? ⟨w.heap.size, 7, none⟩ = some (.int .i64 bv) := Bx.at rfl
        have x8 : w_a.cell? ⟨w.heap.size, 8, none⟩ = some (.int .i64 n) := Bx.at rfl
        have y0 : w_a.cell? ⟨w.heap.size + 1, 0, none⟩ = some (.int .i64 0) := By.at rfl
        have y1 : w_a.cell? ⟨w.heap.size + 1, 1, none⟩ = some (.int .i64 0) := By.at rfl
        have xl := Bx.lt
        have yl := By.lt
        rw [e_a]
        go_wp2_with fail
        refine (roperandOk_is ⟨br, bv⟩ _).mono ?_
        rintro e w_b ⟨rfl, k_b⟩
        have Bx := Bx.on k_b
        have By := By.on k_b
        have x0 : w_b.cell? ⟨w.heap.size, 0, none⟩ = some (.int .i64 4) := Bx.at rfl
        have x1 : w_b.cell? ⟨w.heap.size, 1, none⟩ = some (.int .i64 r) := Bx.at rfl
        have x2 : w_b.cell? ⟨w.heap.size, 2, none⟩ = some (.int .i64 l) := Bx.at rfl
        have x3 : w_b.cell? ⟨w.heap.size, 3, none⟩ = some (.int .i64 ar) := Bx.at rfl
        have x4 : w_b.cell? ⟨w.heap.size, 4, none⟩ = some (.int .i64 av) := Bx.at rfl
        have x5 : w_b.cell? ⟨w.heap.size, 5, none⟩ = some (.int .i64 0) := Bx.at rfl
        have x6 : w_b.cell? ⟨w.heap.size, 6, none⟩ = some (.int .i64 br) := Bx.at rfl
        have x7 : w_b.cell? ⟨w.heap.size, 7, none⟩ = some (.int .i64 bv) := Bx.at rfl
        have x8 : w_b.cell? ⟨w.heap.size, 8, none⟩ = some (.int .i64 n) := Bx.at rfl
        have y0 : w_b.cell? ⟨w.heap.size + 1, 0, none⟩ = some (.int .i64 0) := By.at rfl
        have y1 : w_b.cell? ⟨w.heap.size + 1, 1, none⟩ = some (.int .i64 0) := By.at rfl
        have xl := Bx.lt
        have yl := By.lt
        rw [e_b]
        go_wp2
        all_goals (try go_ret)
        all_goals exact ⟨by simp_all <;> omega, by first | exact (((((On.refl w).alloc _).alloc _).trans k_a).trans k_b) | exact ((((On.refl w).alloc _).trans k_a).trans k_b)⟩
      | true =>
        by_cases h_n : n = 0
        rotate_left
        · have b_n : (n == 0) = false := by simp [h_n]
          go_enter Tryz.func68, Tryz.ntmps68
          go_wp2_with fail
          refine (rnamed_is l _).mono ?_
          rintro e w_loc ⟨rfl, hw_loc⟩
          subst hw_loc
          rw [e_loc]
          go_wp2_with fail
          refine (roperandOk_is ⟨ar, av⟩ _).mono ?_
          rintro e w_a ⟨rfl, k_a⟩
          have Bx := (Bk.new w #[.int .i64 4, .int .i64 r, .int .i64 l, .int .i64 ar, .int .i64 av, .int .i64 0, .int .i64 br, .int .i64 bv, .int .i64 n] 52).on (((On.refl _).alloc _).trans k_a)
          have By := (Bk.newB2 w _ #[.int .i64 0, .int .i64 0] 50).on k_a
          have x0 : w_a.cell? ⟨w.heap.size, 0, none⟩ = some (.int .i64 4) := Bx.at rfl
          have x1 : w_a.cell? ⟨w.heap.size, 1, none⟩ = some (.int .i64 r) := Bx.at rfl
          have x2 : w_a.cell? ⟨w.heap.size, 2, none⟩ = some (.int .i64 l) := Bx.at rfl
          have x3 : w_a.cell? ⟨w.heap.size, 3, none⟩ = some (.int .i64 ar) := Bx.at rfl
          have x4 : w_a.cell? ⟨w.heap.size, 4, none⟩ = some (.int .i64 av) := Bx.at rfl
          have x5 : w_a.cell? ⟨w.heap.size, 5, none⟩ = some (.int .i64 0) := Bx.at rfl
          have x6 : w_a.cell? ⟨w.heap.size, 6, none⟩ = some (.int .i64 br) := Bx.at rfl
          have x7 : w_a.cell? ⟨w.heap.size, 7, none⟩ = some (.int .i64 bv) := Bx.at rfl
          have x8 : w_a.cell? ⟨w.heap.size, 8, none⟩ = some (.int .i64 n) := Bx.at rfl
          have y0 : w_a.cell? ⟨w.heap.size + 1, 0, none⟩ = some (.int .i64 0) := By.at rfl
          have y1 : w_a.cell? ⟨w.heap.size + 1, 1, none⟩ = some (.int .i64 0) := By.at rfl
          have xl := Bx.lt
          have yl := By.lt
          rw [e_a]
          go_wp2_with fail
          refine (roperandOk_is ⟨br, bv⟩ _).mono ?_
          rintro e w_b ⟨rfl, k_b⟩
          have Bx := Bx.on k_b
          have By := By.on k_b
          have x0 : w_b.cell? ⟨w.heap.size, 0, none⟩ = some (.int .i64 4) := Bx.at rfl
          have x1 : w_b.cell? ⟨w.heap.size, 1, none⟩ = some (.int .i64 r) := Bx.at rfl
          have x2 : w_b.cell? ⟨w.heap.size, 2, none⟩ = some (.int .i64 l) := Bx.at rfl
          have x3 : w_b.cell? ⟨w.heap.size, 3, none⟩ = some (.int .i64 ar) := Bx.at rfl
          have x4 : w_b.cell? ⟨w.heap.size, 4, none⟩ = some (.int .i64 av) := Bx.at rfl
          have x5 : w_b.cell? ⟨w.heap.size, 5, none⟩ = some (.int .i64 0) := Bx.at rfl
          have x6 : w_b.cell? ⟨w.heap.size, 6, none⟩ = some (.int .i64 br) := Bx.at rfl
          have x7 : w_b.cell? ⟨w.heap.size, 7, none⟩ = some (.int .i64 bv) := Bx.at rfl
          have x8 : w_b.cell? ⟨w.heap.size, 8, none⟩ = some (.int .i64 n) := Bx.at rfl
          have y0 : w_b.cell? ⟨w.heap.size + 1, 0, none⟩ = some (.int .i64 0) := By.at rfl
          have y1 : w_b.cell? ⟨w.heap.size + 1, 1, none⟩ = some (.int .i64 0) := By.at rfl
          have xl := Bx.lt
          have yl := By.lt
          rw [e_b]
          go_wp2
          all_goals (try go_ret)
          all_goals exact ⟨by simp_all <;> omega, by first | exact (((((On.refl w).alloc _).alloc _).trans k_a).trans k_b) | exact ((((On.refl w).alloc _).trans k_a).trans k_b)⟩
        subst h_n
        go_enter Tryz.func68, Tryz.ntmps68
        go_wp2_with fail
        refine (rnamed_is l _).mono ?_
        rintro e w_loc ⟨rfl, hw_loc⟩
        subst hw_loc
        rw [e_loc]
        go_wp2_with fail
        refine (roperandOk_is ⟨ar, av⟩ _).mono ?_
        rintro e w_a ⟨rfl, k_a⟩
        have Bx := (Bk.new w #[.int .i64 4, .int .i64 r, .int .i64 l, .int .i64 ar, .int .i64 av, .int .i64 0, .int .i64 br, .int .i64 bv, .int .i64 0] 52).on (((On.refl _).alloc _).trans k_a)
        have By := (Bk.newB2 w _ #[.int .i64 0, .int .i64 0] 50).on k_a
        have x0 : w_a.cell? ⟨w.heap.size, 0, none⟩ = some (.int .i64 4) := Bx.at rfl
        have x1 : w_a.cell? ⟨w.heap.size, 1, none⟩ = some (.int .i64 r) := Bx.at rfl
        have x2 : w_a.cell? ⟨w.heap.size, 2, none⟩ = some (.int .i64 l) := Bx.at rfl
        have x3 : w_a.cell? ⟨w.heap.size, 3, none⟩ = some (.int .i64 ar) := Bx.at rfl
        have x4 : w_a.cell? ⟨w.heap.size, 4, none⟩ = some (.int .i64 av) := Bx.at rfl
        have x5 : w_a.cell? ⟨w.heap.size, 5, none⟩ = some (.int .i64 0) := Bx.at rfl
        have x6 : w_a.cell? ⟨w.heap.size, 6, none⟩ = some (.int .i64 br) := Bx.at rfl
        have x7 : w_a.cell? ⟨w.heap.size, 7, none⟩ = some (.int .i64 bv) := Bx.at rfl
        have x8 : w_a.cell? ⟨w.heap.size, 8, none⟩ = some (.int .i64 0) := Bx.at rfl
        have y0 : w_a.cell? ⟨w.heap.size + 1, 0, none⟩ = some (.int .i64 0) := By.at rfl
        have y1 : w_a.cell? ⟨w.heap.size + 1, 1, none⟩ = some (.int .i64 0) := By.at rfl
        have xl := Bx.lt
        have yl := By.lt
        rw [e_a]
        go_wp2_with fail
        refine (roperandOk_is ⟨br, bv⟩ _).mono ?_
        rintro e w_b ⟨rfl, k_b⟩
        have Bx := Bx.on k_b
        have By := By.on k_b
        have x0 : w_b.cell? ⟨w.heap.size, 0, none⟩ = some (.int .i64 4) := Bx.at rfl
        have x1 : w_b.cell? ⟨w.heap.size, 1, none⟩ = some (.int .i64 r) := Bx.at rfl
        have x2 : w_b.cell? ⟨w.heap.size, 2, none⟩ = some (.int .i64 l) := Bx.at rfl
        have x3 : w_b.cell? ⟨w.heap.size, 3, none⟩ = some (.int .i64 ar) := Bx.at rfl
        have x4 : w_b.cell? ⟨w.heap.size, 4, none⟩ = some (.int .i64 av) := Bx.at rfl
        have x5 : w_b.cell? ⟨w.heap.size, 5, none⟩ = some (.int .i64 0) := Bx.at rfl
        have x6 : w_b.cell? ⟨w.heap.size, 6, none⟩ = some (.int .i64 br) := Bx.at rfl
        have x7 : w_b.cell? ⟨w.heap.size, 7, none⟩ = some (.int .i64 bv) := Bx.at rfl
        have x8 : w_b.cell? ⟨w.heap.size, 8, none⟩ = some (.int .i64 0) := Bx.at rfl
        have y0 : w_b.cell? ⟨w.heap.size + 1, 0, none⟩ = some (.int .i64 0) := By.at rfl
        have y1 : w_b.cell? ⟨w.heap.size + 1, 1, none⟩ = some (.int .i64 0) := By.at rfl
        have xl := Bx.lt
        have yl := By.lt
        rw [e_b]
        go_wp2
        all_goals (try go_ret)
        all_goals exact ⟨by simp_all <;> omega, by first | exact (((((On.refl w).alloc _).alloc _).trans k_a).trans k_b) | exact ((((On.refl w).alloc _).trans k_a).trans k_b)⟩
theorem rok_set (r l ar av o br bv n : Int) (w : World) :
    Calls Tryz.prog 68 #[.agg #[.int .i64 5, .int .i64 r, .int .i64 l, .int .i64 ar, .int .i64 av, .int .i64 o, .int .i64 br, .int .i64 bv, .int .i64 n]] w fun e w' => e = .returned (.bool ((l == 0 && n == 0) && regOk r && opdOk ⟨ar, av⟩ && secOk o ⟨br, bv⟩)) ∧ On w w' := by
  unfold regOk
  unfold secOk signOk
  by_cases h_o : o = 0
  · subst h_o
    by_cases h_br : br = -1
    rotate_left
    · have b_br : (br == -1) = false := by simp [h_br]
      go_enter Tryz.func68, Tryz.ntmps68
      go_wp2
      all_goals (try go_ret)
      all_goals exact ⟨by simp_all <;> omega, by first | exact (((On.refl w).alloc _).alloc _) | exact ((On.refl w).alloc _)⟩
    subst h_br
    by_cases h_bv : bv = 0
    rotate_left
    · have b_bv : (bv == 0) = false := by simp [h_bv]
      go_enter Tryz.func68, Tryz.ntmps68
      go_wp2
      all_goals (try go_ret)
      all_goals exact ⟨by simp_all <;> omega, by first | exact (((On.refl w).alloc _).alloc _) | exact ((On.refl w).alloc _)⟩
    subst h_bv
    have e_b : opdOk ⟨-1, 0⟩ = true := rfl
    by_cases h_ger : 0 ≤ r
    rotate_left
    ·
      go_enter Tryz.func68, Tryz.ntmps68
      go_wp2
      all_goals (try go_ret)
      all_goals exact ⟨by simp_all <;> omega, by first | exact (((On.refl w).alloc _).alloc _) | exact ((On.refl w).alloc _)⟩
    by_cases h_ler : r ≤ 3
    rotate_left
    ·
      go_enter Tryz.func68, Tryz.ntmps68
      go_wp2
      all_goals (try go_ret)
      all_goals exact ⟨by simp_all <;> omega, by first | exact (((On.refl w).alloc _).alloc _) | exact ((On.refl w).alloc _)⟩
    by_cases h_l : l = 0
    rotate_left
    · have b_l : (l == 0) = false := by simp [h_l]
      go_enter Tryz.func68, Tryz.ntmps68
      go_wp2
      all_goals (try go_ret)
      all_goals exact ⟨by simp_all <;> omega, by first | exact (((On.refl w).alloc _).alloc _) | exact ((On.refl w).alloc _)⟩
    subst h_l
    cases e_a : opdOk ⟨ar, av⟩ with
    | false =>
      go_enter Tryz.func68, Tryz.ntmps68
      go_wp2_with fail
      refine (roperandOk_is ⟨ar, av⟩ _).mono ?_
      rintro e w_a ⟨rfl, k_a⟩
      have Bx := (Bk.new w #[.int .i64 5, .int .i64 r, .int .i64 0, .int .i64 ar, .int .i64 av, .int .i64 0, .int .i64 (-1), .int .i64 0, .int .i64 n] 52).on (((On.refl _).alloc _).trans k_a)
      have By := (Bk.newB2 w _ #[.int .i64 0, .int .i64 0] 50).on k_a
      have x0 : w_a.cell? ⟨w.heap.size, 0, none⟩ = some (.int .i64 5) := Bx.at rfl
      have x1 : w_a.cell? ⟨w.heap.size, 1, none⟩ = some (.int .i64 r) := Bx.at rfl
      have x2 : w_a.cell? ⟨w.heap.size, 2, none⟩ = some (.int .i64 0) := Bx.at rfl
      have x3 : w_a.cell? ⟨w.heap.size, 3, none⟩ = some (.int .i64 ar) := Bx.at rfl
      have x4 : w_a.cell? ⟨w.heap.size, 4, none⟩ = some (.int .i64 av) := Bx.at rfl
      have x5 : w_a.cell? ⟨w.heap.size, 5, none⟩ = some (.int .i64 0) := Bx.at rfl
      have x6 : w_a.cell? ⟨w.heap.size, 6, none⟩ = some (.int .i64 (-1)) := Bx.at rfl
      have x7 : w_a.cell? ⟨w.heap.size, 7, none⟩ = some (.int .i64 0) := Bx.at rfl
      have x8 : w_a.cell? ⟨w.heap.size, 8, none⟩ = some (.int .i64 n) := Bx.at rfl
      have y0 : w_a.cell? ⟨w.heap.size + 1, 0, none⟩ = some (.int .i64 0) := By.at rfl
      have y1 : w_a.cell? ⟨w.heap.size + 1, 1, none⟩ = some (.int .i64 0) := By.at rfl
      have xl := Bx.lt
      have yl := By.lt
      rw [e_a]
      go_wp2
      all_goals (try go_ret)
      all_goals exact ⟨by simp_all <;> omega, by first | exact ((((On.refl w).alloc _).alloc _).trans k_a) | exact (((On.refl w).alloc _).trans k_a)⟩
    | true =>
      by_cases h_n : n = 0
      rotate_left
      · have b_n : (n == 0) = false := by simp [h_n]
        go_enter Tryz.func68, Tryz.ntmps68
        go_wp2_with fail
        refine (roperandOk_is ⟨ar, av⟩ _).mono ?_
        rintro e w_a ⟨rfl, k_a⟩
        have Bx := (Bk.new w #[.int .i64 5, .int .i64 r, .int .i64 0, .int .i64 ar, .int .i64 av, .int .i64 0, .int .i64 (-1), .int .i64 0, .int .i64 n] 52).on (((On.refl _).alloc _).trans k_a)
        have By := (Bk.newB2 w _ #[.int .i64 0, .int .i64 0] 50).on k_a
        have x0 : w_a.cell? ⟨w.heap.size, 0, none⟩ = some (.int .i64 5) := Bx.at rfl
        have x1 : w_a.cell? ⟨w.heap.size, 1, none⟩ = some (.int .i64 r) := Bx.at rfl
        have x2 : w_a.cell? ⟨w.heap.size, 2, none⟩ = some (.int .i64 0) := Bx.at rfl
        have x3 : w_a.cell? ⟨w.heap.size, 3, none⟩ = some (.int .i64 ar) := Bx.at rfl
        have x4 : w_a.cell? ⟨w.heap.size, 4, none⟩ = some (.int .i64 av) := Bx.at rfl
        have x5 : w_a.cell? ⟨w.heap.size, 5, none⟩ = some (.int .i64 0) := Bx.at rfl
        have x6 : w_a.cell? ⟨w.heap.size, 6, none⟩ = some (.int .i64 (-1)) := Bx.at rfl
        have x7 : w_a.cell? ⟨w.heap.size, 7, none⟩ = some (.int .i64 0) := Bx.at rfl
        have x8 : w_a.cell? ⟨w.heap.size, 8, none⟩ = some (.int .i64 n) := Bx.at rfl
        have y0 : w_a.cell? ⟨w.heap.size + 1, 0, none⟩ = some (.int .i64 0) := By.at rfl
        have y1 : w_a.cell? ⟨w.heap.size + 1, 1, none⟩ = some (.int .i64 0) := By.at rfl
        have xl := Bx.lt
        have yl := By.lt
        rw [e_a]
        go_wp2_with fail
        refine (roperandOk_is ⟨-1, 0⟩ _).mono ?_
        rintro e w_b ⟨rfl, k_b⟩
        have Bx := Bx.on k_b
        have By := By.on k_b
        have x0 : w_b.cell? ⟨w.heap.size, 0, none⟩ = some (.int .i64 5) := Bx.at rfl
        have x1 : w_b.cell? ⟨w.heap.size, 1, none⟩ = some (.int .i64 r) := Bx.at rfl
        have x2 : w_b.cell? ⟨w.heap.size, 2, none⟩ = some (.int .i64 0) := Bx.at rfl
        have x3 : w_b.cell? ⟨w.heap.size, 3, none⟩ = some (.int .i64 ar) := Bx.at rfl
        have x4 : w_b.cell? ⟨w.heap.size, 4, none⟩ = some (.int .i64 av) := Bx.at rfl
        have x5 : w_b.cell? ⟨w.heap.size, 5, none⟩ = some (.int .i64 0) := Bx.at rfl
        have x6 : w_b.cell? ⟨w.heap.size, 6, none⟩ = some (.int .i64 (-1)) := Bx.at rfl
        have x7 : w_b.cell? ⟨w.heap.size, 7, none⟩ = some (.int .i64 0) := Bx.at rfl
        have x8 : w_b.cell? ⟨w.heap.size, 8, none⟩ = some (.int .i64 n) := Bx.at rfl
        have y0 : w_b.cell? ⟨w.heap.size + 1, 0, none⟩ = some (.int .i64 0) := By.at rfl
        have y1 : w_b.cell? ⟨w.heap.size + 1, 1, none⟩ = some (.int .i64 0) := By.at rfl
        have xl := Bx.lt
        have yl := By.lt
        rw [e_b]
        go_wp2
        all_goals (try go_ret)
        all_goals exact ⟨by simp_all <;> omega, by first | exact (((((On.refl w).alloc _).alloc _).trans k_a).trans k_b) | exact ((((On.refl w).alloc _).trans k_a).trans k_b)⟩
      subst h_n
      go_enter Tryz.func68, Tryz.ntmps68
      go_wp2_with fail
      refine (roperandOk_is ⟨ar, av⟩ _).mono ?_
      rintro e w_a ⟨rfl, k_a⟩
      have Bx := (Bk.new w #[.int .i64 5, .int .i64 r, .int .i64 0, .int .i64 ar, .int .i64 av, .int .i64 0, .int .i64 (-1), .int .i64 0, .int .i64 0] 52).on (((On.refl _).alloc _).trans k_a)
      have By := (Bk.newB2 w _ #[.int .i64 0, .int .i64 0] 50).on k_a
      have x0 : w_a.cell? ⟨w.heap.size, 0, none⟩ = some (.int .i64 5) := Bx.at rfl
      have x1 : w_a.cell? ⟨w.heap.size, 1, none⟩ = some (.int .i64 r) := Bx.at rfl
      have x2 : w_a.cell? ⟨w.heap.size, 2, none⟩ = some (.int .i64 0) := Bx.at rfl
      have x3 : w_a.cell? ⟨w.heap.size, 3, none⟩ = some (.int .i64 ar) := Bx.at rfl
      have x4 : w_a.cell? ⟨w.heap.size, 4, none⟩ = some (.int .i64 av) := Bx.at rfl
      have x5 : w_a.cell? ⟨w.heap.size, 5, none⟩ = some (.int .i64 0) := Bx.at rfl
      have x6 : w_a.cell? ⟨w.heap.size, 6, none⟩ = some (.int .i64 (-1)) := Bx.at rfl
      have x7 : w_a.cell? ⟨w.heap.size, 7, none⟩ = some (.int .i64 0) := Bx.at rfl
      have x8 : w_a.cell? ⟨w.heap.size, 8, none⟩ = some (.int .i64 0) := Bx.at rfl
      have y0 : w_a.cell? ⟨w.heap.size + 1, 0, none⟩ = some (.int .i64 0) := By.at rfl
      have y1 : w_a.cell? ⟨w.heap.size + 1, 1, none⟩ = some (.int .i64 0) := By.at rfl
      have xl := Bx.lt
      have yl := By.lt
      rw [e_a]
      go_wp2_with fail
      refine (roperandOk_is ⟨-1, 0⟩ _).mono ?_
      rintro e w_b ⟨rfl, k_b⟩
      have Bx := Bx.on k_b
      have By := By.on k_b
      have x0 : w_b.cell? ⟨w.heap.size, 0, none⟩ = some (.int .i64 5) := Bx.at rfl
      have x1 : w_b.cell? ⟨w.heap.size, 1, none⟩ = some (.int .i64 r) := Bx.at rfl
      have x2 : w_b.cell? ⟨w.heap.size, 2, none⟩ = some (.int .i64 0) := Bx.at rfl
      have x3 : w_b.cell? ⟨w.heap.size, 3, none⟩ = some (.int .i64 ar) := Bx.at rfl
      have x4 : w_b.cell? ⟨w.heap.size, 4, none⟩ = some (.int .i64 av) := Bx.at rfl
      have x5 : w_b.cell? ⟨w.heap.size, 5, none⟩ = some (.int .i64 0) := Bx.at rfl
      have x6 : w_b.cell? ⟨w.heap.size, 6, none⟩ = some (.int .i64 (-1)) := Bx.at rfl
      have x7 : w_b.cell? ⟨w.heap.size, 7, none⟩ = some (.int .i64 0) := Bx.at rfl
      have x8 : w_b.cell? ⟨w.heap.size, 8, none⟩ = some (.int .i64 0) := Bx.at rfl
      have y0 : w_b.cell? ⟨w.heap.size + 1, 0, none⟩ = some (.int .i64 0) := By.at rfl
      have y1 : w_b.cell? ⟨w.heap.size + 1, 1, none⟩ = some (.int .i64 0) := By.at rfl
      have xl := Bx.lt
      have yl := By.lt
      rw [e_b]
      go_wp2
      all_goals (try go_ret)
      all_goals exact ⟨by simp_all <;> omega, by first | exact (((((On.refl w).alloc _).alloc _).trans k_a).trans k_b) | exact ((((On.refl w).alloc _).trans k_a).trans k_b)⟩
  · have b_o : (o == 0) = false := by simp [h_o]
    by_cases h_ger : 0 ≤ r
    rotate_left
    ·
      go_enter Tryz.func68, Tryz.ntmps68
      go_wp2
      all_goals (try go_ret)
      all_goals exact ⟨by simp_all <;> omega, by first | exact (((On.refl w).alloc _).alloc _) | exact ((On.refl w).alloc _)⟩
    by_cases h_ler : r ≤ 3
    rotate_left
    ·
      go_enter Tryz.func68, Tryz.ntmps68
      go_wp2
      all_goals (try go_ret)
      all_goals exact ⟨by simp_all <;> omega, by first | exact (((On.refl w).alloc _).alloc _) | exact ((On.refl w).alloc _)⟩
    by_cases h_l : l = 0
    rotate_left
    · have b_l : (l == 0) = false := by simp [h_l]
      go_enter Tryz.func68, Tryz.ntmps68
      go_wp2
      all_goals (try go_ret)
      all_goals exact ⟨by simp_all <;> omega, by first | exact (((On.refl w).alloc _).alloc _) | exact ((On.refl w).alloc _)⟩
    subst h_l
    cases e_a : opdOk ⟨ar, av⟩ with
    | false =>
      go_enter Tryz.func68, Tryz.ntmps68
      go_wp2_with fail
      refine (roperandOk_is ⟨ar, av⟩ _).mono ?_
      rintro e w_a ⟨rfl, k_a⟩
      have Bx := (Bk.new w #[.int .i64 5, .int .i64 r, .int .i64 0, .int .i64 ar, .int .i64 av, .int .i64 o, .int .i64 br, .int .i64 bv, .int .i64 n] 52).on (((On.refl _).alloc _).trans k_a)
      have By := (Bk.newB2 w _ #[.int .i64 0, .int .i64 0] 50).on k_a
      have x0 : w_a.cell? ⟨w.heap.size, 0, none⟩ = some (.int .i64 5) := Bx.at rfl
      have x1 : w_a.cell? ⟨w.heap.size, 1, none⟩ = some (.int .i64 r) := Bx.at rfl
      have x2 : w_a.cell? ⟨w.heap.size, 2, none⟩ = some (.int .i64 0) := Bx.at rfl
      have x3 : w_a.cell? ⟨w.heap.size, 3, none⟩ = some (.int .i64 ar) := Bx.at rfl
      have x4 : w_a.cell? ⟨w.heap.size, 4, none⟩ = some (.int .i64 av) := Bx.at rfl
      have x5 : w_a.cell? ⟨w.heap.size, 5, none⟩ = some (.int .i64 o) := Bx.at rfl
      have x6 : w_a.cell? ⟨w.heap.size, 6, none⟩ = some (.int .i64 br) := Bx.at rfl
      have x7 : w_a.cell? ⟨w.heap.size, 7, none⟩ = some (.int .i64 bv) := Bx.at rfl
      have x8 : w_a.cell? ⟨w.heap.size, 8, none⟩ = some (.int .i64 n) := Bx.at rfl
      have y0 : w_a.cell? ⟨w.heap.size + 1, 0, none⟩ = some (.int .i64 0) := By.at rfl
      have y1 : w_a.cell? ⟨w.heap.size + 1, 1, none⟩ = some (.int .i64 0) := By.at rfl
      have xl := Bx.lt
      have yl := By.lt
      rw [e_a]
      go_wp2
      all_goals (try go_ret)
      all_goals exact ⟨by simp_all <;> omega, by first | exact ((((On.refl w).alloc _).alloc _).trans k_a) | exact (((On.refl w).alloc _).trans k_a)⟩
    | true =>
      by_cases h_geo : 0 ≤ o
      rotate_left
      ·
        go_enter Tryz.func68, Tryz.ntmps68
        go_wp2_with fail
        refine (roperandOk_is ⟨ar, av⟩ _).mono ?_
        rintro e w_a ⟨rfl, k_a⟩
        have Bx := (Bk.new w #[.int .i64 5, .int .i64 r, .int .i64 0, .int .i64 ar, .int .i64 av, .int .i64 o, .int .i64 br, .int .i64 bv, .int .i64 n] 52).on (((On.refl _).alloc _).trans k_a)
        have By := (Bk.newB2 w _ #[.int .i64 0, .int .i64 0] 50).on k_a
        have x0 : w_a.cell? ⟨w.heap.size, 0, none⟩ = some (.int .i64 5) := Bx.at rfl
        have x1 : w_a.cell? ⟨w.heap.size, 1, none⟩ = some (.int .i64 r) := Bx.at rfl
        have x2 : w_a.cell? ⟨w.heap.size, 2, none⟩ = some (.int .i64 0) := Bx.at rfl
        have x3 : w_a.cell? ⟨w.heap.size, 3, none⟩ = some (.int .i64 ar) := Bx.at rfl
        have x4 : w_a.cell? ⟨w.heap.size, 4, none⟩ = some (.int .i64 av) := Bx.at rfl
        have x5 : w_a.cell? ⟨w.heap.size, 5, none⟩ = some (.int .i64 o) := Bx.at rfl
        have x6 : w_a.cell? ⟨w.heap.size, 6, none⟩ = some (.int .i64 br) := Bx.at rfl
        have x7 : w_a.cell? ⟨w.heap.size, 7, none⟩ = some (.int .i64 bv) := Bx.at rfl
        have x8 : w_a.cell? ⟨w.heap.size, 8, none⟩ = some (.int .i64 n) := Bx.at rfl
        have y0 : w_a.cell? ⟨w.heap.size + 1, 0, none⟩ = some (.int .i64 0) := By.at rfl
        have y1 : w_a.cell? ⟨w.heap.size + 1, 1, none⟩ = some (.int .i64 0) := By.at rfl
        have xl := Bx.lt
        have yl := By.lt
        rw [e_a]
        go_wp2
        all_goals (try go_ret)
        all_goals exact ⟨by simp_all <;> omega, by first | exact ((((On.refl w).alloc _).alloc _).trans k_a) | exact (((On.refl w).alloc _).trans k_a)⟩
      by_cases h_leo : o ≤ 11
      rotate_left
      ·
        go_enter Tryz.func68, Tryz.ntmps68
        go_wp2_with fail
        refine (roperandOk_is ⟨ar, av⟩ _).mono ?_
        rintro e w_a ⟨rfl, k_a⟩
        have Bx := (Bk.new w #[.int .i64 5, .int .i64 r, .int .i64 0, .int .i64 ar, .int .i64 av, .int .i64 o, .int .i64 br, .int .i64 bv, .int .i64 n] 52).on (((On.refl _).alloc _).trans k_a)
        have By := (Bk.newB2 w _ #[.int .i64 0, .int .i64 0] 50).on k_a
        have x0 : w_a.cell? ⟨w.heap.size, 0, none⟩ = some (.int .i64 5) := Bx.at rfl
        have x1 : w_a.cell? ⟨w.heap.size, 1, none⟩ = some (.int .i64 r) := Bx.at rfl
        have x2 : w_a.cell? ⟨w.heap.size, 2, none⟩ = some (.int .i64 0) := Bx.at rfl
        have x3 : w_a.cell? ⟨w.heap.size, 3, none⟩ = some (.int .i64 ar) := Bx.at rfl
        have x4 : w_a.cell? ⟨w.heap.size, 4, none⟩ = some (.int .i64 av) := Bx.at rfl
        have x5 : w_a.cell? ⟨w.heap.size, 5, none⟩ = some (.int .i64 o) := Bx.at rfl
        have x6 : w_a.cell? ⟨w.heap.size, 6, none⟩ = some (.int .i64 br) := Bx.at rfl
        have x7 : w_a.cell? ⟨w.heap.size, 7, none⟩ = some (.int .i64 bv) := Bx.at rfl
        have x8 : w_a.cell? ⟨w.heap.size, 8, none⟩ = some (.int .i64 n) := Bx.at rfl
        have y0 : w_a.cell? ⟨w.heap.size + 1, 0, none⟩ = some (.int .i64 0) := By.at rfl
        have y1 : w_a.cell? ⟨w.heap.size + 1, 1, none⟩ = some (.int .i64 0) := By.at rfl
        have xl := Bx.lt
        have yl := By.lt
        rw [e_a]
        go_wp2
        all_goals (try go_ret)
        all_goals exact ⟨by simp_all <;> omega, by first | exact ((((On.refl w).alloc _).alloc _).trans k_a) | exact (((On.refl w).alloc _).trans k_a)⟩
      cases e_b : opdOk ⟨br, bv⟩ with
      | false =>
        go_enter Tryz.func68, Tryz.ntmps68
        go_wp2_with fail
        refine (roperandOk_is ⟨ar, av⟩ _).mono ?_
        rintro e w_a ⟨rfl, k_a⟩
        have Bx := (Bk.new w #[.int .i64 5, .int .i64 r, .int .i64 0, .int .i64 ar, .int .i64 av, .int .i64 o, .int .i64 br, .int .i64 bv, .int .i64 n] 52).on (((On.refl _).alloc _).trans k_a)
        have By := (Bk.newB2 w _ #[.int .i64 0, .int .i64 0] 50).on k_a
        have x0 : w_a.cell? ⟨w.heap.size, 0, none⟩ = some (.int .i64 5) := Bx.at rfl
        have x1 : w_a.cell? ⟨w.heap.size, 1, none⟩ = some (.int .i64 r) := Bx.at rfl
        have x2 : w_a.cell? ⟨w.heap.size, 2, none⟩ = some (.int .i64 0) := Bx.at rfl
        have x3 : w_a.cell? ⟨w.heap.size, 3, none⟩ = some (.int .i64 ar) := Bx.at rfl
        have x4 : w_a.cell? ⟨w.heap.size, 4, none⟩ = some (.int .i64 av) := Bx.at rfl
        have x5 : w_a.cell? ⟨w.heap.size, 5, none⟩ = some (.int .i64 o) := Bx.at rfl
        have x6 : w_a.cell? ⟨w.heap.size, 6, none⟩ = some (.int .i64 br) := Bx.at rfl
        have x7 : w_a.cell? ⟨w.heap.size, 7, none⟩ = some (.int .i64 bv) := Bx.at rfl
        have x8 : w_a.cell? ⟨w.heap.size, 8, none⟩ = some (.int .i64 n) := Bx.at rfl
        have y0 : w_a.cell? ⟨w.heap.size + 1, 0, none⟩ = some (.int .i64 0) := By.at rfl
        have y1 : w_a.cell? ⟨w.heap.size + 1, 1, none⟩ = some (.int .i64 0) := By.at rfl
        have xl := Bx.lt
        have yl := By.lt
        rw [e_a]
        go_wp2_with fail
        refine (roperandOk_is ⟨br, bv⟩ _).mono ?_
        rintro e w_b ⟨rfl, k_b⟩
        have Bx := Bx.on k_b
        have By := By.on k_b
        have x0 : w_b.cell? ⟨w.heap.size, 0, none⟩ = some (.int .i64 5) := Bx.at rfl
        have x1 : w_b.cell? ⟨w.heap.size, 1, none⟩ = some (.int .i64 r) := Bx.at rfl
        have x2 : w_b.cell? ⟨w.heap.size, 2, none⟩ = some (.int .i64 0) := Bx.at rfl
        have x3 : w_b.cell? ⟨w.heap.size, 3, none⟩ = some (.int .i64 ar) := Bx.at rfl
        have x4 : w_b.cell? ⟨w.heap.size, 4, none⟩ = some (.int .i64 av) := Bx.at rfl
        have x5 : w_b.cell? ⟨w.heap.size, 5, none⟩ = some (.int .i64 o) := Bx.at rfl
        have x6 : w_b.cell? ⟨w.heap.size, 6, none⟩ = some (.int .i64 br) := Bx.at rfl
        have x7 : w_b.cell? ⟨w.heap.size, 7, none⟩ = some (.int .i64 bv) := Bx.at rfl
        have x8 : w_b.cell? ⟨w.heap.size, 8, none⟩ = some (.int .i64 n) := Bx.at rfl
        have y0 : w_b.cell? ⟨w.heap.size + 1, 0, none⟩ = some (.int .i64 0) := By.at rfl
        have y1 : w_b.cell? ⟨w.heap.size + 1, 1, none⟩ = some (.int .i64 0) := By.at rfl
        have xl := Bx.lt
        have yl := By.lt
        rw [e_b]
        go_wp2
        all_goals (try go_ret)
        all_goals exact ⟨by simp_all <;> omega, by first | exact (((((On.refl w).alloc _).alloc _).trans k_a).trans k_b) | exact ((((On.refl w).alloc _).trans k_a).trans k_b)⟩
      | true =>
        by_cases h_n : n = 0
        rotate_left
        · have b_n : (n == 0) = false := by simp [h_n]
          go_enter Tryz.func68, Tryz.ntmps68
          go_wp2_with fail
          refine (roperandOk_is ⟨ar, av⟩ _).mono ?_
          rintro e w_a ⟨rfl, k_a⟩
          have Bx := (Bk.new w #[.int .i64 5, .int .i64 r, .int .i64 0, .int .i64 ar, .int .i64 av, .int .i64 o, .int .i64 br, .int .i64 bv, .int .i64 n] 52).on (((On.refl _).alloc _).trans k_a)
          have By := (Bk.newB2 w _ #[.int .i64 0, .int .i64 0] 50).on k_a
          have x0 : w_a.cell? ⟨w.heap.size, 0, none⟩ = some (.int .i64 5) := Bx.at rfl
          have x1 : w_a.cell? ⟨w.heap.size, 1, none⟩ = some (.int .i64 r) := Bx.at rfl
          have x2 : w_a.cell? ⟨w.heap.size, 2, none⟩ = some (.int .i64 0) := Bx.at rfl
          have x3 : w_a.cell? ⟨w.heap.size, 3, none⟩ = some (.int .i64 ar) := Bx.at rfl
          have x4 : w_a.cell? ⟨w.heap.size, 4, none⟩ = some (.int .i64 av) := Bx.at rfl
          have x5 : w_a.cell? ⟨w.heap.size, 5, none⟩ = some (.int .i64 o) := Bx.at rfl
          have x6 : w_a.cell? ⟨w.heap.size, 6, none⟩ = some (.int .i64 br) := Bx.at rfl
          have x7 : w_a.cell? ⟨w.heap.size, 7, none⟩ = some (.int .i64 bv) := Bx.at rfl
          have x8 : w_a.cell? ⟨w.heap.size, 8, none⟩ = some (.int .i64 n) := Bx.at rfl
          have y0 : w_a.cell? ⟨w.heap.size + 1, 0, none⟩ = some (.int .i64 0) := By.at rfl
          have y1 : w_a.cell? ⟨w.heap.size + 1, 1, none⟩ = some (.int .i64 0) := By.at rfl
          have xl := Bx.lt
          have yl := By.lt
          rw [e_a]
          go_wp2_with fail
          refine (roperandOk_is ⟨br, bv⟩ _).mono ?_
          rintro e w_b ⟨rfl, k_b⟩
          have Bx := Bx.on k_b
          have By := By.on k_b
          have x0 : w_b.cell? ⟨w.heap.size, 0, none⟩ = some (.int .i64 5) := Bx.at rfl
          have x1 : w_b.cell? ⟨w.heap.size, 1, none⟩ = some (.int .i64 r) := Bx.at rfl
          have x2 : w_b.cell? ⟨w.heap.size, 2, none⟩ = some (.int .i64 0) := Bx.at rfl
          have x3 : w_b.cell? ⟨w.heap.size, 3, none⟩ = some (.int .i64 ar) := Bx.at rfl
          have x4 : w_b.cell? ⟨w.heap.size, 4, none⟩ = some (.int .i64 av) := Bx.at rfl
          have x5 : w_b.cell? ⟨w.heap.size, 5, none⟩ = some (.int .i64 o) := Bx.at rfl
          have x6 : w_b.cell? ⟨w.heap.size, 6, none⟩ = some (.int .i64 br) := Bx.at rfl
          have x7 : w_b.cell? ⟨w.heap.size, 7, none⟩ = some (.int .i64 bv) := Bx.at rfl
          have x8 : w_b.cell? ⟨w.heap.size, 8, none⟩ = some (.int .i64 n) := Bx.at rfl
          have y0 : w_b.cell? ⟨w.heap.size + 1, 0, none⟩ = some (.int .i64 0) := By.at rfl
          have y1 : w_b.cell? ⟨w.heap.size + 1, 1, none⟩ = some (.int .i64 0) := By.at rfl
          have xl := Bx.lt
          have yl := By.lt
          rw [e_b]
          go_wp2
          all_goals (try go_ret)
          all_goals exact ⟨by simp_all <;> omega, by first | exact (((((On.refl w).alloc _).alloc _).trans k_a).trans k_b) | exact ((((On.refl w).alloc _).trans k_a).trans k_b)⟩
        subst h_n
        go_enter Tryz.func68, Tryz.ntmps68
        go_wp2_with fail
        refine (roperandOk_is ⟨ar, av⟩ _).mono ?_
        rintro e w_a ⟨rfl, k_a⟩
        have Bx := (Bk.new w #[.int .i64 5, .int .i64 r, .int .i64 0, .int .i64 ar, .int .i64 av, .int .i64 o, .int .i64 br, .int .i64 bv, .int .i64 0] 52).on (((On.refl _).alloc _).trans k_a)
        have By := (Bk.newB2 w _ #[.int .i64 0, .int .i64 0] 50).on k_a
        have x0 : w_a.cell? ⟨w.heap.size, 0, none⟩ = some (.int .i64 5) := Bx.at rfl
        have x1 : w_a.cell? ⟨w.heap.size, 1, none⟩ = some (.int .i64 r) := Bx.at rfl
        have x2 : w_a.cell? ⟨w.heap.size, 2, none⟩ = some (.int .i64 0) := Bx.at rfl
        have x3 : w_a.cell? ⟨w.heap.size, 3, none⟩ = some (.int .i64 ar) := Bx.at rfl
        have x4 : w_a.cell? ⟨w.heap.size, 4, none⟩ = some (.int .i64 av) := Bx.at rfl
        have x5 : w_a.cell? ⟨w.heap.size, 5, none⟩ = some (.int .i64 o) := Bx.at rfl
        have x6 : w_a.cell? ⟨w.heap.size, 6, none⟩ = some (.int .i64 br) := Bx.at rfl
        have x7 : w_a.cell? ⟨w.heap.size, 7, none⟩ = some (.int .i64 bv) := Bx.at rfl
        have x8 : w_a.cell? ⟨w.heap.size, 8, none⟩ = some (.int .i64 0) := Bx.at rfl
        have y0 : w_a.cell? ⟨w.heap.size + 1, 0, none⟩ = some (.int .i64 0) := By.at rfl
        have y1 : w_a.cell? ⟨w.heap.size + 1, 1, none⟩ = some (.int .i64 0) := By.at rfl
        have xl := Bx.lt
        have yl := By.lt
        rw [e_a]
        go_wp2_with fail
        refine (roperandOk_is ⟨br, bv⟩ _).mono ?_
        rintro e w_b ⟨rfl, k_b⟩
        have Bx := Bx.on k_b
        have By := By.on k_b
        have x0 : w_b.cell? ⟨w.heap.size, 0, none⟩ = some (.int .i64 5) := Bx.at rfl
        have x1 : w_b.cell? ⟨w.heap.size, 1, none⟩ = some (.int .i64 r) := Bx.at rfl
        have x2 : w_b.cell? ⟨w.heap.size, 2, none⟩ = some (.int .i64 0) := Bx.at rfl
        have x3 : w_b.cell? ⟨w.heap.size, 3, none⟩ = some (.int .i64 ar) := Bx.at rfl
        have x4 : w_b.cell? ⟨w.heap.size, 4, none⟩ = some (.int .i64 av) := Bx.at rfl
        have x5 : w_b.cell? ⟨w.heap.size, 5, none⟩ = some (.int .i64 o) := Bx.at rfl
        have x6 : w_b.cell? ⟨w.heap.size, 6, none⟩ = some (.int .i64 br) := Bx.at rfl
        have x7 : w_b.cell? ⟨w.heap.size, 7, none⟩ = some (.int .i64 bv) := Bx.at rfl
        have x8 : w_b.cell? ⟨w.heap.size, 8, none⟩ = some (.int .i64 0) := Bx.at rfl
        have y0 : w_b.cell? ⟨w.heap.size + 1, 0, none⟩ = some (.int .i64 0) := By.at rfl
        have y1 : w_b.cell? ⟨w.heap.size + 1, 1, none⟩ = some (.int .i64 0) := By.at rfl
        have xl := Bx.lt
        have yl := By.lt
        rw [e_b]
        go_wp2
        all_goals (try go_ret)
        all_goals exact ⟨by simp_all <;> omega, by first | exact (((((On.refl w).alloc _).alloc _).trans k_a).trans k_b) | exact ((((On.refl w).alloc _).trans k_a).trans k_b)⟩
theorem rok_skip (r l ar av o br bv n : Int) (w : World) :
    Calls Tryz.prog 68 #[.agg #[.int .i64 6, .int .i64 r, .int .i64 l, .int .i64 ar, .int .i64 av, .int .i64 o, .int .i64 br, .int .i64 bv, .int .i64 n]] w fun e w' => e = .returned (.bool ((r == 0 && l == 0 && o == 0) && decide (0 ≤ n) && opdOk ⟨ar, av⟩ && opdOk ⟨br, bv⟩)) ∧ On w w' := by
  by_cases h_r : r = 0
  rotate_left
  · have b_r : (r == 0) = false := by simp [h_r]
    go_enter Tryz.func68, Tryz.ntmps68
    go_wp2
    all_goals (try go_ret)
    all_goals exact ⟨by simp_all <;> omega, by first | exact (((On.refl w).alloc _).alloc _) | exact ((On.refl w).alloc _)⟩
  subst h_r
  by_cases h_l : l = 0
  rotate_left
  · have b_l : (l == 0) = false := by simp [h_l]
    go_enter Tryz.func68, Tryz.ntmps68
    go_wp2
    all_goals (try go_ret)
    all_goals exact ⟨by simp_all <;> omega, by first | exact (((On.refl w).alloc _).alloc _) | exact ((On.refl w).alloc _)⟩
  subst h_l
  cases e_a : opdOk ⟨ar, av⟩ with
  | false =>
    go_enter Tryz.func68, Tryz.ntmps68
    go_wp2_with fail
    refine (roperandOk_is ⟨ar, av⟩ _).mono ?_
    rintro e w_a ⟨rfl, k_a⟩
    have Bx := (Bk.new w #[.int .i64 6, .int .i64 0, .int .i64 0, .int .i64 ar, .int .i64 av, .int .i64 o, .int .i64 br, .int .i64 bv, .int .i64 n] 52).on (((On.refl _).alloc _).trans k_a)
    have By := (Bk.newB2 w _ #[.int .i64 0, .int .i64 0] 50).on k_a
    have x0 : w_a.cell? ⟨w.heap.size, 0, none⟩ = some (.int .i64 6) := Bx.at rfl
    have x1 : w_a.cell? ⟨w.heap.size, 1, none⟩ = some (.int .i64 0) := Bx.at rfl
    have x2 : w_a.cell? ⟨w.heap.size, 2, none⟩ = some (.int .i64 0) := Bx.at rfl
    have x3 : w_a.cell? ⟨w.heap.size, 3, none⟩ = some (.int .i64 ar) := Bx.at rfl
    have x4 : w_a.cell? ⟨w.heap.size, 4, none⟩ = some (.int .i64 av) := Bx.at rfl
    have x5 : w_a.cell? ⟨w.heap.size, 5, none⟩ = some (.int .i64 o) := Bx.at rfl
    have x6 : w_a.cell? ⟨w.heap.size, 6, none⟩ = some (.int .i64 br) := Bx.at rfl
    have x7 : w_a.cell? ⟨w.heap.size, 7, none⟩ = some (.int .i64 bv) := Bx.at rfl
    have x8 : w_a.cell? ⟨w.heap.size, 8, none⟩ = some (.int .i64 n) := Bx.at rfl
    have y0 : w_a.cell? ⟨w.heap.size + 1, 0, none⟩ = some (.int .i64 0) := By.at rfl
    have y1 : w_a.cell? ⟨w.heap.size + 1, 1, none⟩ = some (.int .i64 0) := By.at rfl
    have xl := Bx.lt
    have yl := By.lt
    rw [e_a]
    go_wp2
    all_goals (try go_ret)
    all_goals exact ⟨by simp_all <;> omega, by first | exact ((((On.refl w).alloc _).alloc _).trans k_a) | exact (((On.refl w).alloc _).trans k_a)⟩
  | true =>
    by_cases h_o : o = 0
    rotate_left
    · have b_o : (o == 0) = false := by simp [h_o]
      go_enter Tryz.func68, Tryz.ntmps68
      go_wp2_with fail
      refine (roperandOk_is ⟨ar, av⟩ _).mono ?_
      rintro e w_a ⟨rfl, k_a⟩
      have Bx := (Bk.new w #[.int .i64 6, .int .i64 0, .int .i64 0, .int .i64 ar, .int .i64 av, .int .i64 o, .int .i64 br, .int .i64 bv, .int .i64 n] 52).on (((On.refl _).alloc _).trans k_a)
      have By := (Bk.newB2 w _ #[.int .i64 0, .int .i64 0] 50).on k_a
      have x0 : w_a.cell? ⟨w.heap.size, 0, none⟩ = some (.int .i64 6) := Bx.at rfl
      have x1 : w_a.cell? ⟨w.heap.size, 1, none⟩ = some (.int .i64 0) := Bx.at rfl
      have x2 : w_a.cell? ⟨w.heap.size, 2, none⟩ = some (.int .i64 0) := Bx.at rfl
      have x3 : w_a.cell? ⟨w.heap.size, 3, none⟩ = some (.int .i64 ar) := Bx.at rfl
      have x4 : w_a.cell? ⟨w.heap.size, 4, none⟩ = some (.int .i64 av) := Bx.at rfl
      have x5 : w_a.cell? ⟨w.heap.size, 5, none⟩ = some (.int .i64 o) := Bx.at rfl
      have x6 : w_a.cell? ⟨w.heap.size, 6, none⟩ = some (.int .i64 br) := Bx.at rfl
      have x7 : w_a.cell? ⟨w.heap.size, 7, none⟩ = some (.int .i64 bv) := Bx.at rfl
      have x8 : w_a.cell? ⟨w.heap.size, 8, none⟩ = some (.int .i64 n) := Bx.at rfl
      have y0 : w_a.cell? ⟨w.heap.size + 1, 0, none⟩ = some (.int .i64 0) := By.at rfl
      have y1 : w_a.cell? ⟨w.heap.size + 1, 1, none⟩ = some (.int .i64 0) := By.at rfl
      have xl := Bx.lt
      have yl := By.lt
      rw [e_a]
      go_wp2
      all_goals (try go_ret)
      all_goals exact ⟨by simp_all <;> omega, by first | exact ((((On.refl w).alloc _).alloc _).trans k_a) | exact (((On.refl w).alloc _).trans k_a)⟩
    subst h_o
    cases e_b : opdOk ⟨br, bv⟩ with
    | false =>
      go_enter Tryz.func68, Tryz.ntmps68
      go_wp2_with fail
      refine (roperandOk_is ⟨ar, av⟩ _).mono ?_
      rintro e w_a ⟨rfl, k_a⟩
      have Bx := (Bk.new w #[.int .i64 6, .int .i64 0, .int .i64 0, .int .i64 ar, .int .i64 av, .int .i64 0, .int .i64 br, .int .i64 bv, .int .i64 n] 52).on (((On.refl _).alloc _).trans k_a)
      have By := (Bk.newB2 w _ #[.int .i64 0, .int .i64 0] 50).on k_a
      have x0 : w_a.cell? ⟨w.heap.size, 0, none⟩ = some (.int .i64 6) := Bx.at rfl
      have x1 : w_a.cell? ⟨w.heap.size, 1, none⟩ = some (.int .i64 0) := Bx.at rfl
      have x2 : w_a.cell? ⟨w.heap.size, 2, none⟩ = some (.int .i64 0) := Bx.at rfl
      have x3 : w_a.cell? ⟨w.heap.size, 3, none⟩ = some (.int .i64 ar) := Bx.at rfl
      have x4 : w_a.cell? ⟨w.heap.size, 4, none⟩ = some (.int .i64 av) := Bx.at rfl
      have x5 : w_a.cell? ⟨w.heap.size, 5, none⟩ = some (.int .i64 0) := Bx.at rfl
      have x6 : w_a.cell? ⟨w.heap.size, 6, none⟩ = some (.int .i64 br) := Bx.at rfl
      have x7 : w_a.cell? ⟨w.heap.size, 7, none⟩ = some (.int .i64 bv) := Bx.at rfl
      have x8 : w_a.cell? ⟨w.heap.size, 8, none⟩ = some (.int .i64 n) := Bx.at rfl
      have y0 : w_a.cell? ⟨w.heap.size + 1, 0, none⟩ = some (.int .i64 0) := By.at rfl
      have y1 : w_a.cell? ⟨w.heap.size + 1, 1, none⟩ = some (.int .i64 0) := By.at rfl
      have xl := Bx.lt
      have yl := By.lt
      rw [e_a]
      go_wp2_with fail
      refine (roperandOk_is ⟨br, bv⟩ _).mono ?_
      rintro e w_b ⟨rfl, k_b⟩
      have Bx := Bx.on k_b
      have By := By.on k_b
      have x0 : w_b.cell? ⟨w.heap.size, 0, none⟩ = some (.int .i64 6) := Bx.at rfl
      have x1 : w_b.cell? ⟨w.heap.size, 1, none⟩ = some (.int .i64 0) := Bx.at rfl
      have x2 : w_b.cell? ⟨w.heap.size, 2, none⟩ = some (.int .i64 0) := Bx.at rfl
      have x3 : w_b.cell? ⟨w.heap.size, 3, none⟩ = some (.int .i64 ar) := Bx.at rfl
      have x4 : w_b.cell? ⟨w.heap.size, 4, none⟩ = some (.int .i64 av) := Bx.at rfl
      have x5 : w_b.cell? ⟨w.heap.size, 5, none⟩ = some (.int .i64 0) := Bx.at rfl
      have x6 : w_b.cell? ⟨w.heap.size, 6, none⟩ = some (.int .i64 br) := Bx.at rfl
      have x7 : w_b.cell? ⟨w.heap.size, 7, none⟩ = some (.int .i64 bv) := Bx.at rfl
      have x8 : w_b.cell? ⟨w.heap.size, 8, none⟩ = some (.int .i64 n) := Bx.at rfl
      have y0 : w_b.cell? ⟨w.heap.size + 1, 0, none⟩ = some (.int .i64 0) := By.at rfl
      have y1 : w_b.cell? ⟨w.heap.size + 1, 1, none⟩ = some (.int .i64 0) := By.at rfl
      have xl := Bx.lt
      have yl := By.lt
      rw [e_b]
      go_wp2
      all_goals (try go_ret)
      all_goals exact ⟨by simp_all <;> omega, by first | exact (((((On.refl w).alloc _).alloc _).trans k_a).trans k_b) | exact ((((On.refl w).alloc _).trans k_a).trans k_b)⟩
    | true =>
      by_cases h_gen : 0 ≤ n
      rotate_left
      ·
        go_enter Tryz.func68, Tryz.ntmps68
        go_wp2_with fail
        refine (roperandOk_is ⟨ar, av⟩ _).mono ?_
        rintro e w_a ⟨rfl, k_a⟩
        have Bx := (Bk.new w #[.int .i64 6, .int .i64 0, .int .i64 0, .int .i64 ar, .int .i64 av, .int .i64 0, .int .i64 br, .int .i64 bv, .int .i64 n] 52).on (((On.refl _).alloc _).trans k_a)
        have By := (Bk.newB2 w _ #[.int .i64 0, .int .i64 0] 50).on k_a
        have x0 : w_a.cell? ⟨w.heap.size, 0, none⟩ = some (.int .i64 6) := Bx.at rfl
        have x1 : w_a.cell? ⟨w.heap.size, 1, none⟩ = some (.int .i64 0) := Bx.at rfl
        have x2 : w_a.cell? ⟨w.heap.size, 2, none⟩ = some (.int .i64 0) := Bx.at rfl
        have x3 : w_a.cell? ⟨w.heap.size, 3, none⟩ = some (.int .i64 ar) := Bx.at rfl
        have x4 : w_a.cell? ⟨w.heap.size, 4, none⟩ = some (.int .i64 av) := Bx.at rfl
        have x5 : w_a.cell? ⟨w.heap.size, 5, none⟩ = some (.int .i64 0) := Bx.at rfl
        have x6 : w_a.cell? ⟨w.heap.size, 6, none⟩ = some (.int .i64 br) := Bx.at rfl
        have x7 : w_a.cell? ⟨w.heap.size, 7, none⟩ = some (.int .i64 bv) := Bx.at rfl
        have x8 : w_a.cell? ⟨w.heap.size, 8, none⟩ = some (.int .i64 n) := Bx.at rfl
        have y0 : w_a.cell? ⟨w.heap.size + 1, 0, none⟩ = some (.int .i64 0) := By.at rfl
        have y1 : w_a.cell? ⟨w.heap.size + 1, 1, none⟩ = some (.int .i64 0) := By.at rfl
        have xl := Bx.lt
        have yl := By.lt
        rw [e_a]
        go_wp2_with fail
        refine (roperandOk_is ⟨br, bv⟩ _).mono ?_
        rintro e w_b ⟨rfl, k_b⟩
        have Bx := Bx.on k_b
        have By := By.on k_b
        have x0 : w_b.cell? ⟨w.heap.size, 0, none⟩ = some (.int .i64 6) := Bx.at rfl
        have x1 : w_b.cell? ⟨w.heap.size, 1, none⟩ = some (.int .i64 0) := Bx.at rfl
        have x2 : w_b.cell? ⟨w.heap.size, 2, none⟩ = some (.int .i64 0) := Bx.at rfl
        have x3 : w_b.cell? ⟨w.heap.size, 3, none⟩ = some (.int .i64 ar) := Bx.at rfl
        have x4 : w_b.cell? ⟨w.heap.size, 4, none⟩ = some (.int .i64 av) := Bx.at rfl
        have x5 : w_b.cell? ⟨w.heap.size, 5, none⟩ = some (.int .i64 0) := Bx.at rfl
        have x6 : w_b.cell? ⟨w.heap.size, 6, none⟩ = some (.int .i64 br) := Bx.at rfl
        have x7 : w_b.cell? ⟨w.heap.size, 7, none⟩ = some (.int .i64 bv) := Bx.at rfl
        have x8 : w_b.cell? ⟨w.heap.size, 8, none⟩ = some (.int .i64 n) := Bx.at rfl
        have y0 : w_b.cell? ⟨w.heap.size + 1, 0, none⟩ = some (.int .i64 0) := By.at rfl
        have y1 : w_b.cell? ⟨w.heap.size + 1, 1, none⟩ = some (.int .i64 0) := By.at rfl
        have xl := Bx.lt
        have yl := By.lt
        rw [e_b]
        go_wp2
        all_goals (try go_ret)
        all_goals exact ⟨by simp_all <;> omega, by first | exact (((((On.refl w).alloc _).alloc _).trans k_a).trans k_b) | exact ((((On.refl w).alloc _).trans k_a).trans k_b)⟩
      go_enter Tryz.func68, Tryz.ntmps68
      go_wp2_with fail
      refine (roperandOk_is ⟨ar, av⟩ _).mono ?_
      rintro e w_a ⟨rfl, k_a⟩
      have Bx := (Bk.new w #[.int .i64 6, .int .i64 0, .int .i64 0, .int .i64 ar, .int .i64 av, .int .i64 0, .int .i64 br, .int .i64 bv, .int .i64 n] 52).on (((On.refl _).alloc _).trans k_a)
      have By := (Bk.newB2 w _ #[.int .i64 0, .int .i64 0] 50).on k_a
      have x0 : w_a.cell? ⟨w.heap.size, 0, none⟩ = some (.int .i64 6) := Bx.at rfl
      have x1 : w_a.cell? ⟨w.heap.size, 1, none⟩ = some (.int .i64 0) := Bx.at rfl
      have x2 : w_a.cell? ⟨w.heap.size, 2, none⟩ = some (.int .i64 0) := Bx.at rfl
      have x3 : w_a.cell? ⟨w.heap.size, 3, none⟩ = some (.int .i64 ar) := Bx.at rfl
      have x4 : w_a.cell? ⟨w.heap.size, 4, none⟩ = some (.int .i64 av) := Bx.at rfl
      have x5 : w_a.cell? ⟨w.heap.size, 5, none⟩ = some (.int .i64 0) := Bx.at rfl
      have x6 : w_a.cell? ⟨w.heap.size, 6, none⟩ = some (.int .i64 br) := Bx.at rfl
      have x7 : w_a.cell? ⟨w.heap.size, 7, none⟩ = some (.int .i64 bv) := Bx.at rfl
      have x8 : w_a.cell? ⟨w.heap.size, 8, none⟩ = some (.int .i64 n) := Bx.at rfl
      have y0 : w_a.cell? ⟨w.heap.size + 1, 0, none⟩ = some (.int .i64 0) := By.at rfl
      have y1 : w_a.cell? ⟨w.heap.size + 1, 1, none⟩ = some (.int .i64 0) := By.at rfl
      have xl := Bx.lt
      have yl := By.lt
      rw [e_a]
      go_wp2_with fail
      refine (roperandOk_is ⟨br, bv⟩ _).mono ?_
      rintro e w_b ⟨rfl, k_b⟩
      have Bx := Bx.on k_b
      have By := By.on k_b
      have x0 : w_b.cell? ⟨w.heap.size, 0, none⟩ = some (.int .i64 6) := Bx.at rfl
      have x1 : w_b.cell? ⟨w.heap.size, 1, none⟩ = some (.int .i64 0) := Bx.at rfl
      have x2 : w_b.cell? ⟨w.heap.size, 2, none⟩ = some (.int .i64 0) := Bx.at rfl
      have x3 : w_b.cell? ⟨w.heap.size, 3, none⟩ = some (.int .i64 ar) := Bx.at rfl
      have x4 : w_b.cell? ⟨w.heap.size, 4, none⟩ = some (.int .i64 av) := Bx.at rfl
      have x5 : w_b.cell? ⟨w.heap.size, 5, none⟩ = some (.int .i64 0) := Bx.at rfl
      have x6 : w_b.cell? ⟨w.heap.size, 6, none⟩ = some (.int .i64 br) := Bx.at rfl
      have x7 : w_b.cell? ⟨w.heap.size, 7, none⟩ = some (.int .i64 bv) := Bx.at rfl
      have x8 : w_b.cell? ⟨w.heap.size, 8, none⟩ = some (.int .i64 n) := Bx.at rfl
      have y0 : w_b.cell? ⟨w.heap.size + 1, 0, none⟩ = some (.int .i64 0) := By.at rfl
      have y1 : w_b.cell? ⟨w.heap.size + 1, 1, none⟩ = some (.int .i64 0) := By.at rfl
      have xl := Bx.lt
      have yl := By.lt
      rw [e_b]
      go_wp2
      all_goals (try go_ret)
      all_goals exact ⟨by simp_all <;> omega, by first | exact (((((On.refl w).alloc _).alloc _).trans k_a).trans k_b) | exact ((((On.refl w).alloc _).trans k_a).trans k_b)⟩
theorem rok_other (k r l ar av o br bv n : Int) (h1 : (k == 1) = false) (h2 : (k == 2) = false) (h3 : (k == 3) = false) (h4 : (k == 4) = false) (h5 : (k == 5) = false) (h6 : (k == 6) = false) (w : World) :
    Calls Tryz.prog 68 #[.agg #[.int .i64 k, .int .i64 r, .int .i64 l, .int .i64 ar, .int .i64 av, .int .i64 o, .int .i64 br, .int .i64 bv, .int .i64 n]] w fun e w' => e = .returned (.bool false) ∧ On w w' := by
  go_enter Tryz.func68, Tryz.ntmps68
  go_wp2
  all_goals (try go_ret)
  all_goals exact ⟨rfl, by first | exact (((On.refl w).alloc _).alloc _) | exact ((On.refl w).alloc _)⟩
/-- The document's InsOk, for every instruction. -/
theorem rinsOk_is (i : InsT) (w : World) :
    Calls Tryz.prog 68 #[.agg #[.int .i64 i.k, .int .i64 i.r, .int .i64 i.l, .int .i64 i.a.r, .int .i64 i.a.v, .int .i64 i.o, .int .i64 i.b.r, .int .i64 i.b.v, .int .i64 i.n]] w fun e w' => e = .returned (.bool (insOk i)) ∧ On w w' := by
  obtain ⟨k, r, l, ⟨ar, av⟩, o, ⟨br, bv⟩, n⟩ := i
  unfold insOk
  simp only
  cases h1 : (k == 1) with
  | true => obtain rfl : k = 1 := by simpa using h1
            exact rok_store r l ar av o br bv n w
  | false =>
    cases h2 : (k == 2) with
    | true => obtain rfl : k = 2 := by simpa using h2
              exact rok_load r l ar av o br bv n w
    | false =>
      cases h3 : (k == 3) with
      | true => obtain rfl : k = 3 := by simpa using h3
                exact rok_fence r l ar av o br bv n w
      | false =>
        cases h4 : (k == 4) with
        | true => obtain rfl : k = 4 := by simpa using h4
                  exact rok_cas r l ar av o br bv n w
        | false =>
          cases h5 : (k == 5) with
          | true => obtain rfl : k = 5 := by simpa using h5
                    exact rok_set r l ar av o br bv n w
          | false =>
            cases h6 : (k == 6) with
            | true => obtain rfl : k = 6 := by simpa using h6
                      exact rok_skip r l ar av o br bv n w
            | false => exact rok_other k r l ar av o br bv n h1 h2 h3 h4 h5 h6 w
end Go.Proofs.YtacflahkofmcpaaGreatDoor.Wl
