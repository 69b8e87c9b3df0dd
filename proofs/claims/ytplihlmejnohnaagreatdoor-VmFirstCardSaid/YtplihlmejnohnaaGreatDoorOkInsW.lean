/- print.okIns, kind by kind. -/
import Derived.Test.YtplihlmejnohnaaGreatDoorJ08OkIns
namespace Go.Proofs.YtplihlmejnohnaaGreatDoor
open Go.RowKit
set_option linter.unusedSimpArgs false
set_option maxHeartbeats 1000000
set_option maxRecDepth 8000

theorem ok_store (r l ar av o br bv n : Int) (w : World) (hw : Lw w) :
    Calls Tryz.prog 132 #[.agg #[.int .i64 1, .int .i64 r, .int .i64 l, .int .i64 ar, .int .i64 av, .int .i64 o, .int .i64 br, .int .i64 bv, .int .i64 n]] w fun e w' => e = .returned (.bool ((r == 0 && o == 0 && br == 0 && bv == 0 && n == 0) && locOk l && opdOk ⟨ar, av⟩)) ∧ On w w' := by
  have hlw : ∀ w', On w w' → Lw w' := fun w' k => hw.on k
  clear hw
  by_cases h_r : r = 0
  rotate_left
  · have b_r : (r == 0) = false := by simp [h_r]
    simp only [b_r, Bool.false_and, Bool.and_false]
    clear hlw
    go_enter Tryz.func132, Tryz.ntmps132
    go_wp2
    all_goals (try go_ret)
    all_goals exact ⟨rfl, (On.refl w).alloc _⟩
  subst h_r
  by_cases h_o : o = 0
  rotate_left
  · have b_o : (o == 0) = false := by simp [h_o]
    simp only [b_o, Bool.false_and, Bool.and_false]
    clear hlw
    go_enter Tryz.func132, Tryz.ntmps132
    go_wp2
    all_goals (try go_ret)
    all_goals exact ⟨rfl, (On.refl w).alloc _⟩
  subst h_o
  by_cases h_br : br = 0
  rotate_left
  · have b_br : (br == 0) = false := by simp [h_br]
    simp only [b_br, Bool.false_and, Bool.and_false]
    clear hlw
    go_enter Tryz.func132, Tryz.ntmps132
    go_wp2
    all_goals (try go_ret)
    all_goals exact ⟨rfl, (On.refl w).alloc _⟩
  subst h_br
  by_cases h_bv : bv = 0
  rotate_left
  · have b_bv : (bv == 0) = false := by simp [h_bv]
    simp only [b_bv, Bool.false_and, Bool.and_false]
    clear hlw
    go_enter Tryz.func132, Tryz.ntmps132
    go_wp2
    all_goals (try go_ret)
    all_goals exact ⟨rfl, (On.refl w).alloc _⟩
  subst h_bv
  by_cases h_n : n = 0
  rotate_left
  · have b_n : (n == 0) = false := by simp [h_n]
    simp only [b_n, Bool.false_and, Bool.and_false]
    clear hlw
    go_enter Tryz.func132, Tryz.ntmps132
    go_wp2
    all_goals (try go_ret)
    all_goals exact ⟨rfl, (On.refl w).alloc _⟩
  subst h_n
  simp only [beq_self_eq_true, Bool.true_and]
  cases e_loc : locOk l with
  | false =>
    simp only [Bool.and_false, Bool.false_and]
    go_enter Tryz.func132, Tryz.ntmps132
    go_wp2_with fail
    refine (isLocation_is l _).mono ?_
    rintro e w_loc ⟨rfl, hw_loc⟩
    subst hw_loc
    rw [e_loc]
    go_wp2
    all_goals (try go_ret)
    all_goals exact ⟨rfl, ((On.refl w).alloc _)⟩
  | true =>
    cases e_a : opdOk ⟨ar, av⟩ with
    | false =>
      simp only [Bool.and_false, Bool.false_and]
      go_enter Tryz.func132, Tryz.ntmps132
      go_wp2_with fail
      refine (isLocation_is l _).mono ?_
      rintro e w_loc ⟨rfl, hw_loc⟩
      subst hw_loc
      rw [e_loc]
      go_wp2_with fail
      refine (okOperand_is ⟨ar, av⟩ _).mono ?_
      rintro e w_a ⟨rfl, k_a⟩
      rw [e_a]
      go_wp2
      all_goals (try go_ret)
      all_goals exact ⟨rfl, (((On.refl w).alloc _).trans k_a)⟩
    | true =>
      simp only [e_loc, e_a, Bool.and_self, Bool.and_true, Bool.true_and, Bool.and_false, Bool.false_and, decide_true]
      go_enter Tryz.func132, Tryz.ntmps132
      go_wp2_with fail
      refine (isLocation_is l _).mono ?_
      rintro e w_loc ⟨rfl, hw_loc⟩
      subst hw_loc
      rw [e_loc]
      go_wp2_with fail
      refine (okOperand_is ⟨ar, av⟩ _).mono ?_
      rintro e w_a ⟨rfl, k_a⟩
      rw [e_a]
      go_wp2
      all_goals (try go_ret)
      all_goals exact ⟨rfl, (((On.refl w).alloc _).trans k_a)⟩
theorem ok_load (r l ar av o br bv n : Int) (w : World) (hw : Lw w) :
    Calls Tryz.prog 132 #[.agg #[.int .i64 2, .int .i64 r, .int .i64 l, .int .i64 ar, .int .i64 av, .int .i64 o, .int .i64 br, .int .i64 bv, .int .i64 n]] w fun e w' => e = .returned (.bool ((ar == 0 && av == 0 && o == 0 && br == 0 && bv == 0 && n == 0) && regOk r && locOk l)) ∧ On w w' := by
  have hlw : ∀ w', On w w' → Lw w' := fun w' k => hw.on k
  clear hw
  by_cases h_ar : ar = 0
  rotate_left
  · have b_ar : (ar == 0) = false := by simp [h_ar]
    simp only [b_ar, Bool.false_and, Bool.and_false]
    clear hlw
    go_enter Tryz.func132, Tryz.ntmps132
    go_wp2
    all_goals (try go_ret)
    all_goals exact ⟨rfl, (On.refl w).alloc _⟩
  subst h_ar
  by_cases h_av : av = 0
  rotate_left
  · have b_av : (av == 0) = false := by simp [h_av]
    simp only [b_av, Bool.false_and, Bool.and_false]
    clear hlw
    go_enter Tryz.func132, Tryz.ntmps132
    go_wp2
    all_goals (try go_ret)
    all_goals exact ⟨rfl, (On.refl w).alloc _⟩
  subst h_av
  by_cases h_o : o = 0
  rotate_left
  · have b_o : (o == 0) = false := by simp [h_o]
    simp only [b_o, Bool.false_and, Bool.and_false]
    clear hlw
    go_enter Tryz.func132, Tryz.ntmps132
    go_wp2
    all_goals (try go_ret)
    all_goals exact ⟨rfl, (On.refl w).alloc _⟩
  subst h_o
  by_cases h_br : br = 0
  rotate_left
  · have b_br : (br == 0) = false := by simp [h_br]
    simp only [b_br, Bool.false_and, Bool.and_false]
    clear hlw
    go_enter Tryz.func132, Tryz.ntmps132
    go_wp2
    all_goals (try go_ret)
    all_goals exact ⟨rfl, (On.refl w).alloc _⟩
  subst h_br
  by_cases h_bv : bv = 0
  rotate_left
  · have b_bv : (bv == 0) = false := by simp [h_bv]
    simp only [b_bv, Bool.false_and, Bool.and_false]
    clear hlw
    go_enter Tryz.func132, Tryz.ntmps132
    go_wp2
    all_goals (try go_ret)
    all_goals exact ⟨rfl, (On.refl w).alloc _⟩
  subst h_bv
  by_cases h_n : n = 0
  rotate_left
  · have b_n : (n == 0) = false := by simp [h_n]
    simp only [b_n, Bool.false_and, Bool.and_false]
    clear hlw
    go_enter Tryz.func132, Tryz.ntmps132
    go_wp2
    all_goals (try go_ret)
    all_goals exact ⟨rfl, (On.refl w).alloc _⟩
  subst h_n
  simp only [beq_self_eq_true, Bool.true_and]
  cases e_reg : regOk r with
  | false =>
    simp only [Bool.and_false, Bool.false_and]
    go_enter Tryz.func132, Tryz.ntmps132
    go_wp2_with fail
    refine (isRegister_is r _).mono ?_
    rintro e w_reg ⟨rfl, hw_reg⟩
    subst hw_reg
    rw [e_reg]
    go_wp2
    all_goals (try go_ret)
    all_goals exact ⟨rfl, ((On.refl w).alloc _)⟩
  | true =>
    cases e_loc : locOk l with
    | false =>
      simp only [Bool.and_false, Bool.false_and]
      go_enter Tryz.func132, Tryz.ntmps132
      go_wp2_with fail
      refine (isRegister_is r _).mono ?_
      rintro e w_reg ⟨rfl, hw_reg⟩
      subst hw_reg
      rw [e_reg]
      go_wp2_with fail
      refine (isLocation_is l _).mono ?_
      rintro e w_loc ⟨rfl, hw_loc⟩
      subst hw_loc
      rw [e_loc]
      go_wp2
      all_goals (try go_ret)
      all_goals exact ⟨rfl, ((On.refl w).alloc _)⟩
    | true =>
      simp only [e_reg, e_loc, Bool.and_self, Bool.and_true, Bool.true_and, Bool.and_false, Bool.false_and, decide_true]
      go_enter Tryz.func132, Tryz.ntmps132
      go_wp2_with fail
      refine (isRegister_is r _).mono ?_
      rintro e w_reg ⟨rfl, hw_reg⟩
      subst hw_reg
      rw [e_reg]
      go_wp2_with fail
      refine (isLocation_is l _).mono ?_
      rintro e w_loc ⟨rfl, hw_loc⟩
      subst hw_loc
      rw [e_loc]
      go_wp2
      all_goals (try go_ret)
      all_goals exact ⟨rfl, ((On.refl w).alloc _)⟩
theorem ok_fence (r l ar av o br bv n : Int) (w : World) (hw : Lw w) :
    Calls Tryz.prog 132 #[.agg #[.int .i64 3, .int .i64 r, .int .i64 l, .int .i64 ar, .int .i64 av, .int .i64 o, .int .i64 br, .int .i64 bv, .int .i64 n]] w fun e w' => e = .returned (.bool (r == 0 && l == 0 && ar == 0 && av == 0 && o == 0 && br == 0 && bv == 0 && n == 0)) ∧ On w w' := by
  have hlw : ∀ w', On w w' → Lw w' := fun w' k => hw.on k
  clear hw
  by_cases h_r : r = 0
  rotate_left
  · have b_r : (r == 0) = false := by simp [h_r]
    simp only [b_r, Bool.false_and, Bool.and_false]
    clear hlw
    go_enter Tryz.func132, Tryz.ntmps132
    go_wp2
    all_goals (try go_ret)
    all_goals exact ⟨rfl, (On.refl w).alloc _⟩
  subst h_r
  by_cases h_l : l = 0
  rotate_left
  · have b_l : (l == 0) = false := by simp [h_l]
    simp only [b_l, Bool.false_and, Bool.and_false]
    clear hlw
    go_enter Tryz.func132, Tryz.ntmps132
    go_wp2
    all_goals (try go_ret)
    all_goals exact ⟨rfl, (On.refl w).alloc _⟩
  subst h_l
  by_cases h_ar : ar = 0
  rotate_left
  · have b_ar : (ar == 0) = false := by simp [h_ar]
    simp only [b_ar, Bool.false_and, Bool.and_false]
    clear hlw
    go_enter Tryz.func132, Tryz.ntmps132
    go_wp2
    all_goals (try go_ret)
    all_goals exact ⟨rfl, (On.refl w).alloc _⟩
  subst h_ar
  by_cases h_av : av = 0
  rotate_left
  · have b_av : (av == 0) = false := by simp [h_av]
    simp only [b_av, Bool.false_and, Bool.and_false]
    clear hlw
    go_enter Tryz.func132, Tryz.ntmps132
    go_wp2
    all_goals (try go_ret)
    all_goals exact ⟨rfl, (On.refl w).alloc _⟩
  subst h_av
  by_cases h_o : o = 0
  rotate_left
  · have b_o : (o == 0) = false := by simp [h_o]
    simp only [b_o, Bool.false_and, Bool.and_false]
    clear hlw
    go_enter Tryz.func132, Tryz.ntmps132
    go_wp2
    all_goals (try go_ret)
    all_goals exact ⟨rfl, (On.refl w).alloc _⟩
  subst h_o
  by_cases h_br : br = 0
  rotate_left
  · have b_br : (br == 0) = false := by simp [h_br]
    simp only [b_br, Bool.false_and, Bool.and_false]
    clear hlw
    go_enter Tryz.func132, Tryz.ntmps132
    go_wp2
    all_goals (try go_ret)
    all_goals exact ⟨rfl, (On.refl w).alloc _⟩
  subst h_br
  by_cases h_bv : bv = 0
  rotate_left
  · have b_bv : (bv == 0) = false := by simp [h_bv]
    simp only [b_bv, Bool.false_and, Bool.and_false]
    clear hlw
    go_enter Tryz.func132, Tryz.ntmps132
    go_wp2
    all_goals (try go_ret)
    all_goals exact ⟨rfl, (On.refl w).alloc _⟩
  subst h_bv
  by_cases h_n : n = 0
  rotate_left
  · have b_n : (n == 0) = false := by simp [h_n]
    simp only [b_n, Bool.false_and, Bool.and_false]
    clear hlw
    go_enter Tryz.func132, Tryz.ntmps132
    go_wp2
    all_goals (try go_ret)
    all_goals exact ⟨rfl, (On.refl w).alloc _⟩
  subst h_n
  simp only [beq_self_eq_true, Bool.true_and]
  go_enter Tryz.func132, Tryz.ntmps132
  go_wp2
  all_goals (try go_ret)
  all_goals exact ⟨rfl, (On.refl w).alloc _⟩
theorem ok_cas (r l ar av o br bv n : Int) (w : World) (hw : Lw w) :
    Calls Tryz.prog 132 #[.agg #[.int .i64 4, .int .i64 r, .int .i64 l, .int .i64 ar, .int .i64 av, .int .i64 o, .int .i64 br, .int .i64 bv, .int .i64 n]] w fun e w' => e = .returned (.bool ((o == 0 && n == 0) && regOk r && locOk l && opdOk ⟨ar, av⟩ && opdOk ⟨br, bv⟩)) ∧ On w w' := by
  have hlw : ∀ w', On w w' → Lw w' := fun w' k => hw.on k
  clear hw
  by_cases h_o : o = 0
  rotate_left
  · have b_o : (o == 0) = false := by simp [h_o]
    simp only [b_o, Bool.false_and, Bool.and_false]
    clear hlw
    go_enter Tryz.func132, Tryz.ntmps132
    go_wp2
    all_goals (try go_ret)
    all_goals exact ⟨rfl, (On.refl w).alloc _⟩
  subst h_o
  by_cases h_n : n = 0
  rotate_left
  · have b_n : (n == 0) = false := by simp [h_n]
    simp only [b_n, Bool.false_and, Bool.and_false]
    clear hlw
    go_enter Tryz.func132, Tryz.ntmps132
    go_wp2
    all_goals (try go_ret)
    all_goals exact ⟨rfl, (On.refl w).alloc _⟩
  subst h_n
  simp only [beq_self_eq_true, Bool.true_and]
  cases e_reg : regOk r with
  | false =>
    simp only [Bool.and_false, Bool.false_and]
    go_enter Tryz.func132, Tryz.ntmps132
    go_wp2_with fail
    refine (isRegister_is r _).mono ?_
    rintro e w_reg ⟨rfl, hw_reg⟩
    subst hw_reg
    rw [e_reg]
    go_wp2
    all_goals (try go_ret)
    all_goals exact ⟨rfl, ((On.refl w).alloc _)⟩
  | true =>
    cases e_loc : locOk l with
    | false =>
      simp only [Bool.and_false, Bool.false_and]
      go_enter Tryz.func132, Tryz.ntmps132
      go_wp2_with fail
      refine (isRegister_is r _).mono ?_
      rintro e w_reg ⟨rfl, hw_reg⟩
      subst hw_reg
      rw [e_reg]
      go_wp2_with fail
      refine (isLocation_is l _).mono ?_
      rintro e w_loc ⟨rfl, hw_loc⟩
      subst hw_loc
      rw [e_loc]
      go_wp2
      all_goals (try go_ret)
      all_goals exact ⟨rfl, ((On.refl w).alloc _)⟩
    | true =>
      cases e_a : opdOk ⟨ar, av⟩ with
      | false =>
        simp only [Bool.and_false, Bool.false_and]
        go_enter Tryz.func132, Tryz.ntmps132
        go_wp2_with fail
        refine (isRegister_is r _).mono ?_
        rintro e w_reg ⟨rfl, hw_reg⟩
        subst hw_reg
        rw [e_reg]
        go_wp2_with fail
        refine (isLocation_is l _).mono ?_
        rintro e w_loc ⟨rfl, hw_loc⟩
        subst hw_loc
        rw [e_loc]
        go_wp2_with fail
        refine (okOperand_is ⟨ar, av⟩ _).mono ?_
        rintro e w_a ⟨rfl, k_a⟩
        have Bx := (Bk.new w #[.int .i64 4, .int .i64 r, .int .i64 l, .int .i64 ar, .int .i64 av, .int .i64 0, .int .i64 br, .int .i64 bv, .int .i64 0] 107).on k_a
        have x0 : w_a.cell? ⟨w.heap.size, 0, none⟩ = some (.int .i64 4) := Bx.at rfl
        have x1 : w_a.cell? ⟨w.heap.size, 1, none⟩ = some (.int .i64 r) := Bx.at rfl
        have x2 : w_a.cell? ⟨w.heap.size, 2, none⟩ = some (.int .i64 l) := Bx.at rfl
        have x3 : w_a.cell? ⟨w.heap.size, 3, none⟩ = some (.int .i64 ar) := Bx.at rfl
        have x4 : w_a.cell? ⟨w.heap.size, 4, none⟩ = some (.int .i64 av) := Bx.at rfl
        have x5 : w_a.cell? ⟨w.heap.size, 5, none⟩ = some (.int .i64 0) := Bx.at rfl
        have x6 : w_a.cell? ⟨w.heap.size, 6, none⟩ = some (.int .i64 br) := Bx.at rfl
        have x7 : w_a.cell? ⟨w.heap.size, 7, none⟩ = some (.int .i64 bv) := Bx.at rfl
        have x8 : w_a.cell? ⟨w.heap.size, 8, none⟩ = some (.int .i64 0) := Bx.at rfl
        have xl := Bx.lt
        rw [e_a]
        go_wp2
        all_goals (try go_ret)
        all_goals exact ⟨rfl, (((On.refl w).alloc _).trans k_a)⟩
      | true =>
        cases e_b : opdOk ⟨br, bv⟩ with
        | false =>
          simp only [Bool.and_false, Bool.false_and]
          go_enter Tryz.func132, Tryz.ntmps132
          go_wp2_with fail
          refine (isRegister_is r _).mono ?_
          rintro e w_reg ⟨rfl, hw_reg⟩
          subst hw_reg
          rw [e_reg]
          go_wp2_with fail
          refine (isLocation_is l _).mono ?_
          rintro e w_loc ⟨rfl, hw_loc⟩
          subst hw_loc
          rw [e_loc]
          go_wp2_with fail
          refine (okOperand_is ⟨ar, av⟩ _).mono ?_
          rintro e w_a ⟨rfl, k_a⟩
          have Bx := (Bk.new w #[.int .i64 4, .int .i64 r, .int .i64 l, .int .i64 ar, .int .i64 av, .int .i64 0, .int .i64 br, .int .i64 bv, .int .i64 0] 107).on k_a
          have x0 : w_a.cell? ⟨w.heap.size, 0, none⟩ = some (.int .i64 4) := Bx.at rfl
          have x1 : w_a.cell? ⟨w.heap.size, 1, none⟩ = some (.int .i64 r) := Bx.at rfl
          have x2 : w_a.cell? ⟨w.heap.size, 2, none⟩ = some (.int .i64 l) := Bx.at rfl
          have x3 : w_a.cell? ⟨w.heap.size, 3, none⟩ = some (.int .i64 ar) := Bx.at rfl
          have x4 : w_a.cell? ⟨w.heap.size, 4, none⟩ = some (.int .i64 av) := Bx.at rfl
          have x5 : w_a.cell? ⟨w.heap.size, 5, none⟩ = some (.int .i64 0) := Bx.at rfl
          have x6 : w_a.cell? ⟨w.heap.size, 6, none⟩ = some (.int .i64 br) := Bx.at rfl
          have x7 : w_a.cell? ⟨w.heap.size, 7, none⟩ = some (.int .i64 bv) := Bx.at rfl
          have x8 : w_a.cell? ⟨w.heap.size, 8, none⟩ = some (.int .i64 0) := Bx.at rfl
          have xl := Bx.lt
          rw [e_a]
          go_wp2_with fail
          refine (okOperand_is ⟨br, bv⟩ _).mono ?_
          rintro e w_b ⟨rfl, k_b⟩
          rw [e_b]
          go_wp2
          all_goals (try go_ret)
          all_goals exact ⟨rfl, ((((On.refl w).alloc _).trans k_a).trans k_b)⟩
        | true =>
          simp only [e_reg, e_loc, e_a, e_b, Bool.and_self, Bool.and_true, Bool.true_and, Bool.and_false, Bool.false_and, decide_true]
          go_enter Tryz.func132, Tryz.ntmps132
          go_wp2_with fail
          refine (isRegister_is r _).mono ?_
          rintro e w_reg ⟨rfl, hw_reg⟩
          subst hw_reg
          rw [e_reg]
          go_wp2_with fail
          refine (isLocation_is l _).mono ?_
          rintro e w_loc ⟨rfl, hw_loc⟩
          subst hw_loc
          rw [e_loc]
          go_wp2_with fail
          refine (okOperand_is ⟨ar, av⟩ _).mono ?_
          rintro e w_a ⟨rfl, k_a⟩
          have Bx := (Bk.new w #[.int .i64 4, .int .i64 r, .int .i64 l, .int .i64 ar, .int .i64 av, .int .i64 0, .int .i64 br, .int .i64 bv, .int .i64 0] 107).on k_a
          have x0 : w_a.cell? ⟨w.heap.size, 0, none⟩ = some (.int .i64 4) := Bx.at rfl
          have x1 : w_a.cell? ⟨w.heap.size, 1, none⟩ = some (.int .i64 r) := Bx.at rfl
          have x2 : w_a.cell? ⟨w.heap.size, 2, none⟩ = some (.int .i64 l) := Bx.at rfl
          have x3 : w_a.cell? ⟨w.heap.size, 3, none⟩ = some (.int .i64 ar) := Bx.at rfl
          have x4 : w_a.cell? ⟨w.heap.size, 4, none⟩ = some (.int .i64 av) := Bx.at rfl
          have x5 : w_a.cell? ⟨w.heap.size, 5, none⟩ = some (.int .i64 0) := Bx.at rfl
          have x6 : w_a.cell? ⟨w.heap.size, 6, none⟩ = some (.int .i64 br) := Bx.at rfl
          have x7 : w_a.cell? ⟨w.heap.size, 7, none⟩ = some (.int .i64 bv) := Bx.at rfl
          have x8 : w_a.cell? ⟨w.heap.size, 8, none⟩ = some (.int .i64 0) := Bx.at rfl
          have xl := Bx.lt
          rw [e_a]
          go_wp2_with fail
          refine (okOperand_is ⟨br, bv⟩ _).mono ?_
          rintro e w_b ⟨rfl, k_b⟩
          rw [e_b]
          go_wp2
          all_goals (try go_ret)
          all_goals exact ⟨rfl, ((((On.refl w).alloc _).trans k_a).trans k_b)⟩
theorem ok_set (r l ar av o br bv n : Int) (w : World) (hw : Lw w) :
    Calls Tryz.prog 132 #[.agg #[.int .i64 5, .int .i64 r, .int .i64 l, .int .i64 ar, .int .i64 av, .int .i64 o, .int .i64 br, .int .i64 bv, .int .i64 n]] w fun e w' => e = .returned (.bool ((l == 0 && n == 0) && regOk r && opdOk ⟨ar, av⟩ && secOk o ⟨br, bv⟩)) ∧ On w w' := by
  have hlw : ∀ w', On w w' → Lw w' := fun w' k => hw.on k
  clear hw
  by_cases h_l : l = 0
  rotate_left
  · have b_l : (l == 0) = false := by simp [h_l]
    simp only [b_l, Bool.false_and, Bool.and_false]
    clear hlw
    go_enter Tryz.func132, Tryz.ntmps132
    go_wp2
    all_goals (try go_ret)
    all_goals exact ⟨rfl, (On.refl w).alloc _⟩
  subst h_l
  by_cases h_n : n = 0
  rotate_left
  · have b_n : (n == 0) = false := by simp [h_n]
    simp only [b_n, Bool.false_and, Bool.and_false]
    clear hlw
    go_enter Tryz.func132, Tryz.ntmps132
    go_wp2
    all_goals (try go_ret)
    all_goals exact ⟨rfl, (On.refl w).alloc _⟩
  subst h_n
  simp only [beq_self_eq_true, Bool.true_and]
  cases e_reg : regOk r with
  | false =>
    simp only [Bool.and_false, Bool.false_and]
    go_enter Tryz.func132, Tryz.ntmps132
    go_wp2_with fail
    refine (isRegister_is r _).mono ?_
    rintro e w_reg ⟨rfl, hw_reg⟩
    subst hw_reg
    rw [e_reg]
    go_wp2
    all_goals (try go_ret)
    all_goals exact ⟨rfl, ((On.refl w).alloc _)⟩
  | true =>
    cases e_a : opdOk ⟨ar, av⟩ with
    | false =>
      simp only [Bool.and_false, Bool.false_and]
      go_enter Tryz.func132, Tryz.ntmps132
      go_wp2_with fail
      refine (isRegister_is r _).mono ?_
      rintro e w_reg ⟨rfl, hw_reg⟩
      subst hw_reg
      rw [e_reg]
      go_wp2_with fail
      refine (okOperand_is ⟨ar, av⟩ _).mono ?_
      rintro e w_a ⟨rfl, k_a⟩
      have Bx := (Bk.new w #[.int .i64 5, .int .i64 r, .int .i64 0, .int .i64 ar, .int .i64 av, .int .i64 o, .int .i64 br, .int .i64 bv, .int .i64 0] 107).on k_a
      have x0 : w_a.cell? ⟨w.heap.size, 0, none⟩ = some (.int .i64 5) := Bx.at rfl
      have x1 : w_a.cell? ⟨w.heap.size, 1, none⟩ = some (.int .i64 r) := Bx.at rfl
      have x2 : w_a.cell? ⟨w.heap.size, 2, none⟩ = some (.int .i64 0) := Bx.at rfl
      have x3 : w_a.cell? ⟨w.heap.size, 3, none⟩ = some (.int .i64 ar) := Bx.at rfl
      have x4 : w_a.cell? ⟨w.heap.size, 4, none⟩ = some (.int .i64 av) := Bx.at rfl
      have x5 : w_a.cell? ⟨w.heap.size, 5, none⟩ = some (.int .i64 o) := Bx.at rfl
      have x6 : w_a.cell? ⟨w.heap.size, 6, none⟩ = some (.int .i64 br) := Bx.at rfl
      have x7 : w_a.cell? ⟨w.heap.size, 7, none⟩ = some (.int .i64 bv) := Bx.at rfl
      have x8 : w_a.cell? ⟨w.heap.size, 8, none⟩ = some (.int .i64 0) := Bx.at rfl
      have xl := Bx.lt
      rw [e_a]
      go_wp2
      all_goals (try go_ret)
      all_goals exact ⟨rfl, (((On.refl w).alloc _).trans k_a)⟩
    | true =>
      cases e_sec : secOk o ⟨br, bv⟩ with
      | false =>
        simp only [Bool.and_false, Bool.false_and]
        go_enter Tryz.func132, Tryz.ntmps132
        go_wp2_with fail
        refine (isRegister_is r _).mono ?_
        rintro e w_reg ⟨rfl, hw_reg⟩
        subst hw_reg
        rw [e_reg]
        go_wp2_with fail
        refine (okOperand_is ⟨ar, av⟩ _).mono ?_
        rintro e w_a ⟨rfl, k_a⟩
        have Bx := (Bk.new w #[.int .i64 5, .int .i64 r, .int .i64 0, .int .i64 ar, .int .i64 av, .int .i64 o, .int .i64 br, .int .i64 bv, .int .i64 0] 107).on k_a
        have x0 : w_a.cell? ⟨w.heap.size, 0, none⟩ = some (.int .i64 5) := Bx.at rfl
        have x1 : w_a.cell? ⟨w.heap.size, 1, none⟩ = some (.int .i64 r) := Bx.at rfl
        have x2 : w_a.cell? ⟨w.heap.size, 2, none⟩ = some (.int .i64 0) := Bx.at rfl
        have x3 : w_a.cell? ⟨w.heap.size, 3, none⟩ = some (.int .i64 ar) := Bx.at rfl
        have x4 : w_a.cell? ⟨w.heap.size, 4, none⟩ = some (.int .i64 av) := Bx.at rfl
        have x5 : w_a.cell? ⟨w.heap.size, 5, none⟩ = some (.int .i64 o) := Bx.at rfl
        have x6 : w_a.cell? ⟨w.heap.size, 6, none⟩ = some (.int .i64 br) := Bx.at rfl
        have x7 : w_a.cell? ⟨w.heap.size, 7, none⟩ = some (.int .i64 bv) := Bx.at rfl
        have x8 : w_a.cell? ⟨w.heap.size, 8, none⟩ = some (.int .i64 0) := Bx.at rfl
        have xl := Bx.lt
        rw [e_a]
        go_wp2_with fail
        refine (okSecond_is o ⟨br, bv⟩ _ (hlw _ (((On.refl w).alloc _).trans k_a))).mono ?_
        rintro e w_sec ⟨rfl, k_sec⟩
        rw [e_sec]
        go_wp2
        all_goals (try go_ret)
        all_goals exact ⟨rfl, ((((On.refl w).alloc _).trans k_a).trans k_sec)⟩
      | true =>
        simp only [e_reg, e_a, e_sec, Bool.and_self, Bool.and_true, Bool.true_and, Bool.and_false, Bool.false_and, decide_true]
        go_enter Tryz.func132, Tryz.ntmps132
        go_wp2_with fail
        refine (isRegister_is r _).mono ?_
        rintro e w_reg ⟨rfl, hw_reg⟩
        subst hw_reg
        rw [e_reg]
        go_wp2_with fail
        refine (okOperand_is ⟨ar, av⟩ _).mono ?_
        rintro e w_a ⟨rfl, k_a⟩
        have Bx := (Bk.new w #[.int .i64 5, .int .i64 r, .int .i64 0, .int .i64 ar, .int .i64 av, .int .i64 o, .int .i64 br, .int .i64 bv, .int .i64 0] 107).on k_a
        have x0 : w_a.cell? ⟨w.heap.size, 0, none⟩ = some (.int .i64 5) := Bx.at rfl
        have x1 : w_a.cell? ⟨w.heap.size, 1, none⟩ = some (.int .i64 r) := Bx.at rfl
        have x2 : w_a.cell? ⟨w.heap.size, 2, none⟩ = some (.int .i64 0) := Bx.at rfl
        have x3 : w_a.cell? ⟨w.heap.size, 3, none⟩ = some (.int .i64 ar) := Bx.at rfl
        have x4 : w_a.cell? ⟨w.heap.size, 4, none⟩ = some (.int .i64 av) := Bx.at rfl
        have x5 : w_a.cell? ⟨w.heap.size, 5, none⟩ = some (.int .i64 o) := Bx.at rfl
        have x6 : w_a.cell? ⟨w.heap.size, 6, none⟩ = some (.int .i64 br) := Bx.at rfl
        have x7 : w_a.cell? ⟨w.heap.size, 7, none⟩ = some (.int .i64 bv) := Bx.at rfl
        have x8 : w_a.cell? ⟨w.heap.size, 8, none⟩ = some (.int .i64 0) := Bx.at rfl
        have xl := Bx.lt
        rw [e_a]
        go_wp2_with fail
        refine (okSecond_is o ⟨br, bv⟩ _ (hlw _ (((On.refl w).alloc _).trans k_a))).mono ?_
        rintro e w_sec ⟨rfl, k_sec⟩
        rw [e_sec]
        go_wp2
        all_goals (try go_ret)
        all_goals exact ⟨rfl, ((((On.refl w).alloc _).trans k_a).trans k_sec)⟩
theorem ok_skip (r l ar av o br bv n : Int) (w : World) (hw : Lw w) :
    Calls Tryz.prog 132 #[.agg #[.int .i64 6, .int .i64 r, .int .i64 l, .int .i64 ar, .int .i64 av, .int .i64 o, .int .i64 br, .int .i64 bv, .int .i64 n]] w fun e w' => e = .returned (.bool ((r == 0 && l == 0 && o == 0) && decide (0 ≤ n) && opdOk ⟨ar, av⟩ && opdOk ⟨br, bv⟩)) ∧ On w w' := by
  have hlw : ∀ w', On w w' → Lw w' := fun w' k => hw.on k
  clear hw
  by_cases h_r : r = 0
  rotate_left
  · have b_r : (r == 0) = false := by simp [h_r]
    simp only [b_r, Bool.false_and, Bool.and_false]
    clear hlw
    go_enter Tryz.func132, Tryz.ntmps132
    go_wp2
    all_goals (try go_ret)
    all_goals exact ⟨rfl, (On.refl w).alloc _⟩
  subst h_r
  by_cases h_l : l = 0
  rotate_left
  · have b_l : (l == 0) = false := by simp [h_l]
    simp only [b_l, Bool.false_and, Bool.and_false]
    clear hlw
    go_enter Tryz.func132, Tryz.ntmps132
    go_wp2
    all_goals (try go_ret)
    all_goals exact ⟨rfl, (On.refl w).alloc _⟩
  subst h_l
  by_cases h_o : o = 0
  rotate_left
  · have b_o : (o == 0) = false := by simp [h_o]
    simp only [b_o, Bool.false_and, Bool.and_false]
    clear hlw
    go_enter Tryz.func132, Tryz.ntmps132
    go_wp2
    all_goals (try go_ret)
    all_goals exact ⟨rfl, (On.refl w).alloc _⟩
  subst h_o
  simp only [beq_self_eq_true, Bool.true_and]
  by_cases h_ge : 0 ≤ n
  rotate_left
  · have d_ge : decide (0 ≤ n) = false := by simp; omega
    simp only [d_ge, Bool.false_and, Bool.and_false]
    clear hlw d_ge
    go_enter Tryz.func132, Tryz.ntmps132
    go_wp2
    all_goals (try go_ret)
    all_goals exact ⟨rfl, (On.refl w).alloc _⟩
  have d_ge : decide (0 ≤ n) = true := by simp; omega
  simp only [d_ge, Bool.true_and]
  clear d_ge
  cases e_a : opdOk ⟨ar, av⟩ with
  | false =>
    simp only [Bool.and_false, Bool.false_and]
    go_enter Tryz.func132, Tryz.ntmps132
    go_wp2_with fail
    refine (okOperand_is ⟨ar, av⟩ _).mono ?_
    rintro e w_a ⟨rfl, k_a⟩
    have Bx := (Bk.new w #[.int .i64 6, .int .i64 0, .int .i64 0, .int .i64 ar, .int .i64 av, .int .i64 0, .int .i64 br, .int .i64 bv, .int .i64 n] 107).on k_a
    have x0 : w_a.cell? ⟨w.heap.size, 0, none⟩ = some (.int .i64 6) := Bx.at rfl
    have x1 : w_a.cell? ⟨w.heap.size, 1, none⟩ = some (.int .i64 0) := Bx.at rfl
    have x2 : w_a.cell? ⟨w.heap.size, 2, none⟩ = some (.int .i64 0) := Bx.at rfl
    have x3 : w_a.cell? ⟨w.heap.size, 3, none⟩ = some (.int .i64 ar) := Bx.at rfl
    have x4 : w_a.cell? ⟨w.heap.size, 4, none⟩ = some (.int .i64 av) := Bx.at rfl
    have x5 : w_a.cell? ⟨w.heap.size, 5, none⟩ = some (.int .i64 0) := Bx.at rfl
    have x6 : w_a.cell? ⟨w.heap.size, 6, none⟩ = some (.int .i64 br) := Bx.at rfl
    have x7 : w_a.cell? ⟨w.heap.size, 7, none⟩ = some (.int .i64 bv) := Bx.at rfl
    have x8 : w_a.cell? ⟨w.heap.size, 8, none⟩ = some (.int .i64 n) := Bx.at rfl
    have xl := Bx.lt
    rw [e_a]
    go_wp2
    all_goals (try go_ret)
    all_goals exact ⟨rfl, (((On.refl w).alloc _).trans k_a)⟩
  | true =>
    cases e_b : opdOk ⟨br, bv⟩ with
    | false =>
      simp only [Bool.and_false, Bool.false_and]
      go_enter Tryz.func132, Tryz.ntmps132
      go_wp2_with fail
      refine (okOperand_is ⟨ar, av⟩ _).mono ?_
      rintro e w_a ⟨rfl, k_a⟩
      have Bx := (Bk.new w #[.int .i64 6, .int .i64 0, .int .i64 0, .int .i64 ar, .int .i64 av, .int .i64 0, .int .i64 br, .int .i64 bv, .int .i64 n] 107).on k_a
      have x0 : w_a.cell? ⟨w.heap.size, 0, none⟩ = some (.int .i64 6) := Bx.at rfl
      have x1 : w_a.cell? ⟨w.heap.size, 1, none⟩ = some (.int .i64 0) := Bx.at rfl
      have x2 : w_a.cell? ⟨w.heap.size, 2, none⟩ = some (.int .i64 0) := Bx.at rfl
      have x3 : w_a.cell? ⟨w.heap.size, 3, none⟩ = some (.int .i64 ar) := Bx.at rfl
      have x4 : w_a.cell? ⟨w.heap.size, 4, none⟩ = some (.int .i64 av) := Bx.at rfl
      have x5 : w_a.cell? ⟨w.heap.size, 5, none⟩ = some (.int .i64 0) := Bx.at rfl
      have x6 : w_a.cell? ⟨w.heap.size, 6, none⟩ = some (.int .i64 br) := Bx.at rfl
      have x7 : w_a.cell? ⟨w.heap.size, 7, none⟩ = some (.int .i64 bv) := Bx.at rfl
      have x8 : w_a.cell? ⟨w.heap.size, 8, none⟩ = some (.int .i64 n) := Bx.at rfl
      have xl := Bx.lt
      rw [e_a]
      go_wp2_with fail
      refine (okOperand_is ⟨br, bv⟩ _).mono ?_
      rintro e w_b ⟨rfl, k_b⟩
      rw [e_b]
      go_wp2
      all_goals (try go_ret)
      all_goals exact ⟨rfl, ((((On.refl w).alloc _).trans k_a).trans k_b)⟩
    | true =>
      simp only [e_a, e_b, Bool.and_self, Bool.and_true, Bool.true_and, Bool.and_false, Bool.false_and, decide_true]
      go_enter Tryz.func132, Tryz.ntmps132
      go_wp2_with fail
      refine (okOperand_is ⟨ar, av⟩ _).mono ?_
      rintro e w_a ⟨rfl, k_a⟩
      have Bx := (Bk.new w #[.int .i64 6, .int .i64 0, .int .i64 0, .int .i64 ar, .int .i64 av, .int .i64 0, .int .i64 br, .int .i64 bv, .int .i64 n] 107).on k_a
      have x0 : w_a.cell? ⟨w.heap.size, 0, none⟩ = some (.int .i64 6) := Bx.at rfl
      have x1 : w_a.cell? ⟨w.heap.size, 1, none⟩ = some (.int .i64 0) := Bx.at rfl
      have x2 : w_a.cell? ⟨w.heap.size, 2, none⟩ = some (.int .i64 0) := Bx.at rfl
      have x3 : w_a.cell? ⟨w.heap.size, 3, none⟩ = some (.int .i64 ar) := Bx.at rfl
      have x4 : w_a.cell? ⟨w.heap.size, 4, none⟩ = some (.int .i64 av) := Bx.at rfl
      have x5 : w_a.cell? ⟨w.heap.size, 5, none⟩ = some (.int .i64 0) := Bx.at rfl
      have x6 : w_a.cell? ⟨w.heap.size, 6, none⟩ = some (.int .i64 br) := Bx.at rfl
      have x7 : w_a.cell? ⟨w.heap.size, 7, none⟩ = some (.int .i64 bv) := Bx.at rfl
      have x8 : w_a.cell? ⟨w.heap.size, 8, none⟩ = some (.int .i64 n) := Bx.at rfl
      have xl := Bx.lt
      rw [e_a]
      go_wp2_with fail
      refine (okOperand_is ⟨br, bv⟩ _).mono ?_
      rintro e w_b ⟨rfl, k_b⟩
      rw [e_b]
      go_wp2
      all_goals (try go_ret)
      all_goals exact ⟨rfl, ((((On.refl w).alloc _).trans k_a).trans k_b)⟩
theorem ok_other (k r l ar av o br bv n : Int) (h1 : (k == 1) = false) (h2 : (k == 2) = false) (h3 : (k == 3) = false) (h4 : (k == 4) = false) (h5 : (k == 5) = false) (h6 : (k == 6) = false) (w : World) :
    Calls Tryz.prog 132 #[.agg #[.int .i64 k, .int .i64 r, .int .i64 l, .int .i64 ar, .int .i64 av, .int .i64 o, .int .i64 br, .int .i64 bv, .int .i64 n]] w fun e w' => e = .returned (.bool false) ∧ On w w' := by
  go_enter Tryz.func132, Tryz.ntmps132
  go_wp2
  all_goals (try go_ret)
  all_goals exact ⟨rfl, (On.refl w).alloc _⟩
/-- okIns, for every instruction. -/
theorem okIns_is (i : InsT) (w : World) (hw : Lw w) :
    Calls Tryz.prog 132 #[.agg #[.int .i64 i.k, .int .i64 i.r, .int .i64 i.l, .int .i64 i.a.r, .int .i64 i.a.v, .int .i64 i.o, .int .i64 i.b.r, .int .i64 i.b.v, .int .i64 i.n]] w fun e w' => e = .returned (.bool (insOk i)) ∧ On w w' := by
  obtain ⟨k, r, l, ⟨ar, av⟩, o, ⟨br, bv⟩, n⟩ := i
  unfold insOk
  simp only
  cases h1 : (k == 1) with
  | true => obtain rfl : k = 1 := by simpa using h1
            exact ok_store r l ar av o br bv n w hw
  | false =>
    cases h2 : (k == 2) with
    | true => obtain rfl : k = 2 := by simpa using h2
              exact ok_load r l ar av o br bv n w hw
    | false =>
      cases h3 : (k == 3) with
      | true => obtain rfl : k = 3 := by simpa using h3
                exact ok_fence r l ar av o br bv n w hw
      | false =>
        cases h4 : (k == 4) with
        | true => obtain rfl : k = 4 := by simpa using h4
                  exact ok_cas r l ar av o br bv n w hw
        | false =>
          cases h5 : (k == 5) with
          | true => obtain rfl : k = 5 := by simpa using h5
                    exact ok_set r l ar av o br bv n w hw
          | false =>
            cases h6 : (k == 6) with
            | true => obtain rfl : k = 6 := by simpa using h6
                      exact ok_skip r l ar av o br bv n w hw
            | false => exact ok_other k r l ar av o br bv n h1 h2 h3 h4 h5 h6 w
end Go.Proofs.YtplihlmejnohnaaGreatDoor
