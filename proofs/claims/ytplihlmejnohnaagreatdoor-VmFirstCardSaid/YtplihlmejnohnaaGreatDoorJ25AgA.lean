/- The leaves of package event, and the document's: who reads, writes, fences; what an instruction does. -/
import Derived.Test.YtplihlmejnohnaaGreatDoorJ24RVal
import Derived.Test.YtplihlmejnohnaaGreatDoorJ21RLocs
import Derived.Test.YtplihlmejnohnaaGreatDoorJ22CompOk
import Derived.Test.YtplihlmejnohnaaGreatDoorJ17SmallB
namespace Go.Proofs.YtplihlmejnohnaaGreatDoor
open Go.RowKit

set_option maxHeartbeats 2000000 in
theorem revent_is (x : InsT) (l0 : LocT) (v : Int) (w : World) : Calls Tryz.prog 49 #[insV x, locV l0, .int .i64 v] w fun e w' => e = .returned (evV (doneP x l0 v)) ∧ On w w' := by
  obtain ⟨k, r, l, ⟨ar, av⟩, o, ⟨br, bv⟩, n⟩ := x
  obtain ⟨pc, r0, r1, r2, r3⟩ := l0
  have hV := fun (o : Opd) (W : World) => rvalue_is o ⟨pc, r0, r1, r2, r3⟩ W
  have k0 : ∀ A B C, On w (((w.alloc A).alloc B).alloc C) := fun A B C => (((On.refl w).alloc A).alloc B).alloc C
  have bi : ∀ cs T B C, Bk (((w.alloc (.cells cs T)).alloc B).alloc C) w.heap.size cs := fun cs T B C => ((Bk.new w cs T).alloc B).alloc C
  have bl : ∀ A cs T C, Bk (((w.alloc A).alloc (.cells cs T)).alloc C) (w.heap.size + 1) cs := fun A cs T C => by have := (Bk.new (w.alloc A) cs T).alloc C; rwa [World.size_alloc] at this
  have br' : ∀ A B cs T, Bk (((w.alloc A).alloc B).alloc (.cells cs T)) (w.heap.size + 1 + 1) cs := fun A B cs T => by have := Bk.new ((w.alloc A).alloc B) cs T; rwa [World.size_alloc, World.size_alloc] at this
  unfold doneP insV locV evV
  simp only
  have hkS : ∀ W, Bk W w.heap.size #[.int .i64 k, .int .i64 r, .int .i64 l, .int .i64 ar, .int .i64 av, .int .i64 o, .int .i64 br, .int .i64 bv, .int .i64 n] → Bk W (w.heap.size + 1) #[.int .i64 pc, .int .i64 r0, .int .i64 r1, .int .i64 r2, .int .i64 r3] → (fun W => W.cell? ⟨w.heap.size, 0, none⟩ = some (.int .i64 k) ∧ W.cell? ⟨w.heap.size, 1, none⟩ = some (.int .i64 r) ∧ W.cell? ⟨w.heap.size, 2, none⟩ = some (.int .i64 l) ∧ W.cell? ⟨w.heap.size, 3, none⟩ = some (.int .i64 ar) ∧ W.cell? ⟨w.heap.size, 4, none⟩ = some (.int .i64 av) ∧ W.cell? ⟨w.heap.size, 5, none⟩ = some (.int .i64 o) ∧ W.cell? ⟨w.heap.size, 6, none⟩ = some (.int .i64 br) ∧ W.cell? ⟨w.heap.size, 7, none⟩ = some (.int .i64 bv) ∧ W.cell? ⟨w.heap.size, 8, none⟩ = some (.int .i64 n) ∧ W.cell? ⟨w.heap.size + 1, 0, none⟩ = some (.int .i64 pc) ∧ W.cell? ⟨w.heap.size + 1, 1, none⟩ = some (.int .i64 r0) ∧ W.cell? ⟨w.heap.size + 1, 2, none⟩ = some (.int .i64 r1) ∧ W.cell? ⟨w.heap.size + 1, 3, none⟩ = some (.int .i64 r2) ∧ W.cell? ⟨w.heap.size + 1, 4, none⟩ = some (.int .i64 r3)) W := fun W a b => ⟨a.at (i := 0) rfl, a.at (i := 1) rfl, a.at (i := 2) rfl, a.at (i := 3) rfl, a.at (i := 4) rfl, a.at (i := 5) rfl, a.at (i := 6) rfl, a.at (i := 7) rfl, a.at (i := 8) rfl, b.at (i := 0) rfl, b.at (i := 1) rfl, b.at (i := 2) rfl, b.at (i := 3) rfl, b.at (i := 4) rfl⟩
  have ne2 : ¬ w.heap.size = w.heap.size + 1 + 1 := by omega
  obtain ⟨w1, hW0⟩ : ∃ w1, w1 = ((w.alloc (.cells #[.int .i64 k, .int .i64 r, .int .i64 l, .int .i64 ar, .int .i64 av, .int .i64 o, .int .i64 br, .int .i64 bv, .int .i64 n] 107)).alloc (.cells #[.int .i64 pc, .int .i64 r0, .int .i64 r1, .int .i64 r2, .int .i64 r3] 73)).alloc (.cells #[.int .i64 0, .int .i64 0, .int .i64 0, .int .i64 0, .int .i64 0, .int .i64 0] 111) := ⟨_, rfl⟩
  have K1 : On w w1 := by rw [hW0]; exact k0 _ _ _
  have I1 : Bk w1 w.heap.size #[.int .i64 k, .int .i64 r, .int .i64 l, .int .i64 ar, .int .i64 av, .int .i64 o, .int .i64 br, .int .i64 bv, .int .i64 n] := by rw [hW0]; exact bi _ _ _ _
  have L1 : Bk w1 (w.heap.size + 1) #[.int .i64 pc, .int .i64 r0, .int .i64 r1, .int .i64 r2, .int .i64 r3] := by rw [hW0]; exact bl _ _ _ _
  have R1 : Bk w1 (w.heap.size + 1 + 1) #[.int .i64 0, .int .i64 0, .int .i64 0, .int .i64 0, .int .i64 0, .int .i64 0] := by rw [hW0]; exact br' _ _ _ _
  unfold swapP
  simp only
  have hVa := fun W => hV ⟨ar, av⟩ W
  have hVb := fun W => hV ⟨br, bv⟩ W
  generalize valOf ⟨ar, av⟩ ⟨pc, r0, r1, r2, r3⟩ = VA at *
  generalize valOf ⟨br, bv⟩ ⟨pc, r0, r1, r2, r3⟩ = VB at *
  unfold locV at hVa hVb
  clear hV bi bl br' k0
  cases h2 : (k == 2) with
  | true =>
    have h1 : (k == 1) = false := by simp at h2 ⊢; omega
    have rr0 := R1.at (i := 0) rfl
    have rr1 := R1.at (i := 1) rfl
    have rr2 := R1.at (i := 2) rfl
    have rr3 := R1.at (i := 3) rfl
    have rr4 := R1.at (i := 4) rfl
    have rr5 := R1.at (i := 5) rfl
    have zf := fun i => R1.fr i
    have rl := R1.lt
    have x0 := I1.at (i := 0) rfl
    have x1 := I1.at (i := 1) rfl
    have x2 := I1.at (i := 2) rfl
    have x3 := I1.at (i := 3) rfl
    have x4 := I1.at (i := 4) rfl
    have x5 := I1.at (i := 5) rfl
    have x6 := I1.at (i := 6) rfl
    have x7 := I1.at (i := 7) rfl
    have x8 := I1.at (i := 8) rfl
    have y0 := L1.at (i := 0) rfl
    have y1 := L1.at (i := 1) rfl
    have y2 := L1.at (i := 2) rfl
    have y3 := L1.at (i := 3) rfl
    have y4 := L1.at (i := 4) rfl
    have xl := I1.lt
    have yl := L1.lt
    go_enter Tryz.func49, Tryz.ntmps49
    go_upto_region 1 with fail
    rw [← hW0]
    clear hW0
    go_wp2
    refine bodyPost_ret (v := evV ⟨0, 0, 1, l, v, 0⟩) ?_ rfl ⟨rfl, ?_⟩
    · rw [results_cell rfl]
      unfold evV
      go_simp
    · repeat' (first | with_reducible refine On.setNew ?_ (by omega) _ | with_reducible exact K1)
  | false =>
    cases h1 : (k == 1) with
    | true =>
      have rr0 := R1.at (i := 0) rfl
      have rr1 := R1.at (i := 1) rfl
      have rr2 := R1.at (i := 2) rfl
      have rr3 := R1.at (i := 3) rfl
      have rr4 := R1.at (i := 4) rfl
      have rr5 := R1.at (i := 5) rfl
      have zf := fun i => R1.fr i
      have rl := R1.lt
      have x0 := I1.at (i := 0) rfl
      have x1 := I1.at (i := 1) rfl
      have x2 := I1.at (i := 2) rfl
      have x3 := I1.at (i := 3) rfl
      have x4 := I1.at (i := 4) rfl
      have x5 := I1.at (i := 5) rfl
      have x6 := I1.at (i := 6) rfl
      have x7 := I1.at (i := 7) rfl
      have x8 := I1.at (i := 8) rfl
      have y0 := L1.at (i := 0) rfl
      have y1 := L1.at (i := 1) rfl
      have y2 := L1.at (i := 2) rfl
      have y3 := L1.at (i := 3) rfl
      have y4 := L1.at (i := 4) rfl
      have xl := I1.lt
      have yl := L1.lt
      go_enter Tryz.func49, Tryz.ntmps49
      go_upto_region 1 with fail
      rw [← hW0]
      clear hW0
      have S0 := hkS _ I1 L1
      go_upto_region 3 with fail
      clear x0 x1 x2 x3 x4 x5 x6 x7 x8 y0 y1 y2 y3 y4 xl yl
      refine region_fin (fun W => W.cell? ⟨w.heap.size, 0, none⟩ = some (.int .i64 k) ∧ W.cell? ⟨w.heap.size, 1, none⟩ = some (.int .i64 r) ∧ W.cell? ⟨w.heap.size, 2, none⟩ = some (.int .i64 l) ∧ W.cell? ⟨w.heap.size, 3, none⟩ = some (.int .i64 ar) ∧ W.cell? ⟨w.heap.size, 4, none⟩ = some (.int .i64 av) ∧ W.cell? ⟨w.heap.size, 5, none⟩ = some (.int .i64 o) ∧ W.cell? ⟨w.heap.size, 6, none⟩ = some (.int .i64 br) ∧ W.cell? ⟨w.heap.size, 7, none⟩ = some (.int .i64 bv) ∧ W.cell? ⟨w.heap.size, 8, none⟩ = some (.int .i64 n) ∧ W.cell? ⟨w.heap.size + 1, 0, none⟩ = some (.int .i64 pc) ∧ W.cell? ⟨w.heap.size + 1, 1, none⟩ = some (.int .i64 r0) ∧ W.cell? ⟨w.heap.size + 1, 2, none⟩ = some (.int .i64 r1) ∧ W.cell? ⟨w.heap.size + 1, 3, none⟩ = some (.int .i64 r2) ∧ W.cell? ⟨w.heap.size + 1, 4, none⟩ = some (.int .i64 r3)) 99 8 (by kernel_rfl) rfl ?_
      refine fin_take 0 (v := ?_) rfl (by kernel_rfl) (by kernel_rfl) (by kernel_rfl) (by kernel_rfl) (fun _ _ _ h => h) rfl ?_ S0 ?_
      rotate_left
      · intro W hW
        go_simp
        (try with_reducible rfl)
      simp only [Act.put, List.setIfInBounds_toArray, List.set_cons_zero, List.set_cons_succ]
      refine fin_take 1 (v := ?_) rfl (by kernel_rfl) (by kernel_rfl) (by kernel_rfl) (by kernel_rfl) (fun _ _ _ h => h) rfl ?_ S0 ?_
      rotate_left
      · intro W hW
        go_simp
        (try with_reducible rfl)
      simp only [Act.put, List.setIfInBounds_toArray, List.set_cons_zero, List.set_cons_succ]
      refine fin_take 2 (v := ?_) rfl (by kernel_rfl) (by kernel_rfl) (by kernel_rfl) (by kernel_rfl) (fun _ _ _ h => h) rfl ?_ S0 ?_
      rotate_left
      · intro W hW
        go_simp
        (try with_reducible rfl)
      simp only [Act.put, List.setIfInBounds_toArray, List.set_cons_zero, List.set_cons_succ]
      refine fin_take 3 (v := ?_) rfl (by kernel_rfl) (by kernel_rfl) (by kernel_rfl) (by kernel_rfl) (fun _ _ _ h => h) rfl ?_ S0 ?_
      rotate_left
      · intro W hW
        go_simp
        (try with_reducible rfl)
      simp only [Act.put, List.setIfInBounds_toArray, List.set_cons_zero, List.set_cons_succ]
      refine fin_take 4 (v := ?_) rfl (by kernel_rfl) (by kernel_rfl) (by kernel_rfl) (by kernel_rfl) (fun _ _ _ h => h) rfl ?_ S0 ?_
      rotate_left
      · intro W hW
        go_simp
        (try with_reducible rfl)
      simp only [Act.put, List.setIfInBounds_toArray, List.set_cons_zero, List.set_cons_succ]
      refine fin_one 5 rfl rfl (by kernel_rfl) (fun K hK => ?_)
      go_simp
      refine (hVa _).mono ?_
      rintro _ w2 ⟨rfl, kd'⟩
      have kd := On.trans (On.drew (On.refl w1)) kd'
      have I2 := I1.on kd
      have L2 := L1.on kd
      have R2 := R1.on kd
      have S2 := hkS _ I2 L2
      have q0 := R2.at (i := 0) rfl
      have q1 := R2.at (i := 1) rfl
      have q2 := R2.at (i := 2) rfl
      have q3 := R2.at (i := 3) rfl
      have q4 := R2.at (i := 4) rfl
      have q5 := R2.at (i := 5) rfl
      have qf := fun i => R2.fr i
      have ql := R2.lt
      clear rr0 rr1 rr2 rr3 rr4 rr5 zf rl
      refine hK.out _ _ (fun _ => S2) ?_
      clear hK
      refine fin_take 6 (v := ?_) rfl (by kernel_rfl) (by kernel_rfl) (by kernel_rfl) (by kernel_rfl) (fun _ _ _ h => h) rfl ?_ S2 ?_
      rotate_left
      · intro W hW
        go_simp
        (try with_reducible rfl)
      simp only [Act.put, List.setIfInBounds_toArray, List.set_cons_zero, List.set_cons_succ]
      refine fin_one 7 rfl rfl (by kernel_rfl) (fun K hK => ?_)
      go_simp
      refine hK.out _ _ (fun _ => hkS _ (by repeat' (first | with_reducible exact I2 | with_reducible refine Bk.far ?_ (by omega) _ _)) (by repeat' (first | with_reducible exact L2 | with_reducible refine Bk.far ?_ (by omega) _ _))) ?_
      clear hK
      refine fin_done (by kernel_rfl) (NoPanic.normal ?_)
      go_wp2
      refine bodyPost_ret (v := evV ⟨0, 0, 2, l, 0, VA⟩) ?_ rfl ⟨rfl, ?_⟩
      · rw [results_cell rfl]
        unfold evV
        go_simp
      · repeat' (first | with_reducible refine On.setNew ?_ (by omega) _ | with_reducible exact K1.trans kd)
    | false =>
      cases h4 : (k == 4) with
      | true =>
        have rr0 := R1.at (i := 0) rfl
        have rr1 := R1.at (i := 1) rfl
        have rr2 := R1.at (i := 2) rfl
        have rr3 := R1.at (i := 3) rfl
        have rr4 := R1.at (i := 4) rfl
        have rr5 := R1.at (i := 5) rfl
        have zf := fun i => R1.fr i
        have rl := R1.lt
        have x0 := I1.at (i := 0) rfl
        have x1 := I1.at (i := 1) rfl
        have x2 := I1.at (i := 2) rfl
        have x3 := I1.at (i := 3) rfl
        have x4 := I1.at (i := 4) rfl
        have x5 := I1.at (i := 5) rfl
        have x6 := I1.at (i := 6) rfl
        have x7 := I1.at (i := 7) rfl
        have x8 := I1.at (i := 8) rfl
        have y0 := L1.at (i := 0) rfl
        have y1 := L1.at (i := 1) rfl
        have y2 := L1.at (i := 2) rfl
        have y3 := L1.at (i := 3) rfl
        have y4 := L1.at (i := 4) rfl
        have xl := I1.lt
        have yl := L1.lt
        go_enter Tryz.func49, Tryz.ntmps49
        go_upto_region 1 with fail
        rw [← hW0]
        clear hW0
        go_wp2_with fail
        refine (hVa _).mono ?_
        rintro _ w2 ⟨rfl, k2⟩
        have I2 := I1.on k2
        have L2 := L1.on k2
        have R2 := R1.on k2
        have K2 := K1.trans k2
        clear rr0 rr1 rr2 rr3 rr4 rr5 zf rl x0 x1 x2 x3 x4 x5 x6 x7 x8 y0 y1 y2 y3 y4 xl yl I1 L1 R1 K1 k2
        cases hv : (v == VA) with
        | false =>
          have rr0 := R2.at (i := 0) rfl
          have rr1 := R2.at (i := 1) rfl
          have rr2 := R2.at (i := 2) rfl
          have rr3 := R2.at (i := 3) rfl
          have rr4 := R2.at (i := 4) rfl
          have rr5 := R2.at (i := 5) rfl
          have zf := fun i => R2.fr i
          have rl := R2.lt
          have x0 := I2.at (i := 0) rfl
          have x1 := I2.at (i := 1) rfl
          have x2 := I2.at (i := 2) rfl
          have x3 := I2.at (i := 3) rfl
          have x4 := I2.at (i := 4) rfl
          have x5 := I2.at (i := 5) rfl
          have x6 := I2.at (i := 6) rfl
          have x7 := I2.at (i := 7) rfl
          have x8 := I2.at (i := 8) rfl
          have y0 := L2.at (i := 0) rfl
          have y1 := L2.at (i := 1) rfl
          have y2 := L2.at (i := 2) rfl
          have y3 := L2.at (i := 3) rfl
          have y4 := L2.at (i := 4) rfl
          have xl := I2.lt
          have yl := L2.lt
          go_wp2
          refine bodyPost_ret (v := evV ⟨0, 0, 5, l, v, 0⟩) ?_ rfl ⟨rfl, ?_⟩
          · rw [results_cell rfl]
            unfold evV
            go_simp
          · repeat' (first | with_reducible refine On.setNew ?_ (by omega) _ | with_reducible exact K2)
        | true =>
          have rr0 := R2.at (i := 0) rfl
          have rr1 := R2.at (i := 1) rfl
          have rr2 := R2.at (i := 2) rfl
          have rr3 := R2.at (i := 3) rfl
          have rr4 := R2.at (i := 4) rfl
          have rr5 := R2.at (i := 5) rfl
          have zf := fun i => R2.fr i
          have rl := R2.lt
          have S0 := hkS _ I2 L2
          go_upto_region 8 with fail
          refine region_fin (fun W => W.cell? ⟨w.heap.size, 0, none⟩ = some (.int .i64 k) ∧ W.cell? ⟨w.heap.size, 1, none⟩ = some (.int .i64 r) ∧ W.cell? ⟨w.heap.size, 2, none⟩ = some (.int .i64 l) ∧ W.cell? ⟨w.heap.size, 3, none⟩ = some (.int .i64 ar) ∧ W.cell? ⟨w.heap.size, 4, none⟩ = some (.int .i64 av) ∧ W.cell? ⟨w.heap.size, 5, none⟩ = some (.int .i64 o) ∧ W.cell? ⟨w.heap.size, 6, none⟩ = some (.int .i64 br) ∧ W.cell? ⟨w.heap.size, 7, none⟩ = some (.int .i64 bv) ∧ W.cell? ⟨w.heap.size, 8, none⟩ = some (.int .i64 n) ∧ W.cell? ⟨w.heap.size + 1, 0, none⟩ = some (.int .i64 pc) ∧ W.cell? ⟨w.heap.size + 1, 1, none⟩ = some (.int .i64 r0) ∧ W.cell? ⟨w.heap.size + 1, 2, none⟩ = some (.int .i64 r1) ∧ W.cell? ⟨w.heap.size + 1, 3, none⟩ = some (.int .i64 r2) ∧ W.cell? ⟨w.heap.size + 1, 4, none⟩ = some (.int .i64 r3)) 99 9 (by kernel_rfl) rfl ?_
          refine fin_take 0 (v := ?_) rfl (by kernel_rfl) (by kernel_rfl) (by kernel_rfl) (by kernel_rfl) (fun _ _ _ h => h) rfl ?_ S0 ?_
          rotate_left
          · intro W hW
            go_simp
            (try with_reducible rfl)
          simp only [Act.put, List.setIfInBounds_toArray, List.set_cons_zero, List.set_cons_succ]
          refine fin_take 1 (v := ?_) rfl (by kernel_rfl) (by kernel_rfl) (by kernel_rfl) (by kernel_rfl) (fun _ _ _ h => h) rfl ?_ S0 ?_
          rotate_left
          · intro W hW
            go_simp
            (try with_reducible rfl)
          simp only [Act.put, List.setIfInBounds_toArray, List.set_cons_zero, List.set_cons_succ]
          refine fin_take 2 (v := ?_) rfl (by kernel_rfl) (by kernel_rfl) (by kernel_rfl) (by kernel_rfl) (fun _ _ _ h => h) rfl ?_ S0 ?_
          rotate_left
          · intro W hW
            go_simp
            (try with_reducible rfl)
          simp only [Act.put, List.setIfInBounds_toArray, List.set_cons_zero, List.set_cons_succ]
          refine fin_take 3 (v := ?_) rfl (by kernel_rfl) (by kernel_rfl) (by kernel_rfl) (by kernel_rfl) (fun _ _ _ h => h) rfl ?_ S0 ?_
          rotate_left
          · intro W hW
            go_simp
            (try with_reducible rfl)
          simp only [Act.put, List.setIfInBounds_toArray, List.set_cons_zero, List.set_cons_succ]
          refine fin_take 4 (v := ?_) rfl (by kernel_rfl) (by kernel_rfl) (by kernel_rfl) (by kernel_rfl) (fun _ _ _ h => h) rfl ?_ S0 ?_
          rotate_left
          · intro W hW
            go_simp
            (try with_reducible rfl)
          simp only [Act.put, List.setIfInBounds_toArray, List.set_cons_zero, List.set_cons_succ]
          refine fin_take 5 (v := ?_) rfl (by kernel_rfl) (by kernel_rfl) (by kernel_rfl) (by kernel_rfl) (fun _ _ _ h => h) rfl ?_ S0 ?_
          rotate_left
          · intro W hW
            go_simp
            (try with_reducible rfl)
          simp only [Act.put, List.setIfInBounds_toArray, List.set_cons_zero, List.set_cons_succ]
          refine fin_one 6 rfl rfl (by kernel_rfl) (fun K hK => ?_)
          go_simp
          refine (hVb _).mono ?_
          rintro _ w3 ⟨rfl, kd'⟩
          have kd := On.trans (On.drew (On.refl w2)) kd'
          have I3 := I2.on kd
          have L3 := L2.on kd
          have R3 := R2.on kd
          have S2 := hkS _ I3 L3
          have q0 := R3.at (i := 0) rfl
          have q1 := R3.at (i := 1) rfl
          have q2 := R3.at (i := 2) rfl
          have q3 := R3.at (i := 3) rfl
          have q4 := R3.at (i := 4) rfl
          have q5 := R3.at (i := 5) rfl
          have qf := fun i => R3.fr i
          have ql := R3.lt
          clear rr0 rr1 rr2 rr3 rr4 rr5 zf rl
          refine hK.out _ _ (fun _ => S2) ?_
          clear hK
          refine fin_take 7 (v := ?_) rfl (by kernel_rfl) (by kernel_rfl) (by kernel_rfl) (by kernel_rfl) (fun _ _ _ h => h) rfl ?_ S2 ?_
          rotate_left
          · intro W hW
            go_simp
            (try with_reducible rfl)
          simp only [Act.put, List.setIfInBounds_toArray, List.set_cons_zero, List.set_cons_succ]
          refine fin_one 8 rfl rfl (by kernel_rfl) (fun K hK => ?_)
          go_simp
          refine hK.out _ _ (fun _ => hkS _ (by repeat' (first | with_reducible exact I3 | with_reducible refine Bk.far ?_ (by omega) _ _)) (by repeat' (first | with_reducible exact L3 | with_reducible refine Bk.far ?_ (by omega) _ _))) ?_
          clear hK
          refine fin_done (by kernel_rfl) (NoPanic.normal ?_)
          go_wp2
          refine bodyPost_ret (v := evV ⟨0, 0, 4, l, v, VB⟩) ?_ rfl ⟨rfl, ?_⟩
          · rw [results_cell rfl]
            unfold evV
            go_simp
          · repeat' (first | with_reducible refine On.setNew ?_ (by omega) _ | with_reducible exact K2.trans kd)
      | false =>
        have rr0 := R1.at (i := 0) rfl
        have rr1 := R1.at (i := 1) rfl
        have rr2 := R1.at (i := 2) rfl
        have rr3 := R1.at (i := 3) rfl
        have rr4 := R1.at (i := 4) rfl
        have rr5 := R1.at (i := 5) rfl
        have zf := fun i => R1.fr i
        have rl := R1.lt
        have x0 := I1.at (i := 0) rfl
        have x1 := I1.at (i := 1) rfl
        have x2 := I1.at (i := 2) rfl
        have x3 := I1.at (i := 3) rfl
        have x4 := I1.at (i := 4) rfl
        have x5 := I1.at (i := 5) rfl
        have x6 := I1.at (i := 6) rfl
        have x7 := I1.at (i := 7) rfl
        have x8 := I1.at (i := 8) rfl
        have y0 := L1.at (i := 0) rfl
        have y1 := L1.at (i := 1) rfl
        have y2 := L1.at (i := 2) rfl
        have y3 := L1.at (i := 3) rfl
        have y4 := L1.at (i := 4) rfl
        have xl := I1.lt
        have yl := L1.lt
        go_enter Tryz.func49, Tryz.ntmps49
        go_upto_region 1 with fail
        rw [← hW0]
        clear hW0
        go_wp2
        refine bodyPost_ret (v := evV ⟨0, 0, 3, 0, 0, 0⟩) ?_ rfl ⟨rfl, ?_⟩
        · rw [results_cell rfl]
          unfold evV
          go_simp
        · repeat' (first | with_reducible refine On.setNew ?_ (by omega) _ | with_reducible exact K1)
end Go.Proofs.YtplihlmejnohnaaGreatDoor

namespace Go.Proofs.YtplihlmejnohnaaGreatDoor
open Go.RowKit

def hasLB (k : Int) : Bool := k == 1 || (k == 2 || k == 4)
set_option maxHeartbeats 1000000 in
theorem fhas_is (k : Int) (w : World) : Calls Tryz.prog 92 #[.int .i64 k] w fun e w' => e = .returned (.bool (hasLB k)) ∧ w' = w := by
  unfold hasLB
  cases h0 : (k == 1) with
  | true =>
    go_enter Tryz.func92, Tryz.ntmps92
    go_wp2
    go_ret
    exact ⟨rfl, rfl⟩
  | false =>
    cases h1 : (k == 2) with
    | true =>
      go_enter Tryz.func92, Tryz.ntmps92
      go_wp2
      go_ret
      exact ⟨rfl, rfl⟩
    | false =>
      cases h2 : (k == 4) with
      | true =>
        go_enter Tryz.func92, Tryz.ntmps92
        go_wp2
        go_ret
        exact ⟨rfl, rfl⟩
      | false =>
        go_enter Tryz.func92, Tryz.ntmps92
        go_wp2
        go_ret
        exact ⟨rfl, rfl⟩
/-- All locations of a thread are below m. -/
def locsOk (m : Nat) (L : List InsT) : Prop := ∀ x ∈ L, hasLB x.k = true → 0 ≤ x.l ∧ x.l < m
set_option maxHeartbeats 2000000 in
set_option maxRecDepth 8000 in
theorem within_is (L : List InsT) (m : Nat) (a : Option Addr) (c : Nat) (w : World) (h : Rd insC 9 w (.slice a L.length c) L) (hf : locsOk m L) :
    Calls Tryz.prog 75 #[.slice a L.length c, .int .i64 m] w fun e w' => e = .returned (.bool true) ∧ On w w' := by
  have HR : Hid (Rd insC 9 w (.slice a L.length c) L) := h
  have HF : Hid (locsOk m L) := hf
  have hmx : L.length ≤ 9223372036854775807 := by obtain ⟨_, _, _, _, h, _⟩ := h; exact h
  clear h hf
  go_enter Tryz.func75, Tryz.ntmps75
  go_wp2
  go_loopg [9] L.length (fun gg s9 wr => ∃ n : Nat, n ≤ L.length ∧ gg = L.length - n ∧ s9 = .int .i64 n ∧ Hid (On w wr))
  case atStart => exact ⟨0, Nat.zero_le _, rfl, rfl, On.refl w⟩
  case round =>
    obtain ⟨n, hn, hg, rfl, HO⟩ := hrel
    rcases Nat.lt_or_ge n L.length with hlt | hge
    · obtain ⟨x, hx⟩ : ∃ x, L[n]? = some x := ⟨_, List.getElem?_eq_getElem hlt⟩
      obtain ⟨g, off, rfl, hgw, hcell⟩ := (HR.out.on HO.out).at hx
      have q0 := hcell 0 _ rfl
      have q1 := hcell 1 _ rfl
      have q2 := hcell 2 _ rfl
      have q3 := hcell 3 _ rfl
      have q4 := hcell 4 _ rfl
      have q5 := hcell 5 _ rfl
      have q6 := hcell 6 _ rfl
      have q7 := hcell 7 _ rfl
      have q8 := hcell 8 _ rfl
      rw [Nat.add_zero] at q0
      clear hcell
      have hin := HF.out x (List.mem_of_getElem? hx)
      have HK : Hid (hasLB x.k = true → 0 ≤ x.l ∧ x.l < m) := hin
      have hc := fun W => fhas_is x.k W
      have hov : IntKind.i64.wrap ((n : Int) + 1) = ((n + 1 : Nat) : Int) := by rw [wrap_small]; omega; omega; omega
      clear hin hx
      cases hb : hasLB x.k with
      | true =>
        rw [hb] at hc
        obtain ⟨hl0, hl1⟩ := HK.out hb
        have d0 : decide (x.l < 0) = false := by simpa using (by omega : ¬ x.l < 0)
        have d1 : decide ((m : Int) ≤ x.l) = false := by simpa using (by omega : ¬ (m : Int) ≤ x.l)
        go_wp2_with fail
        refine (hc _).mono ?_
        rintro _ w1 ⟨rfl, hw1⟩
        subst w1
        go_wp2
        go_roundg (L.length - (n + 1))
        case measure => omega
        case rel => exact ⟨n + 1, hlt, rfl, rfl, HO.out.alloc _⟩
      | false =>
        rw [hb] at hc
        go_wp2_with fail
        refine (hc _).mono ?_
        rintro _ w1 ⟨rfl, hw1⟩
        subst w1
        go_wp2
        go_roundg (L.length - (n + 1))
        case measure => omega
        case rel => exact ⟨n + 1, hlt, rfl, rfl, HO.out.alloc _⟩
    · obtain rfl : n = L.length := by omega
      go_wp2
      go_ret
      exact ⟨rfl, HO.out⟩
/-- Programs as great as Compile makes them. -/
structure Fits (m : Nat) (LL : List (List InsT)) : Prop where
  thr : LL.length ≤ 4
  loc : m ≤ 4
  ins : ∀ L ∈ LL, L.length ≤ 10 ∧ locsOk m L
  all : (LL.map List.length).sum ≤ 24
theorem sum_take (L : List Nat) (n : Nat) : (L.take n).sum ≤ L.sum := by
  have h : (L.take n ++ L.drop n).sum = L.sum := by rw [List.take_append_drop]
  rw [List.sum_append] at h
  omega
theorem sum_next {LL : List (List InsT)} {n : Nat} {L : List InsT} (h : LL[n]? = some L) : ((LL.map List.length).take (n + 1)).sum = ((LL.map List.length).take n).sum + L.length := by
  rw [List.take_add_one, List.getElem?_map, h]
  simp
set_option maxHeartbeats 2000000 in
set_option maxRecDepth 8000 in
theorem fit_is (LT : List UInt8) (IN : List Int) (LL : List (List InsT)) (v : Value) (w : World) (h : ProgFl w v LT IN LL) (hf : Fits LT.length LL) :
    Calls Tryz.prog 55 #[v] w fun e w' => e = .returned (.bool true) ∧ On w w' := by
  obtain ⟨a1, c1, a2, c2, a3, c3, rfl, _, _, r3⟩ := h.ex
  have HR : Hid (Rd2 insC 9 w (.slice a3 LL.length c3) LL) := r3
  have HF : Hid (Fits LT.length LL) := hf
  have h4 := hf.thr
  have hm4 := hf.loc
  have h24 := hf.all
  obtain ⟨m, hm⟩ : ∃ m, m = LT.length := ⟨_, rfl⟩
  rw [← hm] at HF hm4 ⊢
  clear h r3 hf hm
  obtain ⟨W1, hW1⟩ : ∃ W1, W1 = w.alloc (.cells #[.slice a1 m c1, .slice a2 IN.length c2, .slice a3 LL.length c3] 27) := ⟨_, rfl⟩
  have P1 : Bk W1 w.heap.size #[.slice a1 m c1, .slice a2 IN.length c2, .slice a3 LL.length c3] := by rw [hW1]; exact Bk.new w _ _
  have K1 : On w W1 := by rw [hW1]; exact (On.refl w).alloc _
  have d1 : decide (4 < LL.length) = false := by simpa using (by omega : ¬ 4 < LL.length)
  have d2 : decide (4 < m) = false := by simpa using (by omega : ¬ 4 < m)
  have p0 := P1.at (i := 0) rfl
  have p1 := P1.at (i := 1) rfl
  have p2 := P1.at (i := 2) rfl
  have pl := P1.lt
  go_enter Tryz.func55, Tryz.ntmps55
  go_upto_region 1 with fail
  rw [← hW1]
  clear hW1
  go_wp2
  clear d1 d2 p0 p1 p2 pl
  go_loopg [3, 19] LL.length (fun gg s3 s19 wr => ∃ n : Nat, n ≤ LL.length ∧ gg = LL.length - n ∧ s3 = .int .i64 (((LL.map List.length).take n).sum : Nat) ∧ s19 = .int .i64 n ∧ Hid (On w wr) ∧ Bk wr w.heap.size #[.slice a1 m c1, .slice a2 IN.length c2, .slice a3 LL.length c3])
  case atStart => exact ⟨0, Nat.zero_le _, rfl, rfl, rfl, K1, P1⟩
  case round =>
    clear K1 P1
    obtain ⟨n, hn, hg, rfl, rfl, HO, PB⟩ := hrel
    have p0 := PB.at (i := 0) rfl
    have p1 := PB.at (i := 1) rfl
    have p2 := PB.at (i := 2) rfl
    have pl := PB.lt
    rcases Nat.lt_or_ge n LL.length with hlt | hge
    · obtain ⟨L, hL⟩ : ∃ L, LL[n]? = some L := ⟨_, List.getElem?_eq_getElem hlt⟩
      obtain ⟨g, off, rfl, hgw, ax, cx, q0, hmx, hrd⟩ := (HR.out.on HO.out).row hL
      obtain ⟨hl10, hok⟩ := HF.out.ins L (List.mem_of_getElem? hL)
      have hc := within_is L m ax cx wr hrd hok
      have hs1 := sum_next hL
      have hs2 := sum_take (LL.map List.length) (n + 1)
      obtain ⟨S, hS⟩ : ∃ S, S = ((LL.map List.length).take n).sum := ⟨_, rfl⟩
      rw [← hS] at hs1 ⊢
      have hov : IntKind.i64.wrap ((n : Int) + 1) = ((n + 1 : Nat) : Int) := by rw [wrap_small]; omega; omega; omega
      have hos : IntKind.i64.wrap ((S : Int) + (L.length : Int)) = ((S + L.length : Nat) : Int) := by rw [wrap_small]; omega; omega; omega
      have d1 : decide (10 < L.length) = false := by simpa using (by omega : ¬ 10 < L.length)
      have HS : Hid (((LL.map List.length).take (n + 1)).sum = S + L.length) := hs1
      clear hs1 hs2 hS hrd hok hL
      go_wp2_with fail
      refine hc.mono ?_
      rintro _ w1 ⟨rfl, k1⟩
      go_wp2
      go_roundg (LL.length - (n + 1))
      case measure => omega
      case rel => exact ⟨n + 1, hlt, rfl, (by rw [HS.out]; simp), rfl, HO.out.trans k1, PB.on k1⟩
    · obtain rfl : n = LL.length := by omega
      have hs : ((LL.map List.length).take LL.length).sum = (LL.map List.length).sum := by rw [List.take_of_length_le (by simp)]
      rw [hs]
      obtain ⟨S, hS⟩ : ∃ S, S = (LL.map List.length).sum := ⟨_, rfl⟩
      rw [← hS] at h24 ⊢
      clear hs hS
      have d1 : decide ((S : Int) ≤ 24) = true := by simpa using (by omega : (S : Int) ≤ 24)
      go_wp2
      go_ret
      exact ⟨rfl, HO.out⟩
end Go.Proofs.YtplihlmejnohnaaGreatDoor

namespace Go.Proofs.YtplihlmejnohnaaGreatDoor
open Go.RowKit

def letIns (LT : List UInt8) (x : InsT) : InsT := if hasLB x.k then ⟨x.k, x.r, ((LT[x.l.toNat]?.getD 0).toNat : Int), x.a, x.o, x.b, x.n⟩ else x
def letRow (LT : List UInt8) (L : List InsT) : List InsT := L.map (letIns LT)
def srcI (LT : List UInt8) (IN : List Int) : List InitT := List.zipWith (fun b v => ⟨(b.toNat : Int), v⟩) LT IN
def srcT (LT : List UInt8) (IN : List Int) (LL : List (List InsT)) : TestT := ⟨⟨#[97]⟩, srcI LT IN, LL.map (letRow LT), ⟨0, []⟩⟩
/-- What machines ask of a program. -/
structure AgOk (LT : List UInt8) (IN : List Int) (LL : List (List InsT)) : Prop where
  fit : Fits LT.length LL
  il : IN.length = LT.length
  chk : checkT (srcT LT IN LL) = 0
  lt : ltOf (srcT LT IN LL) = LT
  ini : inOf (srcT LT IN LL) = IN
  ll : llOf (srcT LT IN LL) = LL
def sbL : List (List InsT) := [[⟨1, 0, 0, ⟨-1, 1⟩, 0, ⟨0, 0⟩, 0⟩, ⟨2, 0, 1, ⟨0, 0⟩, 0, ⟨0, 0⟩, 0⟩], [⟨1, 0, 1, ⟨-1, 1⟩, 0, ⟨0, 0⟩, 0⟩, ⟨2, 0, 0, ⟨0, 0⟩, 0, ⟨0, 0⟩, 0⟩]]
theorem sb_locs : ∀ L ∈ sbL, L.length ≤ 10 ∧ locsOk 2 L := by
  intro L hL
  simp only [sbL, List.mem_cons, List.not_mem_nil, or_false] at hL
  rcases hL with rfl | rfl
  · refine ⟨by decide, fun x hx _ => ?_⟩
    simp only [List.mem_cons, List.not_mem_nil, or_false] at hx
    rcases hx with rfl | rfl <;> exact ⟨by decide, by decide⟩
  · refine ⟨by decide, fun x hx _ => ?_⟩
    simp only [List.mem_cons, List.not_mem_nil, or_false] at hx
    rcases hx with rfl | rfl <;> exact ⟨by decide, by decide⟩
theorem sb_ag : AgOk [120, 121] [0, 0] sbL where
  fit := ⟨by decide, by decide, sb_locs, by decide⟩
  il := rfl
  chk := by decide +kernel
  lt := by decide +kernel
  ini := by decide +kernel
  ll := rfl
end Go.Proofs.YtplihlmejnohnaaGreatDoor
