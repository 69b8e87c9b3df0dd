/- The leaves of package event, and the document's: who reads, writes, fences; what an instruction does. -/
import Derived.Test.YtcfohakgokiedaaGreatDoorJ18ExP
import Derived.Test.YtcfohakgokiedaaGreatDoorJ19RVal
import Derived.Test.YtcfohakgokiedaaGreatDoorJ06RegFin3
import Derived.Test.YtcfohakgokiedaaGreatDoorJ17StepI
namespace Go.Proofs.YtcfohakgokiedaaGreatDoor
open Go.RowKit

set_option maxHeartbeats 1000000 in
theorem ereads_is (e : EvT) (w : World) : Calls Tryz.prog 40 #[evV e] w fun e' w' => e' = .returned (.bool (rdsB e.k)) ∧ On w w' := by
 obtain ⟨et, ei, ek, el, er, ew⟩ := e
 unfold evV rdsB
 simp only
 cases h0 : (ek == 1) with
 | true =>
  go_enter Tryz.func40, Tryz.ntmps40
  go_wp2
  go_ret
  exact ⟨rfl, (On.refl w).alloc _⟩
 | false =>
  cases h1 : (ek == 4) with
  | true =>
   go_enter Tryz.func40, Tryz.ntmps40
   go_wp2
   go_ret
   exact ⟨rfl, (On.refl w).alloc _⟩
  | false =>
   cases h2 : (ek == 5) with
   | true =>
    go_enter Tryz.func40, Tryz.ntmps40
    go_wp2
    go_ret
    exact ⟨rfl, (On.refl w).alloc _⟩
   | false =>
    go_enter Tryz.func40, Tryz.ntmps40
    go_wp2
    go_ret
    exact ⟨rfl, (On.refl w).alloc _⟩
set_option maxHeartbeats 1000000 in
theorem rreads_is (e : EvT) (w : World) : Calls Tryz.prog 21 #[evV e] w fun e' w' => e' = .returned (.bool (rdsB e.k)) ∧ On w w' := by
 obtain ⟨et, ei, ek, el, er, ew⟩ := e
 unfold evV rdsB
 simp only
 cases h0 : (ek == 1) with
 | true =>
  go_enter Tryz.func21, Tryz.ntmps21
  go_wp2
  go_ret
  exact ⟨rfl, (On.refl w).alloc _⟩
 | false =>
  cases h1 : (ek == 4) with
  | true =>
   go_enter Tryz.func21, Tryz.ntmps21
   go_wp2
   go_ret
   exact ⟨rfl, (On.refl w).alloc _⟩
  | false =>
   cases h2 : (ek == 5) with
   | true =>
    go_enter Tryz.func21, Tryz.ntmps21
    go_wp2
    go_ret
    exact ⟨rfl, (On.refl w).alloc _⟩
   | false =>
    go_enter Tryz.func21, Tryz.ntmps21
    go_wp2
    go_ret
    exact ⟨rfl, (On.refl w).alloc _⟩
set_option maxHeartbeats 1000000 in
theorem rwrites_is (e : EvT) (w : World) : Calls Tryz.prog 15 #[evV e] w fun e' w' => e' = .returned (.bool (wrsB e.k)) ∧ On w w' := by
 obtain ⟨et, ei, ek, el, er, ew⟩ := e
 unfold evV wrsB
 simp only
 cases h0 : (ek == 2) with
 | true =>
  go_enter Tryz.func15, Tryz.ntmps15
  go_wp2
  go_ret
  exact ⟨rfl, (On.refl w).alloc _⟩
 | false =>
  cases h1 : (ek == 4) with
  | true =>
   go_enter Tryz.func15, Tryz.ntmps15
   go_wp2
   go_ret
   exact ⟨rfl, (On.refl w).alloc _⟩
  | false =>
   go_enter Tryz.func15, Tryz.ntmps15
   go_wp2
   go_ret
   exact ⟨rfl, (On.refl w).alloc _⟩
set_option maxHeartbeats 1000000 in
theorem asks_is (x : InsT) (w : World) : Calls Tryz.prog 43 #[insV x] w fun e w' => e = .returned (.bool (readB x.k)) ∧ On w w' := by
 obtain ⟨k, r, l, ⟨ar, av⟩, o, ⟨br, bv⟩, n⟩ := x
 unfold insV readB
 simp only
 cases h2 : (k == 2) with
 | true =>
  go_enter Tryz.func43, Tryz.ntmps43
  go_wp2
  go_ret
  exact ⟨rfl, (On.refl w).alloc _⟩
 | false =>
  cases h4 : (k == 4)
  all_goals
   go_enter Tryz.func43, Tryz.ntmps43
   go_wp2
   go_ret
   exact ⟨rfl, (On.refl w).alloc _⟩
set_option maxHeartbeats 2000000 in
theorem swapped_is (x : InsT) (l0 : LocT) (v : Int) (w : World) : Calls Tryz.prog 60 #[insV x, locV l0, .int .i64 v] w fun e w' => e = .returned (evV (swapP x l0 v)) ∧ On w w' := by
 obtain ⟨k, r, l, ⟨ar, av⟩, o, ⟨br, bv⟩, n⟩ := x
 obtain ⟨pc, r0, r1, r2, r3⟩ := l0
 have hV := fun (o : Opd) (W : World) => pvalue_is o ⟨pc, r0, r1, r2, r3⟩ W
 have k0 : ∀ A B C, On w (((w.alloc A).alloc B).alloc C) := fun A B C => (((On.refl w).alloc A).alloc B).alloc C
 have bi : ∀ cs T B C, Bk (((w.alloc (.cells cs T)).alloc B).alloc C) w.heap.size cs := fun cs T B C => ((Bk.new w cs T).alloc B).alloc C
 have bl : ∀ A cs T C, Bk (((w.alloc A).alloc (.cells cs T)).alloc C) (w.heap.size + 1) cs := fun A cs T C => by have := (Bk.new (w.alloc A) cs T).alloc C; rwa [World.size_alloc] at this
 have br' : ∀ A B cs T, Bk (((w.alloc A).alloc B).alloc (.cells cs T)) (w.heap.size + 1 + 1) cs := fun A B cs T => by have := Bk.new ((w.alloc A).alloc B) cs T; rwa [World.size_alloc, World.size_alloc] at this
 unfold swapP insV locV evV
 simp only
 have hkS : ∀ W, Bk W w.heap.size #[.int .i64 k, .int .i64 r, .int .i64 l, .int .i64 ar, .int .i64 av, .int .i64 o, .int .i64 br, .int .i64 bv, .int .i64 n] → Bk W (w.heap.size + 1) #[.int .i64 pc, .int .i64 r0, .int .i64 r1, .int .i64 r2, .int .i64 r3] → (fun W => W.cell? ⟨w.heap.size, 0, none⟩ = some (.int .i64 k) ∧ W.cell? ⟨w.heap.size, 1, none⟩ = some (.int .i64 r) ∧ W.cell? ⟨w.heap.size, 2, none⟩ = some (.int .i64 l) ∧ W.cell? ⟨w.heap.size, 3, none⟩ = some (.int .i64 ar) ∧ W.cell? ⟨w.heap.size, 4, none⟩ = some (.int .i64 av) ∧ W.cell? ⟨w.heap.size, 5, none⟩ = some (.int .i64 o) ∧ W.cell? ⟨w.heap.size, 6, none⟩ = some (.int .i64 br) ∧ W.cell? ⟨w.heap.size, 7, none⟩ = some (.int .i64 bv) ∧ W.cell? ⟨w.heap.size, 8, none⟩ = some (.int .i64 n) ∧ W.cell? ⟨w.heap.size + 1, 0, none⟩ = some (.int .i64 pc) ∧ W.cell? ⟨w.heap.size + 1, 1, none⟩ = some (.int .i64 r0) ∧ W.cell? ⟨w.heap.size + 1, 2, none⟩ = some (.int .i64 r1) ∧ W.cell? ⟨w.heap.size + 1, 3, none⟩ = some (.int .i64 r2) ∧ W.cell? ⟨w.heap.size + 1, 4, none⟩ = some (.int .i64 r3)) W := fun W a b => ⟨a.at (i := 0) rfl, a.at (i := 1) rfl, a.at (i := 2) rfl, a.at (i := 3) rfl, a.at (i := 4) rfl, a.at (i := 5) rfl, a.at (i := 6) rfl, a.at (i := 7) rfl, a.at (i := 8) rfl, b.at (i := 0) rfl, b.at (i := 1) rfl, b.at (i := 2) rfl, b.at (i := 3) rfl, b.at (i := 4) rfl⟩
 have ne2 : ¬ w.heap.size = w.heap.size + 1 + 1 := by omega
 obtain ⟨W0, hW0⟩ : ∃ W0, W0 = ((w.alloc (.cells #[.int .i64 k, .int .i64 r, .int .i64 l, .int .i64 ar, .int .i64 av, .int .i64 o, .int .i64 br, .int .i64 bv, .int .i64 n] 67)).alloc (.cells #[.int .i64 pc, .int .i64 r0, .int .i64 r1, .int .i64 r2, .int .i64 r3] 73)).alloc (.cells #[.int .i64 0, .int .i64 0, .int .i64 0, .int .i64 0, .int .i64 0, .int .i64 0] 58) := ⟨_, rfl⟩
 have K0 : On w W0 := by rw [hW0]; exact k0 _ _ _
 have I0 : Bk W0 w.heap.size #[.int .i64 k, .int .i64 r, .int .i64 l, .int .i64 ar, .int .i64 av, .int .i64 o, .int .i64 br, .int .i64 bv, .int .i64 n] := by rw [hW0]; exact bi _ _ _ _
 have L0 : Bk W0 (w.heap.size + 1) #[.int .i64 pc, .int .i64 r0, .int .i64 r1, .int .i64 r2, .int .i64 r3] := by rw [hW0]; exact bl _ _ _ _
 have R0 : Bk W0 (w.heap.size + 1 + 1) #[.int .i64 0, .int .i64 0, .int .i64 0, .int .i64 0, .int .i64 0, .int .i64 0] := by rw [hW0]; exact br' _ _ _ _
 generalize hA : valOf ⟨ar, av⟩ ⟨pc, r0, r1, r2, r3⟩ = VA at *
 have hVa := fun W => hV ⟨ar, av⟩ W
 have hVb := fun W => hV ⟨br, bv⟩ W
 rw [hA] at hVa
 generalize hB : valOf ⟨br, bv⟩ ⟨pc, r0, r1, r2, r3⟩ = VB at *
 unfold locV at hVa hVb
 clear hV hA hB bi bl br' k0
 have x3 := I0.at (i := 3) rfl
 have x4 := I0.at (i := 4) rfl
 have y0 := L0.at (i := 0) rfl
 have y1 := L0.at (i := 1) rfl
 have y2 := L0.at (i := 2) rfl
 have y3 := L0.at (i := 3) rfl
 have y4 := L0.at (i := 4) rfl
 go_enter Tryz.func60, Tryz.ntmps60
 go_upto_region 1 with fail
 rw [← hW0]
 clear hW0
 go_wp2_with fail
 refine (hVa _).mono ?_
 rintro _ w1 ⟨rfl, k1⟩
 have I1 := I0.on k1
 have L1 := L0.on k1
 have R1 := R0.on k1
 have K1 := K0.trans k1
 cases hv : (v == VA) with
 | false =>
  have hv' : (v != VA) = true := by rw [bne, hv]; rfl
  have z2 := I1.at (i := 2) rfl
  have zf := fun i => R1.fr i
  have rr0 := R1.at (i := 0) rfl
  have rr1 := R1.at (i := 1) rfl
  have rr2 := R1.at (i := 2) rfl
  have rr3 := R1.at (i := 3) rfl
  have rr4 := R1.at (i := 4) rfl
  have rr5 := R1.at (i := 5) rfl
  have rl := R1.lt
  go_wp2
  refine bodyPost_ret (v := evV ⟨0, 0, 5, l, v, 0⟩) ?_ rfl ⟨rfl, ?_⟩
  ·
   rw [results_cell rfl]
   unfold evV
   go_simp
  ·
   repeat' (first | with_reducible refine On.setNew ?_ (by omega) _ | with_reducible exact K1)
 | true =>
  have hv' : (v != VA) = false := by rw [bne, hv]; rfl
  have S0 := hkS _ I1 L1
  have zf := fun i => R1.fr i
  have rr0 := R1.at (i := 0) rfl
  have rr1 := R1.at (i := 1) rfl
  have rr2 := R1.at (i := 2) rfl
  have rr3 := R1.at (i := 3) rfl
  have rr4 := R1.at (i := 4) rfl
  have rr5 := R1.at (i := 5) rfl
  have rl := R1.lt
  go_upto_region 3 with fail
  refine region_fin (fun W => W.cell? ⟨w.heap.size, 0, none⟩ = some (.int .i64 k) ∧ W.cell? ⟨w.heap.size, 1, none⟩ = some (.int .i64 r) ∧ W.cell? ⟨w.heap.size, 2, none⟩ = some (.int .i64 l) ∧ W.cell? ⟨w.heap.size, 3, none⟩ = some (.int .i64 ar) ∧ W.cell? ⟨w.heap.size, 4, none⟩ = some (.int .i64 av) ∧ W.cell? ⟨w.heap.size, 5, none⟩ = some (.int .i64 o) ∧ W.cell? ⟨w.heap.size, 6, none⟩ = some (.int .i64 br) ∧ W.cell? ⟨w.heap.size, 7, none⟩ = some (.int .i64 bv) ∧ W.cell? ⟨w.heap.size, 8, none⟩ = some (.int .i64 n) ∧ W.cell? ⟨w.heap.size + 1, 0, none⟩ = some (.int .i64 pc) ∧ W.cell? ⟨w.heap.size + 1, 1, none⟩ = some (.int .i64 r0) ∧ W.cell? ⟨w.heap.size + 1, 2, none⟩ = some (.int .i64 r1) ∧ W.cell? ⟨w.heap.size + 1, 3, none⟩ = some (.int .i64 r2) ∧ W.cell? ⟨w.heap.size + 1, 4, none⟩ = some (.int .i64 r3)) 99 9 (by kernel_rfl) rfl ?_
  refine fin_take 0 (v := ?_) rfl (by kernel_rfl) (by kernel_rfl) (by kernel_rfl) (by kernel_rfl) (fun _ _ _ h => h) rfl ?_ S0 ?_
  rotate_left
  ·
   intro W hW
   go_simp
   (try with_reducible rfl)
  simp only [pu, sa, sz0, ss1]
  refine fin_take 1 (v := ?_) rfl (by kernel_rfl) (by kernel_rfl) (by kernel_rfl) (by kernel_rfl) (fun _ _ _ h => h) rfl ?_ S0 ?_
  rotate_left
  ·
   intro W hW
   go_simp
   (try with_reducible rfl)
  simp only [pu, sa, sz0, ss1]
  refine fin_take 2 (v := ?_) rfl (by kernel_rfl) (by kernel_rfl) (by kernel_rfl) (by kernel_rfl) (fun _ _ _ h => h) rfl ?_ S0 ?_
  rotate_left
  ·
   intro W hW
   go_simp
   (try with_reducible rfl)
  simp only [pu, sa, sz0, ss1]
  refine fin_take 3 (v := ?_) rfl (by kernel_rfl) (by kernel_rfl) (by kernel_rfl) (by kernel_rfl) (fun _ _ _ h => h) rfl ?_ S0 ?_
  rotate_left
  ·
   intro W hW
   go_simp
   (try with_reducible rfl)
  simp only [pu, sa, sz0, ss1]
  refine fin_take 4 (v := ?_) rfl (by kernel_rfl) (by kernel_rfl) (by kernel_rfl) (by kernel_rfl) (fun _ _ _ h => h) rfl ?_ S0 ?_
  rotate_left
  ·
   intro W hW
   go_simp
   (try with_reducible rfl)
  simp only [pu, sa, sz0, ss1]
  refine fin_take 5 (v := ?_) rfl (by kernel_rfl) (by kernel_rfl) (by kernel_rfl) (by kernel_rfl) (fun _ _ _ h => h) rfl ?_ S0 ?_
  rotate_left
  ·
   intro W hW
   go_simp
   (try with_reducible rfl)
  simp only [pu, sa, sz0, ss1]
  refine fin_one 6 rfl rfl (by kernel_rfl) (fun K hK => ?_)
  go_simp
  refine (hVb _).mono ?_
  rintro _ w2 ⟨rfl, kd'⟩
  have kd := On.trans (On.drew (On.refl w1)) kd'
  have I2 := I1.on kd
  have L2 := L1.on kd
  have R2 := R1.on kd
  have S2 := hkS _ I2 L2
  have q0 := R2.at (i := 0) rfl
  have q1 := R2.at (i := 1) rfl
  have q2 := R2.at (i := 2) rfl
  have q3 := R2.at (i := 3) rfl
  have q4 := R2.at (i := 4) rfl
  have q5 := R2.at (i := 5) rfl
  have qf := fun i => R2.fr i
  have ql := R2.lt
  clear rr0 rr1 rr2 rr3 rr4 rr5 zf rl
  refine hK.out _ _ (fun _ => S2) ?_
  clear hK
  refine fin_take 7 (v := ?_) rfl (by kernel_rfl) (by kernel_rfl) (by kernel_rfl) (by kernel_rfl) (fun _ _ _ h => h) rfl ?_ S2 ?_
  rotate_left
  ·
   intro W hW
   go_simp
   (try with_reducible rfl)
  simp only [pu, sa, sz0, ss1]
  refine fin_one 8 rfl rfl (by kernel_rfl) (fun K hK => ?_)
  go_simp
  refine hK.out _ _ (fun _ => hkS _ (by repeat' (first | with_reducible exact I2 | with_reducible refine Bk.far ?_ (by omega) _ _)) (by repeat' (first | with_reducible exact L2 | with_reducible refine Bk.far ?_ (by omega) _ _))) ?_
  clear hK
  refine fin_done (by kernel_rfl) (NoPanic.normal ?_)
  go_wp2
  refine bodyPost_ret (v := evV ⟨0, 0, 4, l, v, VB⟩) ?_ rfl ⟨rfl, ?_⟩
  ·
   rw [results_cell rfl]
   unfold evV
   go_simp
  ·
   repeat' (first | with_reducible refine On.setNew ?_ (by omega) _ | with_reducible exact K1.trans kd)
set_option maxHeartbeats 2000000 in
theorem done_is (x : InsT) (l0 : LocT) (v : Int) (w : World) : Calls Tryz.prog 44 #[insV x, locV l0, .int .i64 v] w fun e w' => e = .returned (evV (doneP x l0 v)) ∧ On w w' := by
 obtain ⟨k, r, l, ⟨ar, av⟩, o, ⟨br, bv⟩, n⟩ := x
 obtain ⟨pc, r0, r1, r2, r3⟩ := l0
 have hV := fun (o : Opd) (W : World) => pvalue_is o ⟨pc, r0, r1, r2, r3⟩ W
 have k0 : ∀ A B C, On w (((w.alloc A).alloc B).alloc C) := fun A B C => (((On.refl w).alloc A).alloc B).alloc C
 have bi : ∀ cs T B C, Bk (((w.alloc (.cells cs T)).alloc B).alloc C) w.heap.size cs := fun cs T B C => ((Bk.new w cs T).alloc B).alloc C
 have bl : ∀ A cs T C, Bk (((w.alloc A).alloc (.cells cs T)).alloc C) (w.heap.size + 1) cs := fun A cs T C => by have := (Bk.new (w.alloc A) cs T).alloc C; rwa [World.size_alloc] at this
 have br' : ∀ A B cs T, Bk (((w.alloc A).alloc B).alloc (.cells cs T)) (w.heap.size + 1 + 1) cs := fun A B cs T => by have := Bk.new ((w.alloc A).alloc B) cs T; rwa [World.size_alloc, World.size_alloc] at this
 unfold doneP insV locV evV
 simp only
 have hkS : ∀ W, Bk W w.heap.size #[.int .i64 k, .int .i64 r, .int .i64 l, .int .i64 ar, .int .i64 av, .int .i64 o, .int .i64 br, .int .i64 bv, .int .i64 n] → Bk W (w.heap.size + 1) #[.int .i64 pc, .int .i64 r0, .int .i64 r1, .int .i64 r2, .int .i64 r3] → (fun W => W.cell? ⟨w.heap.size, 0, none⟩ = some (.int .i64 k) ∧ W.cell? ⟨w.heap.size, 1, none⟩ = some (.int .i64 r) ∧ W.cell? ⟨w.heap.size, 2, none⟩ = some (.int .i64 l) ∧ W.cell? ⟨w.heap.size, 3, none⟩ = some (.int .i64 ar) ∧ W.cell? ⟨w.heap.size, 4, none⟩ = some (.int .i64 av) ∧ W.cell? ⟨w.heap.size, 5, none⟩ = some (.int .i64 o) ∧ W.cell? ⟨w.heap.size, 6, none⟩ = some (.int .i64 br) ∧ W.cell? ⟨w.heap.size, 7, none⟩ = some (.int .i64 bv) ∧ W.cell? ⟨w.heap.size, 8, none⟩ = some (.int .i64 n) ∧ W.cell? ⟨w.heap.size + 1, 0, none⟩ = some (.int .i64 pc) ∧ W.cell? ⟨w.heap.size + 1, 1, none⟩ = some (.int .i64 r0) ∧ W.cell? ⟨w.heap.size + 1, 2, none⟩ = some (.int .i64 r1) ∧ W.cell? ⟨w.heap.size + 1, 3, none⟩ = some (.int .i64 r2) ∧ W.cell? ⟨w.heap.size + 1, 4, none⟩ = some (.int .i64 r3)) W := fun W a b => ⟨a.at (i := 0) rfl, a.at (i := 1) rfl, a.at (i := 2) rfl, a.at (i := 3) rfl, a.at (i := 4) rfl, a.at (i := 5) rfl, a.at (i := 6) rfl, a.at (i := 7) rfl, a.at (i := 8) rfl, b.at (i := 0) rfl, b.at (i := 1) rfl, b.at (i := 2) rfl, b.at (i := 3) rfl, b.at (i := 4) rfl⟩
 have ne2 : ¬ w.heap.size = w.heap.size + 1 + 1 := by omega
 obtain ⟨w1, hW0⟩ : ∃ w1, w1 = ((w.alloc (.cells #[.int .i64 k, .int .i64 r, .int .i64 l, .int .i64 ar, .int .i64 av, .int .i64 o, .int .i64 br, .int .i64 bv, .int .i64 n] 67)).alloc (.cells #[.int .i64 pc, .int .i64 r0, .int .i64 r1, .int .i64 r2, .int .i64 r3] 73)).alloc (.cells #[.int .i64 0, .int .i64 0, .int .i64 0, .int .i64 0, .int .i64 0, .int .i64 0] 58) := ⟨_, rfl⟩
 have K1 : On w w1 := by rw [hW0]; exact k0 _ _ _
 have I1 : Bk w1 w.heap.size #[.int .i64 k, .int .i64 r, .int .i64 l, .int .i64 ar, .int .i64 av, .int .i64 o, .int .i64 br, .int .i64 bv, .int .i64 n] := by rw [hW0]; exact bi _ _ _ _
 have L1 : Bk w1 (w.heap.size + 1) #[.int .i64 pc, .int .i64 r0, .int .i64 r1, .int .i64 r2, .int .i64 r3] := by rw [hW0]; exact bl _ _ _ _
 have R1 : Bk w1 (w.heap.size + 1 + 1) #[.int .i64 0, .int .i64 0, .int .i64 0, .int .i64 0, .int .i64 0, .int .i64 0] := by rw [hW0]; exact br' _ _ _ _
 have hSw := fun W => swapped_is ⟨k, r, l, ⟨ar, av⟩, o, ⟨br, bv⟩, n⟩ ⟨pc, r0, r1, r2, r3⟩ v W
 generalize swapP ⟨k, r, l, ⟨ar, av⟩, o, ⟨br, bv⟩, n⟩ ⟨pc, r0, r1, r2, r3⟩ v = SW at *
 obtain ⟨s0, s1, s2, s3, s4, s5⟩ := SW
 unfold insV locV evV at hSw
 have hVa := fun W => hV ⟨ar, av⟩ W
 have hVb := fun W => hV ⟨br, bv⟩ W
 generalize valOf ⟨ar, av⟩ ⟨pc, r0, r1, r2, r3⟩ = VA at *
 generalize valOf ⟨br, bv⟩ ⟨pc, r0, r1, r2, r3⟩ = VB at *
 unfold locV at hVa hVb
 clear hV bi bl br' k0
 cases h2 : (k == 2) with
 | true =>
  have rr0 := R1.at (i := 0) rfl
  have rr1 := R1.at (i := 1) rfl
  have rr2 := R1.at (i := 2) rfl
  have rr3 := R1.at (i := 3) rfl
  have rr4 := R1.at (i := 4) rfl
  have rr5 := R1.at (i := 5) rfl
  have zf := fun i => R1.fr i
  have rl := R1.lt
  have x0 := I1.at (i := 0) rfl
  have x1 := I1.at (i := 1) rfl
  have x2 := I1.at (i := 2) rfl
  have x3 := I1.at (i := 3) rfl
  have x4 := I1.at (i := 4) rfl
  have x5 := I1.at (i := 5) rfl
  have x6 := I1.at (i := 6) rfl
  have x7 := I1.at (i := 7) rfl
  have x8 := I1.at (i := 8) rfl
  have y0 := L1.at (i := 0) rfl
  have y1 := L1.at (i := 1) rfl
  have y2 := L1.at (i := 2) rfl
  have y3 := L1.at (i := 3) rfl
  have y4 := L1.at (i := 4) rfl
  have xl := I1.lt
  have yl := L1.lt
  go_enter Tryz.func44, Tryz.ntmps44
  go_upto_region 1 with fail
  rw [← hW0]
  clear hW0
  go_wp2
  refine bodyPost_ret (v := evV ⟨0, 0, 1, l, v, 0⟩) ?_ rfl ⟨rfl, ?_⟩
  ·
   rw [results_cell rfl]
   unfold evV
   go_simp
  ·
   repeat' (first | with_reducible refine On.setNew ?_ (by omega) _ | with_reducible exact K1)
 | false =>
  cases h1 : (k == 1) with
  | true =>
   have rr0 := R1.at (i := 0) rfl
   have rr1 := R1.at (i := 1) rfl
   have rr2 := R1.at (i := 2) rfl
   have rr3 := R1.at (i := 3) rfl
   have rr4 := R1.at (i := 4) rfl
   have rr5 := R1.at (i := 5) rfl
   have zf := fun i => R1.fr i
   have rl := R1.lt
   have x0 := I1.at (i := 0) rfl
   have x1 := I1.at (i := 1) rfl
   have x2 := I1.at (i := 2) rfl
   have x3 := I1.at (i := 3) rfl
   have x4 := I1.at (i := 4) rfl
   have x5 := I1.at (i := 5) rfl
   have x6 := I1.at (i := 6) rfl
   have x7 := I1.at (i := 7) rfl
   have x8 := I1.at (i := 8) rfl
   have y0 := L1.at (i := 0) rfl
   have y1 := L1.at (i := 1) rfl
   have y2 := L1.at (i := 2) rfl
   have y3 := L1.at (i := 3) rfl
   have y4 := L1.at (i := 4) rfl
   have xl := I1.lt
   have yl := L1.lt
   go_enter Tryz.func44, Tryz.ntmps44
   go_upto_region 1 with fail
   rw [← hW0]
   clear hW0
   have S0 := hkS _ I1 L1
   go_upto_region 5 with fail
   clear x0 x1 x2 x3 x4 x5 x6 x7 x8 y0 y1 y2 y3 y4 xl yl
   refine region_fin (fun W => W.cell? ⟨w.heap.size, 0, none⟩ = some (.int .i64 k) ∧ W.cell? ⟨w.heap.size, 1, none⟩ = some (.int .i64 r) ∧ W.cell? ⟨w.heap.size, 2, none⟩ = some (.int .i64 l) ∧ W.cell? ⟨w.heap.size, 3, none⟩ = some (.int .i64 ar) ∧ W.cell? ⟨w.heap.size, 4, none⟩ = some (.int .i64 av) ∧ W.cell? ⟨w.heap.size, 5, none⟩ = some (.int .i64 o) ∧ W.cell? ⟨w.heap.size, 6, none⟩ = some (.int .i64 br) ∧ W.cell? ⟨w.heap.size, 7, none⟩ = some (.int .i64 bv) ∧ W.cell? ⟨w.heap.size, 8, none⟩ = some (.int .i64 n) ∧ W.cell? ⟨w.heap.size + 1, 0, none⟩ = some (.int .i64 pc) ∧ W.cell? ⟨w.heap.size + 1, 1, none⟩ = some (.int .i64 r0) ∧ W.cell? ⟨w.heap.size + 1, 2, none⟩ = some (.int .i64 r1) ∧ W.cell? ⟨w.heap.size + 1, 3, none⟩ = some (.int .i64 r2) ∧ W.cell? ⟨w.heap.size + 1, 4, none⟩ = some (.int .i64 r3)) 99 8 (by kernel_rfl) rfl ?_
   refine fin_take 0 (v := ?_) rfl (by kernel_rfl) (by kernel_rfl) (by kernel_rfl) (by kernel_rfl) (fun _ _ _ h => h) rfl ?_ S0 ?_
   rotate_left
   ·
    intro W hW
    go_simp
    (try with_reducible rfl)
   simp only [pu, sa, sz0, ss1]
   refine fin_take 1 (v := ?_) rfl (by kernel_rfl) (by kernel_rfl) (by kernel_rfl) (by kernel_rfl) (fun _ _ _ h => h) rfl ?_ S0 ?_
   rotate_left
   ·
    intro W hW
    go_simp
    (try with_reducible rfl)
   simp only [pu, sa, sz0, ss1]
   refine fin_take 2 (v := ?_) rfl (by kernel_rfl) (by kernel_rfl) (by kernel_rfl) (by kernel_rfl) (fun _ _ _ h => h) rfl ?_ S0 ?_
   rotate_left
   ·
    intro W hW
    go_simp
    (try with_reducible rfl)
   simp only [pu, sa, sz0, ss1]
   refine fin_take 3 (v := ?_) rfl (by kernel_rfl) (by kernel_rfl) (by kernel_rfl) (by kernel_rfl) (fun _ _ _ h => h) rfl ?_ S0 ?_
   rotate_left
   ·
    intro W hW
    go_simp
    (try with_reducible rfl)
   simp only [pu, sa, sz0, ss1]
   refine fin_take 4 (v := ?_) rfl (by kernel_rfl) (by kernel_rfl) (by kernel_rfl) (by kernel_rfl) (fun _ _ _ h => h) rfl ?_ S0 ?_
   rotate_left
   ·
    intro W hW
    go_simp
    (try with_reducible rfl)
   simp only [pu, sa, sz0, ss1]
   refine fin_one 5 rfl rfl (by kernel_rfl) (fun K hK => ?_)
   go_simp
   refine (hVa _).mono ?_
   rintro _ w2 ⟨rfl, kd'⟩
   have kd := On.trans (On.drew (On.refl w1)) kd'
   have I2 := I1.on kd
   have L2 := L1.on kd
   have R2 := R1.on kd
   have S2 := hkS _ I2 L2
   have q0 := R2.at (i := 0) rfl
   have q1 := R2.at (i := 1) rfl
   have q2 := R2.at (i := 2) rfl
   have q3 := R2.at (i := 3) rfl
   have q4 := R2.at (i := 4) rfl
   have q5 := R2.at (i := 5) rfl
   have qf := fun i => R2.fr i
   have ql := R2.lt
   clear rr0 rr1 rr2 rr3 rr4 rr5 zf rl
   refine hK.out _ _ (fun _ => S2) ?_
   clear hK
   refine fin_take 6 (v := ?_) rfl (by kernel_rfl) (by kernel_rfl) (by kernel_rfl) (by kernel_rfl) (fun _ _ _ h => h) rfl ?_ S2 ?_
   rotate_left
   ·
    intro W hW
    go_simp
    (try with_reducible rfl)
   simp only [pu, sa, sz0, ss1]
   refine fin_one 7 rfl rfl (by kernel_rfl) (fun K hK => ?_)
   go_simp
   refine hK.out _ _ (fun _ => hkS _ (by repeat' (first | with_reducible exact I2 | with_reducible refine Bk.far ?_ (by omega) _ _)) (by repeat' (first | with_reducible exact L2 | with_reducible refine Bk.far ?_ (by omega) _ _))) ?_
   clear hK
   refine fin_done (by kernel_rfl) (NoPanic.normal ?_)
   go_wp2
   refine bodyPost_ret (v := evV ⟨0, 0, 2, l, 0, VA⟩) ?_ rfl ⟨rfl, ?_⟩
   ·
    rw [results_cell rfl]
    unfold evV
    go_simp
   ·
    repeat' (first | with_reducible refine On.setNew ?_ (by omega) _ | with_reducible exact K1.trans kd)
  | false =>
   cases h4 : (k == 4) with
   | true =>
    have rr0 := R1.at (i := 0) rfl
    have rr1 := R1.at (i := 1) rfl
    have rr2 := R1.at (i := 2) rfl
    have rr3 := R1.at (i := 3) rfl
    have rr4 := R1.at (i := 4) rfl
    have rr5 := R1.at (i := 5) rfl
    have zf := fun i => R1.fr i
    have rl := R1.lt
    have x0 := I1.at (i := 0) rfl
    have x1 := I1.at (i := 1) rfl
    have x2 := I1.at (i := 2) rfl
    have x3 := I1.at (i := 3) rfl
    have x4 := I1.at (i := 4) rfl
    have x5 := I1.at (i := 5) rfl
    have x6 := I1.at (i := 6) rfl
    have x7 := I1.at (i := 7) rfl
    have x8 := I1.at (i := 8) rfl
    have y0 := L1.at (i := 0) rfl
    have y1 := L1.at (i := 1) rfl
    have y2 := L1.at (i := 2) rfl
    have y3 := L1.at (i := 3) rfl
    have y4 := L1.at (i := 4) rfl
    have xl := I1.lt
    have yl := L1.lt
    go_enter Tryz.func44, Tryz.ntmps44
    go_upto_region 1 with fail
    rw [← hW0]
    clear hW0
    go_wp2_with fail
    refine (hSw _).mono ?_
    rintro _ w2 ⟨rfl, k2⟩
    have R2 := R1.on k2
    have K2 := K1.trans k2
    clear rr0 rr1 rr2 rr3 rr4 rr5 zf rl x0 x1 x2 x3 x4 x5 x6 x7 x8 y0 y1 y2 y3 y4 xl yl
    have rr0 := R2.at (i := 0) rfl
    have rr1 := R2.at (i := 1) rfl
    have rr2 := R2.at (i := 2) rfl
    have rr3 := R2.at (i := 3) rfl
    have rr4 := R2.at (i := 4) rfl
    have rr5 := R2.at (i := 5) rfl
    have zf := fun i => R2.fr i
    have rl := R2.lt
    go_wp2
    refine bodyPost_ret (v := evV ⟨s0, s1, s2, s3, s4, s5⟩) ?_ rfl ⟨rfl, ?_⟩
    ·
     rw [results_cell rfl]
     unfold evV
     go_simp
    ·
     repeat' (first | with_reducible refine On.setNew ?_ (by omega) _ | with_reducible exact K2)
   | false =>
    have rr0 := R1.at (i := 0) rfl
    have rr1 := R1.at (i := 1) rfl
    have rr2 := R1.at (i := 2) rfl
    have rr3 := R1.at (i := 3) rfl
    have rr4 := R1.at (i := 4) rfl
    have rr5 := R1.at (i := 5) rfl
    have zf := fun i => R1.fr i
    have rl := R1.lt
    have x0 := I1.at (i := 0) rfl
    have x1 := I1.at (i := 1) rfl
    have x2 := I1.at (i := 2) rfl
    have x3 := I1.at (i := 3) rfl
    have x4 := I1.at (i := 4) rfl
    have x5 := I1.at (i := 5) rfl
    have x6 := I1.at (i := 6) rfl
    have x7 := I1.at (i := 7) rfl
    have x8 := I1.at (i := 8) rfl
    have y0 := L1.at (i := 0) rfl
    have y1 := L1.at (i := 1) rfl
    have y2 := L1.at (i := 2) rfl
    have y3 := L1.at (i := 3) rfl
    have y4 := L1.at (i := 4) rfl
    have xl := I1.lt
    have yl := L1.lt
    go_enter Tryz.func44, Tryz.ntmps44
    go_upto_region 1 with fail
    rw [← hW0]
    clear hW0
    go_wp2
    refine bodyPost_ret (v := evV ⟨0, 0, 3, 0, 0, 0⟩) ?_ rfl ⟨rfl, ?_⟩
    ·
     rw [results_cell rfl]
     unfold evV
     go_simp
    ·
     repeat' (first | with_reducible refine On.setNew ?_ (by omega) _ | with_reducible exact K1)
set_option maxHeartbeats 2000000 in
theorem revent_is (x : InsT) (l0 : LocT) (v : Int) (w : World) : Calls Tryz.prog 38 #[insV x, locV l0, .int .i64 v] w fun e w' => e = .returned (evV (doneP x l0 v)) ∧ On w w' := by
 obtain ⟨k, r, l, ⟨ar, av⟩, o, ⟨br, bv⟩, n⟩ := x
 obtain ⟨pc, r0, r1, r2, r3⟩ := l0
 have hV := fun (o : Opd) (W : World) => rvalue_is o ⟨pc, r0, r1, r2, r3⟩ W
 have k0 : ∀ A B C, On w (((w.alloc A).alloc B).alloc C) := fun A B C => (((On.refl w).alloc A).alloc B).alloc C
 have bi : ∀ cs T B C, Bk (((w.alloc (.cells cs T)).alloc B).alloc C) w.heap.size cs := fun cs T B C => ((Bk.new w cs T).alloc B).alloc C
 have bl : ∀ A cs T C, Bk (((w.alloc A).alloc (.cells cs T)).alloc C) (w.heap.size + 1) cs := fun A cs T C => by have := (Bk.new (w.alloc A) cs T).alloc C; rwa [World.size_alloc] at this
 have br' : ∀ A B cs T, Bk (((w.alloc A).alloc B).alloc (.cells cs T)) (w.heap.size + 1 + 1) cs := fun A B cs T => by have := Bk.new ((w.alloc A).alloc B) cs T; rwa [World.size_alloc, World.size_alloc] at this
 unfold doneP insV locV evV
 simp only
 have hkS : ∀ W, Bk W w.heap.size #[.int .i64 k, .int .i64 r, .int .i64 l, .int .i64 ar, .int .i64 av, .int .i64 o, .int .i64 br, .int .i64 bv, .int .i64 n] → Bk W (w.heap.size + 1) #[.int .i64 pc, .int .i64 r0, .int .i64 r1, .int .i64 r2, .int .i64 r3] → (fun W => W.cell? ⟨w.heap.size, 0, none⟩ = some (.int .i64 k) ∧ W.cell? ⟨w.heap.size, 1, none⟩ = some (.int .i64 r) ∧ W.cell? ⟨w.heap.size, 2, none⟩ = some (.int .i64 l) ∧ W.cell? ⟨w.heap.size, 3, none⟩ = some (.int .i64 ar) ∧ W.cell? ⟨w.heap.size, 4, none⟩ = some (.int .i64 av) ∧ W.cell? ⟨w.heap.size, 5, none⟩ = some (.int .i64 o) ∧ W.cell? ⟨w.heap.size, 6, none⟩ = some (.int .i64 br) ∧ W.cell? ⟨w.heap.size, 7, none⟩ = some (.int .i64 bv) ∧ W.cell? ⟨w.heap.size, 8, none⟩ = some (.int .i64 n) ∧ W.cell? ⟨w.heap.size + 1, 0, none⟩ = some (.int .i64 pc) ∧ W.cell? ⟨w.heap.size + 1, 1, none⟩ = some (.int .i64 r0) ∧ W.cell? ⟨w.heap.size + 1, 2, none⟩ = some (.int .i64 r1) ∧ W.cell? ⟨w.heap.size + 1, 3, none⟩ = some (.int .i64 r2) ∧ W.cell? ⟨w.heap.size + 1, 4, none⟩ = some (.int .i64 r3)) W := fun W a b => ⟨a.at (i := 0) rfl, a.at (i := 1) rfl, a.at (i := 2) rfl, a.at (i := 3) rfl, a.at (i := 4) rfl, a.at (i := 5) rfl, a.at (i := 6) rfl, a.at (i := 7) rfl, a.at (i := 8) rfl, b.at (i := 0) rfl, b.at (i := 1) rfl, b.at (i := 2) rfl, b.at (i := 3) rfl, b.at (i := 4) rfl⟩
 have ne2 : ¬ w.heap.size = w.heap.size + 1 + 1 := by omega
 obtain ⟨w1, hW0⟩ : ∃ w1, w1 = ((w.alloc (.cells #[.int .i64 k, .int .i64 r, .int .i64 l, .int .i64 ar, .int .i64 av, .int .i64 o, .int .i64 br, .int .i64 bv, .int .i64 n] 67)).alloc (.cells #[.int .i64 pc, .int .i64 r0, .int .i64 r1, .int .i64 r2, .int .i64 r3] 73)).alloc (.cells #[.int .i64 0, .int .i64 0, .int .i64 0, .int .i64 0, .int .i64 0, .int .i64 0] 58) := ⟨_, rfl⟩
 have K1 : On w w1 := by rw [hW0]; exact k0 _ _ _
 have I1 : Bk w1 w.heap.size #[.int .i64 k, .int .i64 r, .int .i64 l, .int .i64 ar, .int .i64 av, .int .i64 o, .int .i64 br, .int .i64 bv, .int .i64 n] := by rw [hW0]; exact bi _ _ _ _
 have L1 : Bk w1 (w.heap.size + 1) #[.int .i64 pc, .int .i64 r0, .int .i64 r1, .int .i64 r2, .int .i64 r3] := by rw [hW0]; exact bl _ _ _ _
 have R1 : Bk w1 (w.heap.size + 1 + 1) #[.int .i64 0, .int .i64 0, .int .i64 0, .int .i64 0, .int .i64 0, .int .i64 0] := by rw [hW0]; exact br' _ _ _ _
 unfold swapP
 simp only
 have hVa := fun W => hV ⟨ar, av⟩ W
 have hVb := fun W => hV ⟨br, bv⟩ W
 generalize valOf ⟨ar, av⟩ ⟨pc, r0, r1, r2, r3⟩ = VA at *
 generalize valOf ⟨br, bv⟩ ⟨pc, r0, r1, r2, r3⟩ = VB at *
 unfold locV at hVa hVb
 clear hV bi bl br' k0
 cases h2 : (k == 2) with
 | true =>
  have h1 : (k == 1) = false := by simp at h2 ⊢; omega
  have rr0 := R1.at (i := 0) rfl
  have rr1 := R1.at (i := 1) rfl
  have rr2 := R1.at (i := 2) rfl
  have rr3 := R1.at (i := 3) rfl
  have rr4 := R1.at (i := 4) rfl
  have rr5 := R1.at (i := 5) rfl
  have zf := fun i => R1.fr i
  have rl := R1.lt
  have x0 := I1.at (i := 0) rfl
  have x1 := I1.at (i := 1) rfl
  have x2 := I1.at (i := 2) rfl
  have x3 := I1.at (i := 3) rfl
  have x4 := I1.at (i := 4) rfl
  have x5 := I1.at (i := 5) rfl
  have x6 := I1.at (i := 6) rfl
  have x7 := I1.at (i := 7) rfl
  have x8 := I1.at (i := 8) rfl
  have y0 := L1.at (i := 0) rfl
  have y1 := L1.at (i := 1) rfl
  have y2 := L1.at (i := 2) rfl
  have y3 := L1.at (i := 3) rfl
  have y4 := L1.at (i := 4) rfl
  have xl := I1.lt
  have yl := L1.lt
  go_enter Tryz.func38, Tryz.ntmps38
  go_upto_region 1 with fail
  rw [← hW0]
  clear hW0
  go_wp2
  refine bodyPost_ret (v := evV ⟨0, 0, 1, l, v, 0⟩) ?_ rfl ⟨rfl, ?_⟩
  ·
   rw [results_cell rfl]
   unfold evV
   go_simp
  ·
   repeat' (first | with_reducible refine On.setNew ?_ (by omega) _ | with_reducible exact K1)
 | false =>
  cases h1 : (k == 1) with
  | true =>
   have rr0 := R1.at (i := 0) rfl
   have rr1 := R1.at (i := 1) rfl
   have rr2 := R1.at (i := 2) rfl
   have rr3 := R1.at (i := 3) rfl
   have rr4 := R1.at (i := 4) rfl
   have rr5 := R1.at (i := 5) rfl
   have zf := fun i => R1.fr i
   have rl := R1.lt
   have x0 := I1.at (i := 0) rfl
   have x1 := I1.at (i := 1) rfl
   have x2 := I1.at (i := 2) rfl
   have x3 := I1.at (i := 3) rfl
   have x4 := I1.at (i := 4) rfl
   have x5 := I1.at (i := 5) rfl
   have x6 := I1.at (i := 6) rfl
   have x7 := I1.at (i := 7) rfl
   have x8 := I1.at (i := 8) rfl
   have y0 := L1.at (i := 0) rfl
   have y1 := L1.at (i := 1) rfl
   have y2 := L1.at (i := 2) rfl
   have y3 := L1.at (i := 3) rfl
   have y4 := L1.at (i := 4) rfl
   have xl := I1.lt
   have yl := L1.lt
   go_enter Tryz.func38, Tryz.ntmps38
   go_upto_region 1 with fail
   rw [← hW0]
   clear hW0
   have S0 := hkS _ I1 L1
   go_upto_region 3 with fail
   clear x0 x1 x2 x3 x4 x5 x6 x7 x8 y0 y1 y2 y3 y4 xl yl
   refine region_fin (fun W => W.cell? ⟨w.heap.size, 0, none⟩ = some (.int .i64 k) ∧ W.cell? ⟨w.heap.size, 1, none⟩ = some (.int .i64 r) ∧ W.cell? ⟨w.heap.size, 2, none⟩ = some (.int .i64 l) ∧ W.cell? ⟨w.heap.size, 3, none⟩ = some (.int .i64 ar) ∧ W.cell? ⟨w.heap.size, 4, none⟩ = some (.int .i64 av) ∧ W.cell? ⟨w.heap.size, 5, none⟩ = some (.int .i64 o) ∧ W.cell? ⟨w.heap.size, 6, none⟩ = some (.int .i64 br) ∧ W.cell? ⟨w.heap.size, 7, none⟩ = some (.int .i64 bv) ∧ W.cell? ⟨w.heap.size, 8, none⟩ = some (.int .i64 n) ∧ W.cell? ⟨w.heap.size + 1, 0, none⟩ = some (.int .i64 pc) ∧ W.cell? ⟨w.heap.size + 1, 1, none⟩ = some (.int .i64 r0) ∧ W.cell? ⟨w.heap.size + 1, 2, none⟩ = some (.int .i64 r1) ∧ W.cell? ⟨w.heap.size + 1, 3, none⟩ = some (.int .i64 r2) ∧ W.cell? ⟨w.heap.size + 1, 4, none⟩ = some (.int .i64 r3)) 99 8 (by kernel_rfl) rfl ?_
   refine fin_take 0 (v := ?_) rfl (by kernel_rfl) (by kernel_rfl) (by kernel_rfl) (by kernel_rfl) (fun _ _ _ h => h) rfl ?_ S0 ?_
   rotate_left
   ·
    intro W hW
    go_simp
    (try with_reducible rfl)
   simp only [pu, sa, sz0, ss1]
   refine fin_take 1 (v := ?_) rfl (by kernel_rfl) (by kernel_rfl) (by kernel_rfl) (by kernel_rfl) (fun _ _ _ h => h) rfl ?_ S0 ?_
   rotate_left
   ·
    intro W hW
    go_simp
    (try with_reducible rfl)
   simp only [pu, sa, sz0, ss1]
   refine fin_take 2 (v := ?_) rfl (by kernel_rfl) (by kernel_rfl) (by kernel_rfl) (by kernel_rfl) (fun _ _ _ h => h) rfl ?_ S0 ?_
   rotate_left
   ·
    intro W hW
    go_simp
    (try with_reducible rfl)
   simp only [pu, sa, sz0, ss1]
   refine fin_take 3 (v := ?_) rfl (by kernel_rfl) (by kernel_rfl) (by kernel_rfl) (by kernel_rfl) (fun _ _ _ h => h) rfl ?_ S0 ?_
   rotate_left
   ·
    intro W hW
    go_simp
    (try with_reducible rfl)
   simp only [pu, sa, sz0, ss1]
   refine fin_take 4 (v := ?_) rfl (by kernel_rfl) (by kernel_rfl) (by kernel_rfl) (by kernel_rfl) (fun _ _ _ h => h) rfl ?_ S0 ?_
   rotate_left
   ·
    intro W hW
    go_simp
    (try with_reducible rfl)
   simp only [pu, sa, sz0, ss1]
   refine fin_one 5 rfl rfl (by kernel_rfl) (fun K hK => ?_)
   go_simp
   refine (hVa _).mono ?_
   rintro _ w2 ⟨rfl, kd'⟩
   have kd := On.trans (On.drew (On.refl w1)) kd'
   have I2 := I1.on kd
   have L2 := L1.on kd
   have R2 := R1.on kd
   have S2 := hkS _ I2 L2
   have q0 := R2.at (i := 0) rfl
   have q1 := R2.at (i := 1) rfl
   have q2 := R2.at (i := 2) rfl
   have q3 := R2.at (i := 3) rfl
   have q4 := R2.at (i := 4) rfl
   have q5 := R2.at (i := 5) rfl
   have qf := fun i => R2.fr i
   have ql := R2.lt
   clear rr0 rr1 rr2 rr3 rr4 rr5 zf rl
   refine hK.out _ _ (fun _ => S2) ?_
   clear hK
   refine fin_take 6 (v := ?_) rfl (by kernel_rfl) (by kernel_rfl) (by kernel_rfl) (by kernel_rfl) (fun _ _ _ h => h) rfl ?_ S2 ?_
   rotate_left
   ·
    intro W hW
    go_simp
    (try with_reducible rfl)
   simp only [pu, sa, sz0, ss1]
   refine fin_one 7 rfl rfl (by kernel_rfl) (fun K hK => ?_)
   go_simp
   refine hK.out _ _ (fun _ => hkS _ (by repeat' (first | with_reducible exact I2 | with_reducible refine Bk.far ?_ (by omega) _ _)) (by repeat' (first | with_reducible exact L2 | with_reducible refine Bk.far ?_ (by omega) _ _))) ?_
   clear hK
   refine fin_done (by kernel_rfl) (NoPanic.normal ?_)
   go_wp2
   refine bodyPost_ret (v := evV ⟨0, 0, 2, l, 0, VA⟩) ?_ rfl ⟨rfl, ?_⟩
   ·
    rw [results_cell rfl]
    unfold evV
    go_simp
   ·
    repeat' (first | with_reducible refine On.setNew ?_ (by omega) _ | with_reducible exact K1.trans kd)
  | false =>
   cases h4 : (k == 4) with
   | true =>
    have rr0 := R1.at (i := 0) rfl
    have rr1 := R1.at (i := 1) rfl
    have rr2 := R1.at (i := 2) rfl
    have rr3 := R1.at (i := 3) rfl
    have rr4 := R1.at (i := 4) rfl
    have rr5 := R1.at (i := 5) rfl
    have zf := fun i => R1.fr i
    have rl := R1.lt
    have x0 := I1.at (i := 0) rfl
    have x1 := I1.at (i := 1) rfl
    have x2 := I1.at (i := 2) rfl
    have x3 := I1.at (i := 3) rfl
    have x4 := I1.at (i := 4) rfl
    have x5 := I1.at (i := 5) rfl
    have x6 := I1.at (i := 6) rfl
    have x7 := I1.at (i := 7) rfl
    have x8 := I1.at (i := 8) rfl
    have y0 := L1.at (i := 0) rfl
    have y1 := L1.at (i := 1) rfl
    have y2 := L1.at (i := 2) rfl
    have y3 := L1.at (i := 3) rfl
    have y4 := L1.at (i := 4) rfl
    have xl := I1.lt
    have yl := L1.lt
    go_enter Tryz.func38, Tryz.ntmps38
    go_upto_region 1 with fail
    rw [← hW0]
    clear hW0
    go_wp2_with fail
    refine (hVa _).mono ?_
    rintro _ w2 ⟨rfl, k2⟩
    have I2 := I1.on k2
    have L2 := L1.on k2
    have R2 := R1.on k2
    have K2 := K1.trans k2
    clear rr0 rr1 rr2 rr3 rr4 rr5 zf rl x0 x1 x2 x3 x4 x5 x6 x7 x8 y0 y1 y2 y3 y4 xl yl I1 L1 R1 K1 k2
    cases hv : (v == VA) with
    | false =>
     have rr0 := R2.at (i := 0) rfl
     have rr1 := R2.at (i := 1) rfl
     have rr2 := R2.at (i := 2) rfl
     have rr3 := R2.at (i := 3) rfl
     have rr4 := R2.at (i := 4) rfl
     have rr5 := R2.at (i := 5) rfl
     have zf := fun i => R2.fr i
     have rl := R2.lt
     have x0 := I2.at (i := 0) rfl
     have x1 := I2.at (i := 1) rfl
     have x2 := I2.at (i := 2) rfl
     have x3 := I2.at (i := 3) rfl
     have x4 := I2.at (i := 4) rfl
     have x5 := I2.at (i := 5) rfl
     have x6 := I2.at (i := 6) rfl
     have x7 := I2.at (i := 7) rfl
     have x8 := I2.at (i := 8) rfl
     have y0 := L2.at (i := 0) rfl
     have y1 := L2.at (i := 1) rfl
     have y2 := L2.at (i := 2) rfl
     have y3 := L2.at (i := 3) rfl
     have y4 := L2.at (i := 4) rfl
     have xl := I2.lt
     have yl := L2.lt
     go_wp2
     refine bodyPost_ret (v := evV ⟨0, 0, 5, l, v, 0⟩) ?_ rfl ⟨rfl, ?_⟩
     ·
      rw [results_cell rfl]
      unfold evV
      go_simp
     ·
      repeat' (first | with_reducible refine On.setNew ?_ (by omega) _ | with_reducible exact K2)
    | true =>
     have rr0 := R2.at (i := 0) rfl
     have rr1 := R2.at (i := 1) rfl
     have rr2 := R2.at (i := 2) rfl
     have rr3 := R2.at (i := 3) rfl
     have rr4 := R2.at (i := 4) rfl
     have rr5 := R2.at (i := 5) rfl
     have zf := fun i => R2.fr i
     have rl := R2.lt
     have S0 := hkS _ I2 L2
     go_upto_region 8 with fail
     refine region_fin (fun W => W.cell? ⟨w.heap.size, 0, none⟩ = some (.int .i64 k) ∧ W.cell? ⟨w.heap.size, 1, none⟩ = some (.int .i64 r) ∧ W.cell? ⟨w.heap.size, 2, none⟩ = some (.int .i64 l) ∧ W.cell? ⟨w.heap.size, 3, none⟩ = some (.int .i64 ar) ∧ W.cell? ⟨w.heap.size, 4, none⟩ = some (.int .i64 av) ∧ W.cell? ⟨w.heap.size, 5, none⟩ = some (.int .i64 o) ∧ W.cell? ⟨w.heap.size, 6, none⟩ = some (.int .i64 br) ∧ W.cell? ⟨w.heap.size, 7, none⟩ = some (.int .i64 bv) ∧ W.cell? ⟨w.heap.size, 8, none⟩ = some (.int .i64 n) ∧ W.cell? ⟨w.heap.size + 1, 0, none⟩ = some (.int .i64 pc) ∧ W.cell? ⟨w.heap.size + 1, 1, none⟩ = some (.int .i64 r0) ∧ W.cell? ⟨w.heap.size + 1, 2, none⟩ = some (.int .i64 r1) ∧ W.cell? ⟨w.heap.size + 1, 3, none⟩ = some (.int .i64 r2) ∧ W.cell? ⟨w.heap.size + 1, 4, none⟩ = some (.int .i64 r3)) 99 9 (by kernel_rfl) rfl ?_
     refine fin_take 0 (v := ?_) rfl (by kernel_rfl) (by kernel_rfl) (by kernel_rfl) (by kernel_rfl) (fun _ _ _ h => h) rfl ?_ S0 ?_
     rotate_left
     ·
      intro W hW
      go_simp
      (try with_reducible rfl)
     simp only [pu, sa, sz0, ss1]
     refine fin_take 1 (v := ?_) rfl (by kernel_rfl) (by kernel_rfl) (by kernel_rfl) (by kernel_rfl) (fun _ _ _ h => h) rfl ?_ S0 ?_
     rotate_left
     ·
      intro W hW
      go_simp
      (try with_reducible rfl)
     simp only [pu, sa, sz0, ss1]
     refine fin_take 2 (v := ?_) rfl (by kernel_rfl) (by kernel_rfl) (by kernel_rfl) (by kernel_rfl) (fun _ _ _ h => h) rfl ?_ S0 ?_
     rotate_left
     ·
      intro W hW
      go_simp
      (try with_reducible rfl)
     simp only [pu, sa, sz0, ss1]
     refine fin_take 3 (v := ?_) rfl (by kernel_rfl) (by kernel_rfl) (by kernel_rfl) (by kernel_rfl) (fun _ _ _ h => h) rfl ?_ S0 ?_
     rotate_left
     ·
      intro W hW
      go_simp
      (try with_reducible rfl)
     simp only [pu, sa, sz0, ss1]
     refine fin_take 4 (v := ?_) rfl (by kernel_rfl) (by kernel_rfl) (by kernel_rfl) (by kernel_rfl) (fun _ _ _ h => h) rfl ?_ S0 ?_
     rotate_left
     ·
      intro W hW
      go_simp
      (try with_reducible rfl)
     simp only [pu, sa, sz0, ss1]
     refine fin_take 5 (v := ?_) rfl (by kernel_rfl) (by kernel_rfl) (by kernel_rfl) (by kernel_rfl) (fun _ _ _ h => h) rfl ?_ S0 ?_
     rotate_left
     ·
      intro W hW
      go_simp
      (try with_reducible rfl)
     simp only [pu, sa, sz0, ss1]
     refine fin_one 6 rfl rfl (by kernel_rfl) (fun K hK => ?_)
     go_simp
     refine (hVb _).mono ?_
     rintro _ w3 ⟨rfl, kd'⟩
     have kd := On.trans (On.drew (On.refl w2)) kd'
     have I3 := I2.on kd
     have L3 := L2.on kd
     have R3 := R2.on kd
     have S2 := hkS _ I3 L3
     have q0 := R3.at (i := 0) rfl
     have q1 := R3.at (i := 1) rfl
     have q2 := R3.at (i := 2) rfl
     have q3 := R3.at (i := 3) rfl
     have q4 := R3.at (i := 4) rfl
     have q5 := R3.at (i := 5) rfl
     have qf := fun i => R3.fr i
     have ql := R3.lt
     clear rr0 rr1 rr2 rr3 rr4 rr5 zf rl
     refine hK.out _ _ (fun _ => S2) ?_
     clear hK
     refine fin_take 7 (v := ?_) rfl (by kernel_rfl) (by kernel_rfl) (by kernel_rfl) (by kernel_rfl) (fun _ _ _ h => h) rfl ?_ S2 ?_
     rotate_left
     ·
      intro W hW
      go_simp
      (try with_reducible rfl)
     simp only [pu, sa, sz0, ss1]
     refine fin_one 8 rfl rfl (by kernel_rfl) (fun K hK => ?_)
     go_simp
     refine hK.out _ _ (fun _ => hkS _ (by repeat' (first | with_reducible exact I3 | with_reducible refine Bk.far ?_ (by omega) _ _)) (by repeat' (first | with_reducible exact L3 | with_reducible refine Bk.far ?_ (by omega) _ _))) ?_
     clear hK
     refine fin_done (by kernel_rfl) (NoPanic.normal ?_)
     go_wp2
     refine bodyPost_ret (v := evV ⟨0, 0, 4, l, v, VB⟩) ?_ rfl ⟨rfl, ?_⟩
     ·
      rw [results_cell rfl]
      unfold evV
      go_simp
     ·
      repeat' (first | with_reducible refine On.setNew ?_ (by omega) _ | with_reducible exact K2.trans kd)
   | false =>
    have rr0 := R1.at (i := 0) rfl
    have rr1 := R1.at (i := 1) rfl
    have rr2 := R1.at (i := 2) rfl
    have rr3 := R1.at (i := 3) rfl
    have rr4 := R1.at (i := 4) rfl
    have rr5 := R1.at (i := 5) rfl
    have zf := fun i => R1.fr i
    have rl := R1.lt
    have x0 := I1.at (i := 0) rfl
    have x1 := I1.at (i := 1) rfl
    have x2 := I1.at (i := 2) rfl
    have x3 := I1.at (i := 3) rfl
    have x4 := I1.at (i := 4) rfl
    have x5 := I1.at (i := 5) rfl
    have x6 := I1.at (i := 6) rfl
    have x7 := I1.at (i := 7) rfl
    have x8 := I1.at (i := 8) rfl
    have y0 := L1.at (i := 0) rfl
    have y1 := L1.at (i := 1) rfl
    have y2 := L1.at (i := 2) rfl
    have y3 := L1.at (i := 3) rfl
    have y4 := L1.at (i := 4) rfl
    have xl := I1.lt
    have yl := L1.lt
    go_enter Tryz.func38, Tryz.ntmps38
    go_upto_region 1 with fail
    rw [← hW0]
    clear hW0
    go_wp2
    refine bodyPost_ret (v := evV ⟨0, 0, 3, 0, 0, 0⟩) ?_ rfl ⟨rfl, ?_⟩
    ·
     rw [results_cell rfl]
     unfold evV
     go_simp
    ·
     repeat' (first | with_reducible refine On.setNew ?_ (by omega) _ | with_reducible exact K1)
end Go.Proofs.YtcfohakgokiedaaGreatDoor

namespace Go.Proofs.YtcfohakgokiedaaGreatDoor
open Go.RowKit

set_option maxHeartbeats 8000000 in
set_option maxRecDepth 8000 in
theorem rnormal_is (LL : List (List InsT)) (t : Nat) (L : List InsT) (l0 : LocT) (v : Value) (w : World) (h : ProgRd w v LL) (hL : LL[t]? = some L) (h0 : 0 ≤ l0.pc)
  (hok : ∀ (i : Nat) (x : InsT), L[i]? = some x → (x.k = 5 → regOk x.r = true) ∧ (x.k = 6 → 0 ≤ x.n ∧ x.n ≤ (L.length : Int) - i - 1)) :
  Calls Tryz.prog 54 #[v, .int .i64 t, locV l0] w fun e w' => e = .returned (locV (settleP L l0)) ∧ On w w' := by
 obtain ⟨a1, m1, c1, a2, m2, c2, a, c, rfl, r⟩ := h
 have HR : Hid (Rd2 insC 9 w (.slice a LL.length c) LL) := r
 obtain ⟨_, _, _, _, hmL⟩ := r.slice
 have htl : t < LL.length := (List.getElem?_eq_some_iff.1 hL).1
 obtain ⟨ga, oa, rfl, hga, ax, cx, uax, hxm, rx⟩ := r.row hL
 have HX : Hid (Rd insC 9 w (.slice ax L.length cx) L) := rx
 have HOK : Hid (∀ (i : Nat) (x : InsT), L[i]? = some x → (x.k = 5 → regOk x.r = true) ∧ (x.k = 6 → 0 ≤ x.n ∧ x.n ≤ (L.length : Int) - i - 1)) := hok
 clear r rx hL hok
 obtain ⟨R, hR⟩ : ∃ R, R = locV (settleP L l0) := ⟨_, rfl⟩
 rw [← hR]
 obtain ⟨pc, p0, p1, p2, p3⟩ := l0
 obtain ⟨n0, rfl⟩ : ∃ n : Nat, pc = (n : Int) := ⟨pc.toNat, by have : 0 ≤ pc := h0; omega⟩
 have HS : Hid (R = locV (settleP L ⟨(n0 : Int), p0, p1, p2, p3⟩)) := hR
 clear hR h0
 unfold locV
 obtain ⟨W0, hW0⟩ : ∃ W0, W0 = ((w.alloc (.cells #[.slice a1 m1 c1, .slice a2 m2 c2, .slice (some ⟨ga, oa, none⟩) LL.length c] 27)).alloc (.cells #[.int .i64 (n0 : Int), .int .i64 p0, .int .i64 p1, .int .i64 p2, .int .i64 p3] 73)).alloc (.cells #[.int .i64 0, .int .i64 0, .int .i64 0, .int .i64 0, .int .i64 0] 73) := ⟨_, rfl⟩
 have K0 : On w W0 := by rw [hW0]; exact (((On.refl w).alloc _).alloc _).alloc _
 have PB0 : Bk W0 w.heap.size #[.slice a1 m1 c1, .slice a2 m2 c2, .slice (some ⟨ga, oa, none⟩) LL.length c] := by rw [hW0]; exact ((Bk.new w _ _).alloc _).alloc _
 have CB0 : Bk W0 (w.heap.size + 1) #[.int .i64 (n0 : Int), .int .i64 p0, .int .i64 p1, .int .i64 p2, .int .i64 p3] := by
  rw [hW0]
  have := (Bk.new (w.alloc (.cells #[.slice a1 m1 c1, .slice a2 m2 c2, .slice (some ⟨ga, oa, none⟩) LL.length c] 27)) #[.int .i64 (n0 : Int), .int .i64 p0, .int .i64 p1, .int .i64 p2, .int .i64 p3] 73).alloc (.cells #[.int .i64 0, .int .i64 0, .int .i64 0, .int .i64 0, .int .i64 0] 73)
  rwa [World.size_alloc] at this
 have ZB0 : Bk W0 (w.heap.size + 1 + 1) #[.int .i64 0, .int .i64 0, .int .i64 0, .int .i64 0, .int .i64 0] := by
  rw [hW0]
  have := Bk.new ((w.alloc (.cells #[.slice a1 m1 c1, .slice a2 m2 c2, .slice (some ⟨ga, oa, none⟩) LL.length c] 27)).alloc (.cells #[.int .i64 (n0 : Int), .int .i64 p0, .int .i64 p1, .int .i64 p2, .int .i64 p3] 73)) #[.int .i64 0, .int .i64 0, .int .i64 0, .int .i64 0, .int .i64 0] 73
  rwa [World.size_alloc, World.size_alloc] at this
 go_enter Tryz.func54, Tryz.ntmps54
 go_wp2
 rw [← hW0]
 clear hW0
 go_loopg [] (L.length - n0) (fun gg wq => ∃ (n : Nat) (r0 r1 r2 r3 : Int), gg = L.length - n ∧ Hid (On w wq) ∧ Bk wq w.heap.size #[.slice a1 m1 c1, .slice a2 m2 c2, .slice (some ⟨ga, oa, none⟩) LL.length c] ∧ Bk wq (w.heap.size + 1) #[.int .i64 (n : Int), .int .i64 r0, .int .i64 r1, .int .i64 r2, .int .i64 r3] ∧ Bk wq (w.heap.size + 1 + 1) #[.int .i64 0, .int .i64 0, .int .i64 0, .int .i64 0, .int .i64 0] ∧ Hid (R = locV (settleP L ⟨(n : Int), r0, r1, r2, r3⟩)))
 case atStart => exact ⟨n0, p0, p1, p2, p3, rfl, K0, PB0, CB0, ZB0, HS⟩
 case round =>
  clear HS PB0 CB0 ZB0
  obtain ⟨n, r0, r1, r2, r3, hgg, HO, PB, CB, ZB, HS⟩ := hrel
  have pl := PB.lt
  have cl := CB.lt
  have zl := ZB.lt
  have q2 := PB.at (i := 2) rfl
  have c0 := CB.at (i := 0) rfl
  have u0 := (HO.out.cell (p := ⟨ga, oa + t, none⟩) hga).trans uax
  have qS : (fun W : World => W.cell? ⟨w.heap.size, 2, none⟩ = some (.slice (some ⟨ga, oa, none⟩) LL.length c) ∧ W.cell? ⟨w.heap.size + 1, 0, none⟩ = some (.int .i64 (n : Int)) ∧ W.cell? ⟨ga, oa + t, none⟩ = some (.slice ax L.length cx)) wr.drew := ⟨q2, c0, u0⟩
  rcases Nat.lt_or_ge n L.length with hlt | hge
  ·
   obtain ⟨x, hx⟩ : ∃ x, L[n]? = some x := ⟨_, List.getElem?_eq_getElem hlt⟩
   have hst := settle_step (L := L) (l := ⟨(n : Int), r0, r1, r2, r3⟩) (i := x) (Int.natCast_nonneg n) (by simpa using hx)
   obtain ⟨hok5, hok6⟩ := HOK.out n x hx
   go_wp2
   refine region_fin (fun W => W.cell? ⟨w.heap.size, 2, none⟩ = some (.slice (some ⟨ga, oa, none⟩) LL.length c) ∧ W.cell? ⟨w.heap.size + 1, 0, none⟩ = some (.int .i64 (n : Int)) ∧ W.cell? ⟨ga, oa + t, none⟩ = some (.slice ax L.length cx)) 99 9 (by kernel_rfl) rfl ?_
   refine fin_take 0 (v := ?_) rfl (by kernel_rfl) (by kernel_rfl) (by kernel_rfl) (by kernel_rfl) (fun _ _ _ h => h) rfl ?_ qS ?_
   rotate_left
   ·
    intro W hW
    go_simp
    (try with_reducible rfl)
   simp only [pu, sa, sz0, ss1]
   refine fin_take 1 (v := ?_) rfl (by kernel_rfl) (by kernel_rfl) (by kernel_rfl) (by kernel_rfl) (fun _ _ _ h => h) rfl ?_ qS ?_
   rotate_left
   ·
    intro W hW
    go_simp
    (try with_reducible rfl)
   simp only [pu, sa, sz0, ss1]
   refine fin_take 2 (v := ?_) rfl (by kernel_rfl) (by kernel_rfl) (by kernel_rfl) (by kernel_rfl) (fun _ _ _ h => h) rfl ?_ qS ?_
   rotate_left
   ·
    intro W hW
    go_simp
    (try with_reducible rfl)
   simp only [pu, sa, sz0, ss1]
   refine fin_take 3 (v := ?_) rfl (by kernel_rfl) (by kernel_rfl) (by kernel_rfl) (by kernel_rfl) (fun _ _ _ h => h) rfl ?_ qS ?_
   rotate_left
   ·
    intro W hW
    go_simp
    (try with_reducible rfl)
   simp only [pu, sa, sz0, ss1]
   refine fin_take 4 (v := ?_) rfl (by kernel_rfl) (by kernel_rfl) (by kernel_rfl) (by kernel_rfl) (fun _ _ _ h => h) rfl ?_ qS ?_
   rotate_left
   ·
    intro W hW
    go_simp
    (try with_reducible rfl)
   simp only [pu, sa, sz0, ss1]
   refine fin_take 5 (v := ?_) rfl (by kernel_rfl) (by kernel_rfl) (by kernel_rfl) (by kernel_rfl) (fun _ _ _ h => h) rfl ?_ qS ?_
   rotate_left
   ·
    intro W hW
    go_simp
    (try with_reducible rfl)
   simp only [pu, sa, sz0, ss1]
   refine fin_take 6 (v := ?_) rfl (by kernel_rfl) (by kernel_rfl) (by kernel_rfl) (by kernel_rfl) (fun _ _ _ h => h) rfl ?_ qS ?_
   rotate_left
   ·
    intro W hW
    go_simp
    (try with_reducible rfl)
   simp only [pu, sa, sz0, ss1]
   refine fin_take 7 (v := ?_) rfl (by kernel_rfl) (by kernel_rfl) (by kernel_rfl) (by kernel_rfl) (fun _ _ _ h => h) rfl ?_ qS ?_
   rotate_left
   ·
    intro W hW
    go_simp
    (try with_reducible rfl)
   simp only [pu, sa, sz0, ss1]
   refine fin_take 8 (v := ?_) rfl (by kernel_rfl) (by kernel_rfl) (by kernel_rfl) (by kernel_rfl) (fun _ _ _ h => h) rfl ?_ qS ?_
   rotate_left
   ·
    intro W hW
    go_simp
    (try with_reducible rfl)
   simp only [pu, sa, sz0, ss1]
   refine fin_done (by kernel_rfl) (NoPanic.normal ?_)
   clear qS
   obtain ⟨gx, ox, rfl, hgx, hcell⟩ := (HX.out.on HO.out).at hx
   have qI : ∀ W, On wr W → W.cell? ⟨w.heap.size, 2, none⟩ = some (.slice (some ⟨ga, oa, none⟩) LL.length c) ∧ W.cell? ⟨w.heap.size + 1, 0, none⟩ = some (.int .i64 (n : Int)) ∧ W.cell? ⟨ga, oa + t, none⟩ = some (.slice (some ⟨gx, ox, none⟩) L.length cx) ∧ W.cell? ⟨gx, ox + n * 9, none⟩ = some (.int .i64 x.k) ∧ W.cell? ⟨gx, ox + n * 9 + 1, none⟩ = some (.int .i64 x.r) ∧ W.cell? ⟨gx, ox + n * 9 + 2, none⟩ = some (.int .i64 x.l) ∧ W.cell? ⟨gx, ox + n * 9 + 3, none⟩ = some (.int .i64 x.a.r) ∧ W.cell? ⟨gx, ox + n * 9 + 4, none⟩ = some (.int .i64 x.a.v) ∧ W.cell? ⟨gx, ox + n * 9 + 5, none⟩ = some (.int .i64 x.o) ∧ W.cell? ⟨gx, ox + n * 9 + 6, none⟩ = some (.int .i64 x.b.r) ∧ W.cell? ⟨gx, ox + n * 9 + 7, none⟩ = some (.int .i64 x.b.v) ∧ W.cell? ⟨gx, ox + n * 9 + 8, none⟩ = some (.int .i64 x.n) := fun W k => ⟨(PB.on k).at (i := 2) rfl, (CB.on k).at (i := 0) rfl, (k.cell (p := ⟨ga, oa + t, none⟩) (Nat.lt_of_lt_of_le hga HO.out.size)).trans u0, (k.cell (p := ⟨gx, ox + n * 9 + 0, none⟩) hgx).trans (hcell 0 _ rfl), (k.cell (p := ⟨gx, ox + n * 9 + 1, none⟩) hgx).trans (hcell 1 _ rfl), (k.cell (p := ⟨gx, ox + n * 9 + 2, none⟩) hgx).trans (hcell 2 _ rfl), (k.cell (p := ⟨gx, ox + n * 9 + 3, none⟩) hgx).trans (hcell 3 _ rfl), (k.cell (p := ⟨gx, ox + n * 9 + 4, none⟩) hgx).trans (hcell 4 _ rfl), (k.cell (p := ⟨gx, ox + n * 9 + 5, none⟩) hgx).trans (hcell 5 _ rfl), (k.cell (p := ⟨gx, ox + n * 9 + 6, none⟩) hgx).trans (hcell 6 _ rfl), (k.cell (p := ⟨gx, ox + n * 9 + 7, none⟩) hgx).trans (hcell 7 _ rfl), (k.cell (p := ⟨gx, ox + n * 9 + 8, none⟩) hgx).trans (hcell 8 _ rfl)⟩
   have q9 := qI _ (On.refl wr).drew.drew
   go_wp2
   refine region_fin (fun W => W.cell? ⟨w.heap.size, 2, none⟩ = some (.slice (some ⟨ga, oa, none⟩) LL.length c) ∧ W.cell? ⟨w.heap.size + 1, 0, none⟩ = some (.int .i64 (n : Int)) ∧ W.cell? ⟨ga, oa + t, none⟩ = some (.slice (some ⟨gx, ox, none⟩) L.length cx) ∧ W.cell? ⟨gx, ox + n * 9, none⟩ = some (.int .i64 x.k) ∧ W.cell? ⟨gx, ox + n * 9 + 1, none⟩ = some (.int .i64 x.r) ∧ W.cell? ⟨gx, ox + n * 9 + 2, none⟩ = some (.int .i64 x.l) ∧ W.cell? ⟨gx, ox + n * 9 + 3, none⟩ = some (.int .i64 x.a.r) ∧ W.cell? ⟨gx, ox + n * 9 + 4, none⟩ = some (.int .i64 x.a.v) ∧ W.cell? ⟨gx, ox + n * 9 + 5, none⟩ = some (.int .i64 x.o) ∧ W.cell? ⟨gx, ox + n * 9 + 6, none⟩ = some (.int .i64 x.b.r) ∧ W.cell? ⟨gx, ox + n * 9 + 7, none⟩ = some (.int .i64 x.b.v) ∧ W.cell? ⟨gx, ox + n * 9 + 8, none⟩ = some (.int .i64 x.n)) 10 11 (by kernel_rfl) rfl ?_
   refine fin_take 0 (v := ?_) rfl (by kernel_rfl) (by kernel_rfl) (by kernel_rfl) (by kernel_rfl) (fun _ _ _ h => h) rfl ?_ q9 ?_
   rotate_left
   ·
    intro W hW
    go_simp
    (try with_reducible rfl)
   simp only [pu, sa, sz0, ss1]
   refine fin_take 1 (v := ?_) rfl (by kernel_rfl) (by kernel_rfl) (by kernel_rfl) (by kernel_rfl) (fun _ _ _ h => h) rfl ?_ q9 ?_
   rotate_left
   ·
    intro W hW
    go_simp
    (try with_reducible rfl)
   simp only [pu, sa, sz0, ss1]
   refine fin_take 2 (v := ?_) rfl (by kernel_rfl) (by kernel_rfl) (by kernel_rfl) (by kernel_rfl) (fun _ _ _ h => h) rfl ?_ q9 ?_
   rotate_left
   ·
    intro W hW
    go_simp
    (try with_reducible rfl)
   simp only [pu, sa, sz0, ss1]
   refine fin_take 3 (v := ?_) rfl (by kernel_rfl) (by kernel_rfl) (by kernel_rfl) (by kernel_rfl) (fun _ _ _ h => h) rfl ?_ q9 ?_
   rotate_left
   ·
    intro W hW
    go_simp
    (try with_reducible rfl)
   simp only [pu, sa, sz0, ss1]
   refine fin_take 4 (v := ?_) rfl (by kernel_rfl) (by kernel_rfl) (by kernel_rfl) (by kernel_rfl) (fun _ _ _ h => h) rfl ?_ q9 ?_
   rotate_left
   ·
    intro W hW
    go_simp
    (try with_reducible rfl)
   simp only [pu, sa, sz0, ss1]
   refine fin_take 5 (v := ?_) rfl (by kernel_rfl) (by kernel_rfl) (by kernel_rfl) (by kernel_rfl) (fun _ _ _ h => h) rfl ?_ q9 ?_
   rotate_left
   ·
    intro W hW
    go_simp
    (try with_reducible rfl)
   simp only [pu, sa, sz0, ss1]
   refine fin_take 6 (v := ?_) rfl (by kernel_rfl) (by kernel_rfl) (by kernel_rfl) (by kernel_rfl) (fun _ _ _ h => h) rfl ?_ q9 ?_
   rotate_left
   ·
    intro W hW
    go_simp
    (try with_reducible rfl)
   simp only [pu, sa, sz0, ss1]
   refine fin_take 7 (v := ?_) rfl (by kernel_rfl) (by kernel_rfl) (by kernel_rfl) (by kernel_rfl) (fun _ _ _ h => h) rfl ?_ q9 ?_
   rotate_left
   ·
    intro W hW
    go_simp
    (try with_reducible rfl)
   simp only [pu, sa, sz0, ss1]
   refine fin_take 8 (v := ?_) rfl (by kernel_rfl) (by kernel_rfl) (by kernel_rfl) (by kernel_rfl) (fun _ _ _ h => h) rfl ?_ q9 ?_
   rotate_left
   ·
    intro W hW
    go_simp
    (try with_reducible rfl)
   simp only [pu, sa, sz0, ss1]
   refine fin_one 9 rfl rfl (by kernel_rfl) (fun K hK => ?_)
   go_simp
   refine hK.out _ _ (fun _ => qI _ (((On.refl wr).drew.drew).alloc _)) ?_
   clear hK
   refine fin_one 10 rfl rfl (by kernel_rfl) (fun K hK => ?_)
   go_simp
   refine hK.out _ _ (fun h => absurd rfl h) ?_
   refine fin_done (by kernel_rfl) (NoPanic.normal ?_)
   obtain ⟨W1, hW1⟩ : ∃ W1, W1 = (wr.alloc (.cells #[.int .i64 x.k, .int .i64 x.r, .int .i64 x.l, .int .i64 x.a.r, .int .i64 x.a.v, .int .i64 x.o, .int .i64 x.b.r, .int .i64 x.b.v, .int .i64 x.n] 67)).drew.drew := ⟨_, rfl⟩
   have k1 : On wr W1 := by rw [hW1]; exact ((On.refl wr).alloc _).drew.drew
   have I1 : Bk W1 wr.heap.size #[.int .i64 x.k, .int .i64 x.r, .int .i64 x.l, .int .i64 x.a.r, .int .i64 x.a.v, .int .i64 x.o, .int .i64 x.b.r, .int .i64 x.b.v, .int .i64 x.n] := by rw [hW1]; exact Bk.new wr _ _
   have P1 := PB.on k1
   have C1 := CB.on k1
   have Z1 := ZB.on k1
   have O1 : On w W1 := HO.out.trans k1
   rw [← hW1]
   clear hW1 q9 qI hcell u0 c0 q2 PB CB ZB
   have hS : ∀ W, On W1 W → W.cell? ⟨w.heap.size + 1, 0, none⟩ = some (.int .i64 (n : Int)) ∧ W.cell? ⟨w.heap.size + 1, 1, none⟩ = some (.int .i64 r0) ∧ W.cell? ⟨w.heap.size + 1, 2, none⟩ = some (.int .i64 r1) ∧ W.cell? ⟨w.heap.size + 1, 3, none⟩ = some (.int .i64 r2) ∧ W.cell? ⟨w.heap.size + 1, 4, none⟩ = some (.int .i64 r3) ∧ W.cell? ⟨wr.heap.size, 0, none⟩ = some (.int .i64 x.k) ∧ W.cell? ⟨wr.heap.size, 1, none⟩ = some (.int .i64 x.r) ∧ W.cell? ⟨wr.heap.size, 2, none⟩ = some (.int .i64 x.l) ∧ W.cell? ⟨wr.heap.size, 3, none⟩ = some (.int .i64 x.a.r) ∧ W.cell? ⟨wr.heap.size, 4, none⟩ = some (.int .i64 x.a.v) ∧ W.cell? ⟨wr.heap.size, 5, none⟩ = some (.int .i64 x.o) ∧ W.cell? ⟨wr.heap.size, 6, none⟩ = some (.int .i64 x.b.r) ∧ W.cell? ⟨wr.heap.size, 7, none⟩ = some (.int .i64 x.b.v) ∧ W.cell? ⟨wr.heap.size, 8, none⟩ = some (.int .i64 x.n) := fun W k => ⟨(C1.on k).at (i := 0) rfl, (C1.on k).at (i := 1) rfl, (C1.on k).at (i := 2) rfl, (C1.on k).at (i := 3) rfl, (C1.on k).at (i := 4) rfl, (I1.on k).at (i := 0) rfl, (I1.on k).at (i := 1) rfl, (I1.on k).at (i := 2) rfl, (I1.on k).at (i := 3) rfl, (I1.on k).at (i := 4) rfl, (I1.on k).at (i := 5) rfl, (I1.on k).at (i := 6) rfl, (I1.on k).at (i := 7) rfl, (I1.on k).at (i := 8) rfl⟩
   have hVa := fun W => rvalue_is x.a ⟨(n : Int), r0, r1, r2, r3⟩ W
   have hVb := fun W => rvalue_is x.b ⟨(n : Int), r0, r1, r2, r3⟩ W
   unfold locV at hVa hVb
   have hwr : w.heap.size + 1 + 1 < wr.heap.size := zl
   have hne : ¬ wr.heap.size = w.heap.size := by omega
   have hne' : ¬ wr.heap.size = w.heap.size + 1 := by omega
   have il := I1.lt
   have wl1 : w.heap.size < W1.heap.size := by omega
   have wl2 : w.heap.size + 1 < W1.heap.size := by omega
   have wl3 : w.heap.size + 1 + 1 < W1.heap.size := by omega
   obtain ⟨y0, y1, y2, y3, y4, y5, y6, y7, y8, y9, y10, y11, y12, y13⟩ := hS _ (On.refl W1)
   cases h5 : (x.k == 5) with
   | true =>
    rw [h5] at hst
    simp only [if_true] at hst
    have hreg := hok5 (by simpa using h5)
    have h0 : ((x.o == 0) = true ∧ resOf x ⟨(n : Int), r0, r1, r2, r3⟩ = valOf x.a ⟨(n : Int), r0, r1, r2, r3⟩) ∨ ((x.o == 0) = false ∧ resOf x ⟨(n : Int), r0, r1, r2, r3⟩ = doV x.o (valOf x.a ⟨(n : Int), r0, r1, r2, r3⟩) (valOf x.b ⟨(n : Int), r0, r1, r2, r3⟩)) := by
     cases ho : (x.o == 0)
     ·
      exact Or.inr ⟨rfl, by unfold resOf; rw [ho]; rfl⟩
     ·
      exact Or.inl ⟨rfl, by unfold resOf; rw [ho]; rfl⟩
    have HS1 : Hid (R = locV (settleP L (pcTo (withR ⟨(n : Int), r0, r1, r2, r3⟩ x.r (resOf x ⟨(n : Int), r0, r1, r2, r3⟩)) ((n : Int) + 1)))) := HS.out.trans (congrArg locV hst)
    clear hst HS hok5 hok6
    rcases h0 with ⟨ho, hres⟩ | ⟨ho, hres⟩
    ·
     rw [hres] at HS1
     generalize valOf x.a ⟨(n : Int), r0, r1, r2, r3⟩ = va at *
     have hob : (x.o != 0) = false := by rw [bne, ho]; rfl
     clear hres
     rcases regOk_four hreg with hr | hr | hr | hr
     ·
      have HS2 : Hid (R = locV (settleP L ⟨((n + 1 : Nat) : Int), va, r1, r2, r3⟩)) := by
       show R = _
       rw [HS1.out, hr]
       rfl
      clear HS1 hreg
      go_wp2_with fail
      refine (hVa _).mono ?_
      rintro _ w3 ⟨rfl, k3⟩
      obtain ⟨y0, y1, y2, y3, y4, y5, y6, y7, y8, y9, y10, y11, y12, y13⟩ := hS _ k3
      have C2 := C1.on k3
      have P2 := P1.on k3
      have Z2 := Z1.on k3
      have I2 := I1.on k3
      have O2 := O1.trans k3
      have cf := fun i => C2.fr i
      have c3l := C2.lt
      have i3l := I2.lt
      go_wp2
      go_roundg (L.length - (n + 1))
      case measure => omega
      case rel => exact ⟨n + 1, va, r1, r2, r3, rfl, (O2.setNew (by omega) _).setNew (by omega) _, (P2.far (by omega) _ _).far (by omega) _ _, Bk.put (cs := [.int .i64 (n : Int), .int .i64 va, .int .i64 r1, .int .i64 r2, .int .i64 r3]) (C2.put (cs := [.int .i64 (n : Int), .int .i64 r0, .int .i64 r1, .int .i64 r2, .int .i64 r3]) 1 (.int .i64 va)) 0 (.int .i64 ((n + 1 : Nat) : Int)), (Z2.far (by omega) _ _).far (by omega) _ _, HS2⟩
     ·
      have HS2 : Hid (R = locV (settleP L ⟨((n + 1 : Nat) : Int), r0, va, r2, r3⟩)) := by
       show R = _
       rw [HS1.out, hr]
       rfl
      clear HS1 hreg
      go_wp2_with fail
      refine (hVa _).mono ?_
      rintro _ w3 ⟨rfl, k3⟩
      obtain ⟨y0, y1, y2, y3, y4, y5, y6, y7, y8, y9, y10, y11, y12, y13⟩ := hS _ k3
      have C2 := C1.on k3
      have P2 := P1.on k3
      have Z2 := Z1.on k3
      have I2 := I1.on k3
      have O2 := O1.trans k3
      have cf := fun i => C2.fr i
      have c3l := C2.lt
      have i3l := I2.lt
      go_wp2
      go_roundg (L.length - (n + 1))
      case measure => omega
      case rel => exact ⟨n + 1, r0, va, r2, r3, rfl, (O2.setNew (by omega) _).setNew (by omega) _, (P2.far (by omega) _ _).far (by omega) _ _, Bk.put (cs := [.int .i64 (n : Int), .int .i64 r0, .int .i64 va, .int .i64 r2, .int .i64 r3]) (C2.put (cs := [.int .i64 (n : Int), .int .i64 r0, .int .i64 r1, .int .i64 r2, .int .i64 r3]) 2 (.int .i64 va)) 0 (.int .i64 ((n + 1 : Nat) : Int)), (Z2.far (by omega) _ _).far (by omega) _ _, HS2⟩
     ·
      have HS2 : Hid (R = locV (settleP L ⟨((n + 1 : Nat) : Int), r0, r1, va, r3⟩)) := by
       show R = _
       rw [HS1.out, hr]
       rfl
      clear HS1 hreg
      go_wp2_with fail
      refine (hVa _).mono ?_
      rintro _ w3 ⟨rfl, k3⟩
      obtain ⟨y0, y1, y2, y3, y4, y5, y6, y7, y8, y9, y10, y11, y12, y13⟩ := hS _ k3
      have C2 := C1.on k3
      have P2 := P1.on k3
      have Z2 := Z1.on k3
      have I2 := I1.on k3
      have O2 := O1.trans k3
      have cf := fun i => C2.fr i
      have c3l := C2.lt
      have i3l := I2.lt
      go_wp2
      go_roundg (L.length - (n + 1))
      case measure => omega
      case rel => exact ⟨n + 1, r0, r1, va, r3, rfl, (O2.setNew (by omega) _).setNew (by omega) _, (P2.far (by omega) _ _).far (by omega) _ _, Bk.put (cs := [.int .i64 (n : Int), .int .i64 r0, .int .i64 r1, .int .i64 va, .int .i64 r3]) (C2.put (cs := [.int .i64 (n : Int), .int .i64 r0, .int .i64 r1, .int .i64 r2, .int .i64 r3]) 3 (.int .i64 va)) 0 (.int .i64 ((n + 1 : Nat) : Int)), (Z2.far (by omega) _ _).far (by omega) _ _, HS2⟩
     ·
      have HS2 : Hid (R = locV (settleP L ⟨((n + 1 : Nat) : Int), r0, r1, r2, va⟩)) := by
       show R = _
       rw [HS1.out, hr]
       rfl
      clear HS1 hreg
      go_wp2_with fail
      refine (hVa _).mono ?_
      rintro _ w3 ⟨rfl, k3⟩
      obtain ⟨y0, y1, y2, y3, y4, y5, y6, y7, y8, y9, y10, y11, y12, y13⟩ := hS _ k3
      have C2 := C1.on k3
      have P2 := P1.on k3
      have Z2 := Z1.on k3
      have I2 := I1.on k3
      have O2 := O1.trans k3
      have cf := fun i => C2.fr i
      have c3l := C2.lt
      have i3l := I2.lt
      go_wp2
      go_roundg (L.length - (n + 1))
      case measure => omega
      case rel => exact ⟨n + 1, r0, r1, r2, va, rfl, (O2.setNew (by omega) _).setNew (by omega) _, (P2.far (by omega) _ _).far (by omega) _ _, Bk.put (cs := [.int .i64 (n : Int), .int .i64 r0, .int .i64 r1, .int .i64 r2, .int .i64 va]) (C2.put (cs := [.int .i64 (n : Int), .int .i64 r0, .int .i64 r1, .int .i64 r2, .int .i64 r3]) 4 (.int .i64 va)) 0 (.int .i64 ((n + 1 : Nat) : Int)), (Z2.far (by omega) _ _).far (by omega) _ _, HS2⟩
    ·
     rw [hres] at HS1
     have hob : (x.o != 0) = true := by rw [bne, ho]; rfl
     have hDo := fun W => rdo_any x.o (valOf x.a ⟨(n : Int), r0, r1, r2, r3⟩) (valOf x.b ⟨(n : Int), r0, r1, r2, r3⟩) W
     generalize doV x.o (valOf x.a ⟨(n : Int), r0, r1, r2, r3⟩) (valOf x.b ⟨(n : Int), r0, r1, r2, r3⟩) = vd at *
     generalize valOf x.a ⟨(n : Int), r0, r1, r2, r3⟩ = va at *
     generalize valOf x.b ⟨(n : Int), r0, r1, r2, r3⟩ = vb at *
     generalize doB x.o = bo at *
     clear hres
     rcases regOk_four hreg with hr | hr | hr | hr
     ·
      have HS2 : Hid (R = locV (settleP L ⟨((n + 1 : Nat) : Int), vd, r1, r2, r3⟩)) := by
       show R = _
       rw [HS1.out, hr]
       rfl
      clear HS1 hreg
      go_wp2_with fail
      refine (hVa _).mono ?_
      rintro _ w2 ⟨rfl, k2⟩
      obtain ⟨y0, y1, y2, y3, y4, y5, y6, y7, y8, y9, y10, y11, y12, y13⟩ := hS _ k2
      have q2 := hS _ k2.drew
      have i2l := Nat.lt_of_lt_of_le il k2.size
      have c2l := Nat.lt_of_lt_of_le wl2 k2.size
      go_wp2
      refine region_fin (fun W => W.cell? ⟨w.heap.size + 1, 0, none⟩ = some (.int .i64 (n : Int)) ∧ W.cell? ⟨w.heap.size + 1, 1, none⟩ = some (.int .i64 r0) ∧ W.cell? ⟨w.heap.size + 1, 2, none⟩ = some (.int .i64 r1) ∧ W.cell? ⟨w.heap.size + 1, 3, none⟩ = some (.int .i64 r2) ∧ W.cell? ⟨w.heap.size + 1, 4, none⟩ = some (.int .i64 r3) ∧ W.cell? ⟨wr.heap.size, 0, none⟩ = some (.int .i64 x.k) ∧ W.cell? ⟨wr.heap.size, 1, none⟩ = some (.int .i64 x.r) ∧ W.cell? ⟨wr.heap.size, 2, none⟩ = some (.int .i64 x.l) ∧ W.cell? ⟨wr.heap.size, 3, none⟩ = some (.int .i64 x.a.r) ∧ W.cell? ⟨wr.heap.size, 4, none⟩ = some (.int .i64 x.a.v) ∧ W.cell? ⟨wr.heap.size, 5, none⟩ = some (.int .i64 x.o) ∧ W.cell? ⟨wr.heap.size, 6, none⟩ = some (.int .i64 x.b.r) ∧ W.cell? ⟨wr.heap.size, 7, none⟩ = some (.int .i64 x.b.v) ∧ W.cell? ⟨wr.heap.size, 8, none⟩ = some (.int .i64 x.n)) 99 12 (by kernel_rfl) rfl ?_
      refine fin_take 0 (v := ?_) rfl (by kernel_rfl) (by kernel_rfl) (by kernel_rfl) (by kernel_rfl) (fun _ _ _ h => h) rfl ?_ q2 ?_
      rotate_left
      ·
       intro W hW
       go_simp
       (try with_reducible rfl)
      simp only [pu, sa, sz0, ss1]
      refine fin_take 1 (v := ?_) rfl (by kernel_rfl) (by kernel_rfl) (by kernel_rfl) (by kernel_rfl) (fun _ _ _ h => h) rfl ?_ q2 ?_
      rotate_left
      ·
       intro W hW
       go_simp
       (try with_reducible rfl)
      simp only [pu, sa, sz0, ss1]
      refine fin_take 2 (v := ?_) rfl (by kernel_rfl) (by kernel_rfl) (by kernel_rfl) (by kernel_rfl) (fun _ _ _ h => h) rfl ?_ q2 ?_
      rotate_left
      ·
       intro W hW
       go_simp
       (try with_reducible rfl)
      simp only [pu, sa, sz0, ss1]
      refine fin_take 3 (v := ?_) rfl (by kernel_rfl) (by kernel_rfl) (by kernel_rfl) (by kernel_rfl) (fun _ _ _ h => h) rfl ?_ q2 ?_
      rotate_left
      ·
       intro W hW
       go_simp
       (try with_reducible rfl)
      simp only [pu, sa, sz0, ss1]
      refine fin_take 4 (v := ?_) rfl (by kernel_rfl) (by kernel_rfl) (by kernel_rfl) (by kernel_rfl) (fun _ _ _ h => h) rfl ?_ q2 ?_
      rotate_left
      ·
       intro W hW
       go_simp
       (try with_reducible rfl)
      simp only [pu, sa, sz0, ss1]
      refine fin_take 5 (v := ?_) rfl (by kernel_rfl) (by kernel_rfl) (by kernel_rfl) (by kernel_rfl) (fun _ _ _ h => h) rfl ?_ q2 ?_
      rotate_left
      ·
       intro W hW
       go_simp
       (try with_reducible rfl)
      simp only [pu, sa, sz0, ss1]
      refine fin_one 6 rfl rfl (by kernel_rfl) (fun K hK => ?_)
      go_simp
      refine (hVb _).mono ?_
      rintro _ w3 ⟨rfl, k3'⟩
      have k3 : On W1 w3 := k2.drew.trans k3'
      have q3 := hS _ k3
      refine hK.out _ _ (fun _ => q3) ?_
      clear hK
      refine fin_one 7 rfl rfl (by kernel_rfl) (fun K hK => ?_)
      go_simp
      refine (hDo _).mono ?_
      rintro _ w4 ⟨rfl, hw4⟩
      subst w4
      refine hK.out _ _ (fun _ => q3) ?_
      clear hK
      refine fin_take 8 (v := ?_) rfl (by kernel_rfl) (by kernel_rfl) (by kernel_rfl) (by kernel_rfl) (fun _ _ _ h => h) rfl ?_ q3 ?_
      rotate_left
      ·
       intro W hW
       go_simp
       (try with_reducible rfl)
      simp only [pu, sa, sz0, ss1]
      refine fin_take 9 (v := ?_) rfl (by kernel_rfl) (by kernel_rfl) (by kernel_rfl) (by kernel_rfl) (fun _ _ _ h => h) rfl ?_ q3 ?_
      rotate_left
      ·
       intro W hW
       go_simp
       (try with_reducible rfl)
      simp only [pu, sa, sz0, ss1]
      refine fin_take 10 (v := ?_) rfl (by kernel_rfl) (by kernel_rfl) (by kernel_rfl) (by kernel_rfl) (fun _ _ _ h => h) rfl ?_ q3 ?_
      rotate_left
      ·
       intro W hW
       go_simp
       (try with_reducible rfl)
      simp only [pu, sa, sz0, ss1]
      refine fin_take 11 (v := ?_) rfl (by kernel_rfl) (by kernel_rfl) (by kernel_rfl) (by kernel_rfl) (fun _ _ _ h => h) rfl ?_ q3 ?_
      rotate_left
      ·
       intro W hW
       go_simp
       (try with_reducible rfl)
      simp only [pu, sa, sz0, ss1]
      refine fin_done (by kernel_rfl) (NoPanic.normal ?_)
      obtain ⟨y0, y1, y2, y3, y4, y5, y6, y7, y8, y9, y10, y11, y12, y13⟩ := q3
      have C2 := C1.on k3
      have P2 := P1.on k3
      have Z2 := Z1.on k3
      have I2 := I1.on k3
      have O2 := O1.trans k3
      have cf := fun i => C2.fr i
      have c3l := C2.lt
      have i3l := I2.lt
      go_wp2
      go_roundg (L.length - (n + 1))
      case measure => omega
      case rel => exact ⟨n + 1, vd, r1, r2, r3, rfl, (O2.setNew (by omega) _).setNew (by omega) _, (P2.far (by omega) _ _).far (by omega) _ _, Bk.put (cs := [.int .i64 (n : Int), .int .i64 vd, .int .i64 r1, .int .i64 r2, .int .i64 r3]) (C2.put (cs := [.int .i64 (n : Int), .int .i64 r0, .int .i64 r1, .int .i64 r2, .int .i64 r3]) 1 (.int .i64 vd)) 0 (.int .i64 ((n + 1 : Nat) : Int)), (Z2.far (by omega) _ _).far (by omega) _ _, HS2⟩
     ·
      have HS2 : Hid (R = locV (settleP L ⟨((n + 1 : Nat) : Int), r0, vd, r2, r3⟩)) := by
       show R = _
       rw [HS1.out, hr]
       rfl
      clear HS1 hreg
      go_wp2_with fail
      refine (hVa _).mono ?_
      rintro _ w2 ⟨rfl, k2⟩
      obtain ⟨y0, y1, y2, y3, y4, y5, y6, y7, y8, y9, y10, y11, y12, y13⟩ := hS _ k2
      have q2 := hS _ k2.drew
      have i2l := Nat.lt_of_lt_of_le il k2.size
      have c2l := Nat.lt_of_lt_of_le wl2 k2.size
      go_wp2
      refine region_fin (fun W => W.cell? ⟨w.heap.size + 1, 0, none⟩ = some (.int .i64 (n : Int)) ∧ W.cell? ⟨w.heap.size + 1, 1, none⟩ = some (.int .i64 r0) ∧ W.cell? ⟨w.heap.size + 1, 2, none⟩ = some (.int .i64 r1) ∧ W.cell? ⟨w.heap.size + 1, 3, none⟩ = some (.int .i64 r2) ∧ W.cell? ⟨w.heap.size + 1, 4, none⟩ = some (.int .i64 r3) ∧ W.cell? ⟨wr.heap.size, 0, none⟩ = some (.int .i64 x.k) ∧ W.cell? ⟨wr.heap.size, 1, none⟩ = some (.int .i64 x.r) ∧ W.cell? ⟨wr.heap.size, 2, none⟩ = some (.int .i64 x.l) ∧ W.cell? ⟨wr.heap.size, 3, none⟩ = some (.int .i64 x.a.r) ∧ W.cell? ⟨wr.heap.size, 4, none⟩ = some (.int .i64 x.a.v) ∧ W.cell? ⟨wr.heap.size, 5, none⟩ = some (.int .i64 x.o) ∧ W.cell? ⟨wr.heap.size, 6, none⟩ = some (.int .i64 x.b.r) ∧ W.cell? ⟨wr.heap.size, 7, none⟩ = some (.int .i64 x.b.v) ∧ W.cell? ⟨wr.heap.size, 8, none⟩ = some (.int .i64 x.n)) 99 12 (by kernel_rfl) rfl ?_
      refine fin_take 0 (v := ?_) rfl (by kernel_rfl) (by kernel_rfl) (by kernel_rfl) (by kernel_rfl) (fun _ _ _ h => h) rfl ?_ q2 ?_
      rotate_left
      ·
       intro W hW
       go_simp
       (try with_reducible rfl)
      simp only [pu, sa, sz0, ss1]
      refine fin_take 1 (v := ?_) rfl (by kernel_rfl) (by kernel_rfl) (by kernel_rfl) (by kernel_rfl) (fun _ _ _ h => h) rfl ?_ q2 ?_
      rotate_left
      ·
       intro W hW
       go_simp
       (try with_reducible rfl)
      simp only [pu, sa, sz0, ss1]
      refine fin_take 2 (v := ?_) rfl (by kernel_rfl) (by kernel_rfl) (by kernel_rfl) (by kernel_rfl) (fun _ _ _ h => h) rfl ?_ q2 ?_
      rotate_left
      ·
       intro W hW
       go_simp
       (try with_reducible rfl)
      simp only [pu, sa, sz0, ss1]
      refine fin_take 3 (v := ?_) rfl (by kernel_rfl) (by kernel_rfl) (by kernel_rfl) (by kernel_rfl) (fun _ _ _ h => h) rfl ?_ q2 ?_
      rotate_left
      ·
       intro W hW
       go_simp
       (try with_reducible rfl)
      simp only [pu, sa, sz0, ss1]
      refine fin_take 4 (v := ?_) rfl (by kernel_rfl) (by kernel_rfl) (by kernel_rfl) (by kernel_rfl) (fun _ _ _ h => h) rfl ?_ q2 ?_
      rotate_left
      ·
       intro W hW
       go_simp
       (try with_reducible rfl)
      simp only [pu, sa, sz0, ss1]
      refine fin_take 5 (v := ?_) rfl (by kernel_rfl) (by kernel_rfl) (by kernel_rfl) (by kernel_rfl) (fun _ _ _ h => h) rfl ?_ q2 ?_
      rotate_left
      ·
       intro W hW
       go_simp
       (try with_reducible rfl)
      simp only [pu, sa, sz0, ss1]
      refine fin_one 6 rfl rfl (by kernel_rfl) (fun K hK => ?_)
      go_simp
      refine (hVb _).mono ?_
      rintro _ w3 ⟨rfl, k3'⟩
      have k3 : On W1 w3 := k2.drew.trans k3'
      have q3 := hS _ k3
      refine hK.out _ _ (fun _ => q3) ?_
      clear hK
      refine fin_one 7 rfl rfl (by kernel_rfl) (fun K hK => ?_)
      go_simp
      refine (hDo _).mono ?_
      rintro _ w4 ⟨rfl, hw4⟩
      subst w4
      refine hK.out _ _ (fun _ => q3) ?_
      clear hK
      refine fin_take 8 (v := ?_) rfl (by kernel_rfl) (by kernel_rfl) (by kernel_rfl) (by kernel_rfl) (fun _ _ _ h => h) rfl ?_ q3 ?_
      rotate_left
      ·
       intro W hW
       go_simp
       (try with_reducible rfl)
      simp only [pu, sa, sz0, ss1]
      refine fin_take 9 (v := ?_) rfl (by kernel_rfl) (by kernel_rfl) (by kernel_rfl) (by kernel_rfl) (fun _ _ _ h => h) rfl ?_ q3 ?_
      rotate_left
      ·
       intro W hW
       go_simp
       (try with_reducible rfl)
      simp only [pu, sa, sz0, ss1]
      refine fin_take 10 (v := ?_) rfl (by kernel_rfl) (by kernel_rfl) (by kernel_rfl) (by kernel_rfl) (fun _ _ _ h => h) rfl ?_ q3 ?_
      rotate_left
      ·
       intro W hW
       go_simp
       (try with_reducible rfl)
      simp only [pu, sa, sz0, ss1]
      refine fin_take 11 (v := ?_) rfl (by kernel_rfl) (by kernel_rfl) (by kernel_rfl) (by kernel_rfl) (fun _ _ _ h => h) rfl ?_ q3 ?_
      rotate_left
      ·
       intro W hW
       go_simp
       (try with_reducible rfl)
      simp only [pu, sa, sz0, ss1]
      refine fin_done (by kernel_rfl) (NoPanic.normal ?_)
      obtain ⟨y0, y1, y2, y3, y4, y5, y6, y7, y8, y9, y10, y11, y12, y13⟩ := q3
      have C2 := C1.on k3
      have P2 := P1.on k3
      have Z2 := Z1.on k3
      have I2 := I1.on k3
      have O2 := O1.trans k3
      have cf := fun i => C2.fr i
      have c3l := C2.lt
      have i3l := I2.lt
      go_wp2
      go_roundg (L.length - (n + 1))
      case measure => omega
      case rel => exact ⟨n + 1, r0, vd, r2, r3, rfl, (O2.setNew (by omega) _).setNew (by omega) _, (P2.far (by omega) _ _).far (by omega) _ _, Bk.put (cs := [.int .i64 (n : Int), .int .i64 r0, .int .i64 vd, .int .i64 r2, .int .i64 r3]) (C2.put (cs := [.int .i64 (n : Int), .int .i64 r0, .int .i64 r1, .int .i64 r2, .int .i64 r3]) 2 (.int .i64 vd)) 0 (.int .i64 ((n + 1 : Nat) : Int)), (Z2.far (by omega) _ _).far (by omega) _ _, HS2⟩
     ·
      have HS2 : Hid (R = locV (settleP L ⟨((n + 1 : Nat) : Int), r0, r1, vd, r3⟩)) := by
       show R = _
       rw [HS1.out, hr]
       rfl
      clear HS1 hreg
      go_wp2_with fail
      refine (hVa _).mono ?_
      rintro _ w2 ⟨rfl, k2⟩
      obtain ⟨y0, y1, y2, y3, y4, y5, y6, y7, y8, y9, y10, y11, y12, y13⟩ := hS _ k2
      have q2 := hS _ k2.drew
      have i2l := Nat.lt_of_lt_of_le il k2.size
      have c2l := Nat.lt_of_lt_of_le wl2 k2.size
      go_wp2
      refine region_fin (fun W => W.cell? ⟨w.heap.size + 1, 0, none⟩ = some (.int .i64 (n : Int)) ∧ W.cell? ⟨w.heap.size + 1, 1, none⟩ = some (.int .i64 r0) ∧ W.cell? ⟨w.heap.size + 1, 2, none⟩ = some (.int .i64 r1) ∧ W.cell? ⟨w.heap.size + 1, 3, none⟩ = some (.int .i64 r2) ∧ W.cell? ⟨w.heap.size + 1, 4, none⟩ = some (.int .i64 r3) ∧ W.cell? ⟨wr.heap.size, 0, none⟩ = some (.int .i64 x.k) ∧ W.cell? ⟨wr.heap.size, 1, none⟩ = some (.int .i64 x.r) ∧ W.cell? ⟨wr.heap.size, 2, none⟩ = some (.int .i64 x.l) ∧ W.cell? ⟨wr.heap.size, 3, none⟩ = some (.int .i64 x.a.r) ∧ W.cell? ⟨wr.heap.size, 4, none⟩ = some (.int .i64 x.a.v) ∧ W.cell? ⟨wr.heap.size, 5, none⟩ = some (.int .i64 x.o) ∧ W.cell? ⟨wr.heap.size, 6, none⟩ = some (.int .i64 x.b.r) ∧ W.cell? ⟨wr.heap.size, 7, none⟩ = some (.int .i64 x.b.v) ∧ W.cell? ⟨wr.heap.size, 8, none⟩ = some (.int .i64 x.n)) 99 12 (by kernel_rfl) rfl ?_
      refine fin_take 0 (v := ?_) rfl (by kernel_rfl) (by kernel_rfl) (by kernel_rfl) (by kernel_rfl) (fun _ _ _ h => h) rfl ?_ q2 ?_
      rotate_left
      ·
       intro W hW
       go_simp
       (try with_reducible rfl)
      simp only [pu, sa, sz0, ss1]
      refine fin_take 1 (v := ?_) rfl (by kernel_rfl) (by kernel_rfl) (by kernel_rfl) (by kernel_rfl) (fun _ _ _ h => h) rfl ?_ q2 ?_
      rotate_left
      ·
       intro W hW
       go_simp
       (try with_reducible rfl)
      simp only [pu, sa, sz0, ss1]
      refine fin_take 2 (v := ?_) rfl (by kernel_rfl) (by kernel_rfl) (by kernel_rfl) (by kernel_rfl) (fun _ _ _ h => h) rfl ?_ q2 ?_
      rotate_left
      ·
       intro W hW
       go_simp
       (try with_reducible rfl)
      simp only [pu, sa, sz0, ss1]
      refine fin_take 3 (v := ?_) rfl (by kernel_rfl) (by kernel_rfl) (by kernel_rfl) (by kernel_rfl) (fun _ _ _ h => h) rfl ?_ q2 ?_
      rotate_left
      ·
       intro W hW
       go_simp
       (try with_reducible rfl)
      simp only [pu, sa, sz0, ss1]
      refine fin_take 4 (v := ?_) rfl (by kernel_rfl) (by kernel_rfl) (by kernel_rfl) (by kernel_rfl) (fun _ _ _ h => h) rfl ?_ q2 ?_
      rotate_left
      ·
       intro W hW
       go_simp
       (try with_reducible rfl)
      simp only [pu, sa, sz0, ss1]
      refine fin_take 5 (v := ?_) rfl (by kernel_rfl) (by kernel_rfl) (by kernel_rfl) (by kernel_rfl) (fun _ _ _ h => h) rfl ?_ q2 ?_
      rotate_left
      ·
       intro W hW
       go_simp
       (try with_reducible rfl)
      simp only [pu, sa, sz0, ss1]
      refine fin_one 6 rfl rfl (by kernel_rfl) (fun K hK => ?_)
      go_simp
      refine (hVb _).mono ?_
      rintro _ w3 ⟨rfl, k3'⟩
      have k3 : On W1 w3 := k2.drew.trans k3'
      have q3 := hS _ k3
      refine hK.out _ _ (fun _ => q3) ?_
      clear hK
      refine fin_one 7 rfl rfl (by kernel_rfl) (fun K hK => ?_)
      go_simp
      refine (hDo _).mono ?_
      rintro _ w4 ⟨rfl, hw4⟩
      subst w4
      refine hK.out _ _ (fun _ => q3) ?_
      clear hK
      refine fin_take 8 (v := ?_) rfl (by kernel_rfl) (by kernel_rfl) (by kernel_rfl) (by kernel_rfl) (fun _ _ _ h => h) rfl ?_ q3 ?_
      rotate_left
      ·
       intro W hW
       go_simp
       (try with_reducible rfl)
      simp only [pu, sa, sz0, ss1]
      refine fin_take 9 (v := ?_) rfl (by kernel_rfl) (by kernel_rfl) (by kernel_rfl) (by kernel_rfl) (fun _ _ _ h => h) rfl ?_ q3 ?_
      rotate_left
      ·
       intro W hW
       go_simp
       (try with_reducible rfl)
      simp only [pu, sa, sz0, ss1]
      refine fin_take 10 (v := ?_) rfl (by kernel_rfl) (by kernel_rfl) (by kernel_rfl) (by kernel_rfl) (fun _ _ _ h => h) rfl ?_ q3 ?_
      rotate_left
      ·
       intro W hW
       go_simp
       (try with_reducible rfl)
      simp only [pu, sa, sz0, ss1]
      refine fin_take 11 (v := ?_) rfl (by kernel_rfl) (by kernel_rfl) (by kernel_rfl) (by kernel_rfl) (fun _ _ _ h => h) rfl ?_ q3 ?_
      rotate_left
      ·
       intro W hW
       go_simp
       (try with_reducible rfl)
      simp only [pu, sa, sz0, ss1]
      refine fin_done (by kernel_rfl) (NoPanic.normal ?_)
      obtain ⟨y0, y1, y2, y3, y4, y5, y6, y7, y8, y9, y10, y11, y12, y13⟩ := q3
      have C2 := C1.on k3
      have P2 := P1.on k3
      have Z2 := Z1.on k3
      have I2 := I1.on k3
      have O2 := O1.trans k3
      have cf := fun i => C2.fr i
      have c3l := C2.lt
      have i3l := I2.lt
      go_wp2
      go_roundg (L.length - (n + 1))
      case measure => omega
      case rel => exact ⟨n + 1, r0, r1, vd, r3, rfl, (O2.setNew (by omega) _).setNew (by omega) _, (P2.far (by omega) _ _).far (by omega) _ _, Bk.put (cs := [.int .i64 (n : Int), .int .i64 r0, .int .i64 r1, .int .i64 vd, .int .i64 r3]) (C2.put (cs := [.int .i64 (n : Int), .int .i64 r0, .int .i64 r1, .int .i64 r2, .int .i64 r3]) 3 (.int .i64 vd)) 0 (.int .i64 ((n + 1 : Nat) : Int)), (Z2.far (by omega) _ _).far (by omega) _ _, HS2⟩
     ·
      have HS2 : Hid (R = locV (settleP L ⟨((n + 1 : Nat) : Int), r0, r1, r2, vd⟩)) := by
       show R = _
       rw [HS1.out, hr]
       rfl
      clear HS1 hreg
      go_wp2_with fail
      refine (hVa _).mono ?_
      rintro _ w2 ⟨rfl, k2⟩
      obtain ⟨y0, y1, y2, y3, y4, y5, y6, y7, y8, y9, y10, y11, y12, y13⟩ := hS _ k2
      have q2 := hS _ k2.drew
      have i2l := Nat.lt_of_lt_of_le il k2.size
      have c2l := Nat.lt_of_lt_of_le wl2 k2.size
      go_wp2
      refine region_fin (fun W => W.cell? ⟨w.heap.size + 1, 0, none⟩ = some (.int .i64 (n : Int)) ∧ W.cell? ⟨w.heap.size + 1, 1, none⟩ = some (.int .i64 r0) ∧ W.cell? ⟨w.heap.size + 1, 2, none⟩ = some (.int .i64 r1) ∧ W.cell? ⟨w.heap.size + 1, 3, none⟩ = some (.int .i64 r2) ∧ W.cell? ⟨w.heap.size + 1, 4, none⟩ = some (.int .i64 r3) ∧ W.cell? ⟨wr.heap.size, 0, none⟩ = some (.int .i64 x.k) ∧ W.cell? ⟨wr.heap.size, 1, none⟩ = some (.int .i64 x.r) ∧ W.cell? ⟨wr.heap.size, 2, none⟩ = some (.int .i64 x.l) ∧ W.cell? ⟨wr.heap.size, 3, none⟩ = some (.int .i64 x.a.r) ∧ W.cell? ⟨wr.heap.size, 4, none⟩ = some (.int .i64 x.a.v) ∧ W.cell? ⟨wr.heap.size, 5, none⟩ = some (.int .i64 x.o) ∧ W.cell? ⟨wr.heap.size, 6, none⟩ = some (.int .i64 x.b.r) ∧ W.cell? ⟨wr.heap.size, 7, none⟩ = some (.int .i64 x.b.v) ∧ W.cell? ⟨wr.heap.size, 8, none⟩ = some (.int .i64 x.n)) 99 12 (by kernel_rfl) rfl ?_
      refine fin_take 0 (v := ?_) rfl (by kernel_rfl) (by kernel_rfl) (by kernel_rfl) (by kernel_rfl) (fun _ _ _ h => h) rfl ?_ q2 ?_
      rotate_left
      ·
       intro W hW
       go_simp
       (try with_reducible rfl)
      simp only [pu, sa, sz0, ss1]
      refine fin_take 1 (v := ?_) rfl (by kernel_rfl) (by kernel_rfl) (by kernel_rfl) (by kernel_rfl) (fun _ _ _ h => h) rfl ?_ q2 ?_
      rotate_left
      ·
       intro W hW
       go_simp
       (try with_reducible rfl)
      simp only [pu, sa, sz0, ss1]
      refine fin_take 2 (v := ?_) rfl (by kernel_rfl) (by kernel_rfl) (by kernel_rfl) (by kernel_rfl) (fun _ _ _ h => h) rfl ?_ q2 ?_
      rotate_left
      ·
       intro W hW
       go_simp
       (try with_reducible rfl)
      simp only [pu, sa, sz0, ss1]
      refine fin_take 3 (v := ?_) rfl (by kernel_rfl) (by kernel_rfl) (by kernel_rfl) (by kernel_rfl) (fun _ _ _ h => h) rfl ?_ q2 ?_
      rotate_left
      ·
       intro W hW
       go_simp
       (try with_reducible rfl)
      simp only [pu, sa, sz0, ss1]
      refine fin_take 4 (v := ?_) rfl (by kernel_rfl) (by kernel_rfl) (by kernel_rfl) (by kernel_rfl) (fun _ _ _ h => h) rfl ?_ q2 ?_
      rotate_left
      ·
       intro W hW
       go_simp
       (try with_reducible rfl)
      simp only [pu, sa, sz0, ss1]
      refine fin_take 5 (v := ?_) rfl (by kernel_rfl) (by kernel_rfl) (by kernel_rfl) (by kernel_rfl) (fun _ _ _ h => h) rfl ?_ q2 ?_
      rotate_left
      ·
       intro W hW
       go_simp
       (try with_reducible rfl)
      simp only [pu, sa, sz0, ss1]
      refine fin_one 6 rfl rfl (by kernel_rfl) (fun K hK => ?_)
      go_simp
      refine (hVb _).mono ?_
      rintro _ w3 ⟨rfl, k3'⟩
      have k3 : On W1 w3 := k2.drew.trans k3'
      have q3 := hS _ k3
      refine hK.out _ _ (fun _ => q3) ?_
      clear hK
      refine fin_one 7 rfl rfl (by kernel_rfl) (fun K hK => ?_)
      go_simp
      refine (hDo _).mono ?_
      rintro _ w4 ⟨rfl, hw4⟩
      subst w4
      refine hK.out _ _ (fun _ => q3) ?_
      clear hK
      refine fin_take 8 (v := ?_) rfl (by kernel_rfl) (by kernel_rfl) (by kernel_rfl) (by kernel_rfl) (fun _ _ _ h => h) rfl ?_ q3 ?_
      rotate_left
      ·
       intro W hW
       go_simp
       (try with_reducible rfl)
      simp only [pu, sa, sz0, ss1]
      refine fin_take 9 (v := ?_) rfl (by kernel_rfl) (by kernel_rfl) (by kernel_rfl) (by kernel_rfl) (fun _ _ _ h => h) rfl ?_ q3 ?_
      rotate_left
      ·
       intro W hW
       go_simp
       (try with_reducible rfl)
      simp only [pu, sa, sz0, ss1]
      refine fin_take 10 (v := ?_) rfl (by kernel_rfl) (by kernel_rfl) (by kernel_rfl) (by kernel_rfl) (fun _ _ _ h => h) rfl ?_ q3 ?_
      rotate_left
      ·
       intro W hW
       go_simp
       (try with_reducible rfl)
      simp only [pu, sa, sz0, ss1]
      refine fin_take 11 (v := ?_) rfl (by kernel_rfl) (by kernel_rfl) (by kernel_rfl) (by kernel_rfl) (fun _ _ _ h => h) rfl ?_ q3 ?_
      rotate_left
      ·
       intro W hW
       go_simp
       (try with_reducible rfl)
      simp only [pu, sa, sz0, ss1]
      refine fin_done (by kernel_rfl) (NoPanic.normal ?_)
      obtain ⟨y0, y1, y2, y3, y4, y5, y6, y7, y8, y9, y10, y11, y12, y13⟩ := q3
      have C2 := C1.on k3
      have P2 := P1.on k3
      have Z2 := Z1.on k3
      have I2 := I1.on k3
      have O2 := O1.trans k3
      have cf := fun i => C2.fr i
      have c3l := C2.lt
      have i3l := I2.lt
      go_wp2
      go_roundg (L.length - (n + 1))
      case measure => omega
      case rel => exact ⟨n + 1, r0, r1, r2, vd, rfl, (O2.setNew (by omega) _).setNew (by omega) _, (P2.far (by omega) _ _).far (by omega) _ _, Bk.put (cs := [.int .i64 (n : Int), .int .i64 r0, .int .i64 r1, .int .i64 r2, .int .i64 vd]) (C2.put (cs := [.int .i64 (n : Int), .int .i64 r0, .int .i64 r1, .int .i64 r2, .int .i64 r3]) 4 (.int .i64 vd)) 0 (.int .i64 ((n + 1 : Nat) : Int)), (Z2.far (by omega) _ _).far (by omega) _ _, HS2⟩
   | false =>
    rw [h5] at hst
    simp only [Bool.false_eq_true, if_false] at hst
    cases h6 : (x.k == 6) with
    | true =>
     rw [h6] at hst
     simp only [if_true] at hst
     obtain ⟨hn0, hn1⟩ := hok6 (by simpa using h6)
     have HS1 : Hid (R = locV (settleP L (pcTo ⟨(n : Int), r0, r1, r2, r3⟩ ((n : Int) + skipOf x ⟨(n : Int), r0, r1, r2, r3⟩ (L.length - n - 1) + 1)))) := HS.out.trans (congrArg locV hst)
     have hsk : skipOf x ⟨(n : Int), r0, r1, r2, r3⟩ (L.length - n - 1) = if valOf x.a ⟨(n : Int), r0, r1, r2, r3⟩ == valOf x.b ⟨(n : Int), r0, r1, r2, r3⟩ then x.n else 0 := by
      unfold skipOf
      split
      ·
       omega
      ·
       rfl
     rw [hsk] at HS1
     generalize valOf x.a ⟨(n : Int), r0, r1, r2, r3⟩ = va at *
     generalize valOf x.b ⟨(n : Int), r0, r1, r2, r3⟩ = vb at *
     clear hst HS hok5 hok6 hsk
     cases hab : (va == vb)
     ·
      rw [hab] at HS1
      have HS2 : Hid (R = locV (settleP L ⟨((n + 1 : Nat) : Int), r0, r1, r2, r3⟩)) := by
       show R = _
       rw [HS1.out]
       unfold pcTo
       simp
      go_wp2
      have q1 := hS _ (On.refl W1).drew
      refine region_fin (fun W => W.cell? ⟨w.heap.size + 1, 0, none⟩ = some (.int .i64 (n : Int)) ∧ W.cell? ⟨w.heap.size + 1, 1, none⟩ = some (.int .i64 r0) ∧ W.cell? ⟨w.heap.size + 1, 2, none⟩ = some (.int .i64 r1) ∧ W.cell? ⟨w.heap.size + 1, 3, none⟩ = some (.int .i64 r2) ∧ W.cell? ⟨w.heap.size + 1, 4, none⟩ = some (.int .i64 r3) ∧ W.cell? ⟨wr.heap.size, 0, none⟩ = some (.int .i64 x.k) ∧ W.cell? ⟨wr.heap.size, 1, none⟩ = some (.int .i64 x.r) ∧ W.cell? ⟨wr.heap.size, 2, none⟩ = some (.int .i64 x.l) ∧ W.cell? ⟨wr.heap.size, 3, none⟩ = some (.int .i64 x.a.r) ∧ W.cell? ⟨wr.heap.size, 4, none⟩ = some (.int .i64 x.a.v) ∧ W.cell? ⟨wr.heap.size, 5, none⟩ = some (.int .i64 x.o) ∧ W.cell? ⟨wr.heap.size, 6, none⟩ = some (.int .i64 x.b.r) ∧ W.cell? ⟨wr.heap.size, 7, none⟩ = some (.int .i64 x.b.v) ∧ W.cell? ⟨wr.heap.size, 8, none⟩ = some (.int .i64 x.n)) 99 9 (by kernel_rfl) rfl ?_
      refine fin_take 0 (v := ?_) rfl (by kernel_rfl) (by kernel_rfl) (by kernel_rfl) (by kernel_rfl) (fun _ _ _ h => h) rfl ?_ q1 ?_
      rotate_left
      ·
       intro W hW
       go_simp
       (try with_reducible rfl)
      simp only [pu, sa, sz0, ss1]
      refine fin_take 1 (v := ?_) rfl (by kernel_rfl) (by kernel_rfl) (by kernel_rfl) (by kernel_rfl) (fun _ _ _ h => h) rfl ?_ q1 ?_
      rotate_left
      ·
       intro W hW
       go_simp
       (try with_reducible rfl)
      simp only [pu, sa, sz0, ss1]
      refine fin_take 2 (v := ?_) rfl (by kernel_rfl) (by kernel_rfl) (by kernel_rfl) (by kernel_rfl) (fun _ _ _ h => h) rfl ?_ q1 ?_
      rotate_left
      ·
       intro W hW
       go_simp
       (try with_reducible rfl)
      simp only [pu, sa, sz0, ss1]
      refine fin_take 4 (v := ?_) rfl (by kernel_rfl) (by kernel_rfl) (by kernel_rfl) (by kernel_rfl) (fun _ _ _ h => h) rfl ?_ q1 ?_
      rotate_left
      ·
       intro W hW
       go_simp
       (try with_reducible rfl)
      simp only [pu, sa, sz0, ss1]
      refine fin_take 5 (v := ?_) rfl (by kernel_rfl) (by kernel_rfl) (by kernel_rfl) (by kernel_rfl) (fun _ _ _ h => h) rfl ?_ q1 ?_
      rotate_left
      ·
       intro W hW
       go_simp
       (try with_reducible rfl)
      simp only [pu, sa, sz0, ss1]
      refine fin_take 6 (v := ?_) rfl (by kernel_rfl) (by kernel_rfl) (by kernel_rfl) (by kernel_rfl) (fun _ _ _ h => h) rfl ?_ q1 ?_
      rotate_left
      ·
       intro W hW
       go_simp
       (try with_reducible rfl)
      simp only [pu, sa, sz0, ss1]
      refine fin_one 3 rfl rfl (by kernel_rfl) (fun K hK => ?_)
      go_simp
      refine (hVa _).mono ?_
      rintro _ w12 ⟨rfl, k12'⟩
      have k12 : On W1 w12 := (On.refl W1).drew.trans k12'
      have q12 := hS _ k12
      refine hK.out _ _ (fun _ => q12) ?_
      clear hK
      refine fin_one 7 rfl rfl (by kernel_rfl) (fun K hK => ?_)
      go_simp
      refine (hVb _).mono ?_
      rintro _ w13 ⟨rfl, k13'⟩
      have k13 : On W1 w13 := k12.trans k13'
      have q13 := hS _ k13
      refine hK.out _ _ (fun _ => q13) ?_
      clear hK
      refine fin_take 8 (v := ?_) rfl (by kernel_rfl) (by kernel_rfl) (by kernel_rfl) (by kernel_rfl) (fun _ _ _ h => h) rfl ?_ q13 ?_
      rotate_left
      ·
       intro W hW
       go_simp
       (try with_reducible rfl)
      simp only [pu, sa, sz0, ss1]
      refine fin_done (by kernel_rfl) (NoPanic.normal ?_)
      have C2 := C1.on k13
      have P2 := P1.on k13
      have Z2 := Z1.on k13
      have O2 := O1.trans k13
      have c0 := C2.at (i := 0) rfl
      have cf := fun i => C2.fr i
      have c2l := C2.lt
      go_wp2
      go_roundg (L.length - (n + 1))
      case measure => omega
      case rel => exact ⟨n + 1, r0, r1, r2, r3, rfl, O2.setNew (by omega) _, P2.far (by omega) _ _, C2.put (cs := [.int .i64 (n : Int), .int .i64 r0, .int .i64 r1, .int .i64 r2, .int .i64 r3]) 0 (.int .i64 ((n + 1 : Nat) : Int)), Z2.far (by omega) _ _, HS2⟩
     ·
      rw [hab] at HS1
      obtain ⟨m, hm⟩ : ∃ m : Nat, x.n = (m : Int) := ⟨x.n.toNat, by omega⟩
      have HS2 : Hid (R = locV (settleP L ⟨((n + m + 1 : Nat) : Int), r0, r1, r2, r3⟩)) := by
       show R = _
       rw [HS1.out, hm]
       unfold pcTo
       simp
      have hnm : n + m + 1 ≤ L.length := by omega
      have hlm : L.length ≤ 9223372036854775807 := hxm
      go_wp2
      have q1 := hS _ (On.refl W1).drew
      refine region_fin (fun W => W.cell? ⟨w.heap.size + 1, 0, none⟩ = some (.int .i64 (n : Int)) ∧ W.cell? ⟨w.heap.size + 1, 1, none⟩ = some (.int .i64 r0) ∧ W.cell? ⟨w.heap.size + 1, 2, none⟩ = some (.int .i64 r1) ∧ W.cell? ⟨w.heap.size + 1, 3, none⟩ = some (.int .i64 r2) ∧ W.cell? ⟨w.heap.size + 1, 4, none⟩ = some (.int .i64 r3) ∧ W.cell? ⟨wr.heap.size, 0, none⟩ = some (.int .i64 x.k) ∧ W.cell? ⟨wr.heap.size, 1, none⟩ = some (.int .i64 x.r) ∧ W.cell? ⟨wr.heap.size, 2, none⟩ = some (.int .i64 x.l) ∧ W.cell? ⟨wr.heap.size, 3, none⟩ = some (.int .i64 x.a.r) ∧ W.cell? ⟨wr.heap.size, 4, none⟩ = some (.int .i64 x.a.v) ∧ W.cell? ⟨wr.heap.size, 5, none⟩ = some (.int .i64 x.o) ∧ W.cell? ⟨wr.heap.size, 6, none⟩ = some (.int .i64 x.b.r) ∧ W.cell? ⟨wr.heap.size, 7, none⟩ = some (.int .i64 x.b.v) ∧ W.cell? ⟨wr.heap.size, 8, none⟩ = some (.int .i64 x.n)) 99 9 (by kernel_rfl) rfl ?_
      refine fin_take 0 (v := ?_) rfl (by kernel_rfl) (by kernel_rfl) (by kernel_rfl) (by kernel_rfl) (fun _ _ _ h => h) rfl ?_ q1 ?_
      rotate_left
      ·
       intro W hW
       go_simp
       (try with_reducible rfl)
      simp only [pu, sa, sz0, ss1]
      refine fin_take 1 (v := ?_) rfl (by kernel_rfl) (by kernel_rfl) (by kernel_rfl) (by kernel_rfl) (fun _ _ _ h => h) rfl ?_ q1 ?_
      rotate_left
      ·
       intro W hW
       go_simp
       (try with_reducible rfl)
      simp only [pu, sa, sz0, ss1]
      refine fin_take 2 (v := ?_) rfl (by kernel_rfl) (by kernel_rfl) (by kernel_rfl) (by kernel_rfl) (fun _ _ _ h => h) rfl ?_ q1 ?_
      rotate_left
      ·
       intro W hW
       go_simp
       (try with_reducible rfl)
      simp only [pu, sa, sz0, ss1]
      refine fin_take 4 (v := ?_) rfl (by kernel_rfl) (by kernel_rfl) (by kernel_rfl) (by kernel_rfl) (fun _ _ _ h => h) rfl ?_ q1 ?_
      rotate_left
      ·
       intro W hW
       go_simp
       (try with_reducible rfl)
      simp only [pu, sa, sz0, ss1]
      refine fin_take 5 (v := ?_) rfl (by kernel_rfl) (by kernel_rfl) (by kernel_rfl) (by kernel_rfl) (fun _ _ _ h => h) rfl ?_ q1 ?_
      rotate_left
      ·
       intro W hW
       go_simp
       (try with_reducible rfl)
      simp only [pu, sa, sz0, ss1]
      refine fin_take 6 (v := ?_) rfl (by kernel_rfl) (by kernel_rfl) (by kernel_rfl) (by kernel_rfl) (fun _ _ _ h => h) rfl ?_ q1 ?_
      rotate_left
      ·
       intro W hW
       go_simp
       (try with_reducible rfl)
      simp only [pu, sa, sz0, ss1]
      refine fin_one 3 rfl rfl (by kernel_rfl) (fun K hK => ?_)
      go_simp
      refine (hVa _).mono ?_
      rintro _ w12 ⟨rfl, k12'⟩
      have k12 : On W1 w12 := (On.refl W1).drew.trans k12'
      have q12 := hS _ k12
      refine hK.out _ _ (fun _ => q12) ?_
      clear hK
      refine fin_one 7 rfl rfl (by kernel_rfl) (fun K hK => ?_)
      go_simp
      refine (hVb _).mono ?_
      rintro _ w13 ⟨rfl, k13'⟩
      have k13 : On W1 w13 := k12.trans k13'
      have q13 := hS _ k13
      refine hK.out _ _ (fun _ => q13) ?_
      clear hK
      refine fin_take 8 (v := ?_) rfl (by kernel_rfl) (by kernel_rfl) (by kernel_rfl) (by kernel_rfl) (fun _ _ _ h => h) rfl ?_ q13 ?_
      rotate_left
      ·
       intro W hW
       go_simp
       (try with_reducible rfl)
      simp only [pu, sa, sz0, ss1]
      refine fin_done (by kernel_rfl) (NoPanic.normal ?_)
      have C2 := C1.on k13
      have P2 := P1.on k13
      have Z2 := Z1.on k13
      have I2 := I1.on k13
      have O2 := O1.trans k13
      have c0 := C2.at (i := 0) rfl
      have i8 := I2.at (i := 8) rfl
      rw [hm] at i8
      have cf := fun i => C2.fr i
      have c2l := C2.lt
      have i2l := I2.lt
      clear hm hn0 hn1 q1 q12 q13 hS y0 y1 y2 y3 y4 y5 y6 y7 y8 y9 y10 y11 y12 y13
      go_wp2
      go_roundg (L.length - (n + m + 1))
      case measure => omega
      case rel => exact ⟨n + m + 1, r0, r1, r2, r3, rfl, (O2.setNew (by omega) _).setNew (by omega) _, (P2.far (by omega) _ _).far (by omega) _ _, Bk.put (cs := [.int .i64 ((n : Int) + (m : Int)), .int .i64 r0, .int .i64 r1, .int .i64 r2, .int .i64 r3]) (C2.put (cs := [.int .i64 (n : Int), .int .i64 r0, .int .i64 r1, .int .i64 r2, .int .i64 r3]) 0 (.int .i64 ((n : Int) + (m : Int)))) 0 (.int .i64 ((n + m + 1 : Nat) : Int)), (Z2.far (by omega) _ _).far (by omega) _ _, HS2⟩
    | false =>
     rw [h6] at hst
     simp only [Bool.false_eq_true, if_false] at hst
     obtain rfl : R = .agg #[.int .i64 (n : Int), .int .i64 r0, .int .i64 r1, .int .i64 r2, .int .i64 r3] := by rw [HS.out, hst]; rfl
     clear HS hst hok5 hok6
     have zf := fun i => Z1.fr i
     have z0 := Z1.at (i := 0) rfl
     have z1 := Z1.at (i := 1) rfl
     have z2 := Z1.at (i := 2) rfl
     have z3 := Z1.at (i := 3) rfl
     have z4 := Z1.at (i := 4) rfl
     go_wp2
     refine bodyPost_ret (v := .agg #[.int .i64 (n : Int), .int .i64 r0, .int .i64 r1, .int .i64 r2, .int .i64 r3]) ?_ rfl ⟨rfl, ?_⟩
     ·
      rw [results_cell rfl]
      go_simp
     ·
      repeat' (first | with_reducible refine On.setNew ?_ (by omega) _ | with_reducible exact O1)
  ·
   have e : settleP L ⟨(n : Int), r0, r1, r2, r3⟩ = ⟨(n : Int), r0, r1, r2, r3⟩ := settle_end (by simpa using hge)
   obtain rfl : R = .agg #[.int .i64 (n : Int), .int .i64 r0, .int .i64 r1, .int .i64 r2, .int .i64 r3] := by rw [HS.out, e]; rfl
   have hnn : ¬ n < L.length := by omega
   have P1 := PB.on (On.refl wr).drew
   have C1 := CB.on (On.refl wr).drew
   have Z1 := ZB.on (On.refl wr).drew
   have O1 : On w wr.drew := HO.out.drew
   have c1 := CB.at (i := 1) rfl
   have c2' := CB.at (i := 2) rfl
   have c3 := CB.at (i := 3) rfl
   have c4 := CB.at (i := 4) rfl
   have zf := fun i => ZB.fr i
   have z0 := ZB.at (i := 0) rfl
   have z1 := ZB.at (i := 1) rfl
   have z2 := ZB.at (i := 2) rfl
   have z3 := ZB.at (i := 3) rfl
   have z4 := ZB.at (i := 4) rfl
   go_wp2
   refine region_fin (fun W => W.cell? ⟨w.heap.size, 2, none⟩ = some (.slice (some ⟨ga, oa, none⟩) LL.length c) ∧ W.cell? ⟨w.heap.size + 1, 0, none⟩ = some (.int .i64 (n : Int)) ∧ W.cell? ⟨ga, oa + t, none⟩ = some (.slice ax L.length cx)) 99 9 (by kernel_rfl) rfl ?_
   refine fin_take 0 (v := ?_) rfl (by kernel_rfl) (by kernel_rfl) (by kernel_rfl) (by kernel_rfl) (fun _ _ _ h => h) rfl ?_ qS ?_
   rotate_left
   ·
    intro W hW
    go_simp
    (try with_reducible rfl)
   simp only [pu, sa, sz0, ss1]
   refine fin_take 1 (v := ?_) rfl (by kernel_rfl) (by kernel_rfl) (by kernel_rfl) (by kernel_rfl) (fun _ _ _ h => h) rfl ?_ qS ?_
   rotate_left
   ·
    intro W hW
    go_simp
    (try with_reducible rfl)
   simp only [pu, sa, sz0, ss1]
   refine fin_take 2 (v := ?_) rfl (by kernel_rfl) (by kernel_rfl) (by kernel_rfl) (by kernel_rfl) (fun _ _ _ h => h) rfl ?_ qS ?_
   rotate_left
   ·
    intro W hW
    go_simp
    (try with_reducible rfl)
   simp only [pu, sa, sz0, ss1]
   refine fin_take 3 (v := ?_) rfl (by kernel_rfl) (by kernel_rfl) (by kernel_rfl) (by kernel_rfl) (fun _ _ _ h => h) rfl ?_ qS ?_
   rotate_left
   ·
    intro W hW
    go_simp
    (try with_reducible rfl)
   simp only [pu, sa, sz0, ss1]
   refine fin_take 4 (v := ?_) rfl (by kernel_rfl) (by kernel_rfl) (by kernel_rfl) (by kernel_rfl) (fun _ _ _ h => h) rfl ?_ qS ?_
   rotate_left
   ·
    intro W hW
    go_simp
    (try with_reducible rfl)
   simp only [pu, sa, sz0, ss1]
   refine fin_take 5 (v := ?_) rfl (by kernel_rfl) (by kernel_rfl) (by kernel_rfl) (by kernel_rfl) (fun _ _ _ h => h) rfl ?_ qS ?_
   rotate_left
   ·
    intro W hW
    go_simp
    (try with_reducible rfl)
   simp only [pu, sa, sz0, ss1]
   refine fin_take 6 (v := ?_) rfl (by kernel_rfl) (by kernel_rfl) (by kernel_rfl) (by kernel_rfl) (fun _ _ _ h => h) rfl ?_ qS ?_
   rotate_left
   ·
    intro W hW
    go_simp
    (try with_reducible rfl)
   simp only [pu, sa, sz0, ss1]
   refine fin_take 7 (v := ?_) rfl (by kernel_rfl) (by kernel_rfl) (by kernel_rfl) (by kernel_rfl) (fun _ _ _ h => h) rfl ?_ qS ?_
   rotate_left
   ·
    intro W hW
    go_simp
    (try with_reducible rfl)
   simp only [pu, sa, sz0, ss1]
   refine fin_take 8 (v := ?_) rfl (by kernel_rfl) (by kernel_rfl) (by kernel_rfl) (by kernel_rfl) (fun _ _ _ h => h) rfl ?_ qS ?_
   rotate_left
   ·
    intro W hW
    go_simp
    (try with_reducible rfl)
   simp only [pu, sa, sz0, ss1]
   refine fin_done (by kernel_rfl) (NoPanic.normal ?_)
   go_wp2
   refine bodyPost_ret (v := .agg #[.int .i64 (n : Int), .int .i64 r0, .int .i64 r1, .int .i64 r2, .int .i64 r3]) ?_ rfl ⟨rfl, ?_⟩
   ·
    rw [results_cell rfl]
    go_simp
   ·
    refine On.drew ?_
    repeat' (first | with_reducible refine On.setNew ?_ (by omega) _ | with_reducible exact HO.out)
end Go.Proofs.YtcfohakgokiedaaGreatDoor
