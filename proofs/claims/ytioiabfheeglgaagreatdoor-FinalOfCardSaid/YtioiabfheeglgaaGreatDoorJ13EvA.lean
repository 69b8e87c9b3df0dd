/- The document's Value. -/
import Derived.Test.YtioiabfheeglgaaGreatDoorJ09StepD
import Derived.Test.YtioiabfheeglgaaGreatDoorJ12RDoW
import Derived.Test.YtioiabfheeglgaaGreatDoorJ11EvP
import Derived.Test.YtioiabfheeglgaaGreatDoorJ03RegGrow
namespace Go.Proofs.YtioiabfheeglgaaGreatDoor
open Go.RowKit

set_option maxHeartbeats 1000000 in
theorem rvalue_is (o : Opd) (l : LocT) (w : World) : Calls Tryz.prog 55 #[.agg #[.int .i64 o.r, .int .i64 o.v], locV l] w fun e w' => e = .returned (.int .i64 (valOf o l)) ∧ On w w' := by
 obtain ⟨r, v⟩ := o
 obtain ⟨pc, r0, r1, r2, r3⟩ := l
 unfold valOf locV
 cases h : regOk r with
 | false =>
  by_cases h0 : 0 ≤ r
  ·
   have h3 : decide (r ≤ 3) = false := by unfold regOk at h; simp at h; simp; omega
   go_enter Tryz.func55, Tryz.ntmps55
   go_wp2
   go_ret
   exact ⟨rfl, ((On.refl w).alloc _).alloc _⟩
  ·
   go_enter Tryz.func55, Tryz.ntmps55
   go_wp2
   go_ret
   exact ⟨rfl, ((On.refl w).alloc _).alloc _⟩
 | true =>
  rcases regOk_four h with rfl | rfl | rfl | rfl
  all_goals
   go_enter Tryz.func55, Tryz.ntmps55
   go_wp2
   go_ret
   exact ⟨rfl, ((On.refl w).alloc _).alloc _⟩
end Go.Proofs.YtioiabfheeglgaaGreatDoor

namespace Go.Proofs.YtioiabfheeglgaaGreatDoor
open Go.RowKit

set_option maxHeartbeats 1000000 in
theorem ereads_is (e : EvT) (w : World) : Calls Tryz.prog 40 #[evV e] w fun e' w' => e' = .returned (.bool (rdsB e.k)) ∧ On w w' := by
 obtain ⟨et, ei, ek, el, er, ew⟩ := e
 unfold evV rdsB
 simp only
 cases h0 : (ek == 1) with
 | true =>
  go_enter Tryz.func40, Tryz.ntmps40
  go_wp2
  go_ret
  exact ⟨rfl, (On.refl w).alloc _⟩
 | false =>
  cases h1 : (ek == 4) with
  | true =>
   go_enter Tryz.func40, Tryz.ntmps40
   go_wp2
   go_ret
   exact ⟨rfl, (On.refl w).alloc _⟩
  | false =>
   cases h2 : (ek == 5) with
   | true =>
    go_enter Tryz.func40, Tryz.ntmps40
    go_wp2
    go_ret
    exact ⟨rfl, (On.refl w).alloc _⟩
   | false =>
    go_enter Tryz.func40, Tryz.ntmps40
    go_wp2
    go_ret
    exact ⟨rfl, (On.refl w).alloc _⟩
set_option maxHeartbeats 1000000 in
theorem rreads_is (e : EvT) (w : World) : Calls Tryz.prog 21 #[evV e] w fun e' w' => e' = .returned (.bool (rdsB e.k)) ∧ On w w' := by
 obtain ⟨et, ei, ek, el, er, ew⟩ := e
 unfold evV rdsB
 simp only
 cases h0 : (ek == 1) with
 | true =>
  go_enter Tryz.func21, Tryz.ntmps21
  go_wp2
  go_ret
  exact ⟨rfl, (On.refl w).alloc _⟩
 | false =>
  cases h1 : (ek == 4) with
  | true =>
   go_enter Tryz.func21, Tryz.ntmps21
   go_wp2
   go_ret
   exact ⟨rfl, (On.refl w).alloc _⟩
  | false =>
   cases h2 : (ek == 5) with
   | true =>
    go_enter Tryz.func21, Tryz.ntmps21
    go_wp2
    go_ret
    exact ⟨rfl, (On.refl w).alloc _⟩
   | false =>
    go_enter Tryz.func21, Tryz.ntmps21
    go_wp2
    go_ret
    exact ⟨rfl, (On.refl w).alloc _⟩
set_option maxHeartbeats 1000000 in
theorem rwrites_is (e : EvT) (w : World) : Calls Tryz.prog 15 #[evV e] w fun e' w' => e' = .returned (.bool (wrsB e.k)) ∧ On w w' := by
 obtain ⟨et, ei, ek, el, er, ew⟩ := e
 unfold evV wrsB
 simp only
 cases h0 : (ek == 2) with
 | true =>
  go_enter Tryz.func15, Tryz.ntmps15
  go_wp2
  go_ret
  exact ⟨rfl, (On.refl w).alloc _⟩
 | false =>
  cases h1 : (ek == 4) with
  | true =>
   go_enter Tryz.func15, Tryz.ntmps15
   go_wp2
   go_ret
   exact ⟨rfl, (On.refl w).alloc _⟩
  | false =>
   go_enter Tryz.func15, Tryz.ntmps15
   go_wp2
   go_ret
   exact ⟨rfl, (On.refl w).alloc _⟩
set_option maxHeartbeats 1000000 in
theorem asks_is (x : InsT) (w : World) : Calls Tryz.prog 43 #[insV x] w fun e w' => e = .returned (.bool (readB x.k)) ∧ On w w' := by
 obtain ⟨k, r, l, ⟨ar, av⟩, o, ⟨br, bv⟩, n⟩ := x
 unfold insV readB
 simp only
 cases h2 : (k == 2) with
 | true =>
  go_enter Tryz.func43, Tryz.ntmps43
  go_wp2
  go_ret
  exact ⟨rfl, (On.refl w).alloc _⟩
 | false =>
  cases h4 : (k == 4)
  all_goals
   go_enter Tryz.func43, Tryz.ntmps43
   go_wp2
   go_ret
   exact ⟨rfl, (On.refl w).alloc _⟩
set_option maxHeartbeats 2000000 in
theorem swapped_is (x : InsT) (l0 : LocT) (v : Int) (w : World) : Calls Tryz.prog 60 #[insV x, locV l0, .int .i64 v] w fun e w' => e = .returned (evV (swapP x l0 v)) ∧ On w w' := by
 obtain ⟨k, r, l, ⟨ar, av⟩, o, ⟨br, bv⟩, n⟩ := x
 obtain ⟨pc, r0, r1, r2, r3⟩ := l0
 have hV := fun (o : Opd) (W : World) => pvalue_is o ⟨pc, r0, r1, r2, r3⟩ W
 have k0 : ∀ A B C, On w (((w.alloc A).alloc B).alloc C) := fun A B C => (((On.refl w).alloc A).alloc B).alloc C
 have bi : ∀ cs T B C, Bk (((w.alloc (.cells cs T)).alloc B).alloc C) w.heap.size cs := fun cs T B C => ((Bk.new w cs T).alloc B).alloc C
 have bl : ∀ A cs T C, Bk (((w.alloc A).alloc (.cells cs T)).alloc C) (w.heap.size + 1) cs := fun A cs T C => by have := (Bk.new (w.alloc A) cs T).alloc C; rwa [World.size_alloc] at this
 have br' : ∀ A B cs T, Bk (((w.alloc A).alloc B).alloc (.cells cs T)) (w.heap.size + 1 + 1) cs := fun A B cs T => by have := Bk.new ((w.alloc A).alloc B) cs T; rwa [World.size_alloc, World.size_alloc] at this
 unfold swapP insV locV evV
 simp only
 have hkS : ∀ W, Bk W w.heap.size #[.int .i64 k, .int .i64 r, .int .i64 l, .int .i64 ar, .int .i64 av, .int .i64 o, .int .i64 br, .int .i64 bv, .int .i64 n] → Bk W (w.heap.size + 1) #[.int .i64 pc, .int .i64 r0, .int .i64 r1, .int .i64 r2, .int .i64 r3] → (fun W => W.cell? ⟨w.heap.size, 0, none⟩ = some (.int .i64 k) ∧ W.cell? ⟨w.heap.size, 1, none⟩ = some (.int .i64 r) ∧ W.cell? ⟨w.heap.size, 2, none⟩ = some (.int .i64 l) ∧ W.cell? ⟨w.heap.size, 3, none⟩ = some (.int .i64 ar) ∧ W.cell? ⟨w.heap.size, 4, none⟩ = some (.int .i64 av) ∧ W.cell? ⟨w.heap.size, 5, none⟩ = some (.int .i64 o) ∧ W.cell? ⟨w.heap.size, 6, none⟩ = some (.int .i64 br) ∧ W.cell? ⟨w.heap.size, 7, none⟩ = some (.int .i64 bv) ∧ W.cell? ⟨w.heap.size, 8, none⟩ = some (.int .i64 n) ∧ W.cell? ⟨w.heap.size + 1, 0, none⟩ = some (.int .i64 pc) ∧ W.cell? ⟨w.heap.size + 1, 1, none⟩ = some (.int .i64 r0) ∧ W.cell? ⟨w.heap.size + 1, 2, none⟩ = some (.int .i64 r1) ∧ W.cell? ⟨w.heap.size + 1, 3, none⟩ = some (.int .i64 r2) ∧ W.cell? ⟨w.heap.size + 1, 4, none⟩ = some (.int .i64 r3)) W := fun W a b => ⟨a.at (i := 0) rfl, a.at (i := 1) rfl, a.at (i := 2) rfl, a.at (i := 3) rfl, a.at (i := 4) rfl, a.at (i := 5) rfl, a.at (i := 6) rfl, a.at (i := 7) rfl, a.at (i := 8) rfl, b.at (i := 0) rfl, b.at (i := 1) rfl, b.at (i := 2) rfl, b.at (i := 3) rfl, b.at (i := 4) rfl⟩
 have ne2 : ¬ w.heap.size = w.heap.size + 1 + 1 := by omega
 obtain ⟨W0, hW0⟩ : ∃ W0, W0 = ((w.alloc (.cells #[.int .i64 k, .int .i64 r, .int .i64 l, .int .i64 ar, .int .i64 av, .int .i64 o, .int .i64 br, .int .i64 bv, .int .i64 n] 67)).alloc (.cells #[.int .i64 pc, .int .i64 r0, .int .i64 r1, .int .i64 r2, .int .i64 r3] 73)).alloc (.cells #[.int .i64 0, .int .i64 0, .int .i64 0, .int .i64 0, .int .i64 0, .int .i64 0] 58) := ⟨_, rfl⟩
 have K0 : On w W0 := by rw [hW0]; exact k0 _ _ _
 have I0 : Bk W0 w.heap.size #[.int .i64 k, .int .i64 r, .int .i64 l, .int .i64 ar, .int .i64 av, .int .i64 o, .int .i64 br, .int .i64 bv, .int .i64 n] := by rw [hW0]; exact bi _ _ _ _
 have L0 : Bk W0 (w.heap.size + 1) #[.int .i64 pc, .int .i64 r0, .int .i64 r1, .int .i64 r2, .int .i64 r3] := by rw [hW0]; exact bl _ _ _ _
 have R0 : Bk W0 (w.heap.size + 1 + 1) #[.int .i64 0, .int .i64 0, .int .i64 0, .int .i64 0, .int .i64 0, .int .i64 0] := by rw [hW0]; exact br' _ _ _ _
 generalize hA : valOf ⟨ar, av⟩ ⟨pc, r0, r1, r2, r3⟩ = VA at *
 have hVa := fun W => hV ⟨ar, av⟩ W
 have hVb := fun W => hV ⟨br, bv⟩ W
 rw [hA] at hVa
 generalize hB : valOf ⟨br, bv⟩ ⟨pc, r0, r1, r2, r3⟩ = VB at *
 unfold locV at hVa hVb
 clear hV hA hB bi bl br' k0
 have x3 := I0.at (i := 3) rfl
 have x4 := I0.at (i := 4) rfl
 have y0 := L0.at (i := 0) rfl
 have y1 := L0.at (i := 1) rfl
 have y2 := L0.at (i := 2) rfl
 have y3 := L0.at (i := 3) rfl
 have y4 := L0.at (i := 4) rfl
 go_enter Tryz.func60, Tryz.ntmps60
 go_upto_region 1 with fail
 rw [← hW0]
 clear hW0
 go_wp2_with fail
 refine (hVa _).mono ?_
 rintro _ w1 ⟨rfl, k1⟩
 have I1 := I0.on k1
 have L1 := L0.on k1
 have R1 := R0.on k1
 have K1 := K0.trans k1
 cases hv : (v == VA) with
 | false =>
  have hv' : (v != VA) = true := by rw [bne, hv]; rfl
  have z2 := I1.at (i := 2) rfl
  have zf := fun i => R1.fr i
  have rr0 := R1.at (i := 0) rfl
  have rr1 := R1.at (i := 1) rfl
  have rr2 := R1.at (i := 2) rfl
  have rr3 := R1.at (i := 3) rfl
  have rr4 := R1.at (i := 4) rfl
  have rr5 := R1.at (i := 5) rfl
  have rl := R1.lt
  go_wp2
  refine bodyPost_ret (v := evV ⟨0, 0, 5, l, v, 0⟩) ?_ rfl ⟨rfl, ?_⟩
  ·
   rw [results_cell rfl]
   unfold evV
   go_simp
  ·
   repeat' (first | with_reducible refine On.setNew ?_ (by omega) _ | with_reducible exact K1)
 | true =>
  have hv' : (v != VA) = false := by rw [bne, hv]; rfl
  have S0 := hkS _ I1 L1
  have zf := fun i => R1.fr i
  have rr0 := R1.at (i := 0) rfl
  have rr1 := R1.at (i := 1) rfl
  have rr2 := R1.at (i := 2) rfl
  have rr3 := R1.at (i := 3) rfl
  have rr4 := R1.at (i := 4) rfl
  have rr5 := R1.at (i := 5) rfl
  have rl := R1.lt
  go_upto_region 3 with fail
  refine region_fin (fun W => W.cell? ⟨w.heap.size, 0, none⟩ = some (.int .i64 k) ∧ W.cell? ⟨w.heap.size, 1, none⟩ = some (.int .i64 r) ∧ W.cell? ⟨w.heap.size, 2, none⟩ = some (.int .i64 l) ∧ W.cell? ⟨w.heap.size, 3, none⟩ = some (.int .i64 ar) ∧ W.cell? ⟨w.heap.size, 4, none⟩ = some (.int .i64 av) ∧ W.cell? ⟨w.heap.size, 5, none⟩ = some (.int .i64 o) ∧ W.cell? ⟨w.heap.size, 6, none⟩ = some (.int .i64 br) ∧ W.cell? ⟨w.heap.size, 7, none⟩ = some (.int .i64 bv) ∧ W.cell? ⟨w.heap.size, 8, none⟩ = some (.int .i64 n) ∧ W.cell? ⟨w.heap.size + 1, 0, none⟩ = some (.int .i64 pc) ∧ W.cell? ⟨w.heap.size + 1, 1, none⟩ = some (.int .i64 r0) ∧ W.cell? ⟨w.heap.size + 1, 2, none⟩ = some (.int .i64 r1) ∧ W.cell? ⟨w.heap.size + 1, 3, none⟩ = some (.int .i64 r2) ∧ W.cell? ⟨w.heap.size + 1, 4, none⟩ = some (.int .i64 r3)) 99 9 (by kernel_rfl) rfl ?_
  refine fin_take 0 (v := ?_) rfl (by kernel_rfl) (by kernel_rfl) (by kernel_rfl) (by kernel_rfl) (fun _ _ _ h => h) rfl ?_ S0 ?_
  rotate_left
  ·
   intro W hW
   go_simp
   (try with_reducible rfl)
  simp only [zpu, zsa, zsz, zss]
  refine fin_take 1 (v := ?_) rfl (by kernel_rfl) (by kernel_rfl) (by kernel_rfl) (by kernel_rfl) (fun _ _ _ h => h) rfl ?_ S0 ?_
  rotate_left
  ·
   intro W hW
   go_simp
   (try with_reducible rfl)
  simp only [zpu, zsa, zsz, zss]
  refine fin_take 2 (v := ?_) rfl (by kernel_rfl) (by kernel_rfl) (by kernel_rfl) (by kernel_rfl) (fun _ _ _ h => h) rfl ?_ S0 ?_
  rotate_left
  ·
   intro W hW
   go_simp
   (try with_reducible rfl)
  simp only [zpu, zsa, zsz, zss]
  refine fin_take 3 (v := ?_) rfl (by kernel_rfl) (by kernel_rfl) (by kernel_rfl) (by kernel_rfl) (fun _ _ _ h => h) rfl ?_ S0 ?_
  rotate_left
  ·
   intro W hW
   go_simp
   (try with_reducible rfl)
  simp only [zpu, zsa, zsz, zss]
  refine fin_take 4 (v := ?_) rfl (by kernel_rfl) (by kernel_rfl) (by kernel_rfl) (by kernel_rfl) (fun _ _ _ h => h) rfl ?_ S0 ?_
  rotate_left
  ·
   intro W hW
   go_simp
   (try with_reducible rfl)
  simp only [zpu, zsa, zsz, zss]
  refine fin_take 5 (v := ?_) rfl (by kernel_rfl) (by kernel_rfl) (by kernel_rfl) (by kernel_rfl) (fun _ _ _ h => h) rfl ?_ S0 ?_
  rotate_left
  ·
   intro W hW
   go_simp
   (try with_reducible rfl)
  simp only [zpu, zsa, zsz, zss]
  refine fin_one 6 rfl rfl (by kernel_rfl) (fun K hK => ?_)
  go_simp
  refine (hVb _).mono ?_
  rintro _ w2 ⟨rfl, kd'⟩
  have kd := On.trans (On.drew (On.refl w1)) kd'
  have I2 := I1.on kd
  have L2 := L1.on kd
  have R2 := R1.on kd
  have S2 := hkS _ I2 L2
  have q0 := R2.at (i := 0) rfl
  have q1 := R2.at (i := 1) rfl
  have q2 := R2.at (i := 2) rfl
  have q3 := R2.at (i := 3) rfl
  have q4 := R2.at (i := 4) rfl
  have q5 := R2.at (i := 5) rfl
  have qf := fun i => R2.fr i
  have ql := R2.lt
  clear rr0 rr1 rr2 rr3 rr4 rr5 zf rl
  refine hK.out _ _ (fun _ => S2) ?_
  clear hK
  refine fin_take 7 (v := ?_) rfl (by kernel_rfl) (by kernel_rfl) (by kernel_rfl) (by kernel_rfl) (fun _ _ _ h => h) rfl ?_ S2 ?_
  rotate_left
  ·
   intro W hW
   go_simp
   (try with_reducible rfl)
  simp only [zpu, zsa, zsz, zss]
  refine fin_one 8 rfl rfl (by kernel_rfl) (fun K hK => ?_)
  go_simp
  refine hK.out _ _ (fun _ => hkS _ (by repeat' (first | with_reducible exact I2 | with_reducible refine Bk.far ?_ (by omega) _ _)) (by repeat' (first | with_reducible exact L2 | with_reducible refine Bk.far ?_ (by omega) _ _))) ?_
  clear hK
  refine fin_done (by kernel_rfl) (NoPanic.normal ?_)
  go_wp2
  refine bodyPost_ret (v := evV ⟨0, 0, 4, l, v, VB⟩) ?_ rfl ⟨rfl, ?_⟩
  ·
   rw [results_cell rfl]
   unfold evV
   go_simp
  ·
   repeat' (first | with_reducible refine On.setNew ?_ (by omega) _ | with_reducible exact K1.trans kd)
set_option maxHeartbeats 2000000 in
theorem done_is (x : InsT) (l0 : LocT) (v : Int) (w : World) : Calls Tryz.prog 44 #[insV x, locV l0, .int .i64 v] w fun e w' => e = .returned (evV (doneP x l0 v)) ∧ On w w' := by
 obtain ⟨k, r, l, ⟨ar, av⟩, o, ⟨br, bv⟩, n⟩ := x
 obtain ⟨pc, r0, r1, r2, r3⟩ := l0
 have hV := fun (o : Opd) (W : World) => pvalue_is o ⟨pc, r0, r1, r2, r3⟩ W
 have k0 : ∀ A B C, On w (((w.alloc A).alloc B).alloc C) := fun A B C => (((On.refl w).alloc A).alloc B).alloc C
 have bi : ∀ cs T B C, Bk (((w.alloc (.cells cs T)).alloc B).alloc C) w.heap.size cs := fun cs T B C => ((Bk.new w cs T).alloc B).alloc C
 have bl : ∀ A cs T C, Bk (((w.alloc A).alloc (.cells cs T)).alloc C) (w.heap.size + 1) cs := fun A cs T C => by have := (Bk.new (w.alloc A) cs T).alloc C; rwa [World.size_alloc] at this
 have br' : ∀ A B cs T, Bk (((w.alloc A).alloc B).alloc (.cells cs T)) (w.heap.size + 1 + 1) cs := fun A B cs T => by have := Bk.new ((w.alloc A).alloc B) cs T; rwa [World.size_alloc, World.size_alloc] at this
 unfold doneP insV locV evV
 simp only
 have hkS : ∀ W, Bk W w.heap.size #[.int .i64 k, .int .i64 r, .int .i64 l, .int .i64 ar, .int .i64 av, .int .i64 o, .int .i64 br, .int .i64 bv, .int .i64 n] → Bk W (w.heap.size + 1) #[.int .i64 pc, .int .i64 r0, .int .i64 r1, .int .i64 r2, .int .i64 r3] → (fun W => W.cell? ⟨w.heap.size, 0, none⟩ = some (.int .i64 k) ∧ W.cell? ⟨w.heap.size, 1, none⟩ = some (.int .i64 r) ∧ W.cell? ⟨w.heap.size, 2, none⟩ = some (.int .i64 l) ∧ W.cell? ⟨w.heap.size, 3, none⟩ = some (.int .i64 ar) ∧ W.cell? ⟨w.heap.size, 4, none⟩ = some (.int .i64 av) ∧ W.cell? ⟨w.heap.size, 5, none⟩ = some (.int .i64 o) ∧ W.cell? ⟨w.heap.size, 6, none⟩ = some (.int .i64 br) ∧ W.cell? ⟨w.heap.size, 7, none⟩ = some (.int .i64 bv) ∧ W.cell? ⟨w.heap.size, 8, none⟩ = some (.int .i64 n) ∧ W.cell? ⟨w.heap.size + 1, 0, none⟩ = some (.int .i64 pc) ∧ W.cell? ⟨w.heap.size + 1, 1, none⟩ = some (.int .i64 r0) ∧ W.cell? ⟨w.heap.size + 1, 2, none⟩ = some (.int .i64 r1) ∧ W.cell? ⟨w.heap.size + 1, 3, none⟩ = some (.int .i64 r2) ∧ W.cell? ⟨w.heap.size + 1, 4, none⟩ = some (.int .i64 r3)) W := fun W a b => ⟨a.at (i := 0) rfl, a.at (i := 1) rfl, a.at (i := 2) rfl, a.at (i := 3) rfl, a.at (i := 4) rfl, a.at (i := 5) rfl, a.at (i := 6) rfl, a.at (i := 7) rfl, a.at (i := 8) rfl, b.at (i := 0) rfl, b.at (i := 1) rfl, b.at (i := 2) rfl, b.at (i := 3) rfl, b.at (i := 4) rfl⟩
 have ne2 : ¬ w.heap.size = w.heap.size + 1 + 1 := by omega
 obtain ⟨w1, hW0⟩ : ∃ w1, w1 = ((w.alloc (.cells #[.int .i64 k, .int .i64 r, .int .i64 l, .int .i64 ar, .int .i64 av, .int .i64 o, .int .i64 br, .int .i64 bv, .int .i64 n] 67)).alloc (.cells #[.int .i64 pc, .int .i64 r0, .int .i64 r1, .int .i64 r2, .int .i64 r3] 73)).alloc (.cells #[.int .i64 0, .int .i64 0, .int .i64 0, .int .i64 0, .int .i64 0, .int .i64 0] 58) := ⟨_, rfl⟩
 have K1 : On w w1 := by rw [hW0]; exact k0 _ _ _
 have I1 : Bk w1 w.heap.size #[.int .i64 k, .int .i64 r, .int .i64 l, .int .i64 ar, .int .i64 av, .int .i64 o, .int .i64 br, .int .i64 bv, .int .i64 n] := by rw [hW0]; exact bi _ _ _ _
 have L1 : Bk w1 (w.heap.size + 1) #[.int .i64 pc, .int .i64 r0, .int .i64 r1, .int .i64 r2, .int .i64 r3] := by rw [hW0]; exact bl _ _ _ _
 have R1 : Bk w1 (w.heap.size + 1 + 1) #[.int .i64 0, .int .i64 0, .int .i64 0, .int .i64 0, .int .i64 0, .int .i64 0] := by rw [hW0]; exact br' _ _ _ _
 have hSw := fun W => swapped_is ⟨k, r, l, ⟨ar, av⟩, o, ⟨br, bv⟩, n⟩ ⟨pc, r0, r1, r2, r3⟩ v W
 generalize swapP ⟨k, r, l, ⟨ar, av⟩, o, ⟨br, bv⟩, n⟩ ⟨pc, r0, r1, r2, r3⟩ v = SW at *
 obtain ⟨s0, s1, s2, s3, s4, s5⟩ := SW
 unfold insV locV evV at hSw
 have hVa := fun W => hV ⟨ar, av⟩ W
 have hVb := fun W => hV ⟨br, bv⟩ W
 generalize valOf ⟨ar, av⟩ ⟨pc, r0, r1, r2, r3⟩ = VA at *
 generalize valOf ⟨br, bv⟩ ⟨pc, r0, r1, r2, r3⟩ = VB at *
 unfold locV at hVa hVb
 clear hV bi bl br' k0
 cases h2 : (k == 2) with
 | true =>
  have rr0 := R1.at (i := 0) rfl
  have rr1 := R1.at (i := 1) rfl
  have rr2 := R1.at (i := 2) rfl
  have rr3 := R1.at (i := 3) rfl
  have rr4 := R1.at (i := 4) rfl
  have rr5 := R1.at (i := 5) rfl
  have zf := fun i => R1.fr i
  have rl := R1.lt
  have x0 := I1.at (i := 0) rfl
  have x1 := I1.at (i := 1) rfl
  have x2 := I1.at (i := 2) rfl
  have x3 := I1.at (i := 3) rfl
  have x4 := I1.at (i := 4) rfl
  have x5 := I1.at (i := 5) rfl
  have x6 := I1.at (i := 6) rfl
  have x7 := I1.at (i := 7) rfl
  have x8 := I1.at (i := 8) rfl
  have y0 := L1.at (i := 0) rfl
  have y1 := L1.at (i := 1) rfl
  have y2 := L1.at (i := 2) rfl
  have y3 := L1.at (i := 3) rfl
  have y4 := L1.at (i := 4) rfl
  have xl := I1.lt
  have yl := L1.lt
  go_enter Tryz.func44, Tryz.ntmps44
  go_upto_region 1 with fail
  rw [← hW0]
  clear hW0
  go_wp2
  refine bodyPost_ret (v := evV ⟨0, 0, 1, l, v, 0⟩) ?_ rfl ⟨rfl, ?_⟩
  ·
   rw [results_cell rfl]
   unfold evV
   go_simp
  ·
   repeat' (first | with_reducible refine On.setNew ?_ (by omega) _ | with_reducible exact K1)
 | false =>
  cases h1 : (k == 1) with
  | true =>
   have rr0 := R1.at (i := 0) rfl
   have rr1 := R1.at (i := 1) rfl
   have rr2 := R1.at (i := 2) rfl
   have rr3 := R1.at (i := 3) rfl
   have rr4 := R1.at (i := 4) rfl
   have rr5 := R1.at (i := 5) rfl
   have zf := fun i => R1.fr i
   have rl := R1.lt
   have x0 := I1.at (i := 0) rfl
   have x1 := I1.at (i := 1) rfl
   have x2 := I1.at (i := 2) rfl
   have x3 := I1.at (i := 3) rfl
   have x4 := I1.at (i := 4) rfl
   have x5 := I1.at (i := 5) rfl
   have x6 := I1.at (i := 6) rfl
   have x7 := I1.at (i := 7) rfl
   have x8 := I1.at (i := 8) rfl
   have y0 := L1.at (i := 0) rfl
   have y1 := L1.at (i := 1) rfl
   have y2 := L1.at (i := 2) rfl
   have y3 := L1.at (i := 3) rfl
   have y4 := L1.at (i := 4) rfl
   have xl := I1.lt
   have yl := L1.lt
   go_enter Tryz.func44, Tryz.ntmps44
   go_upto_region 1 with fail
   rw [← hW0]
   clear hW0
   have S0 := hkS _ I1 L1
   go_upto_region 5 with fail
   clear x0 x1 x2 x3 x4 x5 x6 x7 x8 y0 y1 y2 y3 y4 xl yl
   refine region_fin (fun W => W.cell? ⟨w.heap.size, 0, none⟩ = some (.int .i64 k) ∧ W.cell? ⟨w.heap.size, 1, none⟩ = some (.int .i64 r) ∧ W.cell? ⟨w.heap.size, 2, none⟩ = some (.int .i64 l) ∧ W.cell? ⟨w.heap.size, 3, none⟩ = some (.int .i64 ar) ∧ W.cell? ⟨w.heap.size, 4, none⟩ = some (.int .i64 av) ∧ W.cell? ⟨w.heap.size, 5, none⟩ = some (.int .i64 o) ∧ W.cell? ⟨w.heap.size, 6, none⟩ = some (.int .i64 br) ∧ W.cell? ⟨w.heap.size, 7, none⟩ = some (.int .i64 bv) ∧ W.cell? ⟨w.heap.size, 8, none⟩ = some (.int .i64 n) ∧ W.cell? ⟨w.heap.size + 1, 0, none⟩ = some (.int .i64 pc) ∧ W.cell? ⟨w.heap.size + 1, 1, none⟩ = some (.int .i64 r0) ∧ W.cell? ⟨w.heap.size + 1, 2, none⟩ = some (.int .i64 r1) ∧ W.cell? ⟨w.heap.size + 1, 3, none⟩ = some (.int .i64 r2) ∧ W.cell? ⟨w.heap.size + 1, 4, none⟩ = some (.int .i64 r3)) 99 8 (by kernel_rfl) rfl ?_
   refine fin_take 0 (v := ?_) rfl (by kernel_rfl) (by kernel_rfl) (by kernel_rfl) (by kernel_rfl) (fun _ _ _ h => h) rfl ?_ S0 ?_
   rotate_left
   ·
    intro W hW
    go_simp
    (try with_reducible rfl)
   simp only [zpu, zsa, zsz, zss]
   refine fin_take 1 (v := ?_) rfl (by kernel_rfl) (by kernel_rfl) (by kernel_rfl) (by kernel_rfl) (fun _ _ _ h => h) rfl ?_ S0 ?_
   rotate_left
   ·
    intro W hW
    go_simp
    (try with_reducible rfl)
   simp only [zpu, zsa, zsz, zss]
   refine fin_take 2 (v := ?_) rfl (by kernel_rfl) (by kernel_rfl) (by kernel_rfl) (by kernel_rfl) (fun _ _ _ h => h) rfl ?_ S0 ?_
   rotate_left
   ·
    intro W hW
    go_simp
    (try with_reducible rfl)
   simp only [zpu, zsa, zsz, zss]
   refine fin_take 3 (v := ?_) rfl (by kernel_rfl) (by kernel_rfl) (by kernel_rfl) (by kernel_rfl) (fun _ _ _ h => h) rfl ?_ S0 ?_
   rotate_left
   ·
    intro W hW
    go_simp
    (try with_reducible rfl)
   simp only [zpu, zsa, zsz, zss]
   refine fin_take 4 (v := ?_) rfl (by kernel_rfl) (by kernel_rfl) (by kernel_rfl) (by kernel_rfl) (fun _ _ _ h => h) rfl ?_ S0 ?_
   rotate_left
   ·
    intro W hW
    go_simp
    (try with_reducible rfl)
   simp only [zpu, zsa, zsz, zss]
   refine fin_one 5 rfl rfl (by kernel_rfl) (fun K hK => ?_)
   go_simp
   refine (hVa _).mono ?_
   rintro _ w2 ⟨rfl, kd'⟩
   have kd := On.trans (On.drew (On.refl w1)) kd'
   have I2 := I1.on kd
   have L2 := L1.on kd
   have R2 := R1.on kd
   have S2 := hkS _ I2 L2
   have q0 := R2.at (i := 0) rfl
   have q1 := R2.at (i := 1) rfl
   have q2 := R2.at (i := 2) rfl
   have q3 := R2.at (i := 3) rfl
   have q4 := R2.at (i := 4) rfl
   have q5 := R2.at (i := 5) rfl
   have qf := fun i => R2.fr i
   have ql := R2.lt
   clear rr0 rr1 rr2 rr3 rr4 rr5 zf rl
   refine hK.out _ _ (fun _ => S2) ?_
   clear hK
   refine fin_take 6 (v := ?_) rfl (by kernel_rfl) (by kernel_rfl) (by kernel_rfl) (by kernel_rfl) (fun _ _ _ h => h) rfl ?_ S2 ?_
   rotate_left
   ·
    intro W hW
    go_simp
    (try with_reducible rfl)
   simp only [zpu, zsa, zsz, zss]
   refine fin_one 7 rfl rfl (by kernel_rfl) (fun K hK => ?_)
   go_simp
   refine hK.out _ _ (fun _ => hkS _ (by repeat' (first | with_reducible exact I2 | with_reducible refine Bk.far ?_ (by omega) _ _)) (by repeat' (first | with_reducible exact L2 | with_reducible refine Bk.far ?_ (by omega) _ _))) ?_
   clear hK
   refine fin_done (by kernel_rfl) (NoPanic.normal ?_)
   go_wp2
   refine bodyPost_ret (v := evV ⟨0, 0, 2, l, 0, VA⟩) ?_ rfl ⟨rfl, ?_⟩
   ·
    rw [results_cell rfl]
    unfold evV
    go_simp
   ·
    repeat' (first | with_reducible refine On.setNew ?_ (by omega) _ | with_reducible exact K1.trans kd)
  | false =>
   cases h4 : (k == 4) with
   | true =>
    have rr0 := R1.at (i := 0) rfl
    have rr1 := R1.at (i := 1) rfl
    have rr2 := R1.at (i := 2) rfl
    have rr3 := R1.at (i := 3) rfl
    have rr4 := R1.at (i := 4) rfl
    have rr5 := R1.at (i := 5) rfl
    have zf := fun i => R1.fr i
    have rl := R1.lt
    have x0 := I1.at (i := 0) rfl
    have x1 := I1.at (i := 1) rfl
    have x2 := I1.at (i := 2) rfl
    have x3 := I1.at (i := 3) rfl
    have x4 := I1.at (i := 4) rfl
    have x5 := I1.at (i := 5) rfl
    have x6 := I1.at (i := 6) rfl
    have x7 := I1.at (i := 7) rfl
    have x8 := I1.at (i := 8) rfl
    have y0 := L1.at (i := 0) rfl
    have y1 := L1.at (i := 1) rfl
    have y2 := L1.at (i := 2) rfl
    have y3 := L1.at (i := 3) rfl
    have y4 := L1.at (i := 4) rfl
    have xl := I1.lt
    have yl := L1.lt
    go_enter Tryz.func44, Tryz.ntmps44
    go_upto_region 1 with fail
    rw [← hW0]
    clear hW0
    go_wp2_with fail
    refine (hSw _).mono ?_
    rintro _ w2 ⟨rfl, k2⟩
    have R2 := R1.on k2
    have K2 := K1.trans k2
    clear rr0 rr1 rr2 rr3 rr4 rr5 zf rl x0 x1 x2 x3 x4 x5 x6 x7 x8 y0 y1 y2 y3 y4 xl yl
    have rr0 := R2.at (i := 0) rfl
    have rr1 := R2.at (i := 1) rfl
    have rr2 := R2.at (i := 2) rfl
    have rr3 := R2.at (i := 3) rfl
    have rr4 := R2.at (i := 4) rfl
    have rr5 := R2.at (i := 5) rfl
    have zf := fun i => R2.fr i
    have rl := R2.lt
    go_wp2
    refine bodyPost_ret (v := evV ⟨s0, s1, s2, s3, s4, s5⟩) ?_ rfl ⟨rfl, ?_⟩
    ·
     rw [results_cell rfl]
     unfold evV
     go_simp
    ·
     repeat' (first | with_reducible refine On.setNew ?_ (by omega) _ | with_reducible exact K2)
   | false =>
    have rr0 := R1.at (i := 0) rfl
    have rr1 := R1.at (i := 1) rfl
    have rr2 := R1.at (i := 2) rfl
    have rr3 := R1.at (i := 3) rfl
    have rr4 := R1.at (i := 4) rfl
    have rr5 := R1.at (i := 5) rfl
    have zf := fun i => R1.fr i
    have rl := R1.lt
    have x0 := I1.at (i := 0) rfl
    have x1 := I1.at (i := 1) rfl
    have x2 := I1.at (i := 2) rfl
    have x3 := I1.at (i := 3) rfl
    have x4 := I1.at (i := 4) rfl
    have x5 := I1.at (i := 5) rfl
    have x6 := I1.at (i := 6) rfl
    have x7 := I1.at (i := 7) rfl
    have x8 := I1.at (i := 8) rfl
    have y0 := L1.at (i := 0) rfl
    have y1 := L1.at (i := 1) rfl
    have y2 := L1.at (i := 2) rfl
    have y3 := L1.at (i := 3) rfl
    have y4 := L1.at (i := 4) rfl
    have xl := I1.lt
    have yl := L1.lt
    go_enter Tryz.func44, Tryz.ntmps44
    go_upto_region 1 with fail
    rw [← hW0]
    clear hW0
    go_wp2
    refine bodyPost_ret (v := evV ⟨0, 0, 3, 0, 0, 0⟩) ?_ rfl ⟨rfl, ?_⟩
    ·
     rw [results_cell rfl]
     unfold evV
     go_simp
    ·
     repeat' (first | with_reducible refine On.setNew ?_ (by omega) _ | with_reducible exact K1)
set_option maxHeartbeats 2000000 in
theorem revent_is (x : InsT) (l0 : LocT) (v : Int) (w : World) : Calls Tryz.prog 38 #[insV x, locV l0, .int .i64 v] w fun e w' => e = .returned (evV (doneP x l0 v)) ∧ On w w' := by
 obtain ⟨k, r, l, ⟨ar, av⟩, o, ⟨br, bv⟩, n⟩ := x
 obtain ⟨pc, r0, r1, r2, r3⟩ := l0
 have hV := fun (o : Opd) (W : World) => rvalue_is o ⟨pc, r0, r1, r2, r3⟩ W
 have k0 : ∀ A B C, On w (((w.alloc A).alloc B).alloc C) := fun A B C => (((On.refl w).alloc A).alloc B).alloc C
 have bi : ∀ cs T B C, Bk (((w.alloc (.cells cs T)).alloc B).alloc C) w.heap.size cs := fun cs T B C => ((Bk.new w cs T).alloc B).alloc C
 have bl : ∀ A cs T C, Bk (((w.alloc A).alloc (.cells cs T)).alloc C) (w.heap.size + 1) cs := fun A cs T C => by have := (Bk.new (w.alloc A) cs T).alloc C; rwa [World.size_alloc] at this
 have br' : ∀ A B cs T, Bk (((w.alloc A).alloc B).alloc (.cells cs T)) (w.heap.size + 1 + 1) cs := fun A B cs T => by have := Bk.new ((w.alloc A).alloc B) cs T; rwa [World.size_alloc, World.size_alloc] at this
 unfold doneP insV locV evV
 simp only
 have hkS : ∀ W, Bk W w.heap.size #[.int .i64 k, .int .i64 r, .int .i64 l, .int .i64 ar, .int .i64 av, .int .i64 o, .int .i64 br, .int .i64 bv, .int .i64 n] → Bk W (w.heap.size + 1) #[.int .i64 pc, .int .i64 r0, .int .i64 r1, .int .i64 r2, .int .i64 r3] → (fun W => W.cell? ⟨w.heap.size, 0, none⟩ = some (.int .i64 k) ∧ W.cell? ⟨w.heap.size, 1, none⟩ = some (.int .i64 r) ∧ W.cell? ⟨w.heap.size, 2, none⟩ = some (.int .i64 l) ∧ W.cell? ⟨w.heap.size, 3, none⟩ = some (.int .i64 ar) ∧ W.cell? ⟨w.heap.size, 4, none⟩ = some (.int .i64 av) ∧ W.cell? ⟨w.heap.size, 5, none⟩ = some (.int .i64 o) ∧ W.cell? ⟨w.heap.size, 6, none⟩ = some (.int .i64 br) ∧ W.cell? ⟨w.heap.size, 7, none⟩ = some (.int .i64 bv) ∧ W.cell? ⟨w.heap.size, 8, none⟩ = some (.int .i64 n) ∧ W.cell? ⟨w.heap.size + 1, 0, none⟩ = some (.int .i64 pc) ∧ W.cell? ⟨w.heap.size + 1, 1, none⟩ = some (.int .i64 r0) ∧ W.cell? ⟨w.heap.size + 1, 2, none⟩ = some (.int .i64 r1) ∧ W.cell? ⟨w.heap.size + 1, 3, none⟩ = some (.int .i64 r2) ∧ W.cell? ⟨w.heap.size + 1, 4, none⟩ = some (.int .i64 r3)) W := fun W a b => ⟨a.at (i := 0) rfl, a.at (i := 1) rfl, a.at (i := 2) rfl, a.at (i := 3) rfl, a.at (i := 4) rfl, a.at (i := 5) rfl, a.at (i := 6) rfl, a.at (i := 7) rfl, a.at (i := 8) rfl, b.at (i := 0) rfl, b.at (i := 1) rfl, b.at (i := 2) rfl, b.at (i := 3) rfl, b.at (i := 4) rfl⟩
 have ne2 : ¬ w.heap.size = w.heap.size + 1 + 1 := by omega
 obtain ⟨w1, hW0⟩ : ∃ w1, w1 = ((w.alloc (.cells #[.int .i64 k, .int .i64 r, .int .i64 l, .int .i64 ar, .int .i64 av, .int .i64 o, .int .i64 br, .int .i64 bv, .int .i64 n] 67)).alloc (.cells #[.int .i64 pc, .int .i64 r0, .int .i64 r1, .int .i64 r2, .int .i64 r3] 73)).alloc (.cells #[.int .i64 0, .int .i64 0, .int .i64 0, .int .i64 0, .int .i64 0, .int .i64 0] 58) := ⟨_, rfl⟩
 have K1 : On w w1 := by rw [hW0]; exact k0 _ _ _
 have I1 : Bk w1 w.heap.size #[.int .i64 k, .int .i64 r, .int .i64 l, .int .i64 ar, .int .i64 av, .int .i64 o, .int .i64 br, .int .i64 bv, .int .i64 n] := by rw [hW0]; exact bi _ _ _ _
 have L1 : Bk w1 (w.heap.size + 1) #[.int .i64 pc, .int .i64 r0, .int .i64 r1, .int .i64 r2, .int .i64 r3] := by rw [hW0]; exact bl _ _ _ _
 have R1 : Bk w1 (w.heap.size + 1 + 1) #[.int .i64 0, .int .i64 0, .int .i64 0, .int .i64 0, .int .i64 0, .int .i64 0] := by rw [hW0]; exact br' _ _ _ _
 unfold swapP
 simp only
 have hVa := fun W => hV ⟨ar, av⟩ W
 have hVb := fun W => hV ⟨br, bv⟩ W
 generalize valOf ⟨ar, av⟩ ⟨pc, r0, r1, r2, r3⟩ = VA at *
 generalize valOf ⟨br, bv⟩ ⟨pc, r0, r1, r2, r3⟩ = VB at *
 unfold locV at hVa hVb
 clear hV bi bl br' k0
 cases h2 : (k == 2) with
 | true =>
  have h1 : (k == 1) = false := by simp at h2 ⊢; omega
  have rr0 := R1.at (i := 0) rfl
  have rr1 := R1.at (i := 1) rfl
  have rr2 := R1.at (i := 2) rfl
  have rr3 := R1.at (i := 3) rfl
  have rr4 := R1.at (i := 4) rfl
  have rr5 := R1.at (i := 5) rfl
  have zf := fun i => R1.fr i
  have rl := R1.lt
  have x0 := I1.at (i := 0) rfl
  have x1 := I1.at (i := 1) rfl
  have x2 := I1.at (i := 2) rfl
  have x3 := I1.at (i := 3) rfl
  have x4 := I1.at (i := 4) rfl
  have x5 := I1.at (i := 5) rfl
  have x6 := I1.at (i := 6) rfl
  have x7 := I1.at (i := 7) rfl
  have x8 := I1.at (i := 8) rfl
  have y0 := L1.at (i := 0) rfl
  have y1 := L1.at (i := 1) rfl
  have y2 := L1.at (i := 2) rfl
  have y3 := L1.at (i := 3) rfl
  have y4 := L1.at (i := 4) rfl
  have xl := I1.lt
  have yl := L1.lt
  go_enter Tryz.func38, Tryz.ntmps38
  go_upto_region 1 with fail
  rw [← hW0]
  clear hW0
  go_wp2
  refine bodyPost_ret (v := evV ⟨0, 0, 1, l, v, 0⟩) ?_ rfl ⟨rfl, ?_⟩
  ·
   rw [results_cell rfl]
   unfold evV
   go_simp
  ·
   repeat' (first | with_reducible refine On.setNew ?_ (by omega) _ | with_reducible exact K1)
 | false =>
  cases h1 : (k == 1) with
  | true =>
   have rr0 := R1.at (i := 0) rfl
   have rr1 := R1.at (i := 1) rfl
   have rr2 := R1.at (i := 2) rfl
   have rr3 := R1.at (i := 3) rfl
   have rr4 := R1.at (i := 4) rfl
   have rr5 := R1.at (i := 5) rfl
   have zf := fun i => R1.fr i
   have rl := R1.lt
   have x0 := I1.at (i := 0) rfl
   have x1 := I1.at (i := 1) rfl
   have x2 := I1.at (i := 2) rfl
   have x3 := I1.at (i := 3) rfl
   have x4 := I1.at (i := 4) rfl
   have x5 := I1.at (i := 5) rfl
   have x6 := I1.at (i := 6) rfl
   have x7 := I1.at (i := 7) rfl
   have x8 := I1.at (i := 8) rfl
   have y0 := L1.at (i := 0) rfl
   have y1 := L1.at (i := 1) rfl
   have y2 := L1.at (i := 2) rfl
   have y3 := L1.at (i := 3) rfl
   have y4 := L1.at (i := 4) rfl
   have xl := I1.lt
   have yl := L1.lt
   go_enter Tryz.func38, Tryz.ntmps38
   go_upto_region 1 with fail
   rw [← hW0]
   clear hW0
   have S0 := hkS _ I1 L1
   go_upto_region 3 with fail
   clear x0 x1 x2 x3 x4 x5 x6 x7 x8 y0 y1 y2 y3 y4 xl yl
   refine region_fin (fun W => W.cell? ⟨w.heap.size, 0, none⟩ = some (.int .i64 k) ∧ W.cell? ⟨w.heap.size, 1, none⟩ = some (.int .i64 r) ∧ W.cell? ⟨w.heap.size, 2, none⟩ = some (.int .i64 l) ∧ W.cell? ⟨w.heap.size, 3, none⟩ = some (.int .i64 ar) ∧ W.cell? ⟨w.heap.size, 4, none⟩ = some (.int .i64 av) ∧ W.cell? ⟨w.heap.size, 5, none⟩ = some (.int .i64 o) ∧ W.cell? ⟨w.heap.size, 6, none⟩ = some (.int .i64 br) ∧ W.cell? ⟨w.heap.size, 7, none⟩ = some (.int .i64 bv) ∧ W.cell? ⟨w.heap.size, 8, none⟩ = some (.int .i64 n) ∧ W.cell? ⟨w.heap.size + 1, 0, none⟩ = some (.int .i64 pc) ∧ W.cell? ⟨w.heap.size + 1, 1, none⟩ = some (.int .i64 r0) ∧ W.cell? ⟨w.heap.size + 1, 2, none⟩ = some (.int .i64 r1) ∧ W.cell? ⟨w.heap.size + 1, 3, none⟩ = some (.int .i64 r2) ∧ W.cell? ⟨w.heap.size + 1, 4, none⟩ = some (.int .i64 r3)) 99 8 (by kernel_rfl) rfl ?_
   refine fin_take 0 (v := ?_) rfl (by kernel_rfl) (by kernel_rfl) (by kernel_rfl) (by kernel_rfl) (fun _ _ _ h => h) rfl ?_ S0 ?_
   rotate_left
   ·
    intro W hW
    go_simp
    (try with_reducible rfl)
   simp only [zpu, zsa, zsz, zss]
   refine fin_take 1 (v := ?_) rfl (by kernel_rfl) (by kernel_rfl) (by kernel_rfl) (by kernel_rfl) (fun _ _ _ h => h) rfl ?_ S0 ?_
   rotate_left
   ·
    intro W hW
    go_simp
    (try with_reducible rfl)
   simp only [zpu, zsa, zsz, zss]
   refine fin_take 2 (v := ?_) rfl (by kernel_rfl) (by kernel_rfl) (by kernel_rfl) (by kernel_rfl) (fun _ _ _ h => h) rfl ?_ S0 ?_
   rotate_left
   ·
    intro W hW
    go_simp
    (try with_reducible rfl)
   simp only [zpu, zsa, zsz, zss]
   refine fin_take 3 (v := ?_) rfl (by kernel_rfl) (by kernel_rfl) (by kernel_rfl) (by kernel_rfl) (fun _ _ _ h => h) rfl ?_ S0 ?_
   rotate_left
   ·
    intro W hW
    go_simp
    (try with_reducible rfl)
   simp only [zpu, zsa, zsz, zss]
   refine fin_take 4 (v := ?_) rfl (by kernel_rfl) (by kernel_rfl) (by kernel_rfl) (by kernel_rfl) (fun _ _ _ h => h) rfl ?_ S0 ?_
   rotate_left
   ·
    intro W hW
    go_simp
    (try with_reducible rfl)
   simp only [zpu, zsa, zsz, zss]
   refine fin_one 5 rfl rfl (by kernel_rfl) (fun K hK => ?_)
   go_simp
   refine (hVa _).mono ?_
   rintro _ w2 ⟨rfl, kd'⟩
   have kd := On.trans (On.drew (On.refl w1)) kd'
   have I2 := I1.on kd
   have L2 := L1.on kd
   have R2 := R1.on kd
   have S2 := hkS _ I2 L2
   have q0 := R2.at (i := 0) rfl
   have q1 := R2.at (i := 1) rfl
   have q2 := R2.at (i := 2) rfl
   have q3 := R2.at (i := 3) rfl
   have q4 := R2.at (i := 4) rfl
   have q5 := R2.at (i := 5) rfl
   have qf := fun i => R2.fr i
   have ql := R2.lt
   clear rr0 rr1 rr2 rr3 rr4 rr5 zf rl
   refine hK.out _ _ (fun _ => S2) ?_
   clear hK
   refine fin_take 6 (v := ?_) rfl (by kernel_rfl) (by kernel_rfl) (by kernel_rfl) (by kernel_rfl) (fun _ _ _ h => h) rfl ?_ S2 ?_
   rotate_left
   ·
    intro W hW
    go_simp
    (try with_reducible rfl)
   simp only [zpu, zsa, zsz, zss]
   refine fin_one 7 rfl rfl (by kernel_rfl) (fun K hK => ?_)
   go_simp
   refine hK.out _ _ (fun _ => hkS _ (by repeat' (first | with_reducible exact I2 | with_reducible refine Bk.far ?_ (by omega) _ _)) (by repeat' (first | with_reducible exact L2 | with_reducible refine Bk.far ?_ (by omega) _ _))) ?_
   clear hK
   refine fin_done (by kernel_rfl) (NoPanic.normal ?_)
   go_wp2
   refine bodyPost_ret (v := evV ⟨0, 0, 2, l, 0, VA⟩) ?_ rfl ⟨rfl, ?_⟩
   ·
    rw [results_cell rfl]
    unfold evV
    go_simp
   ·
    repeat' (first | with_reducible refine On.setNew ?_ (by omega) _ | with_reducible exact K1.trans kd)
  | false =>
   cases h4 : (k == 4) with
   | true =>
    have rr0 := R1.at (i := 0) rfl
    have rr1 := R1.at (i := 1) rfl
    have rr2 := R1.at (i := 2) rfl
    have rr3 := R1.at (i := 3) rfl
    have rr4 := R1.at (i := 4) rfl
    have rr5 := R1.at (i := 5) rfl
    have zf := fun i => R1.fr i
    have rl := R1.lt
    have x0 := I1.at (i := 0) rfl
    have x1 := I1.at (i := 1) rfl
    have x2 := I1.at (i := 2) rfl
    have x3 := I1.at (i := 3) rfl
    have x4 := I1.at (i := 4) rfl
    have x5 := I1.at (i := 5) rfl
    have x6 := I1.at (i := 6) rfl
    have x7 := I1.at (i := 7) rfl
    have x8 := I1.at (i := 8) rfl
    have y0 := L1.at (i := 0) rfl
    have y1 := L1.at (i := 1) rfl
    have y2 := L1.at (i := 2) rfl
    have y3 := L1.at (i := 3) rfl
    have y4 := L1.at (i := 4) rfl
    have xl := I1.lt
    have yl := L1.lt
    go_enter Tryz.func38, Tryz.ntmps38
    go_upto_region 1 with fail
    rw [← hW0]
    clear hW0
    go_wp2_with fail
    refine (hVa _).mono ?_
    rintro _ w2 ⟨rfl, k2⟩
    have I2 := I1.on k2
    have L2 := L1.on k2
    have R2 := R1.on k2
    have K2 := K1.trans k2
    clear rr0 rr1 rr2 rr3 rr4 rr5 zf rl x0 x1 x2 x3 x4 x5 x6 x7 x8 y0 y1 y2 y3 y4 xl yl I1 L1 R1 K1 k2
    cases hv : (v == VA) with
    | false =>
     have rr0 := R2.at (i := 0) rfl
     have rr1 := R2.at (i := 1) rfl
     have rr2 := R2.at (i := 2) rfl
     have rr3 := R2.at (i := 3) rfl
     have rr4 := R2.at (i := 4) rfl
     have rr5 := R2.at (i := 5) rfl
     have zf := fun i => R2.fr i
     have rl := R2.lt
     have x0 := I2.at (i := 0) rfl
     have x1 := I2.at (i := 1) rfl
     have x2 := I2.at (i := 2) rfl
     have x3 := I2.at (i := 3) rfl
     have x4 := I2.at (i := 4) rfl
     have x5 := I2.at (i := 5) rfl
     have x6 := I2.at (i := 6) rfl
     have x7 := I2.at (i := 7) rfl
     have x8 := I2.at (i := 8) rfl
     have y0 := L2.at (i := 0) rfl
     have y1 := L2.at (i := 1) rfl
     have y2 := L2.at (i := 2) rfl
     have y3 := L2.at (i := 3) rfl
     have y4 := L2.at (i := 4) rfl
     have xl := I2.lt
     have yl := L2.lt
     go_wp2
     refine bodyPost_ret (v := evV ⟨0, 0, 5, l, v, 0⟩) ?_ rfl ⟨rfl, ?_⟩
     ·
      rw [results_cell rfl]
      unfold evV
      go_simp
     ·
      repeat' (first | with_reducible refine On.setNew ?_ (by omega) _ | with_reducible exact K2)
    | true =>
     have rr0 := R2.at (i := 0) rfl
     have rr1 := R2.at (i := 1) rfl
     have rr2 := R2.at (i := 2) rfl
     have rr3 := R2.at (i := 3) rfl
     have rr4 := R2.at (i := 4) rfl
     have rr5 := R2.at (i := 5) rfl
     have zf := fun i => R2.fr i
     have rl := R2.lt
     have S0 := hkS _ I2 L2
     go_upto_region 8 with fail
     refine region_fin (fun W => W.cell? ⟨w.heap.size, 0, none⟩ = some (.int .i64 k) ∧ W.cell? ⟨w.heap.size, 1, none⟩ = some (.int .i64 r) ∧ W.cell? ⟨w.heap.size, 2, none⟩ = some (.int .i64 l) ∧ W.cell? ⟨w.heap.size, 3, none⟩ = some (.int .i64 ar) ∧ W.cell? ⟨w.heap.size, 4, none⟩ = some (.int .i64 av) ∧ W.cell? ⟨w.heap.size, 5, none⟩ = some (.int .i64 o) ∧ W.cell? ⟨w.heap.size, 6, none⟩ = some (.int .i64 br) ∧ W.cell? ⟨w.heap.size, 7, none⟩ = some (.int .i64 bv) ∧ W.cell? ⟨w.heap.size, 8, none⟩ = some (.int .i64 n) ∧ W.cell? ⟨w.heap.size + 1, 0, none⟩ = some (.int .i64 pc) ∧ W.cell? ⟨w.heap.size + 1, 1, none⟩ = some (.int .i64 r0) ∧ W.cell? ⟨w.heap.size + 1, 2, none⟩ = some (.int .i64 r1) ∧ W.cell? ⟨w.heap.size + 1, 3, none⟩ = some (.int .i64 r2) ∧ W.cell? ⟨w.heap.size + 1, 4, none⟩ = some (.int .i64 r3)) 99 9 (by kernel_rfl) rfl ?_
     refine fin_take 0 (v := ?_) rfl (by kernel_rfl) (by kernel_rfl) (by kernel_rfl) (by kernel_rfl) (fun _ _ _ h => h) rfl ?_ S0 ?_
     rotate_left
     ·
      intro W hW
      go_simp
      (try with_reducible rfl)
     simp only [zpu, zsa, zsz, zss]
     refine fin_take 1 (v := ?_) rfl (by kernel_rfl) (by kernel_rfl) (by kernel_rfl) (by kernel_rfl) (fun _ _ _ h => h) rfl ?_ S0 ?_
     rotate_left
     ·
      intro W hW
      go_simp
      (try with_reducible rfl)
     simp only [zpu, zsa, zsz, zss]
     refine fin_take 2 (v := ?_) rfl (by kernel_rfl) (by kernel_rfl) (by kernel_rfl) (by kernel_rfl) (fun _ _ _ h => h) rfl ?_ S0 ?_
     rotate_left
     ·
      intro W hW
      go_simp
      (try with_reducible rfl)
     simp only [zpu, zsa, zsz, zss]
     refine fin_take 3 (v := ?_) rfl (by kernel_rfl) (by kernel_rfl) (by kernel_rfl) (by kernel_rfl) (fun _ _ _ h => h) rfl ?_ S0 ?_
     rotate_left
     ·
      intro W hW
      go_simp
      (try with_reducible rfl)
     simp only [zpu, zsa, zsz, zss]
     refine fin_take 4 (v := ?_) rfl (by kernel_rfl) (by kernel_rfl) (by kernel_rfl) (by kernel_rfl) (fun _ _ _ h => h) rfl ?_ S0 ?_
     rotate_left
     ·
      intro W hW
      go_simp
      (try with_reducible rfl)
     simp only [zpu, zsa, zsz, zss]
     refine fin_take 5 (v := ?_) rfl (by kernel_rfl) (by kernel_rfl) (by kernel_rfl) (by kernel_rfl) (fun _ _ _ h => h) rfl ?_ S0 ?_
     rotate_left
     ·
      intro W hW
      go_simp
      (try with_reducible rfl)
     simp only [zpu, zsa, zsz, zss]
     refine fin_one 6 rfl rfl (by kernel_rfl) (fun K hK => ?_)
     go_simp
     refine (hVb _).mono ?_
     rintro _ w3 ⟨rfl, kd'⟩
     have kd := On.trans (On.drew (On.refl w2)) kd'
     have I3 := I2.on kd
     have L3 := L2.on kd
     have R3 := R2.on kd
     have S2 := hkS _ I3 L3
     have q0 := R3.at (i := 0) rfl
     have q1 := R3.at (i := 1) rfl
     have q2 := R3.at (i := 2) rfl
     have q3 := R3.at (i := 3) rfl
     have q4 := R3.at (i := 4) rfl
     have q5 := R3.at (i := 5) rfl
     have qf := fun i => R3.fr i
     have ql := R3.lt
     clear rr0 rr1 rr2 rr3 rr4 rr5 zf rl
     refine hK.out _ _ (fun _ => S2) ?_
     clear hK
     refine fin_take 7 (v := ?_) rfl (by kernel_rfl) (by kernel_rfl) (by kernel_rfl) (by kernel_rfl) (fun _ _ _ h => h) rfl ?_ S2 ?_
     rotate_left
     ·
      intro W hW
      go_simp
      (try with_reducible rfl)
     simp only [zpu, zsa, zsz, zss]
     refine fin_one 8 rfl rfl (by kernel_rfl) (fun K hK => ?_)
     go_simp
     refine hK.out _ _ (fun _ => hkS _ (by repeat' (first | with_reducible exact I3 | with_reducible refine Bk.far ?_ (by omega) _ _)) (by repeat' (first | with_reducible exact L3 | with_reducible refine Bk.far ?_ (by omega) _ _))) ?_
     clear hK
     refine fin_done (by kernel_rfl) (NoPanic.normal ?_)
     go_wp2
     refine bodyPost_ret (v := evV ⟨0, 0, 4, l, v, VB⟩) ?_ rfl ⟨rfl, ?_⟩
     ·
      rw [results_cell rfl]
      unfold evV
      go_simp
     ·
      repeat' (first | with_reducible refine On.setNew ?_ (by omega) _ | with_reducible exact K2.trans kd)
   | false =>
    have rr0 := R1.at (i := 0) rfl
    have rr1 := R1.at (i := 1) rfl
    have rr2 := R1.at (i := 2) rfl
    have rr3 := R1.at (i := 3) rfl
    have rr4 := R1.at (i := 4) rfl
    have rr5 := R1.at (i := 5) rfl
    have zf := fun i => R1.fr i
    have rl := R1.lt
    have x0 := I1.at (i := 0) rfl
    have x1 := I1.at (i := 1) rfl
    have x2 := I1.at (i := 2) rfl
    have x3 := I1.at (i := 3) rfl
    have x4 := I1.at (i := 4) rfl
    have x5 := I1.at (i := 5) rfl
    have x6 := I1.at (i := 6) rfl
    have x7 := I1.at (i := 7) rfl
    have x8 := I1.at (i := 8) rfl
    have y0 := L1.at (i := 0) rfl
    have y1 := L1.at (i := 1) rfl
    have y2 := L1.at (i := 2) rfl
    have y3 := L1.at (i := 3) rfl
    have y4 := L1.at (i := 4) rfl
    have xl := I1.lt
    have yl := L1.lt
    go_enter Tryz.func38, Tryz.ntmps38
    go_upto_region 1 with fail
    rw [← hW0]
    clear hW0
    go_wp2
    refine bodyPost_ret (v := evV ⟨0, 0, 3, 0, 0, 0⟩) ?_ rfl ⟨rfl, ?_⟩
    ·
     rw [results_cell rfl]
     unfold evV
     go_simp
    ·
     repeat' (first | with_reducible refine On.setNew ?_ (by omega) _ | with_reducible exact K1)
end Go.Proofs.YtioiabfheeglgaaGreatDoor
