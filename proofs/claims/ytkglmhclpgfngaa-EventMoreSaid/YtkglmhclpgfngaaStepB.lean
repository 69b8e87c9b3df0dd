/- prog.result and prog.skipped, for every instruction and every Local. -/
import Derived.Test.YtkglmhclpgfngaaStepA
import Derived.Deep.RegionHeld3
namespace Go.Proofs.Ytkglmhclpgfngaa
open Go.RowKit

set_option maxHeartbeats 2000000 in
theorem presult_is (x : InsT) (l : LocT) (w : World) : Calls Try.prog 56 #[insV x, locV l] w fun e w' => e = .returned (.int .i64 (resOf x l)) ∧ On w w' := by
  have hA := fun W => pvalue_is x.a l W
  have hB := fun W => pvalue_is x.b l W
  unfold resOf
  have hD := fun W => do_any x.o (valOf x.a l) (valOf x.b l) W
  obtain ⟨W0, hW0⟩ : ∃ W0, W0 = (w.alloc (.cells #[.int .i64 x.k, .int .i64 x.r, .int .i64 x.l, .int .i64 x.a.r, .int .i64 x.a.v, .int .i64 x.o, .int .i64 x.b.r, .int .i64 x.b.v, .int .i64 x.n] 43)).alloc (.cells #[.int .i64 l.pc, .int .i64 l.r0, .int .i64 l.r1, .int .i64 l.r2, .int .i64 l.r3] 37) := ⟨_, rfl⟩
  have K0 : Hid (On w W0) := by show On w W0; rw [hW0]; exact ((On.refl w).alloc _).alloc _
  have B0 : Bk W0 w.heap.size #[.int .i64 x.k, .int .i64 x.r, .int .i64 x.l, .int .i64 x.a.r, .int .i64 x.a.v, .int .i64 x.o, .int .i64 x.b.r, .int .i64 x.b.v, .int .i64 x.n] := by rw [hW0]; exact (Bk.new w _ _).alloc _
  have C0 : Bk W0 (w.heap.size + 1) #[.int .i64 l.pc, .int .i64 l.r0, .int .i64 l.r1, .int .i64 l.r2, .int .i64 l.r3] := by rw [hW0]; have := Bk.new (w.alloc (.cells #[.int .i64 x.k, .int .i64 x.r, .int .i64 x.l, .int .i64 x.a.r, .int .i64 x.a.v, .int .i64 x.o, .int .i64 x.b.r, .int .i64 x.b.v, .int .i64 x.n] 43)) #[.int .i64 l.pc, .int .i64 l.r0, .int .i64 l.r1, .int .i64 l.r2, .int .i64 l.r3] 37; rwa [World.size_alloc] at this
  generalize valOf x.a l = va at *
  generalize valOf x.b l = vb at *
  generalize doV x.o va vb = R at *
  generalize doB x.o = b at *
  unfold insV locV
  unfold locV at hA hB
  go_enter Try.func56, Try.ntmps56
  go_wp2_with fail
  rw [← hW0]
  refine (hA _).mono ?_
  rintro e w1 ⟨rfl, k1⟩
  have B1 := B0.on k1
  have C1 := C0.on k1
  have K1 : Hid (On w w1) := K0.out.trans k1
  clear hA hW0 B0 C0 K0 k1
  have y5 := B1.at (i := 5) rfl
  have yl := B1.lt
  have yl2 := C1.lt
  cases ho : (x.o == 0) with
  | true =>
    go_wp2
    go_ret
    exact ⟨rfl, K1.out⟩
  | false =>
    have y6 := B1.at (i := 6) rfl
    have y7 := B1.at (i := 7) rfl
    have z0 := C1.at (i := 0) rfl
    have z1 := C1.at (i := 1) rfl
    have z2 := C1.at (i := 2) rfl
    have z3 := C1.at (i := 3) rfl
    have z4 := C1.at (i := 4) rfl
    have hB1 := hB w1.drew
    have hk : ∀ w2, On w1.drew w2 → w2.cell? ⟨w.heap.size, 5, none⟩ = some (.int .i64 x.o) ∧ w.heap.size < w2.heap.size ∧ On w w2 := fun w2 k => ⟨(B1.on (show On w1 w2 from (On.refl w1).drew.trans k)).at (i := 5) rfl, (B1.on (show On w1 w2 from (On.refl w1).drew.trans k)).lt, K1.out.trans ((On.refl w1).drew.trans k)⟩
    clear hB B1 C1
    go_wp2
    go_region_law (first | (go_simp; refine hB1.mono ?_; rintro e w2 ⟨rfl, k2⟩; obtain ⟨y2, l2, K2⟩ := hk _ k2) | (go_simp; refine (hD _).mono ?_; rintro e w3 ⟨rfl, rfl⟩))
    all_goals (try go_wp2)
    all_goals go_ret
    all_goals exact ⟨rfl, K2⟩
set_option maxHeartbeats 4000000 in
set_option maxRecDepth 8000 in
theorem pskipped_is (x : InsT) (l : LocT) (n : Int) (w : World) : Calls Try.prog 57 #[insV x, locV l, .int .i64 n] w fun e w' => e = .returned (.int .i64 (skipOf x l n)) ∧ On w w' := by
  have hA := fun W => pvalue_is x.a l W
  have hB := fun W => pvalue_is x.b l W
  unfold skipOf
  obtain ⟨W0, hW0⟩ : ∃ W0, W0 = (w.alloc (.cells #[.int .i64 x.k, .int .i64 x.r, .int .i64 x.l, .int .i64 x.a.r, .int .i64 x.a.v, .int .i64 x.o, .int .i64 x.b.r, .int .i64 x.b.v, .int .i64 x.n] 43)).alloc (.cells #[.int .i64 l.pc, .int .i64 l.r0, .int .i64 l.r1, .int .i64 l.r2, .int .i64 l.r3] 37) := ⟨_, rfl⟩
  have K0 : Hid (On w W0.drew) := by show On w W0.drew; rw [hW0]; exact (((On.refl w).alloc _).alloc _).drew
  have B0 : Bk W0.drew w.heap.size #[.int .i64 x.k, .int .i64 x.r, .int .i64 x.l, .int .i64 x.a.r, .int .i64 x.a.v, .int .i64 x.o, .int .i64 x.b.r, .int .i64 x.b.v, .int .i64 x.n] := by rw [hW0]; exact (Bk.new w _ _).alloc _
  have C0 : Bk W0.drew (w.heap.size + 1) #[.int .i64 l.pc, .int .i64 l.r0, .int .i64 l.r1, .int .i64 l.r2, .int .i64 l.r3] := by rw [hW0]; have := Bk.new (w.alloc (.cells #[.int .i64 x.k, .int .i64 x.r, .int .i64 x.l, .int .i64 x.a.r, .int .i64 x.a.v, .int .i64 x.o, .int .i64 x.b.r, .int .i64 x.b.v, .int .i64 x.n] 43)) #[.int .i64 l.pc, .int .i64 l.r0, .int .i64 l.r1, .int .i64 l.r2, .int .i64 l.r3] 37; rwa [World.size_alloc] at this
  have hk : ∀ W, On W0.drew W → W.cell? ⟨w.heap.size, 3, none⟩ = some (.int .i64 x.a.r) ∧ W.cell? ⟨w.heap.size, 4, none⟩ = some (.int .i64 x.a.v) ∧ W.cell? ⟨w.heap.size, 6, none⟩ = some (.int .i64 x.b.r) ∧ W.cell? ⟨w.heap.size, 7, none⟩ = some (.int .i64 x.b.v) ∧ W.cell? ⟨w.heap.size, 8, none⟩ = some (.int .i64 x.n) ∧ W.cell? ⟨w.heap.size + 1, 0, none⟩ = some (.int .i64 l.pc) ∧ W.cell? ⟨w.heap.size + 1, 1, none⟩ = some (.int .i64 l.r0) ∧ W.cell? ⟨w.heap.size + 1, 2, none⟩ = some (.int .i64 l.r1) ∧ W.cell? ⟨w.heap.size + 1, 3, none⟩ = some (.int .i64 l.r2) ∧ W.cell? ⟨w.heap.size + 1, 4, none⟩ = some (.int .i64 l.r3) := fun W k => ⟨(B0.on k).at (i := 3) rfl, (B0.on k).at (i := 4) rfl, (B0.on k).at (i := 6) rfl, (B0.on k).at (i := 7) rfl, (B0.on k).at (i := 8) rfl, (C0.on k).at (i := 0) rfl, (C0.on k).at (i := 1) rfl, (C0.on k).at (i := 2) rfl, (C0.on k).at (i := 3) rfl, (C0.on k).at (i := 4) rfl⟩
  have hk0 : ∀ W, W = W0 → W.cell? ⟨w.heap.size, 3, none⟩ = some (.int .i64 x.a.r) ∧ W.cell? ⟨w.heap.size, 4, none⟩ = some (.int .i64 x.a.v) ∧ W.cell? ⟨w.heap.size, 6, none⟩ = some (.int .i64 x.b.r) ∧ W.cell? ⟨w.heap.size, 7, none⟩ = some (.int .i64 x.b.v) ∧ W.cell? ⟨w.heap.size, 8, none⟩ = some (.int .i64 x.n) ∧ W.cell? ⟨w.heap.size + 1, 0, none⟩ = some (.int .i64 l.pc) ∧ W.cell? ⟨w.heap.size + 1, 1, none⟩ = some (.int .i64 l.r0) ∧ W.cell? ⟨w.heap.size + 1, 2, none⟩ = some (.int .i64 l.r1) ∧ W.cell? ⟨w.heap.size + 1, 3, none⟩ = some (.int .i64 l.r2) ∧ W.cell? ⟨w.heap.size + 1, 4, none⟩ = some (.int .i64 l.r3) := by rintro W rfl; exact hk W.drew (On.refl _)
  obtain ⟨y0, y1, y2, y3, y4, y5, y6, y7, y8, y9⟩ := hk0 W0 rfl
  have yl : w.heap.size < W0.heap.size := B0.lt
  have yl2 : w.heap.size + 1 < W0.heap.size := C0.lt
  generalize valOf x.a l = va at *
  generalize valOf x.b l = vb at *
  clear B0 C0 hk0
  unfold insV locV
  unfold locV at hA hB
  cases hv : (va == vb)
  · have hv' : (va != vb) = true := by simp [bne, hv]
    clear hv
    go_enter Try.func57, Try.ntmps57
    go_wp2
    rw [← hW0]
    clear hW0
    go_region_held3 (fun W => W.cell? ⟨w.heap.size, 3, none⟩ = some (.int .i64 x.a.r) ∧ W.cell? ⟨w.heap.size, 4, none⟩ = some (.int .i64 x.a.v) ∧ W.cell? ⟨w.heap.size, 6, none⟩ = some (.int .i64 x.b.r) ∧ W.cell? ⟨w.heap.size, 7, none⟩ = some (.int .i64 x.b.v) ∧ W.cell? ⟨w.heap.size, 8, none⟩ = some (.int .i64 x.n) ∧ W.cell? ⟨w.heap.size + 1, 0, none⟩ = some (.int .i64 l.pc) ∧ W.cell? ⟨w.heap.size + 1, 1, none⟩ = some (.int .i64 l.r0) ∧ W.cell? ⟨w.heap.size + 1, 2, none⟩ = some (.int .i64 l.r1) ∧ W.cell? ⟨w.heap.size + 1, 3, none⟩ = some (.int .i64 l.r2) ∧ W.cell? ⟨w.heap.size + 1, 4, none⟩ = some (.int .i64 l.r3)) (go_keep) (first | (go_at_call_of 49 (Value.agg #[.int .i64 x.a.r, .int .i64 x.a.v]); refine (hA _).mono ?_; rintro e w1 ⟨rfl, k1⟩; have K1 := On.trans K0.out k1; have S1 := hk _ k1) | (go_at_call_of 49 (Value.agg #[.int .i64 x.b.r, .int .i64 x.b.v]); refine (hB _).mono ?_; rintro e w2 ⟨rfl, k2⟩; have K2 := On.trans K1 k2; have S2 := hk _ (On.trans k1 k2)))
    all_goals (try go_wp2)
    all_goals go_ret
    all_goals exact ⟨rfl, K2⟩
  · have hv' : (va != vb) = false := by simp [bne, hv]
    clear hv
    go_enter Try.func57, Try.ntmps57
    go_wp2
    rw [← hW0]
    clear hW0
    go_region_held3 (fun W => W.cell? ⟨w.heap.size, 3, none⟩ = some (.int .i64 x.a.r) ∧ W.cell? ⟨w.heap.size, 4, none⟩ = some (.int .i64 x.a.v) ∧ W.cell? ⟨w.heap.size, 6, none⟩ = some (.int .i64 x.b.r) ∧ W.cell? ⟨w.heap.size, 7, none⟩ = some (.int .i64 x.b.v) ∧ W.cell? ⟨w.heap.size, 8, none⟩ = some (.int .i64 x.n) ∧ W.cell? ⟨w.heap.size + 1, 0, none⟩ = some (.int .i64 l.pc) ∧ W.cell? ⟨w.heap.size + 1, 1, none⟩ = some (.int .i64 l.r0) ∧ W.cell? ⟨w.heap.size + 1, 2, none⟩ = some (.int .i64 l.r1) ∧ W.cell? ⟨w.heap.size + 1, 3, none⟩ = some (.int .i64 l.r2) ∧ W.cell? ⟨w.heap.size + 1, 4, none⟩ = some (.int .i64 l.r3)) (go_keep) (first | (go_at_call_of 49 (Value.agg #[.int .i64 x.a.r, .int .i64 x.a.v]); refine (hA _).mono ?_; rintro e w1 ⟨rfl, k1⟩; have K1 := On.trans K0.out k1; have S1 := hk _ k1) | (go_at_call_of 49 (Value.agg #[.int .i64 x.b.r, .int .i64 x.b.v]); refine (hB _).mono ?_; rintro e w2 ⟨rfl, k2⟩; have K2 := On.trans K1 k2; have S2 := hk _ (On.trans k1 k2)))
    all_goals (try go_wp2)
    all_goals go_ret
    all_goals exact ⟨congrArg (fun z => Ending.returned (Value.int .i64 z)) (by omega), K2⟩
end Go.Proofs.Ytkglmhclpgfngaa
