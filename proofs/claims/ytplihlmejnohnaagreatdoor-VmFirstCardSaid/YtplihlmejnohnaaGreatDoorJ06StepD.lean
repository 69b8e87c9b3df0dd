/- prog.settle, thread and Start, for every thread that lies in memory. -/
import Derived.Test.YtplihlmejnohnaaGreatDoorJ05RegFin
import Derived.Deep.LoopGhost
import Derived.Deep.DeepCutAuto
namespace Go.Proofs.YtplihlmejnohnaaGreatDoor
open Go.RowKit

theorem Bk.set5 {w : World} {N : Nat} {a b c d e : Value} (h : Bk w N #[a, b, c, d, e]) (v0 v1 v2 v3 v4 : Value) : Bk (((((w.setCell ⟨N, 0, none⟩ v0).setCell ⟨N, 1, none⟩ v1).setCell ⟨N, 2, none⟩ v2).setCell ⟨N, 3, none⟩ v3).setCell ⟨N, 4, none⟩ v4) N #[v0, v1, v2, v3, v4] :=
  Bk.puts [v0, v1, v2, v3, v4] w [a, b, c, d, e] 0 h
theorem Bk.set0 {w : World} {N : Nat} {a b c d e : Value} (h : Bk w N #[a, b, c, d, e]) (v : Value) : Bk (w.setCell ⟨N, 0, none⟩ v) N #[v, b, c, d, e] :=
  Bk.puts [v] w [a, b, c, d, e] 0 h
theorem Bk.far5 {w : World} {N M : Nat} {cs : Array Value} (h : Bk w M cs) (hne : N ≠ M) (v0 v1 v2 v3 v4 : Value) : Bk (((((w.setCell ⟨N, 0, none⟩ v0).setCell ⟨N, 1, none⟩ v1).setCell ⟨N, 2, none⟩ v2).setCell ⟨N, 3, none⟩ v3).setCell ⟨N, 4, none⟩ v4) M cs :=
  Bk.fars hne [v0, v1, v2, v3, v4] w cs 0 h

set_option maxHeartbeats 8000000 in
set_option maxRecDepth 8000 in
theorem settle_is (L : List InsT) (l0 : LocT) (a : Option Addr) (c : Nat) (w : World) (h : Rd insC 9 w (.slice a L.length c) L) (h0 : 0 ≤ l0.pc) :
    Calls Tryz.prog 59 #[.slice a L.length c, locV l0] w fun e w' => e = .returned (locV (settleP L l0)) ∧ On w w' := by
  obtain ⟨_, _, _, _, hm⟩ := h.slice
  have HR : Hid (Rd insC 9 w (.slice a L.length c) L) := h
  clear h
  obtain ⟨R, hR⟩ : ∃ R, R = locV (settleP L l0) := ⟨_, rfl⟩
  rw [← hR]
  obtain ⟨pc, p0, p1, p2, p3⟩ := l0
  obtain ⟨n0, rfl⟩ : ∃ n : Nat, pc = (n : Int) := ⟨pc.toNat, by have : 0 ≤ pc := h0; omega⟩
  have HS : Hid (R = locV (settleP L ⟨(n0 : Int), p0, p1, p2, p3⟩)) := hR
  clear hR h0
  unfold locV
  go_enter Tryz.func59, Tryz.ntmps59
  go_wp2
  go_loopg [] (L.length - n0) (fun gg wq => ∃ (n : Nat) (r0 r1 r2 r3 : Int), gg = L.length - n ∧ Hid (On w wq) ∧ Bk wq w.heap.size #[.int .i64 (n : Int), .int .i64 r0, .int .i64 r1, .int .i64 r2, .int .i64 r3] ∧ Bk wq (w.heap.size + 1) #[.int .i64 0, .int .i64 0, .int .i64 0, .int .i64 0, .int .i64 0] ∧ Hid (R = locV (settleP L ⟨(n : Int), r0, r1, r2, r3⟩)))
  case atStart => exact ⟨n0, p0, p1, p2, p3, rfl, ((On.refl w).alloc _).alloc _, (Bk.new w _ _).alloc _, by have := Bk.new (w.alloc (.cells #[.int .i64 (n0 : Int), .int .i64 p0, .int .i64 p1, .int .i64 p2, .int .i64 p3] 73)) #[.int .i64 0, .int .i64 0, .int .i64 0, .int .i64 0, .int .i64 0] 73; rwa [World.size_alloc] at this, HS⟩
  case round =>
    clear HS
    obtain ⟨n, r0, r1, r2, r3, hgg, HO, CB, ZB, HS⟩ := hrel
    have c0 := CB.at (i := 0) rfl
    have c1 := CB.at (i := 1) rfl
    have c2 := CB.at (i := 2) rfl
    have c3 := CB.at (i := 3) rfl
    have c4 := CB.at (i := 4) rfl
    have cl := CB.lt
    have zl := ZB.lt
    have fr := fun i => ZB.fr i
    have fc := fun i => CB.fr i
    have z0 := ZB.at (i := 0) rfl
    have z1 := ZB.at (i := 1) rfl
    have z2 := ZB.at (i := 2) rfl
    have z3 := ZB.at (i := 3) rfl
    have z4 := ZB.at (i := 4) rfl
    rcases Nat.lt_or_ge n L.length with hlt | hge
    · obtain ⟨x, hx⟩ : ∃ x, L[n]? = some x := ⟨_, List.getElem?_eq_getElem hlt⟩
      have hst := settle_step (L := L) (l := ⟨(n : Int), r0, r1, r2, r3⟩) (i := x) (Int.natCast_nonneg n) (by simpa using hx)
      obtain ⟨g, off, rfl, hg, hcell⟩ := (HR.out.on HO.out).at hx
      have q0 : wr.cell? ⟨g, off + n * 9, none⟩ = _ := hcell 0 _ rfl
      have q1 : wr.cell? ⟨g, off + n * 9 + 1, none⟩ = _ := hcell 1 _ rfl
      have q2 : wr.cell? ⟨g, off + n * 9 + 2, none⟩ = _ := hcell 2 _ rfl
      have q3 : wr.cell? ⟨g, off + n * 9 + 3, none⟩ = _ := hcell 3 _ rfl
      have q4 : wr.cell? ⟨g, off + n * 9 + 4, none⟩ = _ := hcell 4 _ rfl
      have q5 : wr.cell? ⟨g, off + n * 9 + 5, none⟩ = _ := hcell 5 _ rfl
      have q6 : wr.cell? ⟨g, off + n * 9 + 6, none⟩ = _ := hcell 6 _ rfl
      have q7 : wr.cell? ⟨g, off + n * 9 + 7, none⟩ = _ := hcell 7 _ rfl
      have q8 : wr.cell? ⟨g, off + n * 9 + 8, none⟩ = _ := hcell 8 _ rfl
      clear hcell hx
      have hAl : ∀ T, Bk (wr.alloc (.cells #[.int .i64 x.k, .int .i64 x.r, .int .i64 x.l, .int .i64 x.a.r, .int .i64 x.a.v, .int .i64 x.o, .int .i64 x.b.r, .int .i64 x.b.v, .int .i64 x.n] T)) wr.heap.size #[.int .i64 x.k, .int .i64 x.r, .int .i64 x.l, .int .i64 x.a.r, .int .i64 x.a.v, .int .i64 x.o, .int .i64 x.b.r, .int .i64 x.b.v, .int .i64 x.n] := fun T => Bk.new wr _ T
      cases h5 : (x.k == 5) with
      | true =>
        rw [h5] at hst
        simp only [if_true] at hst
        have HS2 : Hid (R = locV (settleP L (pcTo (withR ⟨(n : Int), r0, r1, r2, r3⟩ x.r (resOf x ⟨(n : Int), r0, r1, r2, r3⟩)) ((n : Int) + 1)))) := HS.out.trans (congrArg locV hst)
        have hRs := fun W => presult_is x ⟨(n : Int), r0, r1, r2, r3⟩ W
        have hWt := fun W => pwith_is ⟨(n : Int), r0, r1, r2, r3⟩ x.r (resOf x ⟨(n : Int), r0, r1, r2, r3⟩) W
        have hpc := withR_pc ⟨(n : Int), r0, r1, r2, r3⟩ x.r (resOf x ⟨(n : Int), r0, r1, r2, r3⟩)
        generalize resOf x ⟨(n : Int), r0, r1, r2, r3⟩ = res at *
        generalize withR ⟨(n : Int), r0, r1, r2, r3⟩ x.r res = lw at *
        obtain ⟨pc2, s0, s1, s2, s3⟩ := lw
        simp only at hpc
        subst hpc
        unfold pcTo at HS2
        simp only at HS2
        unfold insV locV at hRs
        unfold locV at hWt
        clear hst HS
        go_wp2
        have hne : ¬ wr.heap.size = w.heap.size := by omega
        have hne' : ¬ w.heap.size = wr.heap.size := by omega
        obtain ⟨W1, hW1⟩ : ∃ W1, W1 = wr.alloc (.cells #[.int .i64 x.k, .int .i64 x.r, .int .i64 x.l, .int .i64 x.a.r, .int .i64 x.a.v, .int .i64 x.o, .int .i64 x.b.r, .int .i64 x.b.v, .int .i64 x.n] 107) := ⟨_, rfl⟩
        rw [← hW1]
        have C1 : Bk W1.drew w.heap.size #[.int .i64 (n : Int), .int .i64 r0, .int .i64 r1, .int .i64 r2, .int .i64 r3] := by rw [hW1]; exact CB.alloc _
        have Z1 : Bk W1.drew (w.heap.size + 1) #[.int .i64 0, .int .i64 0, .int .i64 0, .int .i64 0, .int .i64 0] := by rw [hW1]; exact ZB.alloc _
        have I1 : Bk W1.drew wr.heap.size #[.int .i64 x.k, .int .i64 x.r, .int .i64 x.l, .int .i64 x.a.r, .int .i64 x.a.v, .int .i64 x.o, .int .i64 x.b.r, .int .i64 x.b.v, .int .i64 x.n] := by rw [hW1]; exact hAl _
        have O1 : Hid (On w W1.drew) := by show On w W1.drew; rw [hW1]; exact (HO.out.alloc _).drew
        have hk : ∀ W, On W1.drew W → W.cell? ⟨w.heap.size, 0, none⟩ = some (.int .i64 (n : Int)) ∧ W.cell? ⟨w.heap.size, 1, none⟩ = some (.int .i64 r0) ∧ W.cell? ⟨w.heap.size, 2, none⟩ = some (.int .i64 r1) ∧ W.cell? ⟨w.heap.size, 3, none⟩ = some (.int .i64 r2) ∧ W.cell? ⟨w.heap.size, 4, none⟩ = some (.int .i64 r3) ∧ W.cell? ⟨wr.heap.size, 0, none⟩ = some (.int .i64 x.k) ∧ W.cell? ⟨wr.heap.size, 1, none⟩ = some (.int .i64 x.r) ∧ W.cell? ⟨wr.heap.size, 2, none⟩ = some (.int .i64 x.l) ∧ W.cell? ⟨wr.heap.size, 3, none⟩ = some (.int .i64 x.a.r) ∧ W.cell? ⟨wr.heap.size, 4, none⟩ = some (.int .i64 x.a.v) ∧ W.cell? ⟨wr.heap.size, 5, none⟩ = some (.int .i64 x.o) ∧ W.cell? ⟨wr.heap.size, 6, none⟩ = some (.int .i64 x.b.r) ∧ W.cell? ⟨wr.heap.size, 7, none⟩ = some (.int .i64 x.b.v) ∧ W.cell? ⟨wr.heap.size, 8, none⟩ = some (.int .i64 x.n) := fun W k => ⟨(C1.on k).at (i := 0) rfl, (C1.on k).at (i := 1) rfl, (C1.on k).at (i := 2) rfl, (C1.on k).at (i := 3) rfl, (C1.on k).at (i := 4) rfl, (I1.on k).at (i := 0) rfl, (I1.on k).at (i := 1) rfl, (I1.on k).at (i := 2) rfl, (I1.on k).at (i := 3) rfl, (I1.on k).at (i := 4) rfl, (I1.on k).at (i := 5) rfl, (I1.on k).at (i := 6) rfl, (I1.on k).at (i := 7) rfl, (I1.on k).at (i := 8) rfl⟩
        have hf : ∀ W, On W1.drew W → (W.frozen? ⟨w.heap.size, 0, none⟩ = false ∧ W.frozen? ⟨w.heap.size, 1, none⟩ = false ∧ W.frozen? ⟨w.heap.size, 2, none⟩ = false ∧ W.frozen? ⟨w.heap.size, 3, none⟩ = false ∧ W.frozen? ⟨w.heap.size, 4, none⟩ = false) := fun W k => ⟨(C1.on k).fr 0, (C1.on k).fr 1, (C1.on k).fr 2, (C1.on k).fr 3, (C1.on k).fr 4⟩
        have hS1 : ∀ W, W = W1 → W.cell? ⟨w.heap.size, 0, none⟩ = some (.int .i64 (n : Int)) ∧ W.cell? ⟨w.heap.size, 1, none⟩ = some (.int .i64 r0) ∧ W.cell? ⟨w.heap.size, 2, none⟩ = some (.int .i64 r1) ∧ W.cell? ⟨w.heap.size, 3, none⟩ = some (.int .i64 r2) ∧ W.cell? ⟨w.heap.size, 4, none⟩ = some (.int .i64 r3) ∧ W.cell? ⟨wr.heap.size, 0, none⟩ = some (.int .i64 x.k) ∧ W.cell? ⟨wr.heap.size, 1, none⟩ = some (.int .i64 x.r) ∧ W.cell? ⟨wr.heap.size, 2, none⟩ = some (.int .i64 x.l) ∧ W.cell? ⟨wr.heap.size, 3, none⟩ = some (.int .i64 x.a.r) ∧ W.cell? ⟨wr.heap.size, 4, none⟩ = some (.int .i64 x.a.v) ∧ W.cell? ⟨wr.heap.size, 5, none⟩ = some (.int .i64 x.o) ∧ W.cell? ⟨wr.heap.size, 6, none⟩ = some (.int .i64 x.b.r) ∧ W.cell? ⟨wr.heap.size, 7, none⟩ = some (.int .i64 x.b.v) ∧ W.cell? ⟨wr.heap.size, 8, none⟩ = some (.int .i64 x.n) := by rintro W rfl; exact hk W.drew (On.refl _)
        obtain ⟨y0, y1, y2, y3, y4, y5, y6, y7, y8, y9, y10, y11, y12, y13⟩ := hS1 W1 rfl
        clear hS1 hW1 q0 q1 q2 q3 q4 q5 q6 q7 q8 c0 c1 c2 c3 c4 z0 z1 z2 z3 z4 fr fc hAl CB ZB
        refine region_fin (fun W => W.cell? ⟨w.heap.size, 0, none⟩ = some (.int .i64 (n : Int)) ∧ W.cell? ⟨w.heap.size, 1, none⟩ = some (.int .i64 r0) ∧ W.cell? ⟨w.heap.size, 2, none⟩ = some (.int .i64 r1) ∧ W.cell? ⟨w.heap.size, 3, none⟩ = some (.int .i64 r2) ∧ W.cell? ⟨w.heap.size, 4, none⟩ = some (.int .i64 r3) ∧ W.cell? ⟨wr.heap.size, 0, none⟩ = some (.int .i64 x.k) ∧ W.cell? ⟨wr.heap.size, 1, none⟩ = some (.int .i64 x.r) ∧ W.cell? ⟨wr.heap.size, 2, none⟩ = some (.int .i64 x.l) ∧ W.cell? ⟨wr.heap.size, 3, none⟩ = some (.int .i64 x.a.r) ∧ W.cell? ⟨wr.heap.size, 4, none⟩ = some (.int .i64 x.a.v) ∧ W.cell? ⟨wr.heap.size, 5, none⟩ = some (.int .i64 x.o) ∧ W.cell? ⟨wr.heap.size, 6, none⟩ = some (.int .i64 x.b.r) ∧ W.cell? ⟨wr.heap.size, 7, none⟩ = some (.int .i64 x.b.v) ∧ W.cell? ⟨wr.heap.size, 8, none⟩ = some (.int .i64 x.n)) 7 8 (by kernel_rfl) rfl ?_
        refine fin_take 0 (v := ?_) rfl (by kernel_rfl) (by kernel_rfl) (by kernel_rfl) (by kernel_rfl) (fun _ _ _ h => h) rfl ?_ (hk _ (On.refl _)) ?_
        rotate_left
        · intro W hW
          go_simp
          (try with_reducible rfl)
        simp only [Act.put, List.setIfInBounds_toArray, List.set_cons_zero, List.set_cons_succ]
        refine fin_take 1 (v := ?_) rfl (by kernel_rfl) (by kernel_rfl) (by kernel_rfl) (by kernel_rfl) (fun _ _ _ h => h) rfl ?_ (hk _ (On.refl _)) ?_
        rotate_left
        · intro W hW
          go_simp
          (try with_reducible rfl)
        simp only [Act.put, List.setIfInBounds_toArray, List.set_cons_zero, List.set_cons_succ]
        refine fin_take 2 (v := ?_) rfl (by kernel_rfl) (by kernel_rfl) (by kernel_rfl) (by kernel_rfl) (fun _ _ _ h => h) rfl ?_ (hk _ (On.refl _)) ?_
        rotate_left
        · intro W hW
          go_simp
          (try with_reducible rfl)
        simp only [Act.put, List.setIfInBounds_toArray, List.set_cons_zero, List.set_cons_succ]
        refine fin_take 3 (v := ?_) rfl (by kernel_rfl) (by kernel_rfl) (by kernel_rfl) (by kernel_rfl) (fun _ _ _ h => h) rfl ?_ (hk _ (On.refl _)) ?_
        rotate_left
        · intro W hW
          go_simp
          (try with_reducible rfl)
        simp only [Act.put, List.setIfInBounds_toArray, List.set_cons_zero, List.set_cons_succ]
        refine fin_take 4 (v := ?_) rfl (by kernel_rfl) (by kernel_rfl) (by kernel_rfl) (by kernel_rfl) (fun _ _ _ h => h) rfl ?_ (hk _ (On.refl _)) ?_
        rotate_left
        · intro W hW
          go_simp
          (try with_reducible rfl)
        simp only [Act.put, List.setIfInBounds_toArray, List.set_cons_zero, List.set_cons_succ]
        refine fin_one 5 rfl rfl (by kernel_rfl) (fun K hK => ?_)
        go_simp
        refine (hRs _).mono ?_
        rintro e w1 ⟨rfl, k1⟩
        refine hK.out _ _ (fun _ => hk _ k1) ?_
        refine fin_one 6 rfl rfl (by kernel_rfl) (fun K hK => ?_)
        go_simp
        refine (hWt _).mono ?_
        rintro e w2 ⟨rfl, k2⟩
        have K2 := On.trans k1 k2
        obtain ⟨t0, t1, t2, t3, t4, _⟩ := hk _ K2
        obtain ⟨f0, f1, f2, f3, f4⟩ := hf _ K2
        refine hK.out _ _ (fun _ => hk _ K2) ?_
        refine fin_one 7 rfl rfl (by kernel_rfl) (fun K hK => ?_)
        go_simp
        refine hK.out _ _ (fun h => absurd rfl h) ?_
        refine fin_done (by kernel_rfl) (NoPanic.normal ?_)
        have C2 := C1.on K2
        have Z2 := Z1.on K2
        have O2 := O1.out.trans K2
        go_wp2
        go_roundg (L.length - (n + 1))
        case measure => omega
        case rel => exact ⟨n + 1, s0, s1, s2, s3, rfl, (by show On w _; repeat' (first | with_reducible refine On.setNew ?_ (Nat.le_refl _) _ | with_reducible exact O2)), (C2.set5 _ _ _ _ _).set0 _, (Z2.far5 (by omega) _ _ _ _ _).far (by omega) _ _, HS2⟩
      | false =>
        rw [h5] at hst
        simp only [Bool.false_eq_true, if_false] at hst
        cases h6 : (x.k == 6) with
        | true =>
          rw [h6] at hst
          simp only [if_true] at hst
          have hsk := skipOf_bd x ⟨(n : Int), r0, r1, r2, r3⟩ (L.length - n - 1) (by omega)
          have HS2 : Hid (R = locV (settleP L (pcTo ⟨(n : Int), r0, r1, r2, r3⟩ ((n : Int) + skipOf x ⟨(n : Int), r0, r1, r2, r3⟩ (L.length - n - 1) + 1)))) := HS.out.trans (congrArg locV hst)
          have hSk := fun W => pskipped_is x ⟨(n : Int), r0, r1, r2, r3⟩ (L.length - n - 1) W
          generalize skipOf x ⟨(n : Int), r0, r1, r2, r3⟩ (L.length - n - 1) = sk at *
          obtain ⟨m, rfl⟩ : ∃ m : Nat, sk = (m : Int) := ⟨sk.toNat, by omega⟩
          unfold pcTo at HS2
          obtain ⟨d1, e1, b1, b2⟩ : ∃ d1 : Int, (L.length : Int) - (n : Int) = d1 ∧ 1 ≤ d1 ∧ d1 ≤ 9223372036854775807 := ⟨_, rfl, by omega, by omega⟩
          obtain ⟨d2, e2, b3, b4⟩ : ∃ d2 : Int, d1 - 1 = d2 ∧ 0 ≤ d2 ∧ d2 ≤ 9223372036854775807 := ⟨_, rfl, by omega, by omega⟩
          rw [e1, e2] at hSk hsk
          have hnm : (n : Int) + (m : Int) + 1 ≤ 9223372036854775807 := by omega
          have hnm' : n + m + 1 ≤ L.length := by omega
          have ew1 : IntKind.i64.wrap d1 = d1 := by rw [IntKind.wrap_i64]; omega
          have ew2 : IntKind.i64.wrap d2 = d2 := by rw [IntKind.wrap_i64]; omega
          obtain ⟨s, es, ew3⟩ : ∃ s : Int, (n : Int) + (m : Int) = s ∧ IntKind.i64.wrap s = s := ⟨_, rfl, by rw [IntKind.wrap_i64]; omega⟩
          have hs0 : 0 ≤ s := by omega
          have hs1 : s + 1 ≤ 9223372036854775807 := by omega
          have hsv : Value.int .i64 (s + 1) = .int .i64 ((n + m + 1 : Nat) : Int) := congrArg _ (by omega)
          have HS3 : Hid (R = locV (settleP L ⟨((n + m + 1 : Nat) : Int), r0, r1, r2, r3⟩)) := by
            show R = _
            rw [HS2.out]
            congr 2
          unfold insV locV at hSk
          clear hst HS
          go_wp2
          have hne : ¬ wr.heap.size = w.heap.size := by omega
          have hne' : ¬ w.heap.size = wr.heap.size := by omega
          obtain ⟨W1, hW1⟩ : ∃ W1, W1 = wr.alloc (.cells #[.int .i64 x.k, .int .i64 x.r, .int .i64 x.l, .int .i64 x.a.r, .int .i64 x.a.v, .int .i64 x.o, .int .i64 x.b.r, .int .i64 x.b.v, .int .i64 x.n] 107) := ⟨_, rfl⟩
          rw [← hW1]
          have C1 : Bk W1.drew w.heap.size #[.int .i64 (n : Int), .int .i64 r0, .int .i64 r1, .int .i64 r2, .int .i64 r3] := by rw [hW1]; exact CB.alloc _
          have Z1 : Bk W1.drew (w.heap.size + 1) #[.int .i64 0, .int .i64 0, .int .i64 0, .int .i64 0, .int .i64 0] := by rw [hW1]; exact ZB.alloc _
          have I1 : Bk W1.drew wr.heap.size #[.int .i64 x.k, .int .i64 x.r, .int .i64 x.l, .int .i64 x.a.r, .int .i64 x.a.v, .int .i64 x.o, .int .i64 x.b.r, .int .i64 x.b.v, .int .i64 x.n] := by rw [hW1]; exact hAl _
          have O1 : Hid (On w W1.drew) := by show On w W1.drew; rw [hW1]; exact (HO.out.alloc _).drew
          have hk : ∀ W, On W1.drew W → W.cell? ⟨w.heap.size, 0, none⟩ = some (.int .i64 (n : Int)) ∧ W.cell? ⟨w.heap.size, 1, none⟩ = some (.int .i64 r0) ∧ W.cell? ⟨w.heap.size, 2, none⟩ = some (.int .i64 r1) ∧ W.cell? ⟨w.heap.size, 3, none⟩ = some (.int .i64 r2) ∧ W.cell? ⟨w.heap.size, 4, none⟩ = some (.int .i64 r3) ∧ W.cell? ⟨wr.heap.size, 0, none⟩ = some (.int .i64 x.k) ∧ W.cell? ⟨wr.heap.size, 1, none⟩ = some (.int .i64 x.r) ∧ W.cell? ⟨wr.heap.size, 2, none⟩ = some (.int .i64 x.l) ∧ W.cell? ⟨wr.heap.size, 3, none⟩ = some (.int .i64 x.a.r) ∧ W.cell? ⟨wr.heap.size, 4, none⟩ = some (.int .i64 x.a.v) ∧ W.cell? ⟨wr.heap.size, 5, none⟩ = some (.int .i64 x.o) ∧ W.cell? ⟨wr.heap.size, 6, none⟩ = some (.int .i64 x.b.r) ∧ W.cell? ⟨wr.heap.size, 7, none⟩ = some (.int .i64 x.b.v) ∧ W.cell? ⟨wr.heap.size, 8, none⟩ = some (.int .i64 x.n) := fun W k => ⟨(C1.on k).at (i := 0) rfl, (C1.on k).at (i := 1) rfl, (C1.on k).at (i := 2) rfl, (C1.on k).at (i := 3) rfl, (C1.on k).at (i := 4) rfl, (I1.on k).at (i := 0) rfl, (I1.on k).at (i := 1) rfl, (I1.on k).at (i := 2) rfl, (I1.on k).at (i := 3) rfl, (I1.on k).at (i := 4) rfl, (I1.on k).at (i := 5) rfl, (I1.on k).at (i := 6) rfl, (I1.on k).at (i := 7) rfl, (I1.on k).at (i := 8) rfl⟩
          have hf : ∀ W, On W1.drew W → (W.frozen? ⟨w.heap.size, 0, none⟩ = false ∧ W.frozen? ⟨w.heap.size, 1, none⟩ = false ∧ W.frozen? ⟨w.heap.size, 2, none⟩ = false ∧ W.frozen? ⟨w.heap.size, 3, none⟩ = false ∧ W.frozen? ⟨w.heap.size, 4, none⟩ = false) := fun W k => ⟨(C1.on k).fr 0, (C1.on k).fr 1, (C1.on k).fr 2, (C1.on k).fr 3, (C1.on k).fr 4⟩
          have hS1 : ∀ W, W = W1 → W.cell? ⟨w.heap.size, 0, none⟩ = some (.int .i64 (n : Int)) ∧ W.cell? ⟨w.heap.size, 1, none⟩ = some (.int .i64 r0) ∧ W.cell? ⟨w.heap.size, 2, none⟩ = some (.int .i64 r1) ∧ W.cell? ⟨w.heap.size, 3, none⟩ = some (.int .i64 r2) ∧ W.cell? ⟨w.heap.size, 4, none⟩ = some (.int .i64 r3) ∧ W.cell? ⟨wr.heap.size, 0, none⟩ = some (.int .i64 x.k) ∧ W.cell? ⟨wr.heap.size, 1, none⟩ = some (.int .i64 x.r) ∧ W.cell? ⟨wr.heap.size, 2, none⟩ = some (.int .i64 x.l) ∧ W.cell? ⟨wr.heap.size, 3, none⟩ = some (.int .i64 x.a.r) ∧ W.cell? ⟨wr.heap.size, 4, none⟩ = some (.int .i64 x.a.v) ∧ W.cell? ⟨wr.heap.size, 5, none⟩ = some (.int .i64 x.o) ∧ W.cell? ⟨wr.heap.size, 6, none⟩ = some (.int .i64 x.b.r) ∧ W.cell? ⟨wr.heap.size, 7, none⟩ = some (.int .i64 x.b.v) ∧ W.cell? ⟨wr.heap.size, 8, none⟩ = some (.int .i64 x.n) := by rintro W rfl; exact hk W.drew (On.refl _)
          obtain ⟨y0, y1, y2, y3, y4, y5, y6, y7, y8, y9, y10, y11, y12, y13⟩ := hS1 W1 rfl
          clear hS1 hW1 q0 q1 q2 q3 q4 q5 q6 q7 q8 c0 c1 c2 c3 c4 z0 z1 z2 z3 z4 fr fc hAl CB ZB
          refine region_fin (fun W => W.cell? ⟨w.heap.size, 0, none⟩ = some (.int .i64 (n : Int)) ∧ W.cell? ⟨w.heap.size, 1, none⟩ = some (.int .i64 r0) ∧ W.cell? ⟨w.heap.size, 2, none⟩ = some (.int .i64 r1) ∧ W.cell? ⟨w.heap.size, 3, none⟩ = some (.int .i64 r2) ∧ W.cell? ⟨w.heap.size, 4, none⟩ = some (.int .i64 r3) ∧ W.cell? ⟨wr.heap.size, 0, none⟩ = some (.int .i64 x.k) ∧ W.cell? ⟨wr.heap.size, 1, none⟩ = some (.int .i64 x.r) ∧ W.cell? ⟨wr.heap.size, 2, none⟩ = some (.int .i64 x.l) ∧ W.cell? ⟨wr.heap.size, 3, none⟩ = some (.int .i64 x.a.r) ∧ W.cell? ⟨wr.heap.size, 4, none⟩ = some (.int .i64 x.a.v) ∧ W.cell? ⟨wr.heap.size, 5, none⟩ = some (.int .i64 x.o) ∧ W.cell? ⟨wr.heap.size, 6, none⟩ = some (.int .i64 x.b.r) ∧ W.cell? ⟨wr.heap.size, 7, none⟩ = some (.int .i64 x.b.v) ∧ W.cell? ⟨wr.heap.size, 8, none⟩ = some (.int .i64 x.n)) 13 14 (by kernel_rfl) rfl ?_
          refine fin_take 0 (v := ?_) rfl (by kernel_rfl) (by kernel_rfl) (by kernel_rfl) (by kernel_rfl) (fun _ _ _ h => h) rfl ?_ (hk _ (On.refl _)) ?_
          rotate_left
          · intro W hW
            go_simp
            (try with_reducible rfl)
          simp only [Act.put, List.setIfInBounds_toArray, List.set_cons_zero, List.set_cons_succ]
          refine fin_take 1 (v := ?_) rfl (by kernel_rfl) (by kernel_rfl) (by kernel_rfl) (by kernel_rfl) (fun _ _ _ h => h) rfl ?_ (hk _ (On.refl _)) ?_
          rotate_left
          · intro W hW
            go_simp
            (try with_reducible rfl)
          simp only [Act.put, List.setIfInBounds_toArray, List.set_cons_zero, List.set_cons_succ]
          refine fin_take 2 (v := ?_) rfl (by kernel_rfl) (by kernel_rfl) (by kernel_rfl) (by kernel_rfl) (fun _ _ _ h => h) rfl ?_ (hk _ (On.refl _)) ?_
          rotate_left
          · intro W hW
            go_simp
            (try with_reducible rfl)
          simp only [Act.put, List.setIfInBounds_toArray, List.set_cons_zero, List.set_cons_succ]
          refine fin_take 3 (v := ?_) rfl (by kernel_rfl) (by kernel_rfl) (by kernel_rfl) (by kernel_rfl) (fun _ _ _ h => h) rfl ?_ (hk _ (On.refl _)) ?_
          rotate_left
          · intro W hW
            go_simp
            (try with_reducible rfl)
          simp only [Act.put, List.setIfInBounds_toArray, List.set_cons_zero, List.set_cons_succ]
          refine fin_take 4 (v := ?_) rfl (by kernel_rfl) (by kernel_rfl) (by kernel_rfl) (by kernel_rfl) (fun _ _ _ h => h) rfl ?_ (hk _ (On.refl _)) ?_
          rotate_left
          · intro W hW
            go_simp
            (try with_reducible rfl)
          simp only [Act.put, List.setIfInBounds_toArray, List.set_cons_zero, List.set_cons_succ]
          refine fin_take 5 (v := ?_) rfl (by kernel_rfl) (by kernel_rfl) (by kernel_rfl) (by kernel_rfl) (fun _ _ _ h => h) rfl ?_ (hk _ (On.refl _)) ?_
          rotate_left
          · intro W hW
            go_simp
            (try with_reducible rfl)
          simp only [Act.put, List.setIfInBounds_toArray, List.set_cons_zero, List.set_cons_succ]
          refine fin_take 6 (v := ?_) rfl (by kernel_rfl) (by kernel_rfl) (by kernel_rfl) (by kernel_rfl) (fun _ _ _ h => h) rfl ?_ (hk _ (On.refl _)) ?_
          rotate_left
          · intro W hW
            go_simp
            (try with_reducible rfl)
          simp only [Act.put, List.setIfInBounds_toArray, List.set_cons_zero, List.set_cons_succ]
          refine fin_take 7 (v := ?_) rfl (by kernel_rfl) (by kernel_rfl) (by kernel_rfl) (by kernel_rfl) (fun _ _ _ h => h) rfl ?_ (hk _ (On.refl _)) ?_
          rotate_left
          · intro W hW
            go_simp
            (try with_reducible rfl)
          simp only [Act.put, List.setIfInBounds_toArray, List.set_cons_zero, List.set_cons_succ]
          refine fin_take 8 (v := ?_) rfl (by kernel_rfl) (by kernel_rfl) (by kernel_rfl) (by kernel_rfl) (fun _ _ _ h => h) rfl ?_ (hk _ (On.refl _)) ?_
          rotate_left
          · intro W hW
            go_simp
            (try with_reducible rfl)
          simp only [Act.put, List.setIfInBounds_toArray, List.set_cons_zero, List.set_cons_succ]
          refine fin_take 9 (v := ?_) rfl (by kernel_rfl) (by kernel_rfl) (by kernel_rfl) (by kernel_rfl) (fun _ _ _ h => h) rfl ?_ (hk _ (On.refl _)) ?_
          rotate_left
          · intro W hW
            go_simp
            (try with_reducible rfl)
          simp only [Act.put, List.setIfInBounds_toArray, List.set_cons_zero, List.set_cons_succ]
          refine fin_one 10 rfl rfl (by kernel_rfl) (fun K hK => ?_)
          go_simp
          refine (hSk _).mono ?_
          rintro e w2 ⟨rfl, K2⟩
          obtain ⟨t0, t1, t2, t3, t4, _⟩ := hk _ K2
          obtain ⟨f0, f1, f2, f3, f4⟩ := hf _ K2
          refine hK.out _ _ (fun _ => hk _ K2) ?_
          refine fin_take 11 (v := ?_) rfl (by kernel_rfl) (by kernel_rfl) (by kernel_rfl) (by kernel_rfl) (fun _ _ _ h => h) rfl ?_ (hk _ K2) ?_
          rotate_left
          · intro W hW
            go_simp
            (try with_reducible rfl)
          simp only [Act.put, List.setIfInBounds_toArray, List.set_cons_zero, List.set_cons_succ]
          refine fin_take 12 (v := ?_) rfl (by kernel_rfl) (by kernel_rfl) (by kernel_rfl) (by kernel_rfl) (fun _ _ _ h => h) rfl ?_ (hk _ K2) ?_
          rotate_left
          · intro W hW
            go_simp
            (try with_reducible rfl)
          simp only [Act.put, List.setIfInBounds_toArray, List.set_cons_zero, List.set_cons_succ]
          refine fin_one 13 rfl rfl (by kernel_rfl) (fun K hK => ?_)
          go_simp
          refine hK.out _ _ (fun h => absurd rfl h) ?_
          refine fin_done (by kernel_rfl) (NoPanic.normal ?_)
          have C2 := C1.on K2
          have Z2 := Z1.on K2
          have O2 := O1.out.trans K2
          go_wp2
          go_roundg (L.length - (n + m + 1))
          case measure => omega
          case rel => exact ⟨n + m + 1, r0, r1, r2, r3, rfl, (by show On w _; repeat' (first | with_reducible refine On.setNew ?_ (Nat.le_refl _) _ | with_reducible exact O2)), hsv ▸ (C2.set0 _).set0 _, (Z2.far (by omega) _ _).far (by omega) _ _, HS3⟩
        | false =>
          rw [h6] at hst
          simp only [Bool.false_eq_true, if_false] at hst
          obtain rfl : R = .agg #[.int .i64 (n : Int), .int .i64 r0, .int .i64 r1, .int .i64 r2, .int .i64 r3] := by rw [HS.out, hst]; rfl
          clear HS hst
          go_wp2
          refine bodyPost_ret (v := .agg #[.int .i64 (n : Int), .int .i64 r0, .int .i64 r1, .int .i64 r2, .int .i64 r3]) ?_ rfl ⟨rfl, ?_⟩
          · rw [results_cell rfl]
            go_simp
          · repeat' (first | with_reducible refine On.setNew ?_ (by omega) _ | with_reducible exact HO.out | with_reducible refine On.alloc ?_ _)
    · have e : settleP L ⟨(n : Int), r0, r1, r2, r3⟩ = ⟨(n : Int), r0, r1, r2, r3⟩ := settle_end (by simpa using hge)
      obtain rfl : R = .agg #[.int .i64 (n : Int), .int .i64 r0, .int .i64 r1, .int .i64 r2, .int .i64 r3] := by rw [HS.out, e]; rfl
      go_wp2
      refine bodyPost_ret (v := .agg #[.int .i64 (n : Int), .int .i64 r0, .int .i64 r1, .int .i64 r2, .int .i64 r3]) ?_ rfl ⟨rfl, ?_⟩
      · rw [results_cell rfl]
        go_simp
      · repeat' (first | with_reducible refine On.setNew ?_ (by omega) _ | with_reducible exact HO.out)
end Go.Proofs.YtplihlmejnohnaaGreatDoor

namespace Go.Proofs.YtplihlmejnohnaaGreatDoor
open Go.RowKit

/-- The thread of a number, or none. -/
def threadP (LL : List (List InsT)) (t : Int) : List InsT := if 0 ≤ t then LL.getD t.toNat [] else []
set_option maxHeartbeats 1000000 in
theorem thread_is (LL : List (List InsT)) (t : Int) (v : Value) (w : World) (h : ProgRd w v LL) :
    Calls Tryz.prog 60 #[v, .int .i64 t] w fun e w' => ∃ a c, e = .returned (.slice a (threadP LL t).length c) ∧ Rd insC 9 w' (.slice a (threadP LL t).length c) (threadP LL t) ∧ On w w' := by
  obtain ⟨a1, m1, c1, a2, m2, c2, a, c, rfl, r⟩ := h
  have k0 : ∀ T, On w (w.alloc T) := fun T => (On.refl w).alloc T
  obtain ⟨_, _, _, _, hm⟩ := r.slice
  unfold threadP
  by_cases h0 : 0 ≤ t
  · rw [if_pos h0]
    by_cases h1 : t < LL.length
    · obtain ⟨n, rfl⟩ : ∃ n : Nat, t = (n : Int) := ⟨t.toNat, by omega⟩
      have hn : n < LL.length := by omega
      obtain ⟨L, hL⟩ : ∃ L, LL[n]? = some L := ⟨_, List.getElem?_eq_getElem hn⟩
      have e : LL.getD (n : Int).toNat [] = L := by rw [Int.toNat_natCast, List.getD_eq_getElem?_getD, hL]; rfl
      rw [e]
      obtain ⟨g, off, rfl, hg, ax, cx, hc, hxm, rx⟩ := r.row hL
      have RX : Hid (Rd insC 9 w (.slice ax L.length cx) L) := rx
      clear r rx e hL
      go_enter Tryz.func60, Tryz.ntmps60
      go_wp2
      go_ret
      exact ⟨ax, cx, rfl, RX.out.on (k0 _), k0 _⟩
    · have e : LL.getD t.toNat [] = [] := by rw [List.getD_eq_getElem?_getD, List.getElem?_eq_none (by omega)]; rfl
      rw [e]
      have d : decide (t < 0) = false := by simp; omega
      clear r e
      go_enter Tryz.func60, Tryz.ntmps60
      go_wp2
      go_ret
      exact ⟨none, 0, rfl, Rd.nil _ _ _, k0 _⟩
  · rw [if_neg h0]
    clear r
    go_enter Tryz.func60, Tryz.ntmps60
    go_wp2
    go_ret
    exact ⟨none, 0, rfl, Rd.nil _ _ _, k0 _⟩
def startP (L : List InsT) : LocT := settleP L ⟨0, 0, 0, 0, 0⟩
set_option maxHeartbeats 1000000 in
theorem start_is (LL : List (List InsT)) (t : Int) (v : Value) (w : World) (h : ProgRd w v LL) :
    Calls Tryz.prog 33 #[v, .int .i64 t] w fun e w' => e = .returned (locV (startP (threadP LL t))) ∧ On w w' := by
  have hT := fun W (k : On w W) => thread_is LL t v W (h.on k)
  obtain ⟨a1, m1, c1, a2, m2, c2, a, c, rfl, r⟩ := h
  unfold startP
  have hS := fun a c W h => settle_is (threadP LL t) ⟨0, 0, 0, 0, 0⟩ a c W h (by decide)
  generalize threadP LL t = L at *
  obtain ⟨⟨q0, q1, q2, q3, q4⟩, hR⟩ : ∃ R, settleP L ⟨0, 0, 0, 0, 0⟩ = R := ⟨_, rfl⟩
  rw [hR] at hS ⊢
  unfold locV at hS ⊢
  clear r hR
  have k0 : ∀ A B, On w ((w.alloc A).alloc B) := fun A B => ((On.refl w).alloc A).alloc B
  have bk : ∀ A cs T, Bk ((w.alloc A).alloc (.cells cs T)) (w.heap.size + 1) cs := fun A cs T => by have := Bk.new (w.alloc A) cs T; rwa [World.size_alloc] at this
  go_enter Tryz.func33, Tryz.ntmps33
  go_wp2_with fail
  refine (hT _ (k0 _ _)).mono ?_
  rintro e w1 ⟨ax, cx, rfl, rx, k1⟩
  have B1 := (bk _ _ _).on k1
  have K1 : Hid (On w w1) := (k0 _ _).trans k1
  have hS1 := hS ax cx w1 rx
  clear hS rx hT k1 bk k0
  go_wp2_with fail
  refine hS1.mono ?_
  rintro e w2 ⟨rfl, k2⟩
  have B2 := B1.on k2
  have K2 : Hid (On w w2) := K1.out.trans k2
  have x0 := B2.at (i := 0) rfl
  have x1 := B2.at (i := 1) rfl
  have x2 := B2.at (i := 2) rfl
  have x3 := B2.at (i := 3) rfl
  have x4 := B2.at (i := 4) rfl
  have fr := fun i => B2.fr i
  clear hS1 k2 B1 K1
  go_wp2
  refine bodyPost_ret (v := .agg #[.int .i64 q0, .int .i64 q1, .int .i64 q2, .int .i64 q3, .int .i64 q4]) ?_ rfl ⟨rfl, ?_⟩
  · rw [results_cell rfl]
    go_simp
  · repeat' (first | with_reducible refine On.setNew ?_ (by omega) _ | with_reducible exact K2.out)
end Go.Proofs.YtplihlmejnohnaaGreatDoor
