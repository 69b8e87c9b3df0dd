/- prog.After for every program that lies in memory. -/
import Derived.Test.YtengdlchglkkjaaDoorStepG
import Derived.Test.YtengdlchglkkjaaDoorDoW
import Derived.Test.YtengdlchglkkjaaDoorStepD
import Derived.Test.YtengdlchglkkjaaDoorRegFin2
namespace Go.Proofs.YtengdlchglkkjaaDoor
open Go.RowKit

def readB (k : Int) : Bool := k == 2 || k == 4
/-- Where a thread is behind its next instruction. -/
def stepTo (x : InsT) (l : LocT) (v : Int) : LocT := pcTo (if readB x.k then withR l x.r v else l) (l.pc + 1)
def afterP (L : List InsT) (l : LocT) (v : Int) : LocT := match nextP L l with | none => l | some x => settleP L (stepTo x l v)
theorem next_at {L : List InsT} {l : LocT} {x : InsT} (h : nextP L l = some x) : 0 ≤ l.pc ∧ l.pc < L.length := by
  unfold nextP at h
  split at h
  · split at h
    · rename_i hx
      have := (List.getElem?_eq_some_iff.1 hx).1
      omega
    · cases h
  · cases h
set_option maxHeartbeats 8000000 in
set_option maxRecDepth 8000 in
theorem after_is (LL : List (List InsT)) (t : Int) (l : LocT) (rv : Int) (v : Value) (w : World) (h : ProgRd w v LL) :
    Calls Tryd.prog 24 #[v, .int .i64 t, locV l, .int .i64 rv] w fun e w' => e = .returned (locV (afterP (threadP LL t) l rv)) ∧ On w w' := by
  have hN := fun W (k : On w W) => pnext_is LL t l v W (h.on k)
  have hT := fun W (k : On w W) => thread_is LL t v W (h.on k)
  have hmx : (threadP LL t).length ≤ 9223372036854775807 := by
    unfold threadP
    split
    · rw [List.getD_eq_getElem?_getD]
      rcases hq : LL[t.toNat]? with _ | M
      · simp
      · obtain ⟨_, _, _, _, _, _, _, _, rfl, r⟩ := h
        obtain ⟨_, _, _, _, _, _, _, hm, _⟩ := r.row hq
        simpa using hm
    · simp
  obtain ⟨a1, m1, c1, a2, m2, c2, a, c, rfl, r⟩ := h
  obtain ⟨pc, r0, r1, r2, r3⟩ := l
  clear r
  have k0 : ∀ A B C, On w (((w.alloc A).alloc B).alloc C) := fun A B C => (((On.refl w).alloc A).alloc B).alloc C
  have bp : ∀ cs T B C, Bk (((w.alloc (.cells cs T)).alloc B).alloc C) w.heap.size cs := fun cs T B C => ((Bk.new w cs T).alloc B).alloc C
  have bl : ∀ A cs T C, Bk (((w.alloc A).alloc (.cells cs T)).alloc C) (w.heap.size + 1) cs := fun A cs T C => by have := (Bk.new (w.alloc A) cs T).alloc C; rwa [World.size_alloc] at this
  have br : ∀ A B cs T, Bk (((w.alloc A).alloc B).alloc (.cells cs T)) (w.heap.size + 1 + 1) cs := fun A B cs T => by have := Bk.new ((w.alloc A).alloc B) cs T; rwa [World.size_alloc, World.size_alloc] at this
  unfold afterP
  have hS0 := fun x a c W h h0 => settle_is (threadP LL t) (stepTo x ⟨pc, r0, r1, r2, r3⟩ rv) a c W h h0
  generalize threadP LL t = L at *
  cases hx : nextP L ⟨pc, r0, r1, r2, r3⟩ with
  | none =>
    rw [hx] at hN
    unfold nextV insV insZ locV at hN
    simp only [Option.getD_none, Option.isSome_none] at hN
    simp only
    unfold locV
    clear hS0 hx
    go_enter Tryd.func24, Tryd.ntmps24
    go_wp2_with fail
    refine (hN _ (k0 _ _ _)).mono ?_
    rintro e w1 ⟨rfl, k1⟩
    have L1 := (bl _ _ _ _).on k1
    have Z1 := (br _ _ _ _).on k1
    have K1 : Hid (On w w1) := (k0 _ _ _).trans k1
    clear hN hT k1 k0 bp bl br
    have l0 := L1.at (i := 0) rfl
    have l1 := L1.at (i := 1) rfl
    have l2 := L1.at (i := 2) rfl
    have l3 := L1.at (i := 3) rfl
    have l4 := L1.at (i := 4) rfl
    have ll := L1.lt
    have z0 := Z1.at (i := 0) rfl
    have z1 := Z1.at (i := 1) rfl
    have z2 := Z1.at (i := 2) rfl
    have z3 := Z1.at (i := 3) rfl
    have z4 := Z1.at (i := 4) rfl
    have zf := fun i => Z1.fr i
    have lf := fun i => L1.fr i
    have zl := Z1.lt
    go_wp2
    refine bodyPost_ret (v := .agg #[.int .i64 pc, .int .i64 r0, .int .i64 r1, .int .i64 r2, .int .i64 r3]) ?_ rfl ⟨rfl, ?_⟩
    · rw [results_cell rfl]
      go_simp
    · repeat' (first | with_reducible refine On.setNew ?_ (by omega) _ | with_reducible exact K1.out | with_reducible refine On.alloc ?_ _)
  | some x =>
    rw [hx] at hN
    obtain ⟨p0, p1⟩ := next_at hx
    simp only at p0 p1
    obtain ⟨n, rfl⟩ : ∃ n : Nat, pc = (n : Int) := ⟨pc.toNat, by omega⟩
    unfold nextV insV locV at hN
    simp only [Option.getD_some, Option.isSome_some] at hN
    simp only
    have hS1 := fun a c W h => hS0 x a c W h (by unfold stepTo pcTo; simp only; omega)
    clear hS0 hx
    have hsz : (n : Int) + 1 ≤ 9223372036854775807 := by omega
    cases hb : readB x.k with
    | true =>
      have e1 : stepTo x ⟨(n : Int), r0, r1, r2, r3⟩ rv = pcTo (withR ⟨(n : Int), r0, r1, r2, r3⟩ x.r rv) ((n : Int) + 1) := by unfold stepTo; rw [hb]; rfl
      rw [e1] at hS1 ⊢
      have hW := fun W => pwith_is ⟨(n : Int), r0, r1, r2, r3⟩ x.r rv W
      have hpc := withR_pc ⟨(n : Int), r0, r1, r2, r3⟩ x.r rv
      generalize withR ⟨(n : Int), r0, r1, r2, r3⟩ x.r rv = lq at *
      obtain ⟨pq, s0, s1, s2, s3⟩ := lq
      simp only at hpc
      subst hpc
      unfold pcTo at hS1 ⊢
      simp only at hS1 ⊢
      obtain ⟨⟨q0, q1, q2, q3, q4⟩, hR⟩ : ∃ R, settleP L ⟨(n : Int) + 1, s0, s1, s2, s3⟩ = R := ⟨_, rfl⟩
      rw [hR] at hS1 ⊢
      have hS := hS1
      clear hS1 hR e1
      unfold locV at hS hW ⊢
      have hb2 : ((x.k == 2) = true) ∨ ((x.k == 2) = false ∧ (x.k == 4) = true) := by unfold readB at hb; cases h2 : (x.k == 2) with | true => exact Or.inl rfl | false => rw [h2] at hb; exact Or.inr ⟨rfl, hb⟩
      rcases hb2 with h2 | ⟨h2, h4⟩
      · go_enter Tryd.func24, Tryd.ntmps24
        go_wp2_with fail
        refine (hN _ (k0 _ _ _)).mono ?_
        rintro e w1 ⟨rfl, k1⟩
        have P1 := (bp _ _ _ _).on k1
        have L1 := (bl _ _ _ _).on k1
        have Z1 := (br _ _ _ _).on k1
        have K1 : Hid (On w w1) := (k0 _ _ _).trans k1
        clear hN k1 k0 bp bl br
        have l0 := L1.at (i := 0) rfl
        have l1 := L1.at (i := 1) rfl
        have l2 := L1.at (i := 2) rfl
        have l3 := L1.at (i := 3) rfl
        have l4 := L1.at (i := 4) rfl
        have ll := L1.lt
        have z0 := Z1.at (i := 0) rfl
        have z1 := Z1.at (i := 1) rfl
        have z2 := Z1.at (i := 2) rfl
        have z3 := Z1.at (i := 3) rfl
        have z4 := Z1.at (i := 4) rfl
        have zf := fun i => Z1.fr i
        have lf := fun i => L1.fr i
        have zl := Z1.lt
        have kI : ∀ A, On w1 (w1.alloc A) := fun A => (On.refl w1).alloc A
        go_wp2_with fail
        refine (hW _).mono ?_
        rintro e w2 ⟨rfl, k2⟩
        have k12 : On w1 w2 := (kI _).trans k2
        have P2 := P1.on k12
        have L2 := L1.on k12
        have Z2 := Z1.on k12
        have K2 : Hid (On w w2) := K1.out.trans k12
        have m0 := L2.at (i := 0) rfl
        have m1' := L2.at (i := 1) rfl
        have m2' := L2.at (i := 2) rfl
        have m3 := L2.at (i := 3) rfl
        have m4 := L2.at (i := 4) rfl
        have mf := fun i => L2.fr i
        clear l0 l1 l2 l3 l4 z0 z1 z2 z3 z4 zf lf k2 kI hW
        go_wp2
        obtain ⟨w3, hw3⟩ : ∃ w3, w3 = (((((w2.setCell ⟨w.heap.size + 1, 0, none⟩ (.int .i64 (n : Int))).setCell ⟨w.heap.size + 1, 1, none⟩ (.int .i64 s0)).setCell ⟨w.heap.size + 1, 2, none⟩ (.int .i64 s1)).setCell ⟨w.heap.size + 1, 3, none⟩ (.int .i64 s2)).setCell ⟨w.heap.size + 1, 4, none⟩ (.int .i64 s3)).setCell ⟨w.heap.size + 1, 0, none⟩ (.int .i64 ((n : Int) + 1)) := ⟨_, rfl⟩
        rw [← hw3]
        have L3 : Bk w3 (w.heap.size + 1) #[.int .i64 ((n : Int) + 1), .int .i64 s0, .int .i64 s1, .int .i64 s2, .int .i64 s3] := by rw [hw3]; exact (L2.set5 _ _ _ _ _).set0 _
        have P3 : Bk w3 w.heap.size #[.slice a1 m1 c1, .slice a2 m2 c2, .slice a LL.length c] := by rw [hw3]; exact (P2.far5 (by omega) _ _ _ _ _).far (by omega) _ _
        have Z3 : Bk w3 (w.heap.size + 1 + 1) #[.int .i64 0, .int .i64 0, .int .i64 0, .int .i64 0, .int .i64 0] := by rw [hw3]; exact (Z2.far5 (by omega) _ _ _ _ _).far (by omega) _ _
        have K3 : Hid (On w w3) := by show On w w3; rw [hw3]; exact (((((K2.out.setNew (by omega) _).setNew (by omega) _).setNew (by omega) _).setNew (by omega) _).setNew (by omega) _).setNew (by omega) _
        have p0' := P3.at (i := 0) rfl
        have p1' := P3.at (i := 1) rfl
        have p2' := P3.at (i := 2) rfl
        have t0' := L3.at (i := 0) rfl
        have t1' := L3.at (i := 1) rfl
        have t2' := L3.at (i := 2) rfl
        have t3' := L3.at (i := 3) rfl
        have t4' := L3.at (i := 4) rfl
        clear hw3 m0 m1' m2' m3 m4 mf
        have hk3 : ∀ W, On w3.drew W → W.cell? ⟨w.heap.size, 0, none⟩ = some (.slice a1 m1 c1) ∧ W.cell? ⟨w.heap.size, 1, none⟩ = some (.slice a2 m2 c2) ∧ W.cell? ⟨w.heap.size, 2, none⟩ = some (.slice a LL.length c) ∧ W.cell? ⟨w.heap.size + 1, 0, none⟩ = some (.int .i64 ((n : Int) + 1)) ∧ W.cell? ⟨w.heap.size + 1, 1, none⟩ = some (.int .i64 s0) ∧ W.cell? ⟨w.heap.size + 1, 2, none⟩ = some (.int .i64 s1) ∧ W.cell? ⟨w.heap.size + 1, 3, none⟩ = some (.int .i64 s2) ∧ W.cell? ⟨w.heap.size + 1, 4, none⟩ = some (.int .i64 s3) := fun W k => ⟨(P3.on ((On.refl w3).drew.trans k)).at (i := 0) rfl, (P3.on ((On.refl w3).drew.trans k)).at (i := 1) rfl, (P3.on ((On.refl w3).drew.trans k)).at (i := 2) rfl, (L3.on ((On.refl w3).drew.trans k)).at (i := 0) rfl, (L3.on ((On.refl w3).drew.trans k)).at (i := 1) rfl, (L3.on ((On.refl w3).drew.trans k)).at (i := 2) rfl, (L3.on ((On.refl w3).drew.trans k)).at (i := 3) rfl, (L3.on ((On.refl w3).drew.trans k)).at (i := 4) rfl⟩
        refine region_fin (fun W => W.cell? ⟨w.heap.size, 0, none⟩ = some (.slice a1 m1 c1) ∧ W.cell? ⟨w.heap.size, 1, none⟩ = some (.slice a2 m2 c2) ∧ W.cell? ⟨w.heap.size, 2, none⟩ = some (.slice a LL.length c) ∧ W.cell? ⟨w.heap.size + 1, 0, none⟩ = some (.int .i64 ((n : Int) + 1)) ∧ W.cell? ⟨w.heap.size + 1, 1, none⟩ = some (.int .i64 s0) ∧ W.cell? ⟨w.heap.size + 1, 2, none⟩ = some (.int .i64 s1) ∧ W.cell? ⟨w.heap.size + 1, 3, none⟩ = some (.int .i64 s2) ∧ W.cell? ⟨w.heap.size + 1, 4, none⟩ = some (.int .i64 s3)) 5 6 (by kernel_rfl) rfl ?_
        refine fin_take 0 (v := ?_) rfl (by kernel_rfl) (by kernel_rfl) (by kernel_rfl) (by kernel_rfl) (fun _ _ _ h => h) rfl ?_ (hk3 _ (On.refl _)) ?_
        rotate_left
        · intro W hW
          go_simp
          (try with_reducible rfl)
        simp only [Act.put, List.setIfInBounds_toArray, List.set_cons_zero, List.set_cons_succ]
        refine fin_take 1 (v := ?_) rfl (by kernel_rfl) (by kernel_rfl) (by kernel_rfl) (by kernel_rfl) (fun _ _ _ h => h) rfl ?_ (hk3 _ (On.refl _)) ?_
        rotate_left
        · intro W hW
          go_simp
          (try with_reducible rfl)
        simp only [Act.put, List.setIfInBounds_toArray, List.set_cons_zero, List.set_cons_succ]
        refine fin_take 3 (v := ?_) rfl (by kernel_rfl) (by kernel_rfl) (by kernel_rfl) (by kernel_rfl) (fun _ _ _ h => h) rfl ?_ (hk3 _ (On.refl _)) ?_
        rotate_left
        · intro W hW
          go_simp
          (try with_reducible rfl)
        simp only [Act.put, List.setIfInBounds_toArray, List.set_cons_zero, List.set_cons_succ]
        refine fin_one 2 rfl rfl (by kernel_rfl) (fun K hK => ?_)
        go_simp
        refine (hT _ (K3.out.drew)).mono ?_
        rintro e w4 ⟨ax, cx, rfl, rx, k4⟩
        refine hK.out _ _ (fun _ => hk3 _ k4) ?_
        clear hK
        refine fin_one 4 rfl rfl (by kernel_rfl) (fun K hK => ?_)
        go_simp
        refine (hS ax cx w4 rx).mono ?_
        rintro e w5 ⟨rfl, k5⟩
        have k35 : On w3 w5 := (On.refl w3).drew.trans (k4.trans k5)
        have Z5 := Z3.on k35
        have zz0 := Z5.at (i := 0) rfl
        have zz1 := Z5.at (i := 1) rfl
        have zz2 := Z5.at (i := 2) rfl
        have zz3 := Z5.at (i := 3) rfl
        have zz4 := Z5.at (i := 4) rfl
        have zzf := fun i => Z5.fr i
        refine hK.out _ _ (fun _ => hk3 _ (k4.trans k5)) ?_
        clear hK
        refine fin_one 5 rfl rfl (by kernel_rfl) (fun K hK => ?_)
        go_simp
        refine hK.out _ _ (fun h => absurd rfl h) ?_
        refine fin_done (by kernel_rfl) (NoPanic.normal ?_)
        go_wp2
        refine bodyPost_ret (v := .agg #[.int .i64 q0, .int .i64 q1, .int .i64 q2, .int .i64 q3, .int .i64 q4]) ?_ rfl ⟨rfl, ?_⟩
        · rw [results_cell rfl]
          go_simp
        · have hO : On w w5 := K3.out.trans k35
          repeat' (first | with_reducible refine On.setNew ?_ (by omega) _ | with_reducible exact hO)
      · go_enter Tryd.func24, Tryd.ntmps24
        go_wp2_with fail
        refine (hN _ (k0 _ _ _)).mono ?_
        rintro e w1 ⟨rfl, k1⟩
        have P1 := (bp _ _ _ _).on k1
        have L1 := (bl _ _ _ _).on k1
        have Z1 := (br _ _ _ _).on k1
        have K1 : Hid (On w w1) := (k0 _ _ _).trans k1
        clear hN k1 k0 bp bl br
        have l0 := L1.at (i := 0) rfl
        have l1 := L1.at (i := 1) rfl
        have l2 := L1.at (i := 2) rfl
        have l3 := L1.at (i := 3) rfl
        have l4 := L1.at (i := 4) rfl
        have ll := L1.lt
        have z0 := Z1.at (i := 0) rfl
        have z1 := Z1.at (i := 1) rfl
        have z2 := Z1.at (i := 2) rfl
        have z3 := Z1.at (i := 3) rfl
        have z4 := Z1.at (i := 4) rfl
        have zf := fun i => Z1.fr i
        have lf := fun i => L1.fr i
        have zl := Z1.lt
        have kI : ∀ A, On w1 (w1.alloc A) := fun A => (On.refl w1).alloc A
        go_wp2_with fail
        refine (hW _).mono ?_
        rintro e w2 ⟨rfl, k2⟩
        have k12 : On w1 w2 := (kI _).trans k2
        have P2 := P1.on k12
        have L2 := L1.on k12
        have Z2 := Z1.on k12
        have K2 : Hid (On w w2) := K1.out.trans k12
        have m0 := L2.at (i := 0) rfl
        have m1' := L2.at (i := 1) rfl
        have m2' := L2.at (i := 2) rfl
        have m3 := L2.at (i := 3) rfl
        have m4 := L2.at (i := 4) rfl
        have mf := fun i => L2.fr i
        clear l0 l1 l2 l3 l4 z0 z1 z2 z3 z4 zf lf k2 kI hW
        go_wp2
        obtain ⟨w3, hw3⟩ : ∃ w3, w3 = (((((w2.setCell ⟨w.heap.size + 1, 0, none⟩ (.int .i64 (n : Int))).setCell ⟨w.heap.size + 1, 1, none⟩ (.int .i64 s0)).setCell ⟨w.heap.size + 1, 2, none⟩ (.int .i64 s1)).setCell ⟨w.heap.size + 1, 3, none⟩ (.int .i64 s2)).setCell ⟨w.heap.size + 1, 4, none⟩ (.int .i64 s3)).setCell ⟨w.heap.size + 1, 0, none⟩ (.int .i64 ((n : Int) + 1)) := ⟨_, rfl⟩
        rw [← hw3]
        have L3 : Bk w3 (w.heap.size + 1) #[.int .i64 ((n : Int) + 1), .int .i64 s0, .int .i64 s1, .int .i64 s2, .int .i64 s3] := by rw [hw3]; exact (L2.set5 _ _ _ _ _).set0 _
        have P3 : Bk w3 w.heap.size #[.slice a1 m1 c1, .slice a2 m2 c2, .slice a LL.length c] := by rw [hw3]; exact (P2.far5 (by omega) _ _ _ _ _).far (by omega) _ _
        have Z3 : Bk w3 (w.heap.size + 1 + 1) #[.int .i64 0, .int .i64 0, .int .i64 0, .int .i64 0, .int .i64 0] := by rw [hw3]; exact (Z2.far5 (by omega) _ _ _ _ _).far (by omega) _ _
        have K3 : Hid (On w w3) := by show On w w3; rw [hw3]; exact (((((K2.out.setNew (by omega) _).setNew (by omega) _).setNew (by omega) _).setNew (by omega) _).setNew (by omega) _).setNew (by omega) _
        have p0' := P3.at (i := 0) rfl
        have p1' := P3.at (i := 1) rfl
        have p2' := P3.at (i := 2) rfl
        have t0' := L3.at (i := 0) rfl
        have t1' := L3.at (i := 1) rfl
        have t2' := L3.at (i := 2) rfl
        have t3' := L3.at (i := 3) rfl
        have t4' := L3.at (i := 4) rfl
        clear hw3 m0 m1' m2' m3 m4 mf
        have hk3 : ∀ W, On w3.drew W → W.cell? ⟨w.heap.size, 0, none⟩ = some (.slice a1 m1 c1) ∧ W.cell? ⟨w.heap.size, 1, none⟩ = some (.slice a2 m2 c2) ∧ W.cell? ⟨w.heap.size, 2, none⟩ = some (.slice a LL.length c) ∧ W.cell? ⟨w.heap.size + 1, 0, none⟩ = some (.int .i64 ((n : Int) + 1)) ∧ W.cell? ⟨w.heap.size + 1, 1, none⟩ = some (.int .i64 s0) ∧ W.cell? ⟨w.heap.size + 1, 2, none⟩ = some (.int .i64 s1) ∧ W.cell? ⟨w.heap.size + 1, 3, none⟩ = some (.int .i64 s2) ∧ W.cell? ⟨w.heap.size + 1, 4, none⟩ = some (.int .i64 s3) := fun W k => ⟨(P3.on ((On.refl w3).drew.trans k)).at (i := 0) rfl, (P3.on ((On.refl w3).drew.trans k)).at (i := 1) rfl, (P3.on ((On.refl w3).drew.trans k)).at (i := 2) rfl, (L3.on ((On.refl w3).drew.trans k)).at (i := 0) rfl, (L3.on ((On.refl w3).drew.trans k)).at (i := 1) rfl, (L3.on ((On.refl w3).drew.trans k)).at (i := 2) rfl, (L3.on ((On.refl w3).drew.trans k)).at (i := 3) rfl, (L3.on ((On.refl w3).drew.trans k)).at (i := 4) rfl⟩
        refine region_fin (fun W => W.cell? ⟨w.heap.size, 0, none⟩ = some (.slice a1 m1 c1) ∧ W.cell? ⟨w.heap.size, 1, none⟩ = some (.slice a2 m2 c2) ∧ W.cell? ⟨w.heap.size, 2, none⟩ = some (.slice a LL.length c) ∧ W.cell? ⟨w.heap.size + 1, 0, none⟩ = some (.int .i64 ((n : Int) + 1)) ∧ W.cell? ⟨w.heap.size + 1, 1, none⟩ = some (.int .i64 s0) ∧ W.cell? ⟨w.heap.size + 1, 2, none⟩ = some (.int .i64 s1) ∧ W.cell? ⟨w.heap.size + 1, 3, none⟩ = some (.int .i64 s2) ∧ W.cell? ⟨w.heap.size + 1, 4, none⟩ = some (.int .i64 s3)) 5 6 (by kernel_rfl) rfl ?_
        refine fin_take 0 (v := ?_) rfl (by kernel_rfl) (by kernel_rfl) (by kernel_rfl) (by kernel_rfl) (fun _ _ _ h => h) rfl ?_ (hk3 _ (On.refl _)) ?_
        rotate_left
        · intro W hW
          go_simp
          (try with_reducible rfl)
        simp only [Act.put, List.setIfInBounds_toArray, List.set_cons_zero, List.set_cons_succ]
        refine fin_take 1 (v := ?_) rfl (by kernel_rfl) (by kernel_rfl) (by kernel_rfl) (by kernel_rfl) (fun _ _ _ h => h) rfl ?_ (hk3 _ (On.refl _)) ?_
        rotate_left
        · intro W hW
          go_simp
          (try with_reducible rfl)
        simp only [Act.put, List.setIfInBounds_toArray, List.set_cons_zero, List.set_cons_succ]
        refine fin_take 3 (v := ?_) rfl (by kernel_rfl) (by kernel_rfl) (by kernel_rfl) (by kernel_rfl) (fun _ _ _ h => h) rfl ?_ (hk3 _ (On.refl _)) ?_
        rotate_left
        · intro W hW
          go_simp
          (try with_reducible rfl)
        simp only [Act.put, List.setIfInBounds_toArray, List.set_cons_zero, List.set_cons_succ]
        refine fin_one 2 rfl rfl (by kernel_rfl) (fun K hK => ?_)
        go_simp
        refine (hT _ (K3.out.drew)).mono ?_
        rintro e w4 ⟨ax, cx, rfl, rx, k4⟩
        refine hK.out _ _ (fun _ => hk3 _ k4) ?_
        clear hK
        refine fin_one 4 rfl rfl (by kernel_rfl) (fun K hK => ?_)
        go_simp
        refine (hS ax cx w4 rx).mono ?_
        rintro e w5 ⟨rfl, k5⟩
        have k35 : On w3 w5 := (On.refl w3).drew.trans (k4.trans k5)
        have Z5 := Z3.on k35
        have zz0 := Z5.at (i := 0) rfl
        have zz1 := Z5.at (i := 1) rfl
        have zz2 := Z5.at (i := 2) rfl
        have zz3 := Z5.at (i := 3) rfl
        have zz4 := Z5.at (i := 4) rfl
        have zzf := fun i => Z5.fr i
        refine hK.out _ _ (fun _ => hk3 _ (k4.trans k5)) ?_
        clear hK
        refine fin_one 5 rfl rfl (by kernel_rfl) (fun K hK => ?_)
        go_simp
        refine hK.out _ _ (fun h => absurd rfl h) ?_
        refine fin_done (by kernel_rfl) (NoPanic.normal ?_)
        go_wp2
        refine bodyPost_ret (v := .agg #[.int .i64 q0, .int .i64 q1, .int .i64 q2, .int .i64 q3, .int .i64 q4]) ?_ rfl ⟨rfl, ?_⟩
        · rw [results_cell rfl]
          go_simp
        · have hO : On w w5 := K3.out.trans k35
          repeat' (first | with_reducible refine On.setNew ?_ (by omega) _ | with_reducible exact hO)
    | false =>
      have e1 : stepTo x ⟨(n : Int), r0, r1, r2, r3⟩ rv = pcTo ⟨(n : Int), r0, r1, r2, r3⟩ ((n : Int) + 1) := by unfold stepTo; rw [hb]; rfl
      rw [e1] at hS1 ⊢
      unfold pcTo at hS1 ⊢
      simp only at hS1 ⊢
      obtain ⟨⟨q0, q1, q2, q3, q4⟩, hR⟩ : ∃ R, settleP L ⟨(n : Int) + 1, r0, r1, r2, r3⟩ = R := ⟨_, rfl⟩
      rw [hR] at hS1 ⊢
      have hS := hS1
      clear hS1 hR e1
      unfold locV at hS ⊢
      have hb2 : (x.k == 2) = false ∧ (x.k == 4) = false := by unfold readB at hb; simpa using hb
      obtain ⟨h2, h4⟩ := hb2
      go_enter Tryd.func24, Tryd.ntmps24
      go_wp2_with fail
      refine (hN _ (k0 _ _ _)).mono ?_
      rintro e w1 ⟨rfl, k1⟩
      have P1 := (bp _ _ _ _).on k1
      have L1 := (bl _ _ _ _).on k1
      have Z1 := (br _ _ _ _).on k1
      have K1 : Hid (On w w1) := (k0 _ _ _).trans k1
      clear hN k1 k0 bp bl br
      have l0 := L1.at (i := 0) rfl
      have l1 := L1.at (i := 1) rfl
      have l2 := L1.at (i := 2) rfl
      have l3 := L1.at (i := 3) rfl
      have l4 := L1.at (i := 4) rfl
      have ll := L1.lt
      have z0 := Z1.at (i := 0) rfl
      have z1 := Z1.at (i := 1) rfl
      have z2 := Z1.at (i := 2) rfl
      have z3 := Z1.at (i := 3) rfl
      have z4 := Z1.at (i := 4) rfl
      have zf := fun i => Z1.fr i
      have lf := fun i => L1.fr i
      have zl := Z1.lt
      have kI : ∀ A, On w1 (w1.alloc A) := fun A => (On.refl w1).alloc A
      have L2 := fun A => L1.on (kI A)
      have P2 := fun A => P1.on (kI A)
      have Z2 := fun A => Z1.on (kI A)
      go_wp2
      obtain ⟨w3, hw3⟩ : ∃ w3, w3 = (w1.setCell ⟨w.heap.size + 1, 0, none⟩ (.int .i64 ((n : Int) + 1))).alloc (.cells #[.int .i64 x.k, .int .i64 x.r, .int .i64 x.l, .int .i64 x.a.r, .int .i64 x.a.v, .int .i64 x.o, .int .i64 x.b.r, .int .i64 x.b.v, .int .i64 x.n] 53) := ⟨_, rfl⟩
      rw [← hw3]
      have L3 : Bk w3 (w.heap.size + 1) #[.int .i64 ((n : Int) + 1), .int .i64 r0, .int .i64 r1, .int .i64 r2, .int .i64 r3] := by rw [hw3]; exact (L1.set0 _).alloc _
      have P3 : Bk w3 w.heap.size #[.slice a1 m1 c1, .slice a2 m2 c2, .slice a LL.length c] := by rw [hw3]; exact (P1.far (by omega) _ _).alloc _
      have Z3 : Bk w3 (w.heap.size + 1 + 1) #[.int .i64 0, .int .i64 0, .int .i64 0, .int .i64 0, .int .i64 0] := by rw [hw3]; exact (Z1.far (by omega) _ _).alloc _
      have K3 : Hid (On w w3) := by show On w w3; rw [hw3]; exact (K1.out.setNew (by omega) _).alloc _
      have p0' := P3.at (i := 0) rfl
      have p1' := P3.at (i := 1) rfl
      have p2' := P3.at (i := 2) rfl
      have t0' := L3.at (i := 0) rfl
      have t1' := L3.at (i := 1) rfl
      have t2' := L3.at (i := 2) rfl
      have t3' := L3.at (i := 3) rfl
      have t4' := L3.at (i := 4) rfl
      clear hw3 l0 l1 l2 l3 l4 z0 z1 z2 z3 z4 zf lf kI L2 P2 Z2
      have hk3 : ∀ W, On w3.drew W → W.cell? ⟨w.heap.size, 0, none⟩ = some (.slice a1 m1 c1) ∧ W.cell? ⟨w.heap.size, 1, none⟩ = some (.slice a2 m2 c2) ∧ W.cell? ⟨w.heap.size, 2, none⟩ = some (.slice a LL.length c) ∧ W.cell? ⟨w.heap.size + 1, 0, none⟩ = some (.int .i64 ((n : Int) + 1)) ∧ W.cell? ⟨w.heap.size + 1, 1, none⟩ = some (.int .i64 r0) ∧ W.cell? ⟨w.heap.size + 1, 2, none⟩ = some (.int .i64 r1) ∧ W.cell? ⟨w.heap.size + 1, 3, none⟩ = some (.int .i64 r2) ∧ W.cell? ⟨w.heap.size + 1, 4, none⟩ = some (.int .i64 r3) := fun W k => ⟨(P3.on ((On.refl w3).drew.trans k)).at (i := 0) rfl, (P3.on ((On.refl w3).drew.trans k)).at (i := 1) rfl, (P3.on ((On.refl w3).drew.trans k)).at (i := 2) rfl, (L3.on ((On.refl w3).drew.trans k)).at (i := 0) rfl, (L3.on ((On.refl w3).drew.trans k)).at (i := 1) rfl, (L3.on ((On.refl w3).drew.trans k)).at (i := 2) rfl, (L3.on ((On.refl w3).drew.trans k)).at (i := 3) rfl, (L3.on ((On.refl w3).drew.trans k)).at (i := 4) rfl⟩
      refine region_fin (fun W => W.cell? ⟨w.heap.size, 0, none⟩ = some (.slice a1 m1 c1) ∧ W.cell? ⟨w.heap.size, 1, none⟩ = some (.slice a2 m2 c2) ∧ W.cell? ⟨w.heap.size, 2, none⟩ = some (.slice a LL.length c) ∧ W.cell? ⟨w.heap.size + 1, 0, none⟩ = some (.int .i64 ((n : Int) + 1)) ∧ W.cell? ⟨w.heap.size + 1, 1, none⟩ = some (.int .i64 r0) ∧ W.cell? ⟨w.heap.size + 1, 2, none⟩ = some (.int .i64 r1) ∧ W.cell? ⟨w.heap.size + 1, 3, none⟩ = some (.int .i64 r2) ∧ W.cell? ⟨w.heap.size + 1, 4, none⟩ = some (.int .i64 r3)) 5 6 (by kernel_rfl) rfl ?_
      refine fin_take 0 (v := ?_) rfl (by kernel_rfl) (by kernel_rfl) (by kernel_rfl) (by kernel_rfl) (fun _ _ _ h => h) rfl ?_ (hk3 _ (On.refl _)) ?_
      rotate_left
      · intro W hW
        go_simp
        (try with_reducible rfl)
      simp only [Act.put, List.setIfInBounds_toArray, List.set_cons_zero, List.set_cons_succ]
      refine fin_take 1 (v := ?_) rfl (by kernel_rfl) (by kernel_rfl) (by kernel_rfl) (by kernel_rfl) (fun _ _ _ h => h) rfl ?_ (hk3 _ (On.refl _)) ?_
      rotate_left
      · intro W hW
        go_simp
        (try with_reducible rfl)
      simp only [Act.put, List.setIfInBounds_toArray, List.set_cons_zero, List.set_cons_succ]
      refine fin_take 3 (v := ?_) rfl (by kernel_rfl) (by kernel_rfl) (by kernel_rfl) (by kernel_rfl) (fun _ _ _ h => h) rfl ?_ (hk3 _ (On.refl _)) ?_
      rotate_left
      · intro W hW
        go_simp
        (try with_reducible rfl)
      simp only [Act.put, List.setIfInBounds_toArray, List.set_cons_zero, List.set_cons_succ]
      refine fin_one 2 rfl rfl (by kernel_rfl) (fun K hK => ?_)
      go_simp
      refine (hT _ (K3.out.drew)).mono ?_
      rintro e w4 ⟨ax, cx, rfl, rx, k4⟩
      refine hK.out _ _ (fun _ => hk3 _ k4) ?_
      clear hK
      refine fin_one 4 rfl rfl (by kernel_rfl) (fun K hK => ?_)
      go_simp
      refine (hS ax cx w4 rx).mono ?_
      rintro e w5 ⟨rfl, k5⟩
      have k35 : On w3 w5 := (On.refl w3).drew.trans (k4.trans k5)
      have Z5 := Z3.on k35
      have zz0 := Z5.at (i := 0) rfl
      have zz1 := Z5.at (i := 1) rfl
      have zz2 := Z5.at (i := 2) rfl
      have zz3 := Z5.at (i := 3) rfl
      have zz4 := Z5.at (i := 4) rfl
      have zzf := fun i => Z5.fr i
      refine hK.out _ _ (fun _ => hk3 _ (k4.trans k5)) ?_
      clear hK
      refine fin_one 5 rfl rfl (by kernel_rfl) (fun K hK => ?_)
      go_simp
      refine hK.out _ _ (fun h => absurd rfl h) ?_
      refine fin_done (by kernel_rfl) (NoPanic.normal ?_)
      go_wp2
      refine bodyPost_ret (v := .agg #[.int .i64 q0, .int .i64 q1, .int .i64 q2, .int .i64 q3, .int .i64 q4]) ?_ rfl ⟨rfl, ?_⟩
      · rw [results_cell rfl]
        go_simp
      · have hO : On w w5 := K3.out.trans k35
        repeat' (first | with_reducible refine On.setNew ?_ (by omega) _ | with_reducible exact hO)
end Go.Proofs.YtengdlchglkkjaaDoor

namespace Go.Proofs.YtengdlchglkkjaaDoor
open Go.RowKit

theorem u64w (n : Int) : IntKind.u64.wrap n = n % 18446744073709551616 := IntKind.wrap_u64 n
theorem wrap_congr {x y : Int} (h : x % 18446744073709551616 = y % 18446744073709551616) : wrap64 x = wrap64 y := by unfold wrap64; omega
theorem wu_add (a b : Int) : wrap64 (IntKind.u64.wrap (IntKind.u64.wrap a + IntKind.u64.wrap b)) = wrap64 (a + b) := by
  rw [u64w, u64w, u64w]; apply wrap_congr; omega
theorem wu_sub (a b : Int) : wrap64 (IntKind.u64.wrap (IntKind.u64.wrap a - IntKind.u64.wrap b)) = wrap64 (a - b) := by
  rw [u64w, u64w, u64w]; apply wrap_congr; omega
theorem wu_mul (a b : Int) : wrap64 (IntKind.u64.wrap (IntKind.u64.wrap a * IntKind.u64.wrap b)) = wrap64 (a * b) := by
  rw [u64w, u64w, u64w]; apply wrap_congr; rw [Int.emod_emod_of_dvd _ (Int.dvd_refl _), ← Int.mul_emod]
theorem wu_shl (a p : Int) : wrap64 (IntKind.u64.wrap (IntKind.u64.wrap a * p)) = wrap64 (a * p) := by
  rw [u64w, u64w]; apply wrap_congr; rw [Int.emod_emod_of_dvd _ (Int.dvd_refl _), Int.mul_emod, Int.emod_emod_of_dvd _ (Int.dvd_refl _), ← Int.mul_emod]
theorem tmod64 (b : Int) : (IntKind.u64.wrap b).tmod 64 = (sh b : Int) := by
  rw [u64w, Int.tmod_eq_emod_of_nonneg (by omega)]; unfold sh; omega
theorem ret_i64b {x y : Int} {b : Bool} (h : x = y) : Ending.returned (.tuple #[.int .i64 x, .bool b]) = .returned (.tuple #[.int .i64 y, .bool b]) := by rw [h]

section
set_option maxHeartbeats 400000
theorem rdo1 (a b : Int) (w : World) : Calls Tryd.prog 68 #[.int .i64 1, .int .i64 a, .int .i64 b] w fun e w' => e = .returned (.tuple #[.int .i64 (doV 1 a b), .bool true]) ∧ w' = w := by
  have hk := tmod64 b
  have hs := sh_lt b
  go_enter Tryd.func68, Tryd.ntmps68
  go_wp2
  go_ret2
  exact ⟨ret_i64b (wu_add a b), rfl⟩
theorem rdo2 (a b : Int) (w : World) : Calls Tryd.prog 68 #[.int .i64 2, .int .i64 a, .int .i64 b] w fun e w' => e = .returned (.tuple #[.int .i64 (doV 2 a b), .bool true]) ∧ w' = w := by
  have hk := tmod64 b
  have hs := sh_lt b
  go_enter Tryd.func68, Tryd.ntmps68
  go_wp2
  go_ret2
  exact ⟨ret_i64b (wu_sub a b), rfl⟩
theorem rdo3 (a b : Int) (w : World) : Calls Tryd.prog 68 #[.int .i64 3, .int .i64 a, .int .i64 b] w fun e w' => e = .returned (.tuple #[.int .i64 (doV 3 a b), .bool true]) ∧ w' = w := by
  have hk := tmod64 b
  have hs := sh_lt b
  go_enter Tryd.func68, Tryd.ntmps68
  go_wp2
  go_ret2
  exact ⟨ret_i64b (wu_mul a b), rfl⟩
theorem rdo4 (a b : Int) (w : World) : Calls Tryd.prog 68 #[.int .i64 4, .int .i64 a, .int .i64 b] w fun e w' => e = .returned (.tuple #[.int .i64 (doV 4 a b), .bool true]) ∧ w' = w := by
  have hk := tmod64 b
  have hs := sh_lt b
  go_enter Tryd.func68, Tryd.ntmps68
  go_wp2
  go_ret2
  exact ⟨ret_i64b (rfl), rfl⟩
theorem rdo5 (a b : Int) (w : World) : Calls Tryd.prog 68 #[.int .i64 5, .int .i64 a, .int .i64 b] w fun e w' => e = .returned (.tuple #[.int .i64 (doV 5 a b), .bool true]) ∧ w' = w := by
  have hk := tmod64 b
  have hs := sh_lt b
  go_enter Tryd.func68, Tryd.ntmps68
  go_wp2
  go_ret2
  exact ⟨ret_i64b (rfl), rfl⟩
theorem rdo6 (a b : Int) (w : World) : Calls Tryd.prog 68 #[.int .i64 6, .int .i64 a, .int .i64 b] w fun e w' => e = .returned (.tuple #[.int .i64 (doV 6 a b), .bool true]) ∧ w' = w := by
  have hk := tmod64 b
  have hs := sh_lt b
  go_enter Tryd.func68, Tryd.ntmps68
  go_wp2
  go_ret2
  exact ⟨ret_i64b (rfl), rfl⟩
theorem rdo7 (a b : Int) (w : World) : Calls Tryd.prog 68 #[.int .i64 7, .int .i64 a, .int .i64 b] w fun e w' => e = .returned (.tuple #[.int .i64 (doV 7 a b), .bool true]) ∧ w' = w := by
  have hk := tmod64 b
  have hs := sh_lt b
  go_enter Tryd.func68, Tryd.ntmps68
  go_wp2
  go_ret2
  exact ⟨ret_i64b (wu_shl a _), rfl⟩
theorem rdo8 (a b : Int) (w : World) : Calls Tryd.prog 68 #[.int .i64 8, .int .i64 a, .int .i64 b] w fun e w' => e = .returned (.tuple #[.int .i64 (doV 8 a b), .bool true]) ∧ w' = w := by
  have hk := tmod64 b
  have hs := sh_lt b
  go_enter Tryd.func68, Tryd.ntmps68
  go_wp2
  go_ret2
  exact ⟨ret_i64b (rfl), rfl⟩
theorem rdo9 (a b : Int) (w : World) : Calls Tryd.prog 68 #[.int .i64 9, .int .i64 a, .int .i64 b] w fun e w' => e = .returned (.tuple #[.int .i64 (doV 9 a b), .bool true]) ∧ w' = w := by
  have hk := tmod64 b
  rw [doV9]
  cases ht : (a == b)
  all_goals
    go_enter Tryd.func68, Tryd.ntmps68
    go_wp2
    go_ret2
    exact ⟨rfl, rfl⟩
theorem rdo10 (a b : Int) (w : World) : Calls Tryd.prog 68 #[.int .i64 10, .int .i64 a, .int .i64 b] w fun e w' => e = .returned (.tuple #[.int .i64 (doV 10 a b), .bool true]) ∧ w' = w := by
  have hk := tmod64 b
  rw [doV10]
  cases ht : (a != b)
  all_goals
    go_enter Tryd.func68, Tryd.ntmps68
    go_wp2
    go_ret2
    exact ⟨rfl, rfl⟩
theorem rdo11 (a b : Int) (w : World) : Calls Tryd.prog 68 #[.int .i64 11, .int .i64 a, .int .i64 b] w fun e w' => e = .returned (.tuple #[.int .i64 (doV 11 a b), .bool true]) ∧ w' = w := by
  have hk := tmod64 b
  rw [doV11]
  cases ht : decide (a < b)
  all_goals
    go_enter Tryd.func68, Tryd.ntmps68
    go_wp2
    go_ret2
    exact ⟨rfl, rfl⟩
end
theorem rdo_is (op a b : Int) (w : World) (h : 1 ≤ op ∧ op ≤ 11) :
    Calls Tryd.prog 68 #[.int .i64 op, .int .i64 a, .int .i64 b] w fun e w' => e = .returned (.tuple #[.int .i64 (doV op a b), .bool true]) ∧ w' = w := by
  have hc : op = 1 ∨ op = 2 ∨ op = 3 ∨ op = 4 ∨ op = 5 ∨ op = 6 ∨ op = 7 ∨ op = 8 ∨ op = 9 ∨ op = 10 ∨ op = 11 := by omega
  rcases hc with rfl | rfl | rfl | rfl | rfl | rfl | rfl | rfl | rfl | rfl | rfl
  · exact rdo1 a b w
  · exact rdo2 a b w
  · exact rdo3 a b w
  · exact rdo4 a b w
  · exact rdo5 a b w
  · exact rdo6 a b w
  · exact rdo7 a b w
  · exact rdo8 a b w
  · exact rdo9 a b w
  · exact rdo10 a b w
  · exact rdo11 a b w

set_option maxHeartbeats 400000 in
theorem rdo_none (op a b : Int) (w : World) (h : ¬ (1 ≤ op ∧ op ≤ 11)) :
    Calls Tryd.prog 68 #[.int .i64 op, .int .i64 a, .int .i64 b] w fun e w' => e = .returned (.tuple #[.int .i64 0, .bool false]) ∧ w' = w := by
  have n1 : (op == 1) = false := by simp; omega
  have n2 : (op == 2) = false := by simp; omega
  have n3 : (op == 3) = false := by simp; omega
  have n4 : (op == 4) = false := by simp; omega
  have n5 : (op == 5) = false := by simp; omega
  have n6 : (op == 6) = false := by simp; omega
  have n7 : (op == 7) = false := by simp; omega
  have n8 : (op == 8) = false := by simp; omega
  have n9 : (op == 9) = false := by simp; omega
  have n10 : (op == 10) = false := by simp; omega
  have n11 : (op == 11) = false := by simp; omega
  clear h
  go_enter Tryd.func68, Tryd.ntmps68
  go_wp2
  go_ret2
  exact ⟨rfl, rfl⟩
theorem rdo_any (op a b : Int) (w : World) : Calls Tryd.prog 68 #[.int .i64 op, .int .i64 a, .int .i64 b] w fun e w' => e = .returned (.tuple #[.int .i64 (doV op a b), .bool (doB op)]) ∧ w' = w := by
  by_cases h : 1 ≤ op ∧ op ≤ 11
  · have hb : doB op = true := by unfold doB; simp; omega
    rw [hb]; exact rdo_is op a b w h
  · have hb : doB op = false := by unfold doB; simp; omega
    rw [hb, doV_none op a b h]; exact rdo_none op a b w h
end Go.Proofs.YtengdlchglkkjaaDoor

namespace Go.Proofs.YtengdlchglkkjaaDoor
open Go.RowKit

set_option maxHeartbeats 1000000 in
theorem rvalue_is (o : Opd) (l : LocT) (w : World) : Calls Tryd.prog 67 #[.agg #[.int .i64 o.r, .int .i64 o.v], locV l] w fun e w' => e = .returned (.int .i64 (valOf o l)) ∧ On w w' := by
  obtain ⟨r, v⟩ := o
  obtain ⟨pc, r0, r1, r2, r3⟩ := l
  unfold valOf locV
  cases h : regOk r with
  | false =>
    by_cases h0 : 0 ≤ r
    · have h3 : decide (r ≤ 3) = false := by unfold regOk at h; simp at h; simp; omega
      go_enter Tryd.func67, Tryd.ntmps67
      go_wp2
      go_ret
      exact ⟨rfl, ((On.refl w).alloc _).alloc _⟩
    · go_enter Tryd.func67, Tryd.ntmps67
      go_wp2
      go_ret
      exact ⟨rfl, ((On.refl w).alloc _).alloc _⟩
  | true =>
    rcases regOk_four h with rfl | rfl | rfl | rfl
    all_goals
      go_enter Tryd.func67, Tryd.ntmps67
      go_wp2
      go_ret
      exact ⟨rfl, ((On.refl w).alloc _).alloc _⟩
end Go.Proofs.YtengdlchglkkjaaDoor

namespace Go.Proofs.YtengdlchglkkjaaDoor
open Go.RowKit

set_option maxHeartbeats 8000000 in
set_option maxRecDepth 8000 in
theorem rnormal_is (LL : List (List InsT)) (t : Nat) (L : List InsT) (l0 : LocT) (v : Value) (w : World) (h : ProgRd w v LL) (hL : LL[t]? = some L) (h0 : 0 ≤ l0.pc)
    (hok : ∀ (i : Nat) (x : InsT), L[i]? = some x → (x.k = 5 → regOk x.r = true) ∧ (x.k = 6 → 0 ≤ x.n ∧ x.n ≤ (L.length : Int) - i - 1)) :
    Calls Tryd.prog 44 #[v, .int .i64 t, locV l0] w fun e w' => e = .returned (locV (settleP L l0)) ∧ On w w' := by
  obtain ⟨a1, m1, c1, a2, m2, c2, a, c, rfl, r⟩ := h
  have HR : Hid (Rd2 insC 9 w (.slice a LL.length c) LL) := r
  obtain ⟨_, _, _, _, hmL⟩ := r.slice
  have htl : t < LL.length := (List.getElem?_eq_some_iff.1 hL).1
  obtain ⟨ga, oa, rfl, hga, ax, cx, uax, hxm, rx⟩ := r.row hL
  have HX : Hid (Rd insC 9 w (.slice ax L.length cx) L) := rx
  have HOK : Hid (∀ (i : Nat) (x : InsT), L[i]? = some x → (x.k = 5 → regOk x.r = true) ∧ (x.k = 6 → 0 ≤ x.n ∧ x.n ≤ (L.length : Int) - i - 1)) := hok
  clear r rx hL hok
  obtain ⟨R, hR⟩ : ∃ R, R = locV (settleP L l0) := ⟨_, rfl⟩
  rw [← hR]
  obtain ⟨pc, p0, p1, p2, p3⟩ := l0
  obtain ⟨n0, rfl⟩ : ∃ n : Nat, pc = (n : Int) := ⟨pc.toNat, by have : 0 ≤ pc := h0; omega⟩
  have HS : Hid (R = locV (settleP L ⟨(n0 : Int), p0, p1, p2, p3⟩)) := hR
  clear hR h0
  unfold locV
  obtain ⟨W0, hW0⟩ : ∃ W0, W0 = ((w.alloc (.cells #[.slice a1 m1 c1, .slice a2 m2 c2, .slice (some ⟨ga, oa, none⟩) LL.length c] 40)).alloc (.cells #[.int .i64 (n0 : Int), .int .i64 p0, .int .i64 p1, .int .i64 p2, .int .i64 p3] 48)).alloc (.cells #[.int .i64 0, .int .i64 0, .int .i64 0, .int .i64 0, .int .i64 0] 48) := ⟨_, rfl⟩
  have K0 : On w W0 := by rw [hW0]; exact (((On.refl w).alloc _).alloc _).alloc _
  have PB0 : Bk W0 w.heap.size #[.slice a1 m1 c1, .slice a2 m2 c2, .slice (some ⟨ga, oa, none⟩) LL.length c] := by rw [hW0]; exact ((Bk.new w _ _).alloc _).alloc _
  have CB0 : Bk W0 (w.heap.size + 1) #[.int .i64 (n0 : Int), .int .i64 p0, .int .i64 p1, .int .i64 p2, .int .i64 p3] := by
    rw [hW0]
    have := (Bk.new (w.alloc (.cells #[.slice a1 m1 c1, .slice a2 m2 c2, .slice (some ⟨ga, oa, none⟩) LL.length c] 40)) #[.int .i64 (n0 : Int), .int .i64 p0, .int .i64 p1, .int .i64 p2, .int .i64 p3] 48).alloc (.cells #[.int .i64 0, .int .i64 0, .int .i64 0, .int .i64 0, .int .i64 0] 48)
    rwa [World.size_alloc] at this
  have ZB0 : Bk W0 (w.heap.size + 1 + 1) #[.int .i64 0, .int .i64 0, .int .i64 0, .int .i64 0, .int .i64 0] := by
    rw [hW0]
    have := Bk.new ((w.alloc (.cells #[.slice a1 m1 c1, .slice a2 m2 c2, .slice (some ⟨ga, oa, none⟩) LL.length c] 40)).alloc (.cells #[.int .i64 (n0 : Int), .int .i64 p0, .int .i64 p1, .int .i64 p2, .int .i64 p3] 48)) #[.int .i64 0, .int .i64 0, .int .i64 0, .int .i64 0, .int .i64 0] 48
    rwa [World.size_alloc, World.size_alloc] at this
  go_enter Tryd.func44, Tryd.ntmps44
  go_wp2
  rw [← hW0]
  clear hW0
  go_loopg [] (L.length - n0) (fun gg wq => ∃ (n : Nat) (r0 r1 r2 r3 : Int), gg = L.length - n ∧ Hid (On w wq) ∧ Bk wq w.heap.size #[.slice a1 m1 c1, .slice a2 m2 c2, .slice (some ⟨ga, oa, none⟩) LL.length c] ∧ Bk wq (w.heap.size + 1) #[.int .i64 (n : Int), .int .i64 r0, .int .i64 r1, .int .i64 r2, .int .i64 r3] ∧ Bk wq (w.heap.size + 1 + 1) #[.int .i64 0, .int .i64 0, .int .i64 0, .int .i64 0, .int .i64 0] ∧ Hid (R = locV (settleP L ⟨(n : Int), r0, r1, r2, r3⟩)))
  case atStart => exact ⟨n0, p0, p1, p2, p3, rfl, K0, PB0, CB0, ZB0, HS⟩
  case round =>
    clear HS PB0 CB0 ZB0
    obtain ⟨n, r0, r1, r2, r3, hgg, HO, PB, CB, ZB, HS⟩ := hrel
    have pl := PB.lt
    have cl := CB.lt
    have zl := ZB.lt
    have q2 := PB.at (i := 2) rfl
    have c0 := CB.at (i := 0) rfl
    have u0 := (HO.out.cell (p := ⟨ga, oa + t, none⟩) hga).trans uax
    have qS : (fun W : World => W.cell? ⟨w.heap.size, 2, none⟩ = some (.slice (some ⟨ga, oa, none⟩) LL.length c) ∧ W.cell? ⟨w.heap.size + 1, 0, none⟩ = some (.int .i64 (n : Int)) ∧ W.cell? ⟨ga, oa + t, none⟩ = some (.slice ax L.length cx)) wr.drew := ⟨q2, c0, u0⟩
    rcases Nat.lt_or_ge n L.length with hlt | hge
    · obtain ⟨x, hx⟩ : ∃ x, L[n]? = some x := ⟨_, List.getElem?_eq_getElem hlt⟩
      have hst := settle_step (L := L) (l := ⟨(n : Int), r0, r1, r2, r3⟩) (i := x) (Int.natCast_nonneg n) (by simpa using hx)
      obtain ⟨hok5, hok6⟩ := HOK.out n x hx
      go_wp2
      refine region_fin (fun W => W.cell? ⟨w.heap.size, 2, none⟩ = some (.slice (some ⟨ga, oa, none⟩) LL.length c) ∧ W.cell? ⟨w.heap.size + 1, 0, none⟩ = some (.int .i64 (n : Int)) ∧ W.cell? ⟨ga, oa + t, none⟩ = some (.slice ax L.length cx)) 99 9 (by kernel_rfl) rfl ?_
      refine fin_take 0 (v := ?_) rfl (by kernel_rfl) (by kernel_rfl) (by kernel_rfl) (by kernel_rfl) (fun _ _ _ h => h) rfl ?_ qS ?_
      rotate_left
      · intro W hW
        go_simp
        (try with_reducible rfl)
      simp only [Act.put, List.setIfInBounds_toArray, List.set_cons_zero, List.set_cons_succ]
      refine fin_take 1 (v := ?_) rfl (by kernel_rfl) (by kernel_rfl) (by kernel_rfl) (by kernel_rfl) (fun _ _ _ h => h) rfl ?_ qS ?_
      rotate_left
      · intro W hW
        go_simp
        (try with_reducible rfl)
      simp only [Act.put, List.setIfInBounds_toArray, List.set_cons_zero, List.set_cons_succ]
      refine fin_take 2 (v := ?_) rfl (by kernel_rfl) (by kernel_rfl) (by kernel_rfl) (by kernel_rfl) (fun _ _ _ h => h) rfl ?_ qS ?_
      rotate_left
      · intro W hW
        go_simp
        (try with_reducible rfl)
      simp only [Act.put, List.setIfInBounds_toArray, List.set_cons_zero, List.set_cons_succ]
      refine fin_take 3 (v := ?_) rfl (by kernel_rfl) (by kernel_rfl) (by kernel_rfl) (by kernel_rfl) (fun _ _ _ h => h) rfl ?_ qS ?_
      rotate_left
      · intro W hW
        go_simp
        (try with_reducible rfl)
      simp only [Act.put, List.setIfInBounds_toArray, List.set_cons_zero, List.set_cons_succ]
      refine fin_take 4 (v := ?_) rfl (by kernel_rfl) (by kernel_rfl) (by kernel_rfl) (by kernel_rfl) (fun _ _ _ h => h) rfl ?_ qS ?_
      rotate_left
      · intro W hW
        go_simp
        (try with_reducible rfl)
      simp only [Act.put, List.setIfInBounds_toArray, List.set_cons_zero, List.set_cons_succ]
      refine fin_take 5 (v := ?_) rfl (by kernel_rfl) (by kernel_rfl) (by kernel_rfl) (by kernel_rfl) (fun _ _ _ h => h) rfl ?_ qS ?_
      rotate_left
      · intro W hW
        go_simp
        (try with_reducible rfl)
      simp only [Act.put, List.setIfInBounds_toArray, List.set_cons_zero, List.set_cons_succ]
      refine fin_take 6 (v := ?_) rfl (by kernel_rfl) (by kernel_rfl) (by kernel_rfl) (by kernel_rfl) (fun _ _ _ h => h) rfl ?_ qS ?_
      rotate_left
      · intro W hW
        go_simp
        (try with_reducible rfl)
      simp only [Act.put, List.setIfInBounds_toArray, List.set_cons_zero, List.set_cons_succ]
      refine fin_take 7 (v := ?_) rfl (by kernel_rfl) (by kernel_rfl) (by kernel_rfl) (by kernel_rfl) (fun _ _ _ h => h) rfl ?_ qS ?_
      rotate_left
      · intro W hW
        go_simp
        (try with_reducible rfl)
      simp only [Act.put, List.setIfInBounds_toArray, List.set_cons_zero, List.set_cons_succ]
      refine fin_take 8 (v := ?_) rfl (by kernel_rfl) (by kernel_rfl) (by kernel_rfl) (by kernel_rfl) (fun _ _ _ h => h) rfl ?_ qS ?_
      rotate_left
      · intro W hW
        go_simp
        (try with_reducible rfl)
      simp only [Act.put, List.setIfInBounds_toArray, List.set_cons_zero, List.set_cons_succ]
      refine fin_done (by kernel_rfl) (NoPanic.normal ?_)
      clear qS
      obtain ⟨gx, ox, rfl, hgx, hcell⟩ := (HX.out.on HO.out).at hx
      have qI : ∀ W, On wr W → W.cell? ⟨w.heap.size, 2, none⟩ = some (.slice (some ⟨ga, oa, none⟩) LL.length c) ∧ W.cell? ⟨w.heap.size + 1, 0, none⟩ = some (.int .i64 (n : Int)) ∧ W.cell? ⟨ga, oa + t, none⟩ = some (.slice (some ⟨gx, ox, none⟩) L.length cx) ∧ W.cell? ⟨gx, ox + n * 9, none⟩ = some (.int .i64 x.k) ∧ W.cell? ⟨gx, ox + n * 9 + 1, none⟩ = some (.int .i64 x.r) ∧ W.cell? ⟨gx, ox + n * 9 + 2, none⟩ = some (.int .i64 x.l) ∧ W.cell? ⟨gx, ox + n * 9 + 3, none⟩ = some (.int .i64 x.a.r) ∧ W.cell? ⟨gx, ox + n * 9 + 4, none⟩ = some (.int .i64 x.a.v) ∧ W.cell? ⟨gx, ox + n * 9 + 5, none⟩ = some (.int .i64 x.o) ∧ W.cell? ⟨gx, ox + n * 9 + 6, none⟩ = some (.int .i64 x.b.r) ∧ W.cell? ⟨gx, ox + n * 9 + 7, none⟩ = some (.int .i64 x.b.v) ∧ W.cell? ⟨gx, ox + n * 9 + 8, none⟩ = some (.int .i64 x.n) := fun W k => ⟨(PB.on k).at (i := 2) rfl, (CB.on k).at (i := 0) rfl, (k.cell (p := ⟨ga, oa + t, none⟩) (Nat.lt_of_lt_of_le hga HO.out.size)).trans u0, (k.cell (p := ⟨gx, ox + n * 9 + 0, none⟩) hgx).trans (hcell 0 _ rfl), (k.cell (p := ⟨gx, ox + n * 9 + 1, none⟩) hgx).trans (hcell 1 _ rfl), (k.cell (p := ⟨gx, ox + n * 9 + 2, none⟩) hgx).trans (hcell 2 _ rfl), (k.cell (p := ⟨gx, ox + n * 9 + 3, none⟩) hgx).trans (hcell 3 _ rfl), (k.cell (p := ⟨gx, ox + n * 9 + 4, none⟩) hgx).trans (hcell 4 _ rfl), (k.cell (p := ⟨gx, ox + n * 9 + 5, none⟩) hgx).trans (hcell 5 _ rfl), (k.cell (p := ⟨gx, ox + n * 9 + 6, none⟩) hgx).trans (hcell 6 _ rfl), (k.cell (p := ⟨gx, ox + n * 9 + 7, none⟩) hgx).trans (hcell 7 _ rfl), (k.cell (p := ⟨gx, ox + n * 9 + 8, none⟩) hgx).trans (hcell 8 _ rfl)⟩
      have q9 := qI _ (On.refl wr).drew.drew
      go_wp2
      refine region_fin (fun W => W.cell? ⟨w.heap.size, 2, none⟩ = some (.slice (some ⟨ga, oa, none⟩) LL.length c) ∧ W.cell? ⟨w.heap.size + 1, 0, none⟩ = some (.int .i64 (n : Int)) ∧ W.cell? ⟨ga, oa + t, none⟩ = some (.slice (some ⟨gx, ox, none⟩) L.length cx) ∧ W.cell? ⟨gx, ox + n * 9, none⟩ = some (.int .i64 x.k) ∧ W.cell? ⟨gx, ox + n * 9 + 1, none⟩ = some (.int .i64 x.r) ∧ W.cell? ⟨gx, ox + n * 9 + 2, none⟩ = some (.int .i64 x.l) ∧ W.cell? ⟨gx, ox + n * 9 + 3, none⟩ = some (.int .i64 x.a.r) ∧ W.cell? ⟨gx, ox + n * 9 + 4, none⟩ = some (.int .i64 x.a.v) ∧ W.cell? ⟨gx, ox + n * 9 + 5, none⟩ = some (.int .i64 x.o) ∧ W.cell? ⟨gx, ox + n * 9 + 6, none⟩ = some (.int .i64 x.b.r) ∧ W.cell? ⟨gx, ox + n * 9 + 7, none⟩ = some (.int .i64 x.b.v) ∧ W.cell? ⟨gx, ox + n * 9 + 8, none⟩ = some (.int .i64 x.n)) 10 11 (by kernel_rfl) rfl ?_
      refine fin_take 0 (v := ?_) rfl (by kernel_rfl) (by kernel_rfl) (by kernel_rfl) (by kernel_rfl) (fun _ _ _ h => h) rfl ?_ q9 ?_
      rotate_left
      · intro W hW
        go_simp
        (try with_reducible rfl)
      simp only [Act.put, List.setIfInBounds_toArray, List.set_cons_zero, List.set_cons_succ]
      refine fin_take 1 (v := ?_) rfl (by kernel_rfl) (by kernel_rfl) (by kernel_rfl) (by kernel_rfl) (fun _ _ _ h => h) rfl ?_ q9 ?_
      rotate_left
      · intro W hW
        go_simp
        (try with_reducible rfl)
      simp only [Act.put, List.setIfInBounds_toArray, List.set_cons_zero, List.set_cons_succ]
      refine fin_take 2 (v := ?_) rfl (by kernel_rfl) (by kernel_rfl) (by kernel_rfl) (by kernel_rfl) (fun _ _ _ h => h) rfl ?_ q9 ?_
      rotate_left
      · intro W hW
        go_simp
        (try with_reducible rfl)
      simp only [Act.put, List.setIfInBounds_toArray, List.set_cons_zero, List.set_cons_succ]
      refine fin_take 3 (v := ?_) rfl (by kernel_rfl) (by kernel_rfl) (by kernel_rfl) (by kernel_rfl) (fun _ _ _ h => h) rfl ?_ q9 ?_
      rotate_left
      · intro W hW
        go_simp
        (try with_reducible rfl)
      simp only [Act.put, List.setIfInBounds_toArray, List.set_cons_zero, List.set_cons_succ]
      refine fin_take 4 (v := ?_) rfl (by kernel_rfl) (by kernel_rfl) (by kernel_rfl) (by kernel_rfl) (fun _ _ _ h => h) rfl ?_ q9 ?_
      rotate_left
      · intro W hW
        go_simp
        (try with_reducible rfl)
      simp only [Act.put, List.setIfInBounds_toArray, List.set_cons_zero, List.set_cons_succ]
      refine fin_take 5 (v := ?_) rfl (by kernel_rfl) (by kernel_rfl) (by kernel_rfl) (by kernel_rfl) (fun _ _ _ h => h) rfl ?_ q9 ?_
      rotate_left
      · intro W hW
        go_simp
        (try with_reducible rfl)
      simp only [Act.put, List.setIfInBounds_toArray, List.set_cons_zero, List.set_cons_succ]
      refine fin_take 6 (v := ?_) rfl (by kernel_rfl) (by kernel_rfl) (by kernel_rfl) (by kernel_rfl) (fun _ _ _ h => h) rfl ?_ q9 ?_
      rotate_left
      · intro W hW
        go_simp
        (try with_reducible rfl)
      simp only [Act.put, List.setIfInBounds_toArray, List.set_cons_zero, List.set_cons_succ]
      refine fin_take 7 (v := ?_) rfl (by kernel_rfl) (by kernel_rfl) (by kernel_rfl) (by kernel_rfl) (fun _ _ _ h => h) rfl ?_ q9 ?_
      rotate_left
      · intro W hW
        go_simp
        (try with_reducible rfl)
      simp only [Act.put, List.setIfInBounds_toArray, List.set_cons_zero, List.set_cons_succ]
      refine fin_take 8 (v := ?_) rfl (by kernel_rfl) (by kernel_rfl) (by kernel_rfl) (by kernel_rfl) (fun _ _ _ h => h) rfl ?_ q9 ?_
      rotate_left
      · intro W hW
        go_simp
        (try with_reducible rfl)
      simp only [Act.put, List.setIfInBounds_toArray, List.set_cons_zero, List.set_cons_succ]
      refine fin_one 9 rfl rfl (by kernel_rfl) (fun K hK => ?_)
      go_simp
      refine hK.out _ _ (fun _ => qI _ (((On.refl wr).drew.drew).alloc _)) ?_
      clear hK
      refine fin_one 10 rfl rfl (by kernel_rfl) (fun K hK => ?_)
      go_simp
      refine hK.out _ _ (fun h => absurd rfl h) ?_
      refine fin_done (by kernel_rfl) (NoPanic.normal ?_)
      obtain ⟨W1, hW1⟩ : ∃ W1, W1 = (wr.alloc (.cells #[.int .i64 x.k, .int .i64 x.r, .int .i64 x.l, .int .i64 x.a.r, .int .i64 x.a.v, .int .i64 x.o, .int .i64 x.b.r, .int .i64 x.b.v, .int .i64 x.n] 53)).drew.drew := ⟨_, rfl⟩
      have k1 : On wr W1 := by rw [hW1]; exact ((On.refl wr).alloc _).drew.drew
      have I1 : Bk W1 wr.heap.size #[.int .i64 x.k, .int .i64 x.r, .int .i64 x.l, .int .i64 x.a.r, .int .i64 x.a.v, .int .i64 x.o, .int .i64 x.b.r, .int .i64 x.b.v, .int .i64 x.n] := by rw [hW1]; exact Bk.new wr _ _
      have P1 := PB.on k1
      have C1 := CB.on k1
      have Z1 := ZB.on k1
      have O1 : On w W1 := HO.out.trans k1
      rw [← hW1]
      clear hW1 q9 qI hcell u0 c0 q2 PB CB ZB
      have hS : ∀ W, On W1 W → W.cell? ⟨w.heap.size + 1, 0, none⟩ = some (.int .i64 (n : Int)) ∧ W.cell? ⟨w.heap.size + 1, 1, none⟩ = some (.int .i64 r0) ∧ W.cell? ⟨w.heap.size + 1, 2, none⟩ = some (.int .i64 r1) ∧ W.cell? ⟨w.heap.size + 1, 3, none⟩ = some (.int .i64 r2) ∧ W.cell? ⟨w.heap.size + 1, 4, none⟩ = some (.int .i64 r3) ∧ W.cell? ⟨wr.heap.size, 0, none⟩ = some (.int .i64 x.k) ∧ W.cell? ⟨wr.heap.size, 1, none⟩ = some (.int .i64 x.r) ∧ W.cell? ⟨wr.heap.size, 2, none⟩ = some (.int .i64 x.l) ∧ W.cell? ⟨wr.heap.size, 3, none⟩ = some (.int .i64 x.a.r) ∧ W.cell? ⟨wr.heap.size, 4, none⟩ = some (.int .i64 x.a.v) ∧ W.cell? ⟨wr.heap.size, 5, none⟩ = some (.int .i64 x.o) ∧ W.cell? ⟨wr.heap.size, 6, none⟩ = some (.int .i64 x.b.r) ∧ W.cell? ⟨wr.heap.size, 7, none⟩ = some (.int .i64 x.b.v) ∧ W.cell? ⟨wr.heap.size, 8, none⟩ = some (.int .i64 x.n) := fun W k => ⟨(C1.on k).at (i := 0) rfl, (C1.on k).at (i := 1) rfl, (C1.on k).at (i := 2) rfl, (C1.on k).at (i := 3) rfl, (C1.on k).at (i := 4) rfl, (I1.on k).at (i := 0) rfl, (I1.on k).at (i := 1) rfl, (I1.on k).at (i := 2) rfl, (I1.on k).at (i := 3) rfl, (I1.on k).at (i := 4) rfl, (I1.on k).at (i := 5) rfl, (I1.on k).at (i := 6) rfl, (I1.on k).at (i := 7) rfl, (I1.on k).at (i := 8) rfl⟩
      have hVa := fun W => rvalue_is x.a ⟨(n : Int), r0, r1, r2, r3⟩ W
      have hVb := fun W => rvalue_is x.b ⟨(n : Int), r0, r1, r2, r3⟩ W
      unfold locV at hVa hVb
      have hwr : w.heap.size + 1 + 1 < wr.heap.size := zl
      have hne : ¬ wr.heap.size = w.heap.size := by omega
      have hne' : ¬ wr.heap.size = w.heap.size + 1 := by omega
      have il := I1.lt
      have wl1 : w.heap.size < W1.heap.size := by omega
      have wl2 : w.heap.size + 1 < W1.heap.size := by omega
      have wl3 : w.heap.size + 1 + 1 < W1.heap.size := by omega
      obtain ⟨y0, y1, y2, y3, y4, y5, y6, y7, y8, y9, y10, y11, y12, y13⟩ := hS _ (On.refl W1)
      cases h5 : (x.k == 5) with
      | true =>
        rw [h5] at hst
        simp only [if_true] at hst
        have hreg := hok5 (by simpa using h5)
        have h0 : ((x.o == 0) = true ∧ resOf x ⟨(n : Int), r0, r1, r2, r3⟩ = valOf x.a ⟨(n : Int), r0, r1, r2, r3⟩) ∨ ((x.o == 0) = false ∧ resOf x ⟨(n : Int), r0, r1, r2, r3⟩ = doV x.o (valOf x.a ⟨(n : Int), r0, r1, r2, r3⟩) (valOf x.b ⟨(n : Int), r0, r1, r2, r3⟩)) := by
          cases ho : (x.o == 0)
          · exact Or.inr ⟨rfl, by unfold resOf; rw [ho]; rfl⟩
          · exact Or.inl ⟨rfl, by unfold resOf; rw [ho]; rfl⟩
        have HS1 : Hid (R = locV (settleP L (pcTo (withR ⟨(n : Int), r0, r1, r2, r3⟩ x.r (resOf x ⟨(n : Int), r0, r1, r2, r3⟩)) ((n : Int) + 1)))) := HS.out.trans (congrArg locV hst)
        clear hst HS hok5 hok6
        rcases h0 with ⟨ho, hres⟩ | ⟨ho, hres⟩
        · rw [hres] at HS1
          generalize valOf x.a ⟨(n : Int), r0, r1, r2, r3⟩ = va at *
          have hob : (x.o != 0) = false := by rw [bne, ho]; rfl
          clear hres
          rcases regOk_four hreg with hr | hr | hr | hr
          · have HS2 : Hid (R = locV (settleP L ⟨((n + 1 : Nat) : Int), va, r1, r2, r3⟩)) := by
              show R = _
              rw [HS1.out, hr]
              rfl
            clear HS1 hreg
            go_wp2_with fail
            refine (hVa _).mono ?_
            rintro _ w3 ⟨rfl, k3⟩
            obtain ⟨y0, y1, y2, y3, y4, y5, y6, y7, y8, y9, y10, y11, y12, y13⟩ := hS _ k3
            have C2 := C1.on k3
            have P2 := P1.on k3
            have Z2 := Z1.on k3
            have I2 := I1.on k3
            have O2 := O1.trans k3
            have cf := fun i => C2.fr i
            have c3l := C2.lt
            have i3l := I2.lt
            go_wp2
            go_roundg (L.length - (n + 1))
            case measure => omega
            case rel => exact ⟨n + 1, va, r1, r2, r3, rfl, (O2.setNew (by omega) _).setNew (by omega) _, (P2.far (by omega) _ _).far (by omega) _ _, Bk.put (cs := [.int .i64 (n : Int), .int .i64 va, .int .i64 r1, .int .i64 r2, .int .i64 r3]) (C2.put (cs := [.int .i64 (n : Int), .int .i64 r0, .int .i64 r1, .int .i64 r2, .int .i64 r3]) 1 (.int .i64 va)) 0 (.int .i64 ((n + 1 : Nat) : Int)), (Z2.far (by omega) _ _).far (by omega) _ _, HS2⟩
          · have HS2 : Hid (R = locV (settleP L ⟨((n + 1 : Nat) : Int), r0, va, r2, r3⟩)) := by
              show R = _
              rw [HS1.out, hr]
              rfl
            clear HS1 hreg
            go_wp2_with fail
            refine (hVa _).mono ?_
            rintro _ w3 ⟨rfl, k3⟩
            obtain ⟨y0, y1, y2, y3, y4, y5, y6, y7, y8, y9, y10, y11, y12, y13⟩ := hS _ k3
            have C2 := C1.on k3
            have P2 := P1.on k3
            have Z2 := Z1.on k3
            have I2 := I1.on k3
            have O2 := O1.trans k3
            have cf := fun i => C2.fr i
            have c3l := C2.lt
            have i3l := I2.lt
            go_wp2
            go_roundg (L.length - (n + 1))
            case measure => omega
            case rel => exact ⟨n + 1, r0, va, r2, r3, rfl, (O2.setNew (by omega) _).setNew (by omega) _, (P2.far (by omega) _ _).far (by omega) _ _, Bk.put (cs := [.int .i64 (n : Int), .int .i64 r0, .int .i64 va, .int .i64 r2, .int .i64 r3]) (C2.put (cs := [.int .i64 (n : Int), .int .i64 r0, .int .i64 r1, .int .i64 r2, .int .i64 r3]) 2 (.int .i64 va)) 0 (.int .i64 ((n + 1 : Nat) : Int)), (Z2.far (by omega) _ _).far (by omega) _ _, HS2⟩
          · have HS2 : Hid (R = locV (settleP L ⟨((n + 1 : Nat) : Int), r0, r1, va, r3⟩)) := by
              show R = _
              rw [HS1.out, hr]
              rfl
            clear HS1 hreg
            go_wp2_with fail
            refine (hVa _).mono ?_
            rintro _ w3 ⟨rfl, k3⟩
            obtain ⟨y0, y1, y2, y3, y4, y5, y6, y7, y8, y9, y10, y11, y12, y13⟩ := hS _ k3
            have C2 := C1.on k3
            have P2 := P1.on k3
            have Z2 := Z1.on k3
            have I2 := I1.on k3
            have O2 := O1.trans k3
            have cf := fun i => C2.fr i
            have c3l := C2.lt
            have i3l := I2.lt
            go_wp2
            go_roundg (L.length - (n + 1))
            case measure => omega
            case rel => exact ⟨n + 1, r0, r1, va, r3, rfl, (O2.setNew (by omega) _).setNew (by omega) _, (P2.far (by omega) _ _).far (by omega) _ _, Bk.put (cs := [.int .i64 (n : Int), .int .i64 r0, .int .i64 r1, .int .i64 va, .int .i64 r3]) (C2.put (cs := [.int .i64 (n : Int), .int .i64 r0, .int .i64 r1, .int .i64 r2, .int .i64 r3]) 3 (.int .i64 va)) 0 (.int .i64 ((n + 1 : Nat) : Int)), (Z2.far (by omega) _ _).far (by omega) _ _, HS2⟩
          · have HS2 : Hid (R = locV (settleP L ⟨((n + 1 : Nat) : Int), r0, r1, r2, va⟩)) := by
              show R = _
              rw [HS1.out, hr]
              rfl
            clear HS1 hreg
            go_wp2_with fail
            refine (hVa _).mono ?_
            rintro _ w3 ⟨rfl, k3⟩
            obtain ⟨y0, y1, y2, y3, y4, y5, y6, y7, y8, y9, y10, y11, y12, y13⟩ := hS _ k3
            have C2 := C1.on k3
            have P2 := P1.on k3
            have Z2 := Z1.on k3
            have I2 := I1.on k3
            have O2 := O1.trans k3
            have cf := fun i => C2.fr i
            have c3l := C2.lt
            have i3l := I2.lt
            go_wp2
            go_roundg (L.length - (n + 1))
            case measure => omega
            case rel => exact ⟨n + 1, r0, r1, r2, va, rfl, (O2.setNew (by omega) _).setNew (by omega) _, (P2.far (by omega) _ _).far (by omega) _ _, Bk.put (cs := [.int .i64 (n : Int), .int .i64 r0, .int .i64 r1, .int .i64 r2, .int .i64 va]) (C2.put (cs := [.int .i64 (n : Int), .int .i64 r0, .int .i64 r1, .int .i64 r2, .int .i64 r3]) 4 (.int .i64 va)) 0 (.int .i64 ((n + 1 : Nat) : Int)), (Z2.far (by omega) _ _).far (by omega) _ _, HS2⟩
        · rw [hres] at HS1
          have hob : (x.o != 0) = true := by rw [bne, ho]; rfl
          have hDo := fun W => rdo_any x.o (valOf x.a ⟨(n : Int), r0, r1, r2, r3⟩) (valOf x.b ⟨(n : Int), r0, r1, r2, r3⟩) W
          generalize doV x.o (valOf x.a ⟨(n : Int), r0, r1, r2, r3⟩) (valOf x.b ⟨(n : Int), r0, r1, r2, r3⟩) = vd at *
          generalize valOf x.a ⟨(n : Int), r0, r1, r2, r3⟩ = va at *
          generalize valOf x.b ⟨(n : Int), r0, r1, r2, r3⟩ = vb at *
          generalize doB x.o = bo at *
          clear hres
          rcases regOk_four hreg with hr | hr | hr | hr
          · have HS2 : Hid (R = locV (settleP L ⟨((n + 1 : Nat) : Int), vd, r1, r2, r3⟩)) := by
              show R = _
              rw [HS1.out, hr]
              rfl
            clear HS1 hreg
            go_wp2_with fail
            refine (hVa _).mono ?_
            rintro _ w2 ⟨rfl, k2⟩
            obtain ⟨y0, y1, y2, y3, y4, y5, y6, y7, y8, y9, y10, y11, y12, y13⟩ := hS _ k2
            have q2 := hS _ k2.drew
            have i2l := Nat.lt_of_lt_of_le il k2.size
            have c2l := Nat.lt_of_lt_of_le wl2 k2.size
            go_wp2
            refine region_fin (fun W => W.cell? ⟨w.heap.size + 1, 0, none⟩ = some (.int .i64 (n : Int)) ∧ W.cell? ⟨w.heap.size + 1, 1, none⟩ = some (.int .i64 r0) ∧ W.cell? ⟨w.heap.size + 1, 2, none⟩ = some (.int .i64 r1) ∧ W.cell? ⟨w.heap.size + 1, 3, none⟩ = some (.int .i64 r2) ∧ W.cell? ⟨w.heap.size + 1, 4, none⟩ = some (.int .i64 r3) ∧ W.cell? ⟨wr.heap.size, 0, none⟩ = some (.int .i64 x.k) ∧ W.cell? ⟨wr.heap.size, 1, none⟩ = some (.int .i64 x.r) ∧ W.cell? ⟨wr.heap.size, 2, none⟩ = some (.int .i64 x.l) ∧ W.cell? ⟨wr.heap.size, 3, none⟩ = some (.int .i64 x.a.r) ∧ W.cell? ⟨wr.heap.size, 4, none⟩ = some (.int .i64 x.a.v) ∧ W.cell? ⟨wr.heap.size, 5, none⟩ = some (.int .i64 x.o) ∧ W.cell? ⟨wr.heap.size, 6, none⟩ = some (.int .i64 x.b.r) ∧ W.cell? ⟨wr.heap.size, 7, none⟩ = some (.int .i64 x.b.v) ∧ W.cell? ⟨wr.heap.size, 8, none⟩ = some (.int .i64 x.n)) 99 12 (by kernel_rfl) rfl ?_
            refine fin_take 0 (v := ?_) rfl (by kernel_rfl) (by kernel_rfl) (by kernel_rfl) (by kernel_rfl) (fun _ _ _ h => h) rfl ?_ q2 ?_
            rotate_left
            · intro W hW
              go_simp
              (try with_reducible rfl)
            simp only [Act.put, List.setIfInBounds_toArray, List.set_cons_zero, List.set_cons_succ]
            refine fin_take 1 (v := ?_) rfl (by kernel_rfl) (by kernel_rfl) (by kernel_rfl) (by kernel_rfl) (fun _ _ _ h => h) rfl ?_ q2 ?_
            rotate_left
            · intro W hW
              go_simp
              (try with_reducible rfl)
            simp only [Act.put, List.setIfInBounds_toArray, List.set_cons_zero, List.set_cons_succ]
            refine fin_take 2 (v := ?_) rfl (by kernel_rfl) (by kernel_rfl) (by kernel_rfl) (by kernel_rfl) (fun _ _ _ h => h) rfl ?_ q2 ?_
            rotate_left
            · intro W hW
              go_simp
              (try with_reducible rfl)
            simp only [Act.put, List.setIfInBounds_toArray, List.set_cons_zero, List.set_cons_succ]
            refine fin_take 3 (v := ?_) rfl (by kernel_rfl) (by kernel_rfl) (by kernel_rfl) (by kernel_rfl) (fun _ _ _ h => h) rfl ?_ q2 ?_
            rotate_left
            · intro W hW
              go_simp
              (try with_reducible rfl)
            simp only [Act.put, List.setIfInBounds_toArray, List.set_cons_zero, List.set_cons_succ]
            refine fin_take 4 (v := ?_) rfl (by kernel_rfl) (by kernel_rfl) (by kernel_rfl) (by kernel_rfl) (fun _ _ _ h => h) rfl ?_ q2 ?_
            rotate_left
            · intro W hW
              go_simp
              (try with_reducible rfl)
            simp only [Act.put, List.setIfInBounds_toArray, List.set_cons_zero, List.set_cons_succ]
            refine fin_take 5 (v := ?_) rfl (by kernel_rfl) (by kernel_rfl) (by kernel_rfl) (by kernel_rfl) (fun _ _ _ h => h) rfl ?_ q2 ?_
            rotate_left
            · intro W hW
              go_simp
              (try with_reducible rfl)
            simp only [Act.put, List.setIfInBounds_toArray, List.set_cons_zero, List.set_cons_succ]
            refine fin_one 6 rfl rfl (by kernel_rfl) (fun K hK => ?_)
            go_simp
            refine (hVb _).mono ?_
            rintro _ w3 ⟨rfl, k3'⟩
            have k3 : On W1 w3 := k2.drew.trans k3'
            have q3 := hS _ k3
            refine hK.out _ _ (fun _ => q3) ?_
            clear hK
            refine fin_one 7 rfl rfl (by kernel_rfl) (fun K hK => ?_)
            go_simp
            refine (hDo _).mono ?_
            rintro _ w4 ⟨rfl, hw4⟩
            subst w4
            refine hK.out _ _ (fun _ => q3) ?_
            clear hK
            refine fin_take 8 (v := ?_) rfl (by kernel_rfl) (by kernel_rfl) (by kernel_rfl) (by kernel_rfl) (fun _ _ _ h => h) rfl ?_ q3 ?_
            rotate_left
            · intro W hW
              go_simp
              (try with_reducible rfl)
            simp only [Act.put, List.setIfInBounds_toArray, List.set_cons_zero, List.set_cons_succ]
            refine fin_take 9 (v := ?_) rfl (by kernel_rfl) (by kernel_rfl) (by kernel_rfl) (by kernel_rfl) (fun _ _ _ h => h) rfl ?_ q3 ?_
            rotate_left
            · intro W hW
              go_simp
              (try with_reducible rfl)
            simp only [Act.put, List.setIfInBounds_toArray, List.set_cons_zero, List.set_cons_succ]
            refine fin_take 10 (v := ?_) rfl (by kernel_rfl) (by kernel_rfl) (by kernel_rfl) (by kernel_rfl) (fun _ _ _ h => h) rfl ?_ q3 ?_
            rotate_left
            · intro W hW
              go_simp
              (try with_reducible rfl)
            simp only [Act.put, List.setIfInBounds_toArray, List.set_cons_zero, List.set_cons_succ]
            refine fin_take 11 (v := ?_) rfl (by kernel_rfl) (by kernel_rfl) (by kernel_rfl) (by kernel_rfl) (fun _ _ _ h => h) rfl ?_ q3 ?_
            rotate_left
            · intro W hW
              go_simp
              (try with_reducible rfl)
            simp only [Act.put, List.setIfInBounds_toArray, List.set_cons_zero, List.set_cons_succ]
            refine fin_done (by kernel_rfl) (NoPanic.normal ?_)
            obtain ⟨y0, y1, y2, y3, y4, y5, y6, y7, y8, y9, y10, y11, y12, y13⟩ := q3
            have C2 := C1.on k3
            have P2 := P1.on k3
            have Z2 := Z1.on k3
            have I2 := I1.on k3
            have O2 := O1.trans k3
            have cf := fun i => C2.fr i
            have c3l := C2.lt
            have i3l := I2.lt
            go_wp2
            go_roundg (L.length - (n + 1))
            case measure => omega
            case rel => exact ⟨n + 1, vd, r1, r2, r3, rfl, (O2.setNew (by omega) _).setNew (by omega) _, (P2.far (by omega) _ _).far (by omega) _ _, Bk.put (cs := [.int .i64 (n : Int), .int .i64 vd, .int .i64 r1, .int .i64 r2, .int .i64 r3]) (C2.put (cs := [.int .i64 (n : Int), .int .i64 r0, .int .i64 r1, .int .i64 r2, .int .i64 r3]) 1 (.int .i64 vd)) 0 (.int .i64 ((n + 1 : Nat) : Int)), (Z2.far (by omega) _ _).far (by omega) _ _, HS2⟩
          · have HS2 : Hid (R = locV (settleP L ⟨((n + 1 : Nat) : Int), r0, vd, r2, r3⟩)) := by
              show R = _
              rw [HS1.out, hr]
              rfl
            clear HS1 hreg
            go_wp2_with fail
            refine (hVa _).mono ?_
            rintro _ w2 ⟨rfl, k2⟩
            obtain ⟨y0, y1, y2, y3, y4, y5, y6, y7, y8, y9, y10, y11, y12, y13⟩ := hS _ k2
            have q2 := hS _ k2.drew
            have i2l := Nat.lt_of_lt_of_le il k2.size
            have c2l := Nat.lt_of_lt_of_le wl2 k2.size
            go_wp2
            refine region_fin (fun W => W.cell? ⟨w.heap.size + 1, 0, none⟩ = some (.int .i64 (n : Int)) ∧ W.cell? ⟨w.heap.size + 1, 1, none⟩ = some (.int .i64 r0) ∧ W.cell? ⟨w.heap.size + 1, 2, none⟩ = some (.int .i64 r1) ∧ W.cell? ⟨w.heap.size + 1, 3, none⟩ = some (.int .i64 r2) ∧ W.cell? ⟨w.heap.size + 1, 4, none⟩ = some (.int .i64 r3) ∧ W.cell? ⟨wr.heap.size, 0, none⟩ = some (.int .i64 x.k) ∧ W.cell? ⟨wr.heap.size, 1, none⟩ = some (.int .i64 x.r) ∧ W.cell? ⟨wr.heap.size, 2, none⟩ = some (.int .i64 x.l) ∧ W.cell? ⟨wr.heap.size, 3, none⟩ = some (.int .i64 x.a.r) ∧ W.cell? ⟨wr.heap.size, 4, none⟩ = some (.int .i64 x.a.v) ∧ W.cell? ⟨wr.heap.size, 5, none⟩ = some (.int .i64 x.o) ∧ W.cell? ⟨wr.heap.size, 6, none⟩ = some (.int .i64 x.b.r) ∧ W.cell? ⟨wr.heap.size, 7, none⟩ = some (.int .i64 x.b.v) ∧ W.cell? ⟨wr.heap.size, 8, none⟩ = some (.int .i64 x.n)) 99 12 (by kernel_rfl) rfl ?_
            refine fin_take 0 (v := ?_) rfl (by kernel_rfl) (by kernel_rfl) (by kernel_rfl) (by kernel_rfl) (fun _ _ _ h => h) rfl ?_ q2 ?_
            rotate_left
            · intro W hW
              go_simp
              (try with_reducible rfl)
            simp only [Act.put, List.setIfInBounds_toArray, List.set_cons_zero, List.set_cons_succ]
            refine fin_take 1 (v := ?_) rfl (by kernel_rfl) (by kernel_rfl) (by kernel_rfl) (by kernel_rfl) (fun _ _ _ h => h) rfl ?_ q2 ?_
            rotate_left
            · intro W hW
              go_simp
              (try with_reducible rfl)
            simp only [Act.put, List.setIfInBounds_toArray, List.set_cons_zero, List.set_cons_succ]
            refine fin_take 2 (v := ?_) rfl (by kernel_rfl) (by kernel_rfl) (by kernel_rfl) (by kernel_rfl) (fun _ _ _ h => h) rfl ?_ q2 ?_
            rotate_left
            · intro W hW
              go_simp
              (try with_reducible rfl)
            simp only [Act.put, List.setIfInBounds_toArray, List.set_cons_zero, List.set_cons_succ]
            refine fin_take 3 (v := ?_) rfl (by kernel_rfl) (by kernel_rfl) (by kernel_rfl) (by kernel_rfl) (fun _ _ _ h => h) rfl ?_ q2 ?_
            rotate_left
            · intro W hW
              go_simp
              (try with_reducible rfl)
            simp only [Act.put, List.setIfInBounds_toArray, List.set_cons_zero, List.set_cons_succ]
            refine fin_take 4 (v := ?_) rfl (by kernel_rfl) (by kernel_rfl) (by kernel_rfl) (by kernel_rfl) (fun _ _ _ h => h) rfl ?_ q2 ?_
            rotate_left
            · intro W hW
              go_simp
              (try with_reducible rfl)
            simp only [Act.put, List.setIfInBounds_toArray, List.set_cons_zero, List.set_cons_succ]
            refine fin_take 5 (v := ?_) rfl (by kernel_rfl) (by kernel_rfl) (by kernel_rfl) (by kernel_rfl) (fun _ _ _ h => h) rfl ?_ q2 ?_
            rotate_left
            · intro W hW
              go_simp
              (try with_reducible rfl)
            simp only [Act.put, List.setIfInBounds_toArray, List.set_cons_zero, List.set_cons_succ]
            refine fin_one 6 rfl rfl (by kernel_rfl) (fun K hK => ?_)
            go_simp
            refine (hVb _).mono ?_
            rintro _ w3 ⟨rfl, k3'⟩
            have k3 : On W1 w3 := k2.drew.trans k3'
            have q3 := hS _ k3
            refine hK.out _ _ (fun _ => q3) ?_
            clear hK
            refine fin_one 7 rfl rfl (by kernel_rfl) (fun K hK => ?_)
            go_simp
            refine (hDo _).mono ?_
            rintro _ w4 ⟨rfl, hw4⟩
            subst w4
            refine hK.out _ _ (fun _ => q3) ?_
            clear hK
            refine fin_take 8 (v := ?_) rfl (by kernel_rfl) (by kernel_rfl) (by kernel_rfl) (by kernel_rfl) (fun _ _ _ h => h) rfl ?_ q3 ?_
            rotate_left
            · intro W hW
              go_simp
              (try with_reducible rfl)
            simp only [Act.put, List.setIfInBounds_toArray, List.set_cons_zero, List.set_cons_succ]
            refine fin_take 9 (v := ?_) rfl (by kernel_rfl) (by kernel_rfl) (by kernel_rfl) (by kernel_rfl) (fun _ _ _ h => h) rfl ?_ q3 ?_
            rotate_left
            · intro W hW
              go_simp
              (try with_reducible rfl)
            simp only [Act.put, List.setIfInBounds_toArray, List.set_cons_zero, List.set_cons_succ]
            refine fin_take 10 (v := ?_) rfl (by kernel_rfl) (by kernel_rfl) (by kernel_rfl) (by kernel_rfl) (fun _ _ _ h => h) rfl ?_ q3 ?_
            rotate_left
            · intro W hW
              go_simp
              (try with_reducible rfl)
            simp only [Act.put, List.setIfInBounds_toArray, List.set_cons_zero, List.set_cons_succ]
            refine fin_take 11 (v := ?_) rfl (by kernel_rfl) (by kernel_rfl) (by kernel_rfl) (by kernel_rfl) (fun _ _ _ h => h) rfl ?_ q3 ?_
            rotate_left
            · intro W hW
              go_simp
              (try with_reducible rfl)
            simp only [Act.put, List.setIfInBounds_toArray, List.set_cons_zero, List.set_cons_succ]
            refine fin_done (by kernel_rfl) (NoPanic.normal ?_)
            obtain ⟨y0, y1, y2, y3, y4, y5, y6, y7, y8, y9, y10, y11, y12, y13⟩ := q3
            have C2 := C1.on k3
            have P2 := P1.on k3
            have Z2 := Z1.on k3
            have I2 := I1.on k3
            have O2 := O1.trans k3
            have cf := fun i => C2.fr i
            have c3l := C2.lt
            have i3l := I2.lt
            go_wp2
            go_roundg (L.length - (n + 1))
            case measure => omega
            case rel => exact ⟨n + 1, r0, vd, r2, r3, rfl, (O2.setNew (by omega) _).setNew (by omega) _, (P2.far (by omega) _ _).far (by omega) _ _, Bk.put (cs := [.int .i64 (n : Int), .int .i64 r0, .int .i64 vd, .int .i64 r2, .int .i64 r3]) (C2.put (cs := [.int .i64 (n : Int), .int .i64 r0, .int .i64 r1, .int .i64 r2, .int .i64 r3]) 2 (.int .i64 vd)) 0 (.int .i64 ((n + 1 : Nat) : Int)), (Z2.far (by omega) _ _).far (by omega) _ _, HS2⟩
          · have HS2 : Hid (R = locV (settleP L ⟨((n + 1 : Nat) : Int), r0, r1, vd, r3⟩)) := by
              show R = _
              rw [HS1.out, hr]
              rfl
            clear HS1 hreg
            go_wp2_with fail
            refine (hVa _).mono ?_
            rintro _ w2 ⟨rfl, k2⟩
            obtain ⟨y0, y1, y2, y3, y4, y5, y6, y7, y8, y9, y10, y11, y12, y13⟩ := hS _ k2
            have q2 := hS _ k2.drew
            have i2l := Nat.lt_of_lt_of_le il k2.size
            have c2l := Nat.lt_of_lt_of_le wl2 k2.size
            go_wp2
            refine region_fin (fun W => W.cell? ⟨w.heap.size + 1, 0, none⟩ = some (.int .i64 (n : Int)) ∧ W.cell? ⟨w.heap.size + 1, 1, none⟩ = some (.int .i64 r0) ∧ W.cell? ⟨w.heap.size + 1, 2, none⟩ = some (.int .i64 r1) ∧ W.cell? ⟨w.heap.size + 1, 3, none⟩ = some (.int .i64 r2) ∧ W.cell? ⟨w.heap.size + 1, 4, none⟩ = some (.int .i64 r3) ∧ W.cell? ⟨wr.heap.size, 0, none⟩ = some (.int .i64 x.k) ∧ W.cell? ⟨wr.heap.size, 1, none⟩ = some (.int .i64 x.r) ∧ W.cell? ⟨wr.heap.size, 2, none⟩ = some (.int .i64 x.l) ∧ W.cell? ⟨wr.heap.size, 3, none⟩ = some (.int .i64 x.a.r) ∧ W.cell? ⟨wr.heap.size, 4, none⟩ = some (.int .i64 x.a.v) ∧ W.cell? ⟨wr.heap.size, 5, none⟩ = some (.int .i64 x.o) ∧ W.cell? ⟨wr.heap.size, 6, none⟩ = some (.int .i64 x.b.r) ∧ W.cell? ⟨wr.heap.size, 7, none⟩ = some (.int .i64 x.b.v) ∧ W.cell? ⟨wr.heap.size, 8, none⟩ = some (.int .i64 x.n)) 99 12 (by kernel_rfl) rfl ?_
            refine fin_take 0 (v := ?_) rfl (by kernel_rfl) (by kernel_rfl) (by kernel_rfl) (by kernel_rfl) (fun _ _ _ h => h) rfl ?_ q2 ?_
            rotate_left
            · intro W hW
              go_simp
              (try with_reducible rfl)
            simp only [Act.put, List.setIfInBounds_toArray, List.set_cons_zero, List.set_cons_succ]
            refine fin_take 1 (v := ?_) rfl (by kernel_rfl) (by kernel_rfl) (by kernel_rfl) (by kernel_rfl) (fun _ _ _ h => h) rfl ?_ q2 ?_
            rotate_left
            · intro W hW
              go_simp
              (try with_reducible rfl)
            simp only [Act.put, List.setIfInBounds_toArray, List.set_cons_zero, List.set_cons_succ]
            refine fin_take 2 (v := ?_) rfl (by kernel_rfl) (by kernel_rfl) (by kernel_rfl) (by kernel_rfl) (fun _ _ _ h => h) rfl ?_ q2 ?_
            rotate_left
            · intro W hW
              go_simp
              (try with_reducible rfl)
            simp only [Act.put, List.setIfInBounds_toArray, List.set_cons_zero, List.set_cons_succ]
            refine fin_take 3 (v := ?_) rfl (by kernel_rfl) (by kernel_rfl) (by kernel_rfl) (by kernel_rfl) (fun _ _ _ h => h) rfl ?_ q2 ?_
            rotate_left
            · intro W hW
              go_simp
              (try with_reducible rfl)
            simp only [Act.put, List.setIfInBounds_toArray, List.set_cons_zero, List.set_cons_succ]
            refine fin_take 4 (v := ?_) rfl (by kernel_rfl) (by kernel_rfl) (by kernel_rfl) (by kernel_rfl) (fun _ _ _ h => h) rfl ?_ q2 ?_
            rotate_left
            · intro W hW
              go_simp
              (try with_reducible rfl)
            simp only [Act.put, List.setIfInBounds_toArray, List.set_cons_zero, List.set_cons_succ]
            refine fin_take 5 (v := ?_) rfl (by kernel_rfl) (by kernel_rfl) (by kernel_rfl) (by kernel_rfl) (fun _ _ _ h => h) rfl ?_ q2 ?_
            rotate_left
            · intro W hW
              go_simp
              (try with_reducible rfl)
            simp only [Act.put, List.setIfInBounds_toArray, List.set_cons_zero, List.set_cons_succ]
            refine fin_one 6 rfl rfl (by kernel_rfl) (fun K hK => ?_)
            go_simp
            refine (hVb _).mono ?_
            rintro _ w3 ⟨rfl, k3'⟩
            have k3 : On W1 w3 := k2.drew.trans k3'
            have q3 := hS _ k3
            refine hK.out _ _ (fun _ => q3) ?_
            clear hK
            refine fin_one 7 rfl rfl (by kernel_rfl) (fun K hK => ?_)
            go_simp
            refine (hDo _).mono ?_
            rintro _ w4 ⟨rfl, hw4⟩
            subst w4
            refine hK.out _ _ (fun _ => q3) ?_
            clear hK
            refine fin_take 8 (v := ?_) rfl (by kernel_rfl) (by kernel_rfl) (by kernel_rfl) (by kernel_rfl) (fun _ _ _ h => h) rfl ?_ q3 ?_
            rotate_left
            · intro W hW
              go_simp
              (try with_reducible rfl)
            simp only [Act.put, List.setIfInBounds_toArray, List.set_cons_zero, List.set_cons_succ]
            refine fin_take 9 (v := ?_) rfl (by kernel_rfl) (by kernel_rfl) (by kernel_rfl) (by kernel_rfl) (fun _ _ _ h => h) rfl ?_ q3 ?_
            rotate_left
            · intro W hW
              go_simp
              (try with_reducible rfl)
            simp only [Act.put, List.setIfInBounds_toArray, List.set_cons_zero, List.set_cons_succ]
            refine fin_take 10 (v := ?_) rfl (by kernel_rfl) (by kernel_rfl) (by kernel_rfl) (by kernel_rfl) (fun _ _ _ h => h) rfl ?_ q3 ?_
            rotate_left
            · intro W hW
              go_simp
              (try with_reducible rfl)
            simp only [Act.put, List.setIfInBounds_toArray, List.set_cons_zero, List.set_cons_succ]
            refine fin_take 11 (v := ?_) rfl (by kernel_rfl) (by kernel_rfl) (by kernel_rfl) (by kernel_rfl) (fun _ _ _ h => h) rfl ?_ q3 ?_
            rotate_left
            · intro W hW
              go_simp
              (try with_reducible rfl)
            simp only [Act.put, List.setIfInBounds_toArray, List.set_cons_zero, List.set_cons_succ]
            refine fin_done (by kernel_rfl) (NoPanic.normal ?_)
            obtain ⟨y0, y1, y2, y3, y4, y5, y6, y7, y8, y9, y10, y11, y12, y13⟩ := q3
            have C2 := C1.on k3
            have P2 := P1.on k3
            have Z2 := Z1.on k3
            have I2 := I1.on k3
            have O2 := O1.trans k3
            have cf := fun i => C2.fr i
            have c3l := C2.lt
            have i3l := I2.lt
            go_wp2
            go_roundg (L.length - (n + 1))
            case measure => omega
            case rel => exact ⟨n + 1, r0, r1, vd, r3, rfl, (O2.setNew (by omega) _).setNew (by omega) _, (P2.far (by omega) _ _).far (by omega) _ _, Bk.put (cs := [.int .i64 (n : Int), .int .i64 r0, .int .i64 r1, .int .i64 vd, .int .i64 r3]) (C2.put (cs := [.int .i64 (n : Int), .int .i64 r0, .int .i64 r1, .int .i64 r2, .int .i64 r3]) 3 (.int .i64 vd)) 0 (.int .i64 ((n + 1 : Nat) : Int)), (Z2.far (by omega) _ _).far (by omega) _ _, HS2⟩
          · have HS2 : Hid (R = locV (settleP L ⟨((n + 1 : Nat) : Int), r0, r1, r2, vd⟩)) := by
              show R = _
              rw [HS1.out, hr]
              rfl
            clear HS1 hreg
            go_wp2_with fail
            refine (hVa _).mono ?_
            rintro _ w2 ⟨rfl, k2⟩
            obtain ⟨y0, y1, y2, y3, y4, y5, y6, y7, y8, y9, y10, y11, y12, y13⟩ := hS _ k2
            have q2 := hS _ k2.drew
            have i2l := Nat.lt_of_lt_of_le il k2.size
            have c2l := Nat.lt_of_lt_of_le wl2 k2.size
            go_wp2
            refine region_fin (fun W => W.cell? ⟨w.heap.size + 1, 0, none⟩ = some (.int .i64 (n : Int)) ∧ W.cell? ⟨w.heap.size + 1, 1, none⟩ = some (.int .i64 r0) ∧ W.cell? ⟨w.heap.size + 1, 2, none⟩ = some (.int .i64 r1) ∧ W.cell? ⟨w.heap.size + 1, 3, none⟩ = some (.int .i64 r2) ∧ W.cell? ⟨w.heap.size + 1, 4, none⟩ = some (.int .i64 r3) ∧ W.cell? ⟨wr.heap.size, 0, none⟩ = some (.int .i64 x.k) ∧ W.cell? ⟨wr.heap.size, 1, none⟩ = some (.int .i64 x.r) ∧ W.cell? ⟨wr.heap.size, 2, none⟩ = some (.int .i64 x.l) ∧ W.cell? ⟨wr.heap.size, 3, none⟩ = some (.int .i64 x.a.r) ∧ W.cell? ⟨wr.heap.size, 4, none⟩ = some (.int .i64 x.a.v) ∧ W.cell? ⟨wr.heap.size, 5, none⟩ = some (.int .i64 x.o) ∧ W.cell? ⟨wr.heap.size, 6, none⟩ = some (.int .i64 x.b.r) ∧ W.cell? ⟨wr.heap.size, 7, none⟩ = some (.int .i64 x.b.v) ∧ W.cell? ⟨wr.heap.size, 8, none⟩ = some (.int .i64 x.n)) 99 12 (by kernel_rfl) rfl ?_
            refine fin_take 0 (v := ?_) rfl (by kernel_rfl) (by kernel_rfl) (by kernel_rfl) (by kernel_rfl) (fun _ _ _ h => h) rfl ?_ q2 ?_
            rotate_left
            · intro W hW
              go_simp
              (try with_reducible rfl)
            simp only [Act.put, List.setIfInBounds_toArray, List.set_cons_zero, List.set_cons_succ]
            refine fin_take 1 (v := ?_) rfl (by kernel_rfl) (by kernel_rfl) (by kernel_rfl) (by kernel_rfl) (fun _ _ _ h => h) rfl ?_ q2 ?_
            rotate_left
            · intro W hW
              go_simp
              (try with_reducible rfl)
            simp only [Act.put, List.setIfInBounds_toArray, List.set_cons_zero, List.set_cons_succ]
            refine fin_take 2 (v := ?_) rfl (by kernel_rfl) (by kernel_rfl) (by kernel_rfl) (by kernel_rfl) (fun _ _ _ h => h) rfl ?_ q2 ?_
            rotate_left
            · intro W hW
              go_simp
              (try with_reducible rfl)
            simp only [Act.put, List.setIfInBounds_toArray, List.set_cons_zero, List.set_cons_succ]
            refine fin_take 3 (v := ?_) rfl (by kernel_rfl) (by kernel_rfl) (by kernel_rfl) (by kernel_rfl) (fun _ _ _ h => h) rfl ?_ q2 ?_
            rotate_left
            · intro W hW
              go_simp
              (try with_reducible rfl)
            simp only [Act.put, List.setIfInBounds_toArray, List.set_cons_zero, List.set_cons_succ]
            refine fin_take 4 (v := ?_) rfl (by kernel_rfl) (by kernel_rfl) (by kernel_rfl) (by kernel_rfl) (fun _ _ _ h => h) rfl ?_ q2 ?_
            rotate_left
            · intro W hW
              go_simp
              (try with_reducible rfl)
            simp only [Act.put, List.setIfInBounds_toArray, List.set_cons_zero, List.set_cons_succ]
            refine fin_take 5 (v := ?_) rfl (by kernel_rfl) (by kernel_rfl) (by kernel_rfl) (by kernel_rfl) (fun _ _ _ h => h) rfl ?_ q2 ?_
            rotate_left
            · intro W hW
              go_simp
              (try with_reducible rfl)
            simp only [Act.put, List.setIfInBounds_toArray, List.set_cons_zero, List.set_cons_succ]
            refine fin_one 6 rfl rfl (by kernel_rfl) (fun K hK => ?_)
            go_simp
            refine (hVb _).mono ?_
            rintro _ w3 ⟨rfl, k3'⟩
            have k3 : On W1 w3 := k2.drew.trans k3'
            have q3 := hS _ k3
            refine hK.out _ _ (fun _ => q3) ?_
            clear hK
            refine fin_one 7 rfl rfl (by kernel_rfl) (fun K hK => ?_)
            go_simp
            refine (hDo _).mono ?_
            rintro _ w4 ⟨rfl, hw4⟩
            subst w4
            refine hK.out _ _ (fun _ => q3) ?_
            clear hK
            refine fin_take 8 (v := ?_) rfl (by kernel_rfl) (by kernel_rfl) (by kernel_rfl) (by kernel_rfl) (fun _ _ _ h => h) rfl ?_ q3 ?_
            rotate_left
            · intro W hW
              go_simp
              (try with_reducible rfl)
            simp only [Act.put, List.setIfInBounds_toArray, List.set_cons_zero, List.set_cons_succ]
            refine fin_take 9 (v := ?_) rfl (by kernel_rfl) (by kernel_rfl) (by kernel_rfl) (by kernel_rfl) (fun _ _ _ h => h) rfl ?_ q3 ?_
            rotate_left
            · intro W hW
              go_simp
              (try with_reducible rfl)
            simp only [Act.put, List.setIfInBounds_toArray, List.set_cons_zero, List.set_cons_succ]
            refine fin_take 10 (v := ?_) rfl (by kernel_rfl) (by kernel_rfl) (by kernel_rfl) (by kernel_rfl) (fun _ _ _ h => h) rfl ?_ q3 ?_
            rotate_left
            · intro W hW
              go_simp
              (try with_reducible rfl)
            simp only [Act.put, List.setIfInBounds_toArray, List.set_cons_zero, List.set_cons_succ]
            refine fin_take 11 (v := ?_) rfl (by kernel_rfl) (by kernel_rfl) (by kernel_rfl) (by kernel_rfl) (fun _ _ _ h => h) rfl ?_ q3 ?_
            rotate_left
            · intro W hW
              go_simp
              (try with_reducible rfl)
            simp only [Act.put, List.setIfInBounds_toArray, List.set_cons_zero, List.set_cons_succ]
            refine fin_done (by kernel_rfl) (NoPanic.normal ?_)
            obtain ⟨y0, y1, y2, y3, y4, y5, y6, y7, y8, y9, y10, y11, y12, y13⟩ := q3
            have C2 := C1.on k3
            have P2 := P1.on k3
            have Z2 := Z1.on k3
            have I2 := I1.on k3
            have O2 := O1.trans k3
            have cf := fun i => C2.fr i
            have c3l := C2.lt
            have i3l := I2.lt
            go_wp2
            go_roundg (L.length - (n + 1))
            case measure => omega
            case rel => exact ⟨n + 1, r0, r1, r2, vd, rfl, (O2.setNew (by omega) _).setNew (by omega) _, (P2.far (by omega) _ _).far (by omega) _ _, Bk.put (cs := [.int .i64 (n : Int), .int .i64 r0, .int .i64 r1, .int .i64 r2, .int .i64 vd]) (C2.put (cs := [.int .i64 (n : Int), .int .i64 r0, .int .i64 r1, .int .i64 r2, .int .i64 r3]) 4 (.int .i64 vd)) 0 (.int .i64 ((n + 1 : Nat) : Int)), (Z2.far (by omega) _ _).far (by omega) _ _, HS2⟩
      | false =>
        rw [h5] at hst
        simp only [Bool.false_eq_true, if_false] at hst
        cases h6 : (x.k == 6) with
        | true =>
          rw [h6] at hst
          simp only [if_true] at hst
          obtain ⟨hn0, hn1⟩ := hok6 (by simpa using h6)
          have HS1 : Hid (R = locV (settleP L (pcTo ⟨(n : Int), r0, r1, r2, r3⟩ ((n : Int) + skipOf x ⟨(n : Int), r0, r1, r2, r3⟩ (L.length - n - 1) + 1)))) := HS.out.trans (congrArg locV hst)
          have hsk : skipOf x ⟨(n : Int), r0, r1, r2, r3⟩ (L.length - n - 1) = if valOf x.a ⟨(n : Int), r0, r1, r2, r3⟩ == valOf x.b ⟨(n : Int), r0, r1, r2, r3⟩ then x.n else 0 := by
            unfold skipOf
            split
            · omega
            · rfl
          rw [hsk] at HS1
          generalize valOf x.a ⟨(n : Int), r0, r1, r2, r3⟩ = va at *
          generalize valOf x.b ⟨(n : Int), r0, r1, r2, r3⟩ = vb at *
          clear hst HS hok5 hok6 hsk
          cases hab : (va == vb)
          · rw [hab] at HS1
            have HS2 : Hid (R = locV (settleP L ⟨((n + 1 : Nat) : Int), r0, r1, r2, r3⟩)) := by
              show R = _
              rw [HS1.out]
              unfold pcTo
              simp
            go_wp2
            have q1 := hS _ (On.refl W1).drew
            refine region_fin (fun W => W.cell? ⟨w.heap.size + 1, 0, none⟩ = some (.int .i64 (n : Int)) ∧ W.cell? ⟨w.heap.size + 1, 1, none⟩ = some (.int .i64 r0) ∧ W.cell? ⟨w.heap.size + 1, 2, none⟩ = some (.int .i64 r1) ∧ W.cell? ⟨w.heap.size + 1, 3, none⟩ = some (.int .i64 r2) ∧ W.cell? ⟨w.heap.size + 1, 4, none⟩ = some (.int .i64 r3) ∧ W.cell? ⟨wr.heap.size, 0, none⟩ = some (.int .i64 x.k) ∧ W.cell? ⟨wr.heap.size, 1, none⟩ = some (.int .i64 x.r) ∧ W.cell? ⟨wr.heap.size, 2, none⟩ = some (.int .i64 x.l) ∧ W.cell? ⟨wr.heap.size, 3, none⟩ = some (.int .i64 x.a.r) ∧ W.cell? ⟨wr.heap.size, 4, none⟩ = some (.int .i64 x.a.v) ∧ W.cell? ⟨wr.heap.size, 5, none⟩ = some (.int .i64 x.o) ∧ W.cell? ⟨wr.heap.size, 6, none⟩ = some (.int .i64 x.b.r) ∧ W.cell? ⟨wr.heap.size, 7, none⟩ = some (.int .i64 x.b.v) ∧ W.cell? ⟨wr.heap.size, 8, none⟩ = some (.int .i64 x.n)) 99 9 (by kernel_rfl) rfl ?_
            refine fin_take 0 (v := ?_) rfl (by kernel_rfl) (by kernel_rfl) (by kernel_rfl) (by kernel_rfl) (fun _ _ _ h => h) rfl ?_ q1 ?_
            rotate_left
            · intro W hW
              go_simp
              (try with_reducible rfl)
            simp only [Act.put, List.setIfInBounds_toArray, List.set_cons_zero, List.set_cons_succ]
            refine fin_take 1 (v := ?_) rfl (by kernel_rfl) (by kernel_rfl) (by kernel_rfl) (by kernel_rfl) (fun _ _ _ h => h) rfl ?_ q1 ?_
            rotate_left
            · intro W hW
              go_simp
              (try with_reducible rfl)
            simp only [Act.put, List.setIfInBounds_toArray, List.set_cons_zero, List.set_cons_succ]
            refine fin_take 2 (v := ?_) rfl (by kernel_rfl) (by kernel_rfl) (by kernel_rfl) (by kernel_rfl) (fun _ _ _ h => h) rfl ?_ q1 ?_
            rotate_left
            · intro W hW
              go_simp
              (try with_reducible rfl)
            simp only [Act.put, List.setIfInBounds_toArray, List.set_cons_zero, List.set_cons_succ]
            refine fin_take 4 (v := ?_) rfl (by kernel_rfl) (by kernel_rfl) (by kernel_rfl) (by kernel_rfl) (fun _ _ _ h => h) rfl ?_ q1 ?_
            rotate_left
            · intro W hW
              go_simp
              (try with_reducible rfl)
            simp only [Act.put, List.setIfInBounds_toArray, List.set_cons_zero, List.set_cons_succ]
            refine fin_take 5 (v := ?_) rfl (by kernel_rfl) (by kernel_rfl) (by kernel_rfl) (by kernel_rfl) (fun _ _ _ h => h) rfl ?_ q1 ?_
            rotate_left
            · intro W hW
              go_simp
              (try with_reducible rfl)
            simp only [Act.put, List.setIfInBounds_toArray, List.set_cons_zero, List.set_cons_succ]
            refine fin_take 6 (v := ?_) rfl (by kernel_rfl) (by kernel_rfl) (by kernel_rfl) (by kernel_rfl) (fun _ _ _ h => h) rfl ?_ q1 ?_
            rotate_left
            · intro W hW
              go_simp
              (try with_reducible rfl)
            simp only [Act.put, List.setIfInBounds_toArray, List.set_cons_zero, List.set_cons_succ]
            refine fin_one 3 rfl rfl (by kernel_rfl) (fun K hK => ?_)
            go_simp
            refine (hVa _).mono ?_
            rintro _ w12 ⟨rfl, k12'⟩
            have k12 : On W1 w12 := (On.refl W1).drew.trans k12'
            have q12 := hS _ k12
            refine hK.out _ _ (fun _ => q12) ?_
            clear hK
            refine fin_one 7 rfl rfl (by kernel_rfl) (fun K hK => ?_)
            go_simp
            refine (hVb _).mono ?_
            rintro _ w13 ⟨rfl, k13'⟩
            have k13 : On W1 w13 := k12.trans k13'
            have q13 := hS _ k13
            refine hK.out _ _ (fun _ => q13) ?_
            clear hK
            refine fin_take 8 (v := ?_) rfl (by kernel_rfl) (by kernel_rfl) (by kernel_rfl) (by kernel_rfl) (fun _ _ _ h => h) rfl ?_ q13 ?_
            rotate_left
            · intro W hW
              go_simp
              (try with_reducible rfl)
            simp only [Act.put, List.setIfInBounds_toArray, List.set_cons_zero, List.set_cons_succ]
            refine fin_done (by kernel_rfl) (NoPanic.normal ?_)
            have C2 := C1.on k13
            have P2 := P1.on k13
            have Z2 := Z1.on k13
            have O2 := O1.trans k13
            have c0 := C2.at (i := 0) rfl
            have cf := fun i => C2.fr i
            have c2l := C2.lt
            go_wp2
            go_roundg (L.length - (n + 1))
            case measure => omega
            case rel => exact ⟨n + 1, r0, r1, r2, r3, rfl, O2.setNew (by omega) _, P2.far (by omega) _ _, C2.put (cs := [.int .i64 (n : Int), .int .i64 r0, .int .i64 r1, .int .i64 r2, .int .i64 r3]) 0 (.int .i64 ((n + 1 : Nat) : Int)), Z2.far (by omega) _ _, HS2⟩
          · rw [hab] at HS1
            obtain ⟨m, hm⟩ : ∃ m : Nat, x.n = (m : Int) := ⟨x.n.toNat, by omega⟩
            have HS2 : Hid (R = locV (settleP L ⟨((n + m + 1 : Nat) : Int), r0, r1, r2, r3⟩)) := by
              show R = _
              rw [HS1.out, hm]
              unfold pcTo
              simp
            have hnm : n + m + 1 ≤ L.length := by omega
            have hlm : L.length ≤ 9223372036854775807 := hxm
            go_wp2
            have q1 := hS _ (On.refl W1).drew
            refine region_fin (fun W => W.cell? ⟨w.heap.size + 1, 0, none⟩ = some (.int .i64 (n : Int)) ∧ W.cell? ⟨w.heap.size + 1, 1, none⟩ = some (.int .i64 r0) ∧ W.cell? ⟨w.heap.size + 1, 2, none⟩ = some (.int .i64 r1) ∧ W.cell? ⟨w.heap.size + 1, 3, none⟩ = some (.int .i64 r2) ∧ W.cell? ⟨w.heap.size + 1, 4, none⟩ = some (.int .i64 r3) ∧ W.cell? ⟨wr.heap.size, 0, none⟩ = some (.int .i64 x.k) ∧ W.cell? ⟨wr.heap.size, 1, none⟩ = some (.int .i64 x.r) ∧ W.cell? ⟨wr.heap.size, 2, none⟩ = some (.int .i64 x.l) ∧ W.cell? ⟨wr.heap.size, 3, none⟩ = some (.int .i64 x.a.r) ∧ W.cell? ⟨wr.heap.size, 4, none⟩ = some (.int .i64 x.a.v) ∧ W.cell? ⟨wr.heap.size, 5, none⟩ = some (.int .i64 x.o) ∧ W.cell? ⟨wr.heap.size, 6, none⟩ = some (.int .i64 x.b.r) ∧ W.cell? ⟨wr.heap.size, 7, none⟩ = some (.int .i64 x.b.v) ∧ W.cell? ⟨wr.heap.size, 8, none⟩ = some (.int .i64 x.n)) 99 9 (by kernel_rfl) rfl ?_
            refine fin_take 0 (v := ?_) rfl (by kernel_rfl) (by kernel_rfl) (by kernel_rfl) (by kernel_rfl) (fun _ _ _ h => h) rfl ?_ q1 ?_
            rotate_left
            · intro W hW
              go_simp
              (try with_reducible rfl)
            simp only [Act.put, List.setIfInBounds_toArray, List.set_cons_zero, List.set_cons_succ]
            refine fin_take 1 (v := ?_) rfl (by kernel_rfl) (by kernel_rfl) (by kernel_rfl) (by kernel_rfl) (fun _ _ _ h => h) rfl ?_ q1 ?_
            rotate_left
            · intro W hW
              go_simp
              (try with_reducible rfl)
            simp only [Act.put, List.setIfInBounds_toArray, List.set_cons_zero, List.set_cons_succ]
            refine fin_take 2 (v := ?_) rfl (by kernel_rfl) (by kernel_rfl) (by kernel_rfl) (by kernel_rfl) (fun _ _ _ h => h) rfl ?_ q1 ?_
            rotate_left
            · intro W hW
              go_simp
              (try with_reducible rfl)
            simp only [Act.put, List.setIfInBounds_toArray, List.set_cons_zero, List.set_cons_succ]
            refine fin_take 4 (v := ?_) rfl (by kernel_rfl) (by kernel_rfl) (by kernel_rfl) (by kernel_rfl) (fun _ _ _ h => h) rfl ?_ q1 ?_
            rotate_left
            · intro W hW
              go_simp
              (try with_reducible rfl)
            simp only [Act.put, List.setIfInBounds_toArray, List.set_cons_zero, List.set_cons_succ]
            refine fin_take 5 (v := ?_) rfl (by kernel_rfl) (by kernel_rfl) (by kernel_rfl) (by kernel_rfl) (fun _ _ _ h => h) rfl ?_ q1 ?_
            rotate_left
            · intro W hW
              go_simp
              (try with_reducible rfl)
            simp only [Act.put, List.setIfInBounds_toArray, List.set_cons_zero, List.set_cons_succ]
            refine fin_take 6 (v := ?_) rfl (by kernel_rfl) (by kernel_rfl) (by kernel_rfl) (by kernel_rfl) (fun _ _ _ h => h) rfl ?_ q1 ?_
            rotate_left
            · intro W hW
              go_simp
              (try with_reducible rfl)
            simp only [Act.put, List.setIfInBounds_toArray, List.set_cons_zero, List.set_cons_succ]
            refine fin_one 3 rfl rfl (by kernel_rfl) (fun K hK => ?_)
            go_simp
            refine (hVa _).mono ?_
            rintro _ w12 ⟨rfl, k12'⟩
            have k12 : On W1 w12 := (On.refl W1).drew.trans k12'
            have q12 := hS _ k12
            refine hK.out _ _ (fun _ => q12) ?_
            clear hK
            refine fin_one 7 rfl rfl (by kernel_rfl) (fun K hK => ?_)
            go_simp
            refine (hVb _).mono ?_
            rintro _ w13 ⟨rfl, k13'⟩
            have k13 : On W1 w13 := k12.trans k13'
            have q13 := hS _ k13
            refine hK.out _ _ (fun _ => q13) ?_
            clear hK
            refine fin_take 8 (v := ?_) rfl (by kernel_rfl) (by kernel_rfl) (by kernel_rfl) (by kernel_rfl) (fun _ _ _ h => h) rfl ?_ q13 ?_
            rotate_left
            · intro W hW
              go_simp
              (try with_reducible rfl)
            simp only [Act.put, List.setIfInBounds_toArray, List.set_cons_zero, List.set_cons_succ]
            refine fin_done (by kernel_rfl) (NoPanic.normal ?_)
            have C2 := C1.on k13
            have P2 := P1.on k13
            have Z2 := Z1.on k13
            have I2 := I1.on k13
            have O2 := O1.trans k13
            have c0 := C2.at (i := 0) rfl
            have i8 := I2.at (i := 8) rfl
            rw [hm] at i8
            have cf := fun i => C2.fr i
            have c2l := C2.lt
            have i2l := I2.lt
            clear hm hn0 hn1 q1 q12 q13 hS y0 y1 y2 y3 y4 y5 y6 y7 y8 y9 y10 y11 y12 y13
            go_wp2
            go_roundg (L.length - (n + m + 1))
            case measure => omega
            case rel => exact ⟨n + m + 1, r0, r1, r2, r3, rfl, (O2.setNew (by omega) _).setNew (by omega) _, (P2.far (by omega) _ _).far (by omega) _ _, Bk.put (cs := [.int .i64 ((n : Int) + (m : Int)), .int .i64 r0, .int .i64 r1, .int .i64 r2, .int .i64 r3]) (C2.put (cs := [.int .i64 (n : Int), .int .i64 r0, .int .i64 r1, .int .i64 r2, .int .i64 r3]) 0 (.int .i64 ((n : Int) + (m : Int)))) 0 (.int .i64 ((n + m + 1 : Nat) : Int)), (Z2.far (by omega) _ _).far (by omega) _ _, HS2⟩
        | false =>
          rw [h6] at hst
          simp only [Bool.false_eq_true, if_false] at hst
          obtain rfl : R = .agg #[.int .i64 (n : Int), .int .i64 r0, .int .i64 r1, .int .i64 r2, .int .i64 r3] := by rw [HS.out, hst]; rfl
          clear HS hst hok5 hok6
          have zf := fun i => Z1.fr i
          have z0 := Z1.at (i := 0) rfl
          have z1 := Z1.at (i := 1) rfl
          have z2 := Z1.at (i := 2) rfl
          have z3 := Z1.at (i := 3) rfl
          have z4 := Z1.at (i := 4) rfl
          go_wp2
          refine bodyPost_ret (v := .agg #[.int .i64 (n : Int), .int .i64 r0, .int .i64 r1, .int .i64 r2, .int .i64 r3]) ?_ rfl ⟨rfl, ?_⟩
          · rw [results_cell rfl]
            go_simp
          · repeat' (first | with_reducible refine On.setNew ?_ (by omega) _ | with_reducible exact O1)
    · have e : settleP L ⟨(n : Int), r0, r1, r2, r3⟩ = ⟨(n : Int), r0, r1, r2, r3⟩ := settle_end (by simpa using hge)
      obtain rfl : R = .agg #[.int .i64 (n : Int), .int .i64 r0, .int .i64 r1, .int .i64 r2, .int .i64 r3] := by rw [HS.out, e]; rfl
      have hnn : ¬ n < L.length := by omega
      have P1 := PB.on (On.refl wr).drew
      have C1 := CB.on (On.refl wr).drew
      have Z1 := ZB.on (On.refl wr).drew
      have O1 : On w wr.drew := HO.out.drew
      have c1 := CB.at (i := 1) rfl
      have c2' := CB.at (i := 2) rfl
      have c3 := CB.at (i := 3) rfl
      have c4 := CB.at (i := 4) rfl
      have zf := fun i => ZB.fr i
      have z0 := ZB.at (i := 0) rfl
      have z1 := ZB.at (i := 1) rfl
      have z2 := ZB.at (i := 2) rfl
      have z3 := ZB.at (i := 3) rfl
      have z4 := ZB.at (i := 4) rfl
      go_wp2
      refine region_fin (fun W => W.cell? ⟨w.heap.size, 2, none⟩ = some (.slice (some ⟨ga, oa, none⟩) LL.length c) ∧ W.cell? ⟨w.heap.size + 1, 0, none⟩ = some (.int .i64 (n : Int)) ∧ W.cell? ⟨ga, oa + t, none⟩ = some (.slice ax L.length cx)) 99 9 (by kernel_rfl) rfl ?_
      refine fin_take 0 (v := ?_) rfl (by kernel_rfl) (by kernel_rfl) (by kernel_rfl) (by kernel_rfl) (fun _ _ _ h => h) rfl ?_ qS ?_
      rotate_left
      · intro W hW
        go_simp
        (try with_reducible rfl)
      simp only [Act.put, List.setIfInBounds_toArray, List.set_cons_zero, List.set_cons_succ]
      refine fin_take 1 (v := ?_) rfl (by kernel_rfl) (by kernel_rfl) (by kernel_rfl) (by kernel_rfl) (fun _ _ _ h => h) rfl ?_ qS ?_
      rotate_left
      · intro W hW
        go_simp
        (try with_reducible rfl)
      simp only [Act.put, List.setIfInBounds_toArray, List.set_cons_zero, List.set_cons_succ]
      refine fin_take 2 (v := ?_) rfl (by kernel_rfl) (by kernel_rfl) (by kernel_rfl) (by kernel_rfl) (fun _ _ _ h => h) rfl ?_ qS ?_
      rotate_left
      · intro W hW
        go_simp
        (try with_reducible rfl)
      simp only [Act.put, List.setIfInBounds_toArray, List.set_cons_zero, List.set_cons_succ]
      refine fin_take 3 (v := ?_) rfl (by kernel_rfl) (by kernel_rfl) (by kernel_rfl) (by kernel_rfl) (fun _ _ _ h => h) rfl ?_ qS ?_
      rotate_left
      · intro W hW
        go_simp
        (try with_reducible rfl)
      simp only [Act.put, List.setIfInBounds_toArray, List.set_cons_zero, List.set_cons_succ]
      refine fin_take 4 (v := ?_) rfl (by kernel_rfl) (by kernel_rfl) (by kernel_rfl) (by kernel_rfl) (fun _ _ _ h => h) rfl ?_ qS ?_
      rotate_left
      · intro W hW
        go_simp
        (try with_reducible rfl)
      simp only [Act.put, List.setIfInBounds_toArray, List.set_cons_zero, List.set_cons_succ]
      refine fin_take 5 (v := ?_) rfl (by kernel_rfl) (by kernel_rfl) (by kernel_rfl) (by kernel_rfl) (fun _ _ _ h => h) rfl ?_ qS ?_
      rotate_left
      · intro W hW
        go_simp
        (try with_reducible rfl)
      simp only [Act.put, List.setIfInBounds_toArray, List.set_cons_zero, List.set_cons_succ]
      refine fin_take 6 (v := ?_) rfl (by kernel_rfl) (by kernel_rfl) (by kernel_rfl) (by kernel_rfl) (fun _ _ _ h => h) rfl ?_ qS ?_
      rotate_left
      · intro W hW
        go_simp
        (try with_reducible rfl)
      simp only [Act.put, List.setIfInBounds_toArray, List.set_cons_zero, List.set_cons_succ]
      refine fin_take 7 (v := ?_) rfl (by kernel_rfl) (by kernel_rfl) (by kernel_rfl) (by kernel_rfl) (fun _ _ _ h => h) rfl ?_ qS ?_
      rotate_left
      · intro W hW
        go_simp
        (try with_reducible rfl)
      simp only [Act.put, List.setIfInBounds_toArray, List.set_cons_zero, List.set_cons_succ]
      refine fin_take 8 (v := ?_) rfl (by kernel_rfl) (by kernel_rfl) (by kernel_rfl) (by kernel_rfl) (fun _ _ _ h => h) rfl ?_ qS ?_
      rotate_left
      · intro W hW
        go_simp
        (try with_reducible rfl)
      simp only [Act.put, List.setIfInBounds_toArray, List.set_cons_zero, List.set_cons_succ]
      refine fin_done (by kernel_rfl) (NoPanic.normal ?_)
      go_wp2
      refine bodyPost_ret (v := .agg #[.int .i64 (n : Int), .int .i64 r0, .int .i64 r1, .int .i64 r2, .int .i64 r3]) ?_ rfl ⟨rfl, ?_⟩
      · rw [results_cell rfl]
        go_simp
      · refine On.drew ?_
        repeat' (first | with_reducible refine On.setNew ?_ (by omega) _ | with_reducible exact HO.out)
end Go.Proofs.YtengdlchglkkjaaDoor

namespace Go.Proofs.YtengdlchglkkjaaDoor
open Go.RowKit

def thereB (LL : List (List InsT)) (t : Int) : Bool := decide (0 ≤ t) && decide (t < LL.length)
set_option maxHeartbeats 4000000 in
theorem there_is (LL : List (List InsT)) (t : Int) (v : Value) (w : World) (h : ProgRd w v LL) :
    Calls Tryd.prog 43 #[v, .int .i64 t] w fun e w' => e = .returned (.bool (thereB LL t)) ∧ On w w' := by
  obtain ⟨a1, m1, c1, a2, m2, c2, a, c, rfl, r⟩ := h
  obtain ⟨_, _, _, _, hmL⟩ := r.slice
  clear r
  unfold thereB
  by_cases h0 : 0 ≤ t
  · by_cases h1 : t < LL.length
    · rw [decide_eq_true h0, decide_eq_true h1]
      go_enter Tryd.func43, Tryd.ntmps43
      go_wp2
      go_ret
      exact ⟨rfl, (On.refl w).alloc _⟩
    · rw [decide_eq_true h0, decide_eq_false h1]
      go_enter Tryd.func43, Tryd.ntmps43
      go_wp2
      go_ret
      exact ⟨rfl, (On.refl w).alloc _⟩
  · rw [decide_eq_false h0]
    go_enter Tryd.func43, Tryd.ntmps43
    go_wp2
    go_ret
    exact ⟨rfl, (On.refl w).alloc _⟩
/-- What the walks ask of a thread's instructions. -/
def fineL (L : List InsT) : Prop := ∀ (i : Nat) (x : InsT), L[i]? = some x → ((x.k = 5 → regOk x.r = true) ∧ (x.k = 6 → 0 ≤ x.n ∧ x.n ≤ (L.length : Int) - i - 1)) ∧ ((x.k == 5 || x.k == 6) = !seenB x.k) ∧ ((x.k = 2 ∨ x.k = 4) → regOk x.r = true)
theorem there_none (LL : List (List InsT)) (t : Int) (hb : thereB LL t = false) : threadP LL t = [] := by
  unfold threadP
  split
  · rename_i h0
    have h1 : ¬ t < LL.length := by
      unfold thereB at hb
      rw [decide_eq_true h0] at hb
      simpa using hb
    rw [List.getD_eq_getElem?_getD, List.getElem?_eq_none (by omega)]
    rfl
  · rfl
theorem there_some (LL : List (List InsT)) (t : Int) (hb : thereB LL t = true) : ∃ (k : Nat) (L : List InsT), t = (k : Int) ∧ k < LL.length ∧ LL[k]? = some L ∧ threadP LL t = L ∧ L ∈ LL := by
  unfold thereB at hb
  simp only [Bool.and_eq_true, decide_eq_true_eq] at hb
  have hk : t.toNat < LL.length := by omega
  refine ⟨t.toNat, LL[t.toNat], by omega, hk, List.getElem?_eq_getElem hk, ?_, List.getElem_mem hk⟩
  unfold threadP
  rw [if_pos hb.1, List.getD_eq_getElem?_getD, List.getElem?_eq_getElem hk]
  rfl
set_option maxHeartbeats 4000000 in
set_option maxRecDepth 8000 in
theorem rstart_is (LL : List (List InsT)) (t : Int) (v : Value) (w : World) (h : ProgRd w v LL) (hf : ∀ L ∈ LL, fineL L) :
    Calls Tryd.prog 21 #[v, .int .i64 t] w fun e w' => e = .returned (locV (startP (threadP LL t))) ∧ On w w' := by
  have hT := fun W (k : On w W) => there_is LL t v W (h.on k)
  have hNo := fun (k : Nat) (L : List InsT) (hL : LL[k]? = some L) (hm : L ∈ LL) W (kk : On w W) => rnormal_is LL k L ⟨0, 0, 0, 0, 0⟩ v W (h.on kk) hL (by decide) (fun i x hx => (hf L hm i x hx).1)
  obtain ⟨a1, m1, c1, a2, m2, c2, a, c, rfl, r⟩ := h
  clear r
  have k0 : ∀ A B, On w ((w.alloc A).alloc B) := fun A B => ((On.refl w).alloc A).alloc B
  have bp : ∀ cs T B, Bk ((w.alloc (.cells cs T)).alloc B) w.heap.size cs := fun cs T B => (Bk.new w cs T).alloc B
  have bk : ∀ A cs T, Bk ((w.alloc A).alloc (.cells cs T)) (w.heap.size + 1) cs := fun A cs T => by have := Bk.new (w.alloc A) cs T; rwa [World.size_alloc] at this
  cases hb : thereB LL t with
  | false =>
    rw [hb] at hT
    rw [there_none LL t hb, show startP [] = ⟨0, 0, 0, 0, 0⟩ from rfl]
    unfold locV
    clear hb hNo
    go_enter Tryd.func21, Tryd.ntmps21
    go_wp2_with fail
    refine (hT _ (k0 _ _)).mono ?_
    rintro _ w1 ⟨rfl, k1⟩
    have B1 := (bk _ _ _).on k1
    have K1 : On w w1 := (k0 _ _).trans k1
    have zf := fun i => B1.fr i
    have z0 := B1.at (i := 0) rfl
    have z1 := B1.at (i := 1) rfl
    have z2 := B1.at (i := 2) rfl
    have z3 := B1.at (i := 3) rfl
    have z4 := B1.at (i := 4) rfl
    have zl := B1.lt
    clear hT k0 bp bk k1
    go_wp2
    refine bodyPost_ret (v := .agg #[.int .i64 0, .int .i64 0, .int .i64 0, .int .i64 0, .int .i64 0]) ?_ rfl ⟨rfl, ?_⟩
    · rw [results_cell rfl]
      go_simp
    · repeat' (first | with_reducible refine On.setNew ?_ (by omega) _ | with_reducible exact K1)
  | true =>
    rw [hb] at hT
    obtain ⟨k, L, rfl, hk, hL, e, hm⟩ := there_some LL t hb
    rw [e]
    unfold startP
    have hS := hNo k L hL hm
    obtain ⟨⟨q0, q1, q2, q3, q4⟩, hR⟩ : ∃ R, settleP L ⟨0, 0, 0, 0, 0⟩ = R := ⟨_, rfl⟩
    rw [hR] at hS ⊢
    unfold locV at hS ⊢
    clear hR hb e hNo
    go_enter Tryd.func21, Tryd.ntmps21
    go_wp2_with fail
    refine (hT _ (k0 _ _)).mono ?_
    rintro _ w1 ⟨rfl, k1⟩
    have P1 := (bp _ _ _).on k1
    have B1 := (bk _ _ _).on k1
    have K1 : On w w1 := (k0 _ _).trans k1
    have p0 := P1.at (i := 0) rfl
    have p1 := P1.at (i := 1) rfl
    have p2 := P1.at (i := 2) rfl
    have pl := P1.lt
    clear hT k0 bp bk k1
    go_wp2_with fail
    refine (hS _ K1).mono ?_
    rintro _ w2 ⟨rfl, k2⟩
    have B2 := B1.on k2
    have K2 := K1.trans k2
    have zf := fun i => B2.fr i
    have z0 := B2.at (i := 0) rfl
    have z1 := B2.at (i := 1) rfl
    have z2 := B2.at (i := 2) rfl
    have z3 := B2.at (i := 3) rfl
    have z4 := B2.at (i := 4) rfl
    have zl := B2.lt
    go_wp2
    refine bodyPost_ret (v := .agg #[.int .i64 q0, .int .i64 q1, .int .i64 q2, .int .i64 q3, .int .i64 q4]) ?_ rfl ⟨rfl, ?_⟩
    · rw [results_cell rfl]
      go_simp
    · repeat' (first | with_reducible refine On.setNew ?_ (by omega) _ | with_reducible exact K2)
set_option maxHeartbeats 8000000 in
set_option maxRecDepth 8000 in
theorem rnext_is (LL : List (List InsT)) (t : Int) (l : LocT) (v : Value) (w : World) (h : ProgRd w v LL) (hf : ∀ L ∈ LL, fineL L) :
    Calls Tryd.prog 23 #[v, .int .i64 t, locV l] w fun e w' => e = .returned (nextV (nextP (threadP LL t) l)) ∧ On w w' := by
  have hT := fun W (k : On w W) => there_is LL t v W (h.on k)
  obtain ⟨a1, m1, c1, a2, m2, c2, a, c, rfl, r⟩ := h
  obtain ⟨_, _, _, _, hmL⟩ := r.slice
  obtain ⟨pc, r0, r1, r2, r3⟩ := l
  unfold locV
  cases hb : thereB LL t with
  | false =>
    rw [hb] at hT
    have e : nextV (nextP (threadP LL t) ⟨pc, r0, r1, r2, r3⟩) = .tuple #[.agg #[.int .i64 0, .int .i64 0, .int .i64 0, .int .i64 0, .int .i64 0, .int .i64 0, .int .i64 0, .int .i64 0, .int .i64 0], .bool false] := by
      rw [there_none LL t hb]
      unfold nextP
      split <;> simp [nextV] <;> rfl
    rw [e]
    clear e hb hf r
    obtain ⟨W0, hW0⟩ : ∃ W0, W0 = ((w.alloc (.cells #[.slice a1 m1 c1, .slice a2 m2 c2, .slice a LL.length c] 40)).alloc (.cells #[.int .i64 pc, .int .i64 r0, .int .i64 r1, .int .i64 r2, .int .i64 r3] 48)).alloc (.cells #[.int .i64 0, .int .i64 0, .int .i64 0, .int .i64 0, .int .i64 0, .int .i64 0, .int .i64 0, .int .i64 0, .int .i64 0] 53) := ⟨_, rfl⟩
    have K0 : On w W0 := by rw [hW0]; exact (((On.refl w).alloc _).alloc _).alloc _
    have PB : Bk W0 w.heap.size #[.slice a1 m1 c1, .slice a2 m2 c2, .slice a LL.length c] := by rw [hW0]; exact ((Bk.new w _ _).alloc _).alloc _
    have CB : Bk W0 (w.heap.size + 1) #[.int .i64 pc, .int .i64 r0, .int .i64 r1, .int .i64 r2, .int .i64 r3] := by
      rw [hW0]
      have := (Bk.new (w.alloc (.cells #[.slice a1 m1 c1, .slice a2 m2 c2, .slice a LL.length c] 40)) #[.int .i64 pc, .int .i64 r0, .int .i64 r1, .int .i64 r2, .int .i64 r3] 48).alloc (.cells #[.int .i64 0, .int .i64 0, .int .i64 0, .int .i64 0, .int .i64 0, .int .i64 0, .int .i64 0, .int .i64 0, .int .i64 0] 53)
      rwa [World.size_alloc] at this
    have ZB : Bk W0 (w.heap.size + 1 + 1) #[.int .i64 0, .int .i64 0, .int .i64 0, .int .i64 0, .int .i64 0, .int .i64 0, .int .i64 0, .int .i64 0, .int .i64 0] := by
      rw [hW0]
      have := Bk.new ((w.alloc (.cells #[.slice a1 m1 c1, .slice a2 m2 c2, .slice a LL.length c] 40)).alloc (.cells #[.int .i64 pc, .int .i64 r0, .int .i64 r1, .int .i64 r2, .int .i64 r3] 48)) #[.int .i64 0, .int .i64 0, .int .i64 0, .int .i64 0, .int .i64 0, .int .i64 0, .int .i64 0, .int .i64 0, .int .i64 0] 53
      rwa [World.size_alloc, World.size_alloc] at this
    have hS : ∀ W, On W0 W → W.cell? ⟨w.heap.size, 0, none⟩ = some (.slice a1 m1 c1) ∧ W.cell? ⟨w.heap.size, 1, none⟩ = some (.slice a2 m2 c2) ∧ W.cell? ⟨w.heap.size, 2, none⟩ = some (.slice a LL.length c) ∧ W.cell? ⟨w.heap.size + 1, 0, none⟩ = some (.int .i64 pc) := fun W k' => ⟨(PB.on k').at (i := 0) rfl, (PB.on k').at (i := 1) rfl, (PB.on k').at (i := 2) rfl, (CB.on k').at (i := 0) rfl⟩
    have qS := hS _ (On.refl W0).drew
    have zl := ZB.lt
    go_enter Tryd.func23, Tryd.ntmps23
    go_wp2
    rw [← hW0]
    clear hW0
    refine region_fin (fun W => W.cell? ⟨w.heap.size, 0, none⟩ = some (.slice a1 m1 c1) ∧ W.cell? ⟨w.heap.size, 1, none⟩ = some (.slice a2 m2 c2) ∧ W.cell? ⟨w.heap.size, 2, none⟩ = some (.slice a LL.length c) ∧ W.cell? ⟨w.heap.size + 1, 0, none⟩ = some (.int .i64 pc)) 99 20 (by kernel_rfl) rfl ?_
    refine fin_take 0 (v := ?_) rfl (by kernel_rfl) (by kernel_rfl) (by kernel_rfl) (by kernel_rfl) (fun _ _ _ h => h) rfl ?_ qS ?_
    rotate_left
    · intro W hW
      go_simp
      (try with_reducible rfl)
    simp only [Act.put, List.setIfInBounds_toArray, List.set_cons_zero, List.set_cons_succ]
    refine fin_take 1 (v := ?_) rfl (by kernel_rfl) (by kernel_rfl) (by kernel_rfl) (by kernel_rfl) (fun _ _ _ h => h) rfl ?_ qS ?_
    rotate_left
    · intro W hW
      go_simp
      (try with_reducible rfl)
    simp only [Act.put, List.setIfInBounds_toArray, List.set_cons_zero, List.set_cons_succ]
    refine fin_one 2 rfl rfl (by kernel_rfl) (fun K hK => ?_)
    go_simp
    refine (hT _ K0.drew).mono ?_
    rintro _ w1 ⟨rfl, k1'⟩
    have k1 : On W0 w1 := (On.refl W0).drew.trans k1'
    have q1 := hS _ k1
    refine hK.out _ _ (fun _ => q1) ?_
    clear hK
    refine fin_take 3 (v := ?_) rfl (by kernel_rfl) (by kernel_rfl) (by kernel_rfl) (by kernel_rfl) (fun _ _ _ h => h) rfl ?_ q1 ?_
    rotate_left
    · intro W hW
      go_simp
      (try with_reducible rfl)
    simp only [Act.put, List.setIfInBounds_toArray, List.set_cons_zero, List.set_cons_succ]
    refine fin_take 4 (v := ?_) rfl (by kernel_rfl) (by kernel_rfl) (by kernel_rfl) (by kernel_rfl) (fun _ _ _ h => h) rfl ?_ q1 ?_
    rotate_left
    · intro W hW
      go_simp
      (try with_reducible rfl)
    simp only [Act.put, List.setIfInBounds_toArray, List.set_cons_zero, List.set_cons_succ]
    refine fin_takeN 5 rfl (by kernel_rfl) (by kernel_rfl) (by kernel_rfl) (by kernel_rfl) (fun _ _ _ h => h) (by rfl) q1 ?_
    simp only [Act.put, List.setIfInBounds_toArray, List.set_cons_zero, List.set_cons_succ]
    refine fin_takeN 6 rfl (by kernel_rfl) (by kernel_rfl) (by kernel_rfl) (by kernel_rfl) (fun _ _ _ h => h) (by rfl) q1 ?_
    simp only [Act.put, List.setIfInBounds_toArray, List.set_cons_zero, List.set_cons_succ]
    refine fin_takeN 7 rfl (by kernel_rfl) (by kernel_rfl) (by kernel_rfl) (by kernel_rfl) (fun _ _ _ h => h) (by rfl) q1 ?_
    simp only [Act.put, List.setIfInBounds_toArray, List.set_cons_zero, List.set_cons_succ]
    refine fin_take 8 (v := ?_) rfl (by kernel_rfl) (by kernel_rfl) (by kernel_rfl) (by kernel_rfl) (fun _ _ _ h => h) rfl ?_ q1 ?_
    rotate_left
    · intro W hW
      go_simp
      (try with_reducible rfl)
    simp only [Act.put, List.setIfInBounds_toArray, List.set_cons_zero, List.set_cons_succ]
    refine fin_take 9 (v := ?_) rfl (by kernel_rfl) (by kernel_rfl) (by kernel_rfl) (by kernel_rfl) (fun _ _ _ h => h) rfl ?_ q1 ?_
    rotate_left
    · intro W hW
      go_simp
      (try with_reducible rfl)
    simp only [Act.put, List.setIfInBounds_toArray, List.set_cons_zero, List.set_cons_succ]
    refine fin_takeN 10 rfl (by kernel_rfl) (by kernel_rfl) (by kernel_rfl) (by kernel_rfl) (fun _ _ _ h => h) (by rfl) q1 ?_
    simp only [Act.put, List.setIfInBounds_toArray, List.set_cons_zero, List.set_cons_succ]
    refine fin_takeN 11 rfl (by kernel_rfl) (by kernel_rfl) (by kernel_rfl) (by kernel_rfl) (fun _ _ _ h => h) (by rfl) q1 ?_
    simp only [Act.put, List.setIfInBounds_toArray, List.set_cons_zero, List.set_cons_succ]
    refine fin_takeN 12 rfl (by kernel_rfl) (by kernel_rfl) (by kernel_rfl) (by kernel_rfl) (fun _ _ _ h => h) (by rfl) q1 ?_
    simp only [Act.put, List.setIfInBounds_toArray, List.set_cons_zero, List.set_cons_succ]
    refine fin_takeN 13 rfl (by kernel_rfl) (by kernel_rfl) (by kernel_rfl) (by kernel_rfl) (fun _ _ _ h => h) (by rfl) q1 ?_
    simp only [Act.put, List.setIfInBounds_toArray, List.set_cons_zero, List.set_cons_succ]
    refine fin_takeN 14 rfl (by kernel_rfl) (by kernel_rfl) (by kernel_rfl) (by kernel_rfl) (fun _ _ _ h => h) (by rfl) q1 ?_
    simp only [Act.put, List.setIfInBounds_toArray, List.set_cons_zero, List.set_cons_succ]
    refine fin_takeN 15 rfl (by kernel_rfl) (by kernel_rfl) (by kernel_rfl) (by kernel_rfl) (fun _ _ _ h => h) (by rfl) q1 ?_
    simp only [Act.put, List.setIfInBounds_toArray, List.set_cons_zero, List.set_cons_succ]
    refine fin_takeN 16 rfl (by kernel_rfl) (by kernel_rfl) (by kernel_rfl) (by kernel_rfl) (fun _ _ _ h => h) (by rfl) q1 ?_
    simp only [Act.put, List.setIfInBounds_toArray, List.set_cons_zero, List.set_cons_succ]
    refine fin_takeN 17 rfl (by kernel_rfl) (by kernel_rfl) (by kernel_rfl) (by kernel_rfl) (fun _ _ _ h => h) (by rfl) q1 ?_
    simp only [Act.put, List.setIfInBounds_toArray, List.set_cons_zero, List.set_cons_succ]
    refine fin_takeN 18 rfl (by kernel_rfl) (by kernel_rfl) (by kernel_rfl) (by kernel_rfl) (fun _ _ _ h => h) (by rfl) q1 ?_
    simp only [Act.put, List.setIfInBounds_toArray, List.set_cons_zero, List.set_cons_succ]
    refine fin_take 19 (v := ?_) rfl (by kernel_rfl) (by kernel_rfl) (by kernel_rfl) (by kernel_rfl) (fun _ _ _ h => h) rfl ?_ q1 ?_
    rotate_left
    · intro W hW
      go_simp
      (try with_reducible rfl)
    simp only [Act.put, List.setIfInBounds_toArray, List.set_cons_zero, List.set_cons_succ]
    refine fin_done (by kernel_rfl) (NoPanic.normal ?_)
    have O1 : On w w1 := K0.trans k1
    have Z1 := ZB.on k1
    have zf := fun i => Z1.fr i
    have z0 := Z1.at (i := 0) rfl
    have z1 := Z1.at (i := 1) rfl
    have z2 := Z1.at (i := 2) rfl
    have z3 := Z1.at (i := 3) rfl
    have z4 := Z1.at (i := 4) rfl
    have z5 := Z1.at (i := 5) rfl
    have z6 := Z1.at (i := 6) rfl
    have z7 := Z1.at (i := 7) rfl
    have z8 := Z1.at (i := 8) rfl
    have zzl := Z1.lt
    go_wp2
    refine bodyPost_ret (v := .tuple #[.agg #[.int .i64 0, .int .i64 0, .int .i64 0, .int .i64 0, .int .i64 0, .int .i64 0, .int .i64 0, .int .i64 0, .int .i64 0], .bool false]) ?_ rfl ⟨rfl, ?_⟩
    · rw [results_cell_slot rfl]
      go_simp
    · (try with_reducible refine On.drew ?_)
      repeat' (first | with_reducible refine On.setNew ?_ (by omega) _ | with_reducible exact O1 | with_reducible refine On.alloc ?_ _ | with_reducible refine On.drew ?_)
  | true =>
    rw [hb] at hT
    obtain ⟨k, L, rfl, hk, hL, e, hm⟩ := there_some LL t hb
    rw [e]
    have hfl := hf L hm
    clear hb e hf
    obtain ⟨ga, oa, rfl, hga, ax, cx, uax, hxm, rx⟩ := r.row hL
    clear r
    by_cases hneg : pc < 0
    · have e : nextV (nextP L ⟨pc, r0, r1, r2, r3⟩) = .tuple #[.agg #[.int .i64 0, .int .i64 0, .int .i64 0, .int .i64 0, .int .i64 0, .int .i64 0, .int .i64 0, .int .i64 0, .int .i64 0], .bool false] := by
        unfold nextP
        rw [if_neg (by show ¬ 0 ≤ pc; omega)]
        rfl
      rw [e]
      clear e
      obtain ⟨a, ha⟩ : ∃ a : Option Addr, a = some ⟨ga, oa, none⟩ := ⟨_, rfl⟩
      rw [← ha] at hT ⊢
      clear ha uax rx hga
      obtain ⟨W0, hW0⟩ : ∃ W0, W0 = ((w.alloc (.cells #[.slice a1 m1 c1, .slice a2 m2 c2, .slice a LL.length c] 40)).alloc (.cells #[.int .i64 pc, .int .i64 r0, .int .i64 r1, .int .i64 r2, .int .i64 r3] 48)).alloc (.cells #[.int .i64 0, .int .i64 0, .int .i64 0, .int .i64 0, .int .i64 0, .int .i64 0, .int .i64 0, .int .i64 0, .int .i64 0] 53) := ⟨_, rfl⟩
      have K0 : On w W0 := by rw [hW0]; exact (((On.refl w).alloc _).alloc _).alloc _
      have PB : Bk W0 w.heap.size #[.slice a1 m1 c1, .slice a2 m2 c2, .slice a LL.length c] := by rw [hW0]; exact ((Bk.new w _ _).alloc _).alloc _
      have CB : Bk W0 (w.heap.size + 1) #[.int .i64 pc, .int .i64 r0, .int .i64 r1, .int .i64 r2, .int .i64 r3] := by
        rw [hW0]
        have := (Bk.new (w.alloc (.cells #[.slice a1 m1 c1, .slice a2 m2 c2, .slice a LL.length c] 40)) #[.int .i64 pc, .int .i64 r0, .int .i64 r1, .int .i64 r2, .int .i64 r3] 48).alloc (.cells #[.int .i64 0, .int .i64 0, .int .i64 0, .int .i64 0, .int .i64 0, .int .i64 0, .int .i64 0, .int .i64 0, .int .i64 0] 53)
        rwa [World.size_alloc] at this
      have ZB : Bk W0 (w.heap.size + 1 + 1) #[.int .i64 0, .int .i64 0, .int .i64 0, .int .i64 0, .int .i64 0, .int .i64 0, .int .i64 0, .int .i64 0, .int .i64 0] := by
        rw [hW0]
        have := Bk.new ((w.alloc (.cells #[.slice a1 m1 c1, .slice a2 m2 c2, .slice a LL.length c] 40)).alloc (.cells #[.int .i64 pc, .int .i64 r0, .int .i64 r1, .int .i64 r2, .int .i64 r3] 48)) #[.int .i64 0, .int .i64 0, .int .i64 0, .int .i64 0, .int .i64 0, .int .i64 0, .int .i64 0, .int .i64 0, .int .i64 0] 53
        rwa [World.size_alloc, World.size_alloc] at this
      have hS : ∀ W, On W0 W → W.cell? ⟨w.heap.size, 0, none⟩ = some (.slice a1 m1 c1) ∧ W.cell? ⟨w.heap.size, 1, none⟩ = some (.slice a2 m2 c2) ∧ W.cell? ⟨w.heap.size, 2, none⟩ = some (.slice a LL.length c) ∧ W.cell? ⟨w.heap.size + 1, 0, none⟩ = some (.int .i64 pc) := fun W k' => ⟨(PB.on k').at (i := 0) rfl, (PB.on k').at (i := 1) rfl, (PB.on k').at (i := 2) rfl, (CB.on k').at (i := 0) rfl⟩
      have qS := hS _ (On.refl W0).drew
      have zl := ZB.lt
      go_enter Tryd.func23, Tryd.ntmps23
      go_wp2
      rw [← hW0]
      clear hW0
      refine region_fin (fun W => W.cell? ⟨w.heap.size, 0, none⟩ = some (.slice a1 m1 c1) ∧ W.cell? ⟨w.heap.size, 1, none⟩ = some (.slice a2 m2 c2) ∧ W.cell? ⟨w.heap.size, 2, none⟩ = some (.slice a LL.length c) ∧ W.cell? ⟨w.heap.size + 1, 0, none⟩ = some (.int .i64 pc)) 99 20 (by kernel_rfl) rfl ?_
      refine fin_take 0 (v := ?_) rfl (by kernel_rfl) (by kernel_rfl) (by kernel_rfl) (by kernel_rfl) (fun _ _ _ h => h) rfl ?_ qS ?_
      rotate_left
      · intro W hW
        go_simp
        (try with_reducible rfl)
      simp only [Act.put, List.setIfInBounds_toArray, List.set_cons_zero, List.set_cons_succ]
      refine fin_take 1 (v := ?_) rfl (by kernel_rfl) (by kernel_rfl) (by kernel_rfl) (by kernel_rfl) (fun _ _ _ h => h) rfl ?_ qS ?_
      rotate_left
      · intro W hW
        go_simp
        (try with_reducible rfl)
      simp only [Act.put, List.setIfInBounds_toArray, List.set_cons_zero, List.set_cons_succ]
      refine fin_one 2 rfl rfl (by kernel_rfl) (fun K hK => ?_)
      go_simp
      refine (hT _ K0.drew).mono ?_
      rintro _ w1 ⟨rfl, k1'⟩
      have k1 : On W0 w1 := (On.refl W0).drew.trans k1'
      have q1 := hS _ k1
      refine hK.out _ _ (fun _ => q1) ?_
      clear hK
      refine fin_take 3 (v := ?_) rfl (by kernel_rfl) (by kernel_rfl) (by kernel_rfl) (by kernel_rfl) (fun _ _ _ h => h) rfl ?_ q1 ?_
      rotate_left
      · intro W hW
        go_simp
        (try with_reducible rfl)
      simp only [Act.put, List.setIfInBounds_toArray, List.set_cons_zero, List.set_cons_succ]
      refine fin_take 4 (v := ?_) rfl (by kernel_rfl) (by kernel_rfl) (by kernel_rfl) (by kernel_rfl) (fun _ _ _ h => h) rfl ?_ q1 ?_
      rotate_left
      · intro W hW
        go_simp
        (try with_reducible rfl)
      simp only [Act.put, List.setIfInBounds_toArray, List.set_cons_zero, List.set_cons_succ]
      refine fin_takeG 5 (v := ?_) rfl (by kernel_rfl) (by kernel_rfl) (by kernel_rfl) (by kernel_rfl) (fun _ _ _ h => h) (by rfl) ?_ q1 ?_
      rotate_left
      · intro W hW
        go_simp
        (try with_reducible rfl)
      simp only [Act.put, List.setIfInBounds_toArray, List.set_cons_zero, List.set_cons_succ]
      refine fin_takeG 6 (v := ?_) rfl (by kernel_rfl) (by kernel_rfl) (by kernel_rfl) (by kernel_rfl) (fun _ _ _ h => h) (by rfl) ?_ q1 ?_
      rotate_left
      · intro W hW
        go_simp
        (try with_reducible rfl)
      simp only [Act.put, List.setIfInBounds_toArray, List.set_cons_zero, List.set_cons_succ]
      refine fin_takeG 7 (v := ?_) rfl (by kernel_rfl) (by kernel_rfl) (by kernel_rfl) (by kernel_rfl) (fun _ _ _ h => h) (by rfl) ?_ q1 ?_
      rotate_left
      · intro W hW
        go_simp
        (try with_reducible rfl)
      simp only [Act.put, List.setIfInBounds_toArray, List.set_cons_zero, List.set_cons_succ]
      refine fin_take 8 (v := ?_) rfl (by kernel_rfl) (by kernel_rfl) (by kernel_rfl) (by kernel_rfl) (fun _ _ _ h => h) rfl ?_ q1 ?_
      rotate_left
      · intro W hW
        go_simp
        (try with_reducible rfl)
      simp only [Act.put, List.setIfInBounds_toArray, List.set_cons_zero, List.set_cons_succ]
      refine fin_take 9 (v := ?_) rfl (by kernel_rfl) (by kernel_rfl) (by kernel_rfl) (by kernel_rfl) (fun _ _ _ h => h) rfl ?_ q1 ?_
      rotate_left
      · intro W hW
        go_simp
        (try with_reducible rfl)
      simp only [Act.put, List.setIfInBounds_toArray, List.set_cons_zero, List.set_cons_succ]
      refine fin_takeN 10 rfl (by kernel_rfl) (by kernel_rfl) (by kernel_rfl) (by kernel_rfl) (fun _ _ _ h => h) (by rfl) q1 ?_
      simp only [Act.put, List.setIfInBounds_toArray, List.set_cons_zero, List.set_cons_succ]
      refine fin_takeN 11 rfl (by kernel_rfl) (by kernel_rfl) (by kernel_rfl) (by kernel_rfl) (fun _ _ _ h => h) (by rfl) q1 ?_
      simp only [Act.put, List.setIfInBounds_toArray, List.set_cons_zero, List.set_cons_succ]
      refine fin_takeN 12 rfl (by kernel_rfl) (by kernel_rfl) (by kernel_rfl) (by kernel_rfl) (fun _ _ _ h => h) (by rfl) q1 ?_
      simp only [Act.put, List.setIfInBounds_toArray, List.set_cons_zero, List.set_cons_succ]
      refine fin_takeN 13 rfl (by kernel_rfl) (by kernel_rfl) (by kernel_rfl) (by kernel_rfl) (fun _ _ _ h => h) (by rfl) q1 ?_
      simp only [Act.put, List.setIfInBounds_toArray, List.set_cons_zero, List.set_cons_succ]
      refine fin_takeN 14 rfl (by kernel_rfl) (by kernel_rfl) (by kernel_rfl) (by kernel_rfl) (fun _ _ _ h => h) (by rfl) q1 ?_
      simp only [Act.put, List.setIfInBounds_toArray, List.set_cons_zero, List.set_cons_succ]
      refine fin_takeN 15 rfl (by kernel_rfl) (by kernel_rfl) (by kernel_rfl) (by kernel_rfl) (fun _ _ _ h => h) (by rfl) q1 ?_
      simp only [Act.put, List.setIfInBounds_toArray, List.set_cons_zero, List.set_cons_succ]
      refine fin_takeN 16 rfl (by kernel_rfl) (by kernel_rfl) (by kernel_rfl) (by kernel_rfl) (fun _ _ _ h => h) (by rfl) q1 ?_
      simp only [Act.put, List.setIfInBounds_toArray, List.set_cons_zero, List.set_cons_succ]
      refine fin_takeN 17 rfl (by kernel_rfl) (by kernel_rfl) (by kernel_rfl) (by kernel_rfl) (fun _ _ _ h => h) (by rfl) q1 ?_
      simp only [Act.put, List.setIfInBounds_toArray, List.set_cons_zero, List.set_cons_succ]
      refine fin_takeN 18 rfl (by kernel_rfl) (by kernel_rfl) (by kernel_rfl) (by kernel_rfl) (fun _ _ _ h => h) (by rfl) q1 ?_
      simp only [Act.put, List.setIfInBounds_toArray, List.set_cons_zero, List.set_cons_succ]
      refine fin_take 19 (v := ?_) rfl (by kernel_rfl) (by kernel_rfl) (by kernel_rfl) (by kernel_rfl) (fun _ _ _ h => h) rfl ?_ q1 ?_
      rotate_left
      · intro W hW
        go_simp
        (try with_reducible rfl)
      simp only [Act.put, List.setIfInBounds_toArray, List.set_cons_zero, List.set_cons_succ]
      refine fin_done (by kernel_rfl) (NoPanic.normal ?_)
      have O1 : On w w1 := K0.trans k1
      have Z1 := ZB.on k1
      have zf := fun i => Z1.fr i
      have z0 := Z1.at (i := 0) rfl
      have z1 := Z1.at (i := 1) rfl
      have z2 := Z1.at (i := 2) rfl
      have z3 := Z1.at (i := 3) rfl
      have z4 := Z1.at (i := 4) rfl
      have z5 := Z1.at (i := 5) rfl
      have z6 := Z1.at (i := 6) rfl
      have z7 := Z1.at (i := 7) rfl
      have z8 := Z1.at (i := 8) rfl
      have zzl := Z1.lt
      go_wp2
      refine bodyPost_ret (v := .tuple #[.agg #[.int .i64 0, .int .i64 0, .int .i64 0, .int .i64 0, .int .i64 0, .int .i64 0, .int .i64 0, .int .i64 0, .int .i64 0], .bool false]) ?_ rfl ⟨rfl, ?_⟩
      · rw [results_cell_slot rfl]
        go_simp
      · (try with_reducible refine On.drew ?_)
        repeat' (first | with_reducible refine On.setNew ?_ (by omega) _ | with_reducible exact O1 | with_reducible refine On.alloc ?_ _ | with_reducible refine On.drew ?_)
    · obtain ⟨n, rfl⟩ : ∃ n : Nat, pc = (n : Int) := ⟨pc.toNat, by omega⟩
      clear hneg
      rcases Nat.lt_or_ge n L.length with hlt | hge
      · obtain ⟨x, hx⟩ : ∃ x, L[n]? = some x := ⟨_, List.getElem?_eq_getElem hlt⟩
        have hkx := (hfl n x hx).2.1
        obtain ⟨gx, ox, rfl, hgx, hcell⟩ := rx.at hx
        cases hs : seenB x.k with
        | true =>
          have e : nextV (nextP L ⟨(n : Int), r0, r1, r2, r3⟩) = .tuple #[.agg #[.int .i64 x.k, .int .i64 x.r, .int .i64 x.l, .int .i64 x.a.r, .int .i64 x.a.v, .int .i64 x.o, .int .i64 x.b.r, .int .i64 x.b.v, .int .i64 x.n], .bool true] := by
            unfold nextP
            rw [if_pos (Int.natCast_nonneg n)]
            simp only [Int.toNat_natCast, hx, hs]
            rfl
          rw [e]
          rw [hs] at hkx
          have hk5 : (x.k == 5) = false := by revert hkx; cases (x.k == 5) <;> simp
          have hk6 : (x.k == 6) = false := by revert hkx; cases (x.k == 6) <;> simp
          clear e hx hkx hs hfl rx
          obtain ⟨W0, hW0⟩ : ∃ W0, W0 = ((w.alloc (.cells #[.slice a1 m1 c1, .slice a2 m2 c2, .slice (some ⟨ga, oa, none⟩) LL.length c] 40)).alloc (.cells #[.int .i64 (n : Int), .int .i64 r0, .int .i64 r1, .int .i64 r2, .int .i64 r3] 48)).alloc (.cells #[.int .i64 0, .int .i64 0, .int .i64 0, .int .i64 0, .int .i64 0, .int .i64 0, .int .i64 0, .int .i64 0, .int .i64 0] 53) := ⟨_, rfl⟩
          have K0 : On w W0 := by rw [hW0]; exact (((On.refl w).alloc _).alloc _).alloc _
          have PB : Bk W0 w.heap.size #[.slice a1 m1 c1, .slice a2 m2 c2, .slice (some ⟨ga, oa, none⟩) LL.length c] := by rw [hW0]; exact ((Bk.new w _ _).alloc _).alloc _
          have CB : Bk W0 (w.heap.size + 1) #[.int .i64 (n : Int), .int .i64 r0, .int .i64 r1, .int .i64 r2, .int .i64 r3] := by
            rw [hW0]
            have := (Bk.new (w.alloc (.cells #[.slice a1 m1 c1, .slice a2 m2 c2, .slice (some ⟨ga, oa, none⟩) LL.length c] 40)) #[.int .i64 (n : Int), .int .i64 r0, .int .i64 r1, .int .i64 r2, .int .i64 r3] 48).alloc (.cells #[.int .i64 0, .int .i64 0, .int .i64 0, .int .i64 0, .int .i64 0, .int .i64 0, .int .i64 0, .int .i64 0, .int .i64 0] 53)
            rwa [World.size_alloc] at this
          have ZB : Bk W0 (w.heap.size + 1 + 1) #[.int .i64 0, .int .i64 0, .int .i64 0, .int .i64 0, .int .i64 0, .int .i64 0, .int .i64 0, .int .i64 0, .int .i64 0] := by
            rw [hW0]
            have := Bk.new ((w.alloc (.cells #[.slice a1 m1 c1, .slice a2 m2 c2, .slice (some ⟨ga, oa, none⟩) LL.length c] 40)).alloc (.cells #[.int .i64 (n : Int), .int .i64 r0, .int .i64 r1, .int .i64 r2, .int .i64 r3] 48)) #[.int .i64 0, .int .i64 0, .int .i64 0, .int .i64 0, .int .i64 0, .int .i64 0, .int .i64 0, .int .i64 0, .int .i64 0] 53
            rwa [World.size_alloc, World.size_alloc] at this
          have uaxW := (K0.cell (p := ⟨ga, oa + k, none⟩) hga).trans uax
          have hgaW : ga < W0.heap.size := Nat.lt_of_lt_of_le hga K0.size
          have hS : ∀ W, On W0 W → W.cell? ⟨w.heap.size, 0, none⟩ = some (.slice a1 m1 c1) ∧ W.cell? ⟨w.heap.size, 1, none⟩ = some (.slice a2 m2 c2) ∧ W.cell? ⟨w.heap.size, 2, none⟩ = some (.slice (some ⟨ga, oa, none⟩) LL.length c) ∧ W.cell? ⟨w.heap.size + 1, 0, none⟩ = some (.int .i64 (n : Int)) ∧ W.cell? ⟨ga, oa + k, none⟩ = some (.slice (some ⟨gx, ox, none⟩) L.length cx) := fun W k' => ⟨(PB.on k').at (i := 0) rfl, (PB.on k').at (i := 1) rfl, (PB.on k').at (i := 2) rfl, (CB.on k').at (i := 0) rfl, (k'.cell (p := ⟨ga, oa + k, none⟩) hgaW).trans uaxW⟩
          have qS := hS _ (On.refl W0).drew
          have zl := ZB.lt
          go_enter Tryd.func23, Tryd.ntmps23
          go_wp2
          rw [← hW0]
          clear hW0
          refine region_fin (fun W => W.cell? ⟨w.heap.size, 0, none⟩ = some (.slice a1 m1 c1) ∧ W.cell? ⟨w.heap.size, 1, none⟩ = some (.slice a2 m2 c2) ∧ W.cell? ⟨w.heap.size, 2, none⟩ = some (.slice (some ⟨ga, oa, none⟩) LL.length c) ∧ W.cell? ⟨w.heap.size + 1, 0, none⟩ = some (.int .i64 (n : Int)) ∧ W.cell? ⟨ga, oa + k, none⟩ = some (.slice (some ⟨gx, ox, none⟩) L.length cx)) 99 20 (by kernel_rfl) rfl ?_
          refine fin_take 0 (v := ?_) rfl (by kernel_rfl) (by kernel_rfl) (by kernel_rfl) (by kernel_rfl) (fun _ _ _ h => h) rfl ?_ qS ?_
          rotate_left
          · intro W hW
            go_simp
            (try with_reducible rfl)
          simp only [Act.put, List.setIfInBounds_toArray, List.set_cons_zero, List.set_cons_succ]
          refine fin_take 1 (v := ?_) rfl (by kernel_rfl) (by kernel_rfl) (by kernel_rfl) (by kernel_rfl) (fun _ _ _ h => h) rfl ?_ qS ?_
          rotate_left
          · intro W hW
            go_simp
            (try with_reducible rfl)
          simp only [Act.put, List.setIfInBounds_toArray, List.set_cons_zero, List.set_cons_succ]
          refine fin_one 2 rfl rfl (by kernel_rfl) (fun K hK => ?_)
          go_simp
          refine (hT _ K0.drew).mono ?_
          rintro _ w1 ⟨rfl, k1'⟩
          have k1 : On W0 w1 := (On.refl W0).drew.trans k1'
          have q1 := hS _ k1
          refine hK.out _ _ (fun _ => q1) ?_
          clear hK
          refine fin_take 3 (v := ?_) rfl (by kernel_rfl) (by kernel_rfl) (by kernel_rfl) (by kernel_rfl) (fun _ _ _ h => h) rfl ?_ q1 ?_
          rotate_left
          · intro W hW
            go_simp
            (try with_reducible rfl)
          simp only [Act.put, List.setIfInBounds_toArray, List.set_cons_zero, List.set_cons_succ]
          refine fin_take 4 (v := ?_) rfl (by kernel_rfl) (by kernel_rfl) (by kernel_rfl) (by kernel_rfl) (fun _ _ _ h => h) rfl ?_ q1 ?_
          rotate_left
          · intro W hW
            go_simp
            (try with_reducible rfl)
          simp only [Act.put, List.setIfInBounds_toArray, List.set_cons_zero, List.set_cons_succ]
          refine fin_takeG 5 (v := ?_) rfl (by kernel_rfl) (by kernel_rfl) (by kernel_rfl) (by kernel_rfl) (fun _ _ _ h => h) (by rfl) ?_ q1 ?_
          rotate_left
          · intro W hW
            go_simp
            (try with_reducible rfl)
          simp only [Act.put, List.setIfInBounds_toArray, List.set_cons_zero, List.set_cons_succ]
          refine fin_takeG 6 (v := ?_) rfl (by kernel_rfl) (by kernel_rfl) (by kernel_rfl) (by kernel_rfl) (fun _ _ _ h => h) (by rfl) ?_ q1 ?_
          rotate_left
          · intro W hW
            go_simp
            (try with_reducible rfl)
          simp only [Act.put, List.setIfInBounds_toArray, List.set_cons_zero, List.set_cons_succ]
          refine fin_takeG 7 (v := ?_) rfl (by kernel_rfl) (by kernel_rfl) (by kernel_rfl) (by kernel_rfl) (fun _ _ _ h => h) (by rfl) ?_ q1 ?_
          rotate_left
          · intro W hW
            go_simp
            (try with_reducible rfl)
          simp only [Act.put, List.setIfInBounds_toArray, List.set_cons_zero, List.set_cons_succ]
          refine fin_take 8 (v := ?_) rfl (by kernel_rfl) (by kernel_rfl) (by kernel_rfl) (by kernel_rfl) (fun _ _ _ h => h) rfl ?_ q1 ?_
          rotate_left
          · intro W hW
            go_simp
            (try with_reducible rfl)
          simp only [Act.put, List.setIfInBounds_toArray, List.set_cons_zero, List.set_cons_succ]
          refine fin_take 9 (v := ?_) rfl (by kernel_rfl) (by kernel_rfl) (by kernel_rfl) (by kernel_rfl) (fun _ _ _ h => h) rfl ?_ q1 ?_
          rotate_left
          · intro W hW
            go_simp
            (try with_reducible rfl)
          simp only [Act.put, List.setIfInBounds_toArray, List.set_cons_zero, List.set_cons_succ]
          refine fin_takeG 10 (v := ?_) rfl (by kernel_rfl) (by kernel_rfl) (by kernel_rfl) (by kernel_rfl) (fun _ _ _ h => h) (by rfl) ?_ q1 ?_
          rotate_left
          · intro W hW
            go_simp
            (try with_reducible rfl)
          simp only [Act.put, List.setIfInBounds_toArray, List.set_cons_zero, List.set_cons_succ]
          refine fin_takeG 11 (v := ?_) rfl (by kernel_rfl) (by kernel_rfl) (by kernel_rfl) (by kernel_rfl) (fun _ _ _ h => h) (by rfl) ?_ q1 ?_
          rotate_left
          · intro W hW
            go_simp
            (try with_reducible rfl)
          simp only [Act.put, List.setIfInBounds_toArray, List.set_cons_zero, List.set_cons_succ]
          refine fin_takeG 12 (v := ?_) rfl (by kernel_rfl) (by kernel_rfl) (by kernel_rfl) (by kernel_rfl) (fun _ _ _ h => h) (by rfl) ?_ q1 ?_
          rotate_left
          · intro W hW
            go_simp
            (try with_reducible rfl)
          simp only [Act.put, List.setIfInBounds_toArray, List.set_cons_zero, List.set_cons_succ]
          refine fin_takeG 13 (v := ?_) rfl (by kernel_rfl) (by kernel_rfl) (by kernel_rfl) (by kernel_rfl) (fun _ _ _ h => h) (by rfl) ?_ q1 ?_
          rotate_left
          · intro W hW
            go_simp
            (try with_reducible rfl)
          simp only [Act.put, List.setIfInBounds_toArray, List.set_cons_zero, List.set_cons_succ]
          refine fin_takeG 14 (v := ?_) rfl (by kernel_rfl) (by kernel_rfl) (by kernel_rfl) (by kernel_rfl) (fun _ _ _ h => h) (by rfl) ?_ q1 ?_
          rotate_left
          · intro W hW
            go_simp
            (try with_reducible rfl)
          simp only [Act.put, List.setIfInBounds_toArray, List.set_cons_zero, List.set_cons_succ]
          refine fin_takeG 15 (v := ?_) rfl (by kernel_rfl) (by kernel_rfl) (by kernel_rfl) (by kernel_rfl) (fun _ _ _ h => h) (by rfl) ?_ q1 ?_
          rotate_left
          · intro W hW
            go_simp
            (try with_reducible rfl)
          simp only [Act.put, List.setIfInBounds_toArray, List.set_cons_zero, List.set_cons_succ]
          refine fin_takeG 16 (v := ?_) rfl (by kernel_rfl) (by kernel_rfl) (by kernel_rfl) (by kernel_rfl) (fun _ _ _ h => h) (by rfl) ?_ q1 ?_
          rotate_left
          · intro W hW
            go_simp
            (try with_reducible rfl)
          simp only [Act.put, List.setIfInBounds_toArray, List.set_cons_zero, List.set_cons_succ]
          refine fin_takeG 17 (v := ?_) rfl (by kernel_rfl) (by kernel_rfl) (by kernel_rfl) (by kernel_rfl) (fun _ _ _ h => h) (by rfl) ?_ q1 ?_
          rotate_left
          · intro W hW
            go_simp
            (try with_reducible rfl)
          simp only [Act.put, List.setIfInBounds_toArray, List.set_cons_zero, List.set_cons_succ]
          refine fin_takeG 18 (v := ?_) rfl (by kernel_rfl) (by kernel_rfl) (by kernel_rfl) (by kernel_rfl) (fun _ _ _ h => h) (by rfl) ?_ q1 ?_
          rotate_left
          · intro W hW
            go_simp
            (try with_reducible rfl)
          simp only [Act.put, List.setIfInBounds_toArray, List.set_cons_zero, List.set_cons_succ]
          refine fin_take 19 (v := ?_) rfl (by kernel_rfl) (by kernel_rfl) (by kernel_rfl) (by kernel_rfl) (fun _ _ _ h => h) rfl ?_ q1 ?_
          rotate_left
          · intro W hW
            go_simp
            (try with_reducible rfl)
          simp only [Act.put, List.setIfInBounds_toArray, List.set_cons_zero, List.set_cons_succ]
          refine fin_done (by kernel_rfl) (NoPanic.normal ?_)
          have O1 : On w w1 := K0.trans k1
          have Z1 := ZB.on k1
          have qI : ∀ W, On w1 W → W.cell? ⟨w.heap.size, 0, none⟩ = some (.slice a1 m1 c1) ∧ W.cell? ⟨w.heap.size, 1, none⟩ = some (.slice a2 m2 c2) ∧ W.cell? ⟨w.heap.size, 2, none⟩ = some (.slice (some ⟨ga, oa, none⟩) LL.length c) ∧ W.cell? ⟨w.heap.size + 1, 0, none⟩ = some (.int .i64 (n : Int)) ∧ W.cell? ⟨ga, oa + k, none⟩ = some (.slice (some ⟨gx, ox, none⟩) L.length cx) ∧ W.cell? ⟨gx, ox + n * 9, none⟩ = some (.int .i64 x.k) ∧ W.cell? ⟨gx, ox + n * 9 + 1, none⟩ = some (.int .i64 x.r) ∧ W.cell? ⟨gx, ox + n * 9 + 2, none⟩ = some (.int .i64 x.l) ∧ W.cell? ⟨gx, ox + n * 9 + 3, none⟩ = some (.int .i64 x.a.r) ∧ W.cell? ⟨gx, ox + n * 9 + 4, none⟩ = some (.int .i64 x.a.v) ∧ W.cell? ⟨gx, ox + n * 9 + 5, none⟩ = some (.int .i64 x.o) ∧ W.cell? ⟨gx, ox + n * 9 + 6, none⟩ = some (.int .i64 x.b.r) ∧ W.cell? ⟨gx, ox + n * 9 + 7, none⟩ = some (.int .i64 x.b.v) ∧ W.cell? ⟨gx, ox + n * 9 + 8, none⟩ = some (.int .i64 x.n) := fun W k' => ⟨(PB.on (k1.trans k')).at (i := 0) rfl, (PB.on (k1.trans k')).at (i := 1) rfl, (PB.on (k1.trans k')).at (i := 2) rfl, (CB.on (k1.trans k')).at (i := 0) rfl, ((k1.trans k').cell (p := ⟨ga, oa + k, none⟩) hgaW).trans uaxW, ((O1.trans k').cell (p := ⟨gx, ox + n * 9 + 0, none⟩) hgx).trans (hcell 0 _ rfl), ((O1.trans k').cell (p := ⟨gx, ox + n * 9 + 1, none⟩) hgx).trans (hcell 1 _ rfl), ((O1.trans k').cell (p := ⟨gx, ox + n * 9 + 2, none⟩) hgx).trans (hcell 2 _ rfl), ((O1.trans k').cell (p := ⟨gx, ox + n * 9 + 3, none⟩) hgx).trans (hcell 3 _ rfl), ((O1.trans k').cell (p := ⟨gx, ox + n * 9 + 4, none⟩) hgx).trans (hcell 4 _ rfl), ((O1.trans k').cell (p := ⟨gx, ox + n * 9 + 5, none⟩) hgx).trans (hcell 5 _ rfl), ((O1.trans k').cell (p := ⟨gx, ox + n * 9 + 6, none⟩) hgx).trans (hcell 6 _ rfl), ((O1.trans k').cell (p := ⟨gx, ox + n * 9 + 7, none⟩) hgx).trans (hcell 7 _ rfl), ((O1.trans k').cell (p := ⟨gx, ox + n * 9 + 8, none⟩) hgx).trans (hcell 8 _ rfl)⟩
          have q2 := qI _ (On.refl w1).drew
          have k1l := k1.size
          go_wp2
          refine region_fin (fun W => W.cell? ⟨w.heap.size, 0, none⟩ = some (.slice a1 m1 c1) ∧ W.cell? ⟨w.heap.size, 1, none⟩ = some (.slice a2 m2 c2) ∧ W.cell? ⟨w.heap.size, 2, none⟩ = some (.slice (some ⟨ga, oa, none⟩) LL.length c) ∧ W.cell? ⟨w.heap.size + 1, 0, none⟩ = some (.int .i64 (n : Int)) ∧ W.cell? ⟨ga, oa + k, none⟩ = some (.slice (some ⟨gx, ox, none⟩) L.length cx) ∧ W.cell? ⟨gx, ox + n * 9, none⟩ = some (.int .i64 x.k) ∧ W.cell? ⟨gx, ox + n * 9 + 1, none⟩ = some (.int .i64 x.r) ∧ W.cell? ⟨gx, ox + n * 9 + 2, none⟩ = some (.int .i64 x.l) ∧ W.cell? ⟨gx, ox + n * 9 + 3, none⟩ = some (.int .i64 x.a.r) ∧ W.cell? ⟨gx, ox + n * 9 + 4, none⟩ = some (.int .i64 x.a.v) ∧ W.cell? ⟨gx, ox + n * 9 + 5, none⟩ = some (.int .i64 x.o) ∧ W.cell? ⟨gx, ox + n * 9 + 6, none⟩ = some (.int .i64 x.b.r) ∧ W.cell? ⟨gx, ox + n * 9 + 7, none⟩ = some (.int .i64 x.b.v) ∧ W.cell? ⟨gx, ox + n * 9 + 8, none⟩ = some (.int .i64 x.n)) 10 11 (by kernel_rfl) rfl ?_
          refine fin_take 0 (v := ?_) rfl (by kernel_rfl) (by kernel_rfl) (by kernel_rfl) (by kernel_rfl) (fun _ _ _ h => h) rfl ?_ q2 ?_
          rotate_left
          · intro W hW
            go_simp
            (try with_reducible rfl)
          simp only [Act.put, List.setIfInBounds_toArray, List.set_cons_zero, List.set_cons_succ]
          refine fin_take 1 (v := ?_) rfl (by kernel_rfl) (by kernel_rfl) (by kernel_rfl) (by kernel_rfl) (fun _ _ _ h => h) rfl ?_ q2 ?_
          rotate_left
          · intro W hW
            go_simp
            (try with_reducible rfl)
          simp only [Act.put, List.setIfInBounds_toArray, List.set_cons_zero, List.set_cons_succ]
          refine fin_take 2 (v := ?_) rfl (by kernel_rfl) (by kernel_rfl) (by kernel_rfl) (by kernel_rfl) (fun _ _ _ h => h) rfl ?_ q2 ?_
          rotate_left
          · intro W hW
            go_simp
            (try with_reducible rfl)
          simp only [Act.put, List.setIfInBounds_toArray, List.set_cons_zero, List.set_cons_succ]
          refine fin_take 3 (v := ?_) rfl (by kernel_rfl) (by kernel_rfl) (by kernel_rfl) (by kernel_rfl) (fun _ _ _ h => h) rfl ?_ q2 ?_
          rotate_left
          · intro W hW
            go_simp
            (try with_reducible rfl)
          simp only [Act.put, List.setIfInBounds_toArray, List.set_cons_zero, List.set_cons_succ]
          refine fin_take 4 (v := ?_) rfl (by kernel_rfl) (by kernel_rfl) (by kernel_rfl) (by kernel_rfl) (fun _ _ _ h => h) rfl ?_ q2 ?_
          rotate_left
          · intro W hW
            go_simp
            (try with_reducible rfl)
          simp only [Act.put, List.setIfInBounds_toArray, List.set_cons_zero, List.set_cons_succ]
          refine fin_take 5 (v := ?_) rfl (by kernel_rfl) (by kernel_rfl) (by kernel_rfl) (by kernel_rfl) (fun _ _ _ h => h) rfl ?_ q2 ?_
          rotate_left
          · intro W hW
            go_simp
            (try with_reducible rfl)
          simp only [Act.put, List.setIfInBounds_toArray, List.set_cons_zero, List.set_cons_succ]
          refine fin_take 6 (v := ?_) rfl (by kernel_rfl) (by kernel_rfl) (by kernel_rfl) (by kernel_rfl) (fun _ _ _ h => h) rfl ?_ q2 ?_
          rotate_left
          · intro W hW
            go_simp
            (try with_reducible rfl)
          simp only [Act.put, List.setIfInBounds_toArray, List.set_cons_zero, List.set_cons_succ]
          refine fin_take 7 (v := ?_) rfl (by kernel_rfl) (by kernel_rfl) (by kernel_rfl) (by kernel_rfl) (fun _ _ _ h => h) rfl ?_ q2 ?_
          rotate_left
          · intro W hW
            go_simp
            (try with_reducible rfl)
          simp only [Act.put, List.setIfInBounds_toArray, List.set_cons_zero, List.set_cons_succ]
          refine fin_take 8 (v := ?_) rfl (by kernel_rfl) (by kernel_rfl) (by kernel_rfl) (by kernel_rfl) (fun _ _ _ h => h) rfl ?_ q2 ?_
          rotate_left
          · intro W hW
            go_simp
            (try with_reducible rfl)
          simp only [Act.put, List.setIfInBounds_toArray, List.set_cons_zero, List.set_cons_succ]
          refine fin_one 9 rfl rfl (by kernel_rfl) (fun K hK => ?_)
          go_simp
          refine hK.out _ _ (fun _ => qI _ ((On.refl w1).alloc _).drew) ?_
          clear hK
          refine fin_one 10 rfl rfl (by kernel_rfl) (fun K hK => ?_)
          go_simp
          refine hK.out _ _ (fun h => absurd rfl h) ?_
          refine fin_done (by kernel_rfl) (NoPanic.normal ?_)
          have hwr : w.heap.size + 1 + 1 < w1.heap.size := by omega
          have hne : ¬ w1.heap.size = w.heap.size + 1 + 1 := by omega
          clear q2 qI hcell
          have zf := fun i => Z1.fr i
          have z0 := Z1.at (i := 0) rfl
          have z1 := Z1.at (i := 1) rfl
          have z2 := Z1.at (i := 2) rfl
          have z3 := Z1.at (i := 3) rfl
          have z4 := Z1.at (i := 4) rfl
          have z5 := Z1.at (i := 5) rfl
          have z6 := Z1.at (i := 6) rfl
          have z7 := Z1.at (i := 7) rfl
          have z8 := Z1.at (i := 8) rfl
          have zzl := Z1.lt
          go_wp2
          refine bodyPost_ret (v := .tuple #[.agg #[.int .i64 x.k, .int .i64 x.r, .int .i64 x.l, .int .i64 x.a.r, .int .i64 x.a.v, .int .i64 x.o, .int .i64 x.b.r, .int .i64 x.b.v, .int .i64 x.n], .bool true]) ?_ rfl ⟨rfl, ?_⟩
          · rw [results_cell_slot rfl]
            go_simp
          · (try with_reducible refine On.drew ?_)
            repeat' (first | with_reducible refine On.setNew ?_ (by omega) _ | with_reducible exact O1 | with_reducible refine On.alloc ?_ _ | with_reducible refine On.drew ?_)
        | false =>
          have e : nextV (nextP L ⟨(n : Int), r0, r1, r2, r3⟩) = .tuple #[.agg #[.int .i64 0, .int .i64 0, .int .i64 0, .int .i64 0, .int .i64 0, .int .i64 0, .int .i64 0, .int .i64 0, .int .i64 0], .bool false] := by
            unfold nextP
            rw [if_pos (Int.natCast_nonneg n)]
            simp only [Int.toNat_natCast, hx, hs]
            rfl
          rw [e]
          rw [hs] at hkx
          clear e hx hs hfl rx
          cases hk5 : (x.k == 5)
          · have hk6 : (x.k == 6) = true := by rw [hk5] at hkx; simpa using hkx
            clear hkx
            obtain ⟨W0, hW0⟩ : ∃ W0, W0 = ((w.alloc (.cells #[.slice a1 m1 c1, .slice a2 m2 c2, .slice (some ⟨ga, oa, none⟩) LL.length c] 40)).alloc (.cells #[.int .i64 (n : Int), .int .i64 r0, .int .i64 r1, .int .i64 r2, .int .i64 r3] 48)).alloc (.cells #[.int .i64 0, .int .i64 0, .int .i64 0, .int .i64 0, .int .i64 0, .int .i64 0, .int .i64 0, .int .i64 0, .int .i64 0] 53) := ⟨_, rfl⟩
            have K0 : On w W0 := by rw [hW0]; exact (((On.refl w).alloc _).alloc _).alloc _
            have PB : Bk W0 w.heap.size #[.slice a1 m1 c1, .slice a2 m2 c2, .slice (some ⟨ga, oa, none⟩) LL.length c] := by rw [hW0]; exact ((Bk.new w _ _).alloc _).alloc _
            have CB : Bk W0 (w.heap.size + 1) #[.int .i64 (n : Int), .int .i64 r0, .int .i64 r1, .int .i64 r2, .int .i64 r3] := by
              rw [hW0]
              have := (Bk.new (w.alloc (.cells #[.slice a1 m1 c1, .slice a2 m2 c2, .slice (some ⟨ga, oa, none⟩) LL.length c] 40)) #[.int .i64 (n : Int), .int .i64 r0, .int .i64 r1, .int .i64 r2, .int .i64 r3] 48).alloc (.cells #[.int .i64 0, .int .i64 0, .int .i64 0, .int .i64 0, .int .i64 0, .int .i64 0, .int .i64 0, .int .i64 0, .int .i64 0] 53)
              rwa [World.size_alloc] at this
            have ZB : Bk W0 (w.heap.size + 1 + 1) #[.int .i64 0, .int .i64 0, .int .i64 0, .int .i64 0, .int .i64 0, .int .i64 0, .int .i64 0, .int .i64 0, .int .i64 0] := by
              rw [hW0]
              have := Bk.new ((w.alloc (.cells #[.slice a1 m1 c1, .slice a2 m2 c2, .slice (some ⟨ga, oa, none⟩) LL.length c] 40)).alloc (.cells #[.int .i64 (n : Int), .int .i64 r0, .int .i64 r1, .int .i64 r2, .int .i64 r3] 48)) #[.int .i64 0, .int .i64 0, .int .i64 0, .int .i64 0, .int .i64 0, .int .i64 0, .int .i64 0, .int .i64 0, .int .i64 0] 53
              rwa [World.size_alloc, World.size_alloc] at this
            have uaxW := (K0.cell (p := ⟨ga, oa + k, none⟩) hga).trans uax
            have hgaW : ga < W0.heap.size := Nat.lt_of_lt_of_le hga K0.size
            have hS : ∀ W, On W0 W → W.cell? ⟨w.heap.size, 0, none⟩ = some (.slice a1 m1 c1) ∧ W.cell? ⟨w.heap.size, 1, none⟩ = some (.slice a2 m2 c2) ∧ W.cell? ⟨w.heap.size, 2, none⟩ = some (.slice (some ⟨ga, oa, none⟩) LL.length c) ∧ W.cell? ⟨w.heap.size + 1, 0, none⟩ = some (.int .i64 (n : Int)) ∧ W.cell? ⟨ga, oa + k, none⟩ = some (.slice (some ⟨gx, ox, none⟩) L.length cx) := fun W k' => ⟨(PB.on k').at (i := 0) rfl, (PB.on k').at (i := 1) rfl, (PB.on k').at (i := 2) rfl, (CB.on k').at (i := 0) rfl, (k'.cell (p := ⟨ga, oa + k, none⟩) hgaW).trans uaxW⟩
            have qS := hS _ (On.refl W0).drew
            have zl := ZB.lt
            go_enter Tryd.func23, Tryd.ntmps23
            go_wp2
            rw [← hW0]
            clear hW0
            refine region_fin (fun W => W.cell? ⟨w.heap.size, 0, none⟩ = some (.slice a1 m1 c1) ∧ W.cell? ⟨w.heap.size, 1, none⟩ = some (.slice a2 m2 c2) ∧ W.cell? ⟨w.heap.size, 2, none⟩ = some (.slice (some ⟨ga, oa, none⟩) LL.length c) ∧ W.cell? ⟨w.heap.size + 1, 0, none⟩ = some (.int .i64 (n : Int)) ∧ W.cell? ⟨ga, oa + k, none⟩ = some (.slice (some ⟨gx, ox, none⟩) L.length cx)) 99 20 (by kernel_rfl) rfl ?_
            refine fin_take 0 (v := ?_) rfl (by kernel_rfl) (by kernel_rfl) (by kernel_rfl) (by kernel_rfl) (fun _ _ _ h => h) rfl ?_ qS ?_
            rotate_left
            · intro W hW
              go_simp
              (try with_reducible rfl)
            simp only [Act.put, List.setIfInBounds_toArray, List.set_cons_zero, List.set_cons_succ]
            refine fin_take 1 (v := ?_) rfl (by kernel_rfl) (by kernel_rfl) (by kernel_rfl) (by kernel_rfl) (fun _ _ _ h => h) rfl ?_ qS ?_
            rotate_left
            · intro W hW
              go_simp
              (try with_reducible rfl)
            simp only [Act.put, List.setIfInBounds_toArray, List.set_cons_zero, List.set_cons_succ]
            refine fin_one 2 rfl rfl (by kernel_rfl) (fun K hK => ?_)
            go_simp
            refine (hT _ K0.drew).mono ?_
            rintro _ w1 ⟨rfl, k1'⟩
            have k1 : On W0 w1 := (On.refl W0).drew.trans k1'
            have q1 := hS _ k1
            refine hK.out _ _ (fun _ => q1) ?_
            clear hK
            refine fin_take 3 (v := ?_) rfl (by kernel_rfl) (by kernel_rfl) (by kernel_rfl) (by kernel_rfl) (fun _ _ _ h => h) rfl ?_ q1 ?_
            rotate_left
            · intro W hW
              go_simp
              (try with_reducible rfl)
            simp only [Act.put, List.setIfInBounds_toArray, List.set_cons_zero, List.set_cons_succ]
            refine fin_take 4 (v := ?_) rfl (by kernel_rfl) (by kernel_rfl) (by kernel_rfl) (by kernel_rfl) (fun _ _ _ h => h) rfl ?_ q1 ?_
            rotate_left
            · intro W hW
              go_simp
              (try with_reducible rfl)
            simp only [Act.put, List.setIfInBounds_toArray, List.set_cons_zero, List.set_cons_succ]
            refine fin_takeG 5 (v := ?_) rfl (by kernel_rfl) (by kernel_rfl) (by kernel_rfl) (by kernel_rfl) (fun _ _ _ h => h) (by rfl) ?_ q1 ?_
            rotate_left
            · intro W hW
              go_simp
              (try with_reducible rfl)
            simp only [Act.put, List.setIfInBounds_toArray, List.set_cons_zero, List.set_cons_succ]
            refine fin_takeG 6 (v := ?_) rfl (by kernel_rfl) (by kernel_rfl) (by kernel_rfl) (by kernel_rfl) (fun _ _ _ h => h) (by rfl) ?_ q1 ?_
            rotate_left
            · intro W hW
              go_simp
              (try with_reducible rfl)
            simp only [Act.put, List.setIfInBounds_toArray, List.set_cons_zero, List.set_cons_succ]
            refine fin_takeG 7 (v := ?_) rfl (by kernel_rfl) (by kernel_rfl) (by kernel_rfl) (by kernel_rfl) (fun _ _ _ h => h) (by rfl) ?_ q1 ?_
            rotate_left
            · intro W hW
              go_simp
              (try with_reducible rfl)
            simp only [Act.put, List.setIfInBounds_toArray, List.set_cons_zero, List.set_cons_succ]
            refine fin_take 8 (v := ?_) rfl (by kernel_rfl) (by kernel_rfl) (by kernel_rfl) (by kernel_rfl) (fun _ _ _ h => h) rfl ?_ q1 ?_
            rotate_left
            · intro W hW
              go_simp
              (try with_reducible rfl)
            simp only [Act.put, List.setIfInBounds_toArray, List.set_cons_zero, List.set_cons_succ]
            refine fin_take 9 (v := ?_) rfl (by kernel_rfl) (by kernel_rfl) (by kernel_rfl) (by kernel_rfl) (fun _ _ _ h => h) rfl ?_ q1 ?_
            rotate_left
            · intro W hW
              go_simp
              (try with_reducible rfl)
            simp only [Act.put, List.setIfInBounds_toArray, List.set_cons_zero, List.set_cons_succ]
            refine fin_takeG 10 (v := ?_) rfl (by kernel_rfl) (by kernel_rfl) (by kernel_rfl) (by kernel_rfl) (fun _ _ _ h => h) (by rfl) ?_ q1 ?_
            rotate_left
            · intro W hW
              go_simp
              (try with_reducible rfl)
            simp only [Act.put, List.setIfInBounds_toArray, List.set_cons_zero, List.set_cons_succ]
            refine fin_takeG 11 (v := ?_) rfl (by kernel_rfl) (by kernel_rfl) (by kernel_rfl) (by kernel_rfl) (fun _ _ _ h => h) (by rfl) ?_ q1 ?_
            rotate_left
            · intro W hW
              go_simp
              (try with_reducible rfl)
            simp only [Act.put, List.setIfInBounds_toArray, List.set_cons_zero, List.set_cons_succ]
            refine fin_takeG 12 (v := ?_) rfl (by kernel_rfl) (by kernel_rfl) (by kernel_rfl) (by kernel_rfl) (fun _ _ _ h => h) (by rfl) ?_ q1 ?_
            rotate_left
            · intro W hW
              go_simp
              (try with_reducible rfl)
            simp only [Act.put, List.setIfInBounds_toArray, List.set_cons_zero, List.set_cons_succ]
            refine fin_takeG 13 (v := ?_) rfl (by kernel_rfl) (by kernel_rfl) (by kernel_rfl) (by kernel_rfl) (fun _ _ _ h => h) (by rfl) ?_ q1 ?_
            rotate_left
            · intro W hW
              go_simp
              (try with_reducible rfl)
            simp only [Act.put, List.setIfInBounds_toArray, List.set_cons_zero, List.set_cons_succ]
            refine fin_takeG 14 (v := ?_) rfl (by kernel_rfl) (by kernel_rfl) (by kernel_rfl) (by kernel_rfl) (fun _ _ _ h => h) (by rfl) ?_ q1 ?_
            rotate_left
            · intro W hW
              go_simp
              (try with_reducible rfl)
            simp only [Act.put, List.setIfInBounds_toArray, List.set_cons_zero, List.set_cons_succ]
            refine fin_takeG 15 (v := ?_) rfl (by kernel_rfl) (by kernel_rfl) (by kernel_rfl) (by kernel_rfl) (fun _ _ _ h => h) (by rfl) ?_ q1 ?_
            rotate_left
            · intro W hW
              go_simp
              (try with_reducible rfl)
            simp only [Act.put, List.setIfInBounds_toArray, List.set_cons_zero, List.set_cons_succ]
            refine fin_takeG 16 (v := ?_) rfl (by kernel_rfl) (by kernel_rfl) (by kernel_rfl) (by kernel_rfl) (fun _ _ _ h => h) (by rfl) ?_ q1 ?_
            rotate_left
            · intro W hW
              go_simp
              (try with_reducible rfl)
            simp only [Act.put, List.setIfInBounds_toArray, List.set_cons_zero, List.set_cons_succ]
            refine fin_takeG 17 (v := ?_) rfl (by kernel_rfl) (by kernel_rfl) (by kernel_rfl) (by kernel_rfl) (fun _ _ _ h => h) (by rfl) ?_ q1 ?_
            rotate_left
            · intro W hW
              go_simp
              (try with_reducible rfl)
            simp only [Act.put, List.setIfInBounds_toArray, List.set_cons_zero, List.set_cons_succ]
            refine fin_takeG 18 (v := ?_) rfl (by kernel_rfl) (by kernel_rfl) (by kernel_rfl) (by kernel_rfl) (fun _ _ _ h => h) (by rfl) ?_ q1 ?_
            rotate_left
            · intro W hW
              go_simp
              (try with_reducible rfl)
            simp only [Act.put, List.setIfInBounds_toArray, List.set_cons_zero, List.set_cons_succ]
            refine fin_take 19 (v := ?_) rfl (by kernel_rfl) (by kernel_rfl) (by kernel_rfl) (by kernel_rfl) (fun _ _ _ h => h) rfl ?_ q1 ?_
            rotate_left
            · intro W hW
              go_simp
              (try with_reducible rfl)
            simp only [Act.put, List.setIfInBounds_toArray, List.set_cons_zero, List.set_cons_succ]
            refine fin_done (by kernel_rfl) (NoPanic.normal ?_)
            have O1 : On w w1 := K0.trans k1
            have Z1 := ZB.on k1
            have qI : ∀ W, On w1 W → W.cell? ⟨w.heap.size, 0, none⟩ = some (.slice a1 m1 c1) ∧ W.cell? ⟨w.heap.size, 1, none⟩ = some (.slice a2 m2 c2) ∧ W.cell? ⟨w.heap.size, 2, none⟩ = some (.slice (some ⟨ga, oa, none⟩) LL.length c) ∧ W.cell? ⟨w.heap.size + 1, 0, none⟩ = some (.int .i64 (n : Int)) ∧ W.cell? ⟨ga, oa + k, none⟩ = some (.slice (some ⟨gx, ox, none⟩) L.length cx) ∧ W.cell? ⟨gx, ox + n * 9, none⟩ = some (.int .i64 x.k) ∧ W.cell? ⟨gx, ox + n * 9 + 1, none⟩ = some (.int .i64 x.r) ∧ W.cell? ⟨gx, ox + n * 9 + 2, none⟩ = some (.int .i64 x.l) ∧ W.cell? ⟨gx, ox + n * 9 + 3, none⟩ = some (.int .i64 x.a.r) ∧ W.cell? ⟨gx, ox + n * 9 + 4, none⟩ = some (.int .i64 x.a.v) ∧ W.cell? ⟨gx, ox + n * 9 + 5, none⟩ = some (.int .i64 x.o) ∧ W.cell? ⟨gx, ox + n * 9 + 6, none⟩ = some (.int .i64 x.b.r) ∧ W.cell? ⟨gx, ox + n * 9 + 7, none⟩ = some (.int .i64 x.b.v) ∧ W.cell? ⟨gx, ox + n * 9 + 8, none⟩ = some (.int .i64 x.n) := fun W k' => ⟨(PB.on (k1.trans k')).at (i := 0) rfl, (PB.on (k1.trans k')).at (i := 1) rfl, (PB.on (k1.trans k')).at (i := 2) rfl, (CB.on (k1.trans k')).at (i := 0) rfl, ((k1.trans k').cell (p := ⟨ga, oa + k, none⟩) hgaW).trans uaxW, ((O1.trans k').cell (p := ⟨gx, ox + n * 9 + 0, none⟩) hgx).trans (hcell 0 _ rfl), ((O1.trans k').cell (p := ⟨gx, ox + n * 9 + 1, none⟩) hgx).trans (hcell 1 _ rfl), ((O1.trans k').cell (p := ⟨gx, ox + n * 9 + 2, none⟩) hgx).trans (hcell 2 _ rfl), ((O1.trans k').cell (p := ⟨gx, ox + n * 9 + 3, none⟩) hgx).trans (hcell 3 _ rfl), ((O1.trans k').cell (p := ⟨gx, ox + n * 9 + 4, none⟩) hgx).trans (hcell 4 _ rfl), ((O1.trans k').cell (p := ⟨gx, ox + n * 9 + 5, none⟩) hgx).trans (hcell 5 _ rfl), ((O1.trans k').cell (p := ⟨gx, ox + n * 9 + 6, none⟩) hgx).trans (hcell 6 _ rfl), ((O1.trans k').cell (p := ⟨gx, ox + n * 9 + 7, none⟩) hgx).trans (hcell 7 _ rfl), ((O1.trans k').cell (p := ⟨gx, ox + n * 9 + 8, none⟩) hgx).trans (hcell 8 _ rfl)⟩
            have q2 := qI _ (On.refl w1).drew
            have k1l := k1.size
            go_wp2
            refine region_fin (fun W => W.cell? ⟨w.heap.size, 0, none⟩ = some (.slice a1 m1 c1) ∧ W.cell? ⟨w.heap.size, 1, none⟩ = some (.slice a2 m2 c2) ∧ W.cell? ⟨w.heap.size, 2, none⟩ = some (.slice (some ⟨ga, oa, none⟩) LL.length c) ∧ W.cell? ⟨w.heap.size + 1, 0, none⟩ = some (.int .i64 (n : Int)) ∧ W.cell? ⟨ga, oa + k, none⟩ = some (.slice (some ⟨gx, ox, none⟩) L.length cx) ∧ W.cell? ⟨gx, ox + n * 9, none⟩ = some (.int .i64 x.k) ∧ W.cell? ⟨gx, ox + n * 9 + 1, none⟩ = some (.int .i64 x.r) ∧ W.cell? ⟨gx, ox + n * 9 + 2, none⟩ = some (.int .i64 x.l) ∧ W.cell? ⟨gx, ox + n * 9 + 3, none⟩ = some (.int .i64 x.a.r) ∧ W.cell? ⟨gx, ox + n * 9 + 4, none⟩ = some (.int .i64 x.a.v) ∧ W.cell? ⟨gx, ox + n * 9 + 5, none⟩ = some (.int .i64 x.o) ∧ W.cell? ⟨gx, ox + n * 9 + 6, none⟩ = some (.int .i64 x.b.r) ∧ W.cell? ⟨gx, ox + n * 9 + 7, none⟩ = some (.int .i64 x.b.v) ∧ W.cell? ⟨gx, ox + n * 9 + 8, none⟩ = some (.int .i64 x.n)) 10 11 (by kernel_rfl) rfl ?_
            refine fin_take 0 (v := ?_) rfl (by kernel_rfl) (by kernel_rfl) (by kernel_rfl) (by kernel_rfl) (fun _ _ _ h => h) rfl ?_ q2 ?_
            rotate_left
            · intro W hW
              go_simp
              (try with_reducible rfl)
            simp only [Act.put, List.setIfInBounds_toArray, List.set_cons_zero, List.set_cons_succ]
            refine fin_take 1 (v := ?_) rfl (by kernel_rfl) (by kernel_rfl) (by kernel_rfl) (by kernel_rfl) (fun _ _ _ h => h) rfl ?_ q2 ?_
            rotate_left
            · intro W hW
              go_simp
              (try with_reducible rfl)
            simp only [Act.put, List.setIfInBounds_toArray, List.set_cons_zero, List.set_cons_succ]
            refine fin_take 2 (v := ?_) rfl (by kernel_rfl) (by kernel_rfl) (by kernel_rfl) (by kernel_rfl) (fun _ _ _ h => h) rfl ?_ q2 ?_
            rotate_left
            · intro W hW
              go_simp
              (try with_reducible rfl)
            simp only [Act.put, List.setIfInBounds_toArray, List.set_cons_zero, List.set_cons_succ]
            refine fin_take 3 (v := ?_) rfl (by kernel_rfl) (by kernel_rfl) (by kernel_rfl) (by kernel_rfl) (fun _ _ _ h => h) rfl ?_ q2 ?_
            rotate_left
            · intro W hW
              go_simp
              (try with_reducible rfl)
            simp only [Act.put, List.setIfInBounds_toArray, List.set_cons_zero, List.set_cons_succ]
            refine fin_take 4 (v := ?_) rfl (by kernel_rfl) (by kernel_rfl) (by kernel_rfl) (by kernel_rfl) (fun _ _ _ h => h) rfl ?_ q2 ?_
            rotate_left
            · intro W hW
              go_simp
              (try with_reducible rfl)
            simp only [Act.put, List.setIfInBounds_toArray, List.set_cons_zero, List.set_cons_succ]
            refine fin_take 5 (v := ?_) rfl (by kernel_rfl) (by kernel_rfl) (by kernel_rfl) (by kernel_rfl) (fun _ _ _ h => h) rfl ?_ q2 ?_
            rotate_left
            · intro W hW
              go_simp
              (try with_reducible rfl)
            simp only [Act.put, List.setIfInBounds_toArray, List.set_cons_zero, List.set_cons_succ]
            refine fin_take 6 (v := ?_) rfl (by kernel_rfl) (by kernel_rfl) (by kernel_rfl) (by kernel_rfl) (fun _ _ _ h => h) rfl ?_ q2 ?_
            rotate_left
            · intro W hW
              go_simp
              (try with_reducible rfl)
            simp only [Act.put, List.setIfInBounds_toArray, List.set_cons_zero, List.set_cons_succ]
            refine fin_take 7 (v := ?_) rfl (by kernel_rfl) (by kernel_rfl) (by kernel_rfl) (by kernel_rfl) (fun _ _ _ h => h) rfl ?_ q2 ?_
            rotate_left
            · intro W hW
              go_simp
              (try with_reducible rfl)
            simp only [Act.put, List.setIfInBounds_toArray, List.set_cons_zero, List.set_cons_succ]
            refine fin_take 8 (v := ?_) rfl (by kernel_rfl) (by kernel_rfl) (by kernel_rfl) (by kernel_rfl) (fun _ _ _ h => h) rfl ?_ q2 ?_
            rotate_left
            · intro W hW
              go_simp
              (try with_reducible rfl)
            simp only [Act.put, List.setIfInBounds_toArray, List.set_cons_zero, List.set_cons_succ]
            refine fin_one 9 rfl rfl (by kernel_rfl) (fun K hK => ?_)
            go_simp
            refine hK.out _ _ (fun _ => qI _ ((On.refl w1).alloc _).drew) ?_
            clear hK
            refine fin_one 10 rfl rfl (by kernel_rfl) (fun K hK => ?_)
            go_simp
            refine hK.out _ _ (fun h => absurd rfl h) ?_
            refine fin_done (by kernel_rfl) (NoPanic.normal ?_)
            have hwr : w.heap.size + 1 + 1 < w1.heap.size := by omega
            have hne : ¬ w1.heap.size = w.heap.size + 1 + 1 := by omega
            clear q2 qI hcell
            have zf := fun i => Z1.fr i
            have z0 := Z1.at (i := 0) rfl
            have z1 := Z1.at (i := 1) rfl
            have z2 := Z1.at (i := 2) rfl
            have z3 := Z1.at (i := 3) rfl
            have z4 := Z1.at (i := 4) rfl
            have z5 := Z1.at (i := 5) rfl
            have z6 := Z1.at (i := 6) rfl
            have z7 := Z1.at (i := 7) rfl
            have z8 := Z1.at (i := 8) rfl
            have zzl := Z1.lt
            go_wp2
            refine bodyPost_ret (v := .tuple #[.agg #[.int .i64 0, .int .i64 0, .int .i64 0, .int .i64 0, .int .i64 0, .int .i64 0, .int .i64 0, .int .i64 0, .int .i64 0], .bool false]) ?_ rfl ⟨rfl, ?_⟩
            · rw [results_cell_slot rfl]
              go_simp
            · (try with_reducible refine On.drew ?_)
              repeat' (first | with_reducible refine On.setNew ?_ (by omega) _ | with_reducible exact O1 | with_reducible refine On.alloc ?_ _ | with_reducible refine On.drew ?_)
          · clear hkx
            obtain ⟨W0, hW0⟩ : ∃ W0, W0 = ((w.alloc (.cells #[.slice a1 m1 c1, .slice a2 m2 c2, .slice (some ⟨ga, oa, none⟩) LL.length c] 40)).alloc (.cells #[.int .i64 (n : Int), .int .i64 r0, .int .i64 r1, .int .i64 r2, .int .i64 r3] 48)).alloc (.cells #[.int .i64 0, .int .i64 0, .int .i64 0, .int .i64 0, .int .i64 0, .int .i64 0, .int .i64 0, .int .i64 0, .int .i64 0] 53) := ⟨_, rfl⟩
            have K0 : On w W0 := by rw [hW0]; exact (((On.refl w).alloc _).alloc _).alloc _
            have PB : Bk W0 w.heap.size #[.slice a1 m1 c1, .slice a2 m2 c2, .slice (some ⟨ga, oa, none⟩) LL.length c] := by rw [hW0]; exact ((Bk.new w _ _).alloc _).alloc _
            have CB : Bk W0 (w.heap.size + 1) #[.int .i64 (n : Int), .int .i64 r0, .int .i64 r1, .int .i64 r2, .int .i64 r3] := by
              rw [hW0]
              have := (Bk.new (w.alloc (.cells #[.slice a1 m1 c1, .slice a2 m2 c2, .slice (some ⟨ga, oa, none⟩) LL.length c] 40)) #[.int .i64 (n : Int), .int .i64 r0, .int .i64 r1, .int .i64 r2, .int .i64 r3] 48).alloc (.cells #[.int .i64 0, .int .i64 0, .int .i64 0, .int .i64 0, .int .i64 0, .int .i64 0, .int .i64 0, .int .i64 0, .int .i64 0] 53)
              rwa [World.size_alloc] at this
            have ZB : Bk W0 (w.heap.size + 1 + 1) #[.int .i64 0, .int .i64 0, .int .i64 0, .int .i64 0, .int .i64 0, .int .i64 0, .int .i64 0, .int .i64 0, .int .i64 0] := by
              rw [hW0]
              have := Bk.new ((w.alloc (.cells #[.slice a1 m1 c1, .slice a2 m2 c2, .slice (some ⟨ga, oa, none⟩) LL.length c] 40)).alloc (.cells #[.int .i64 (n : Int), .int .i64 r0, .int .i64 r1, .int .i64 r2, .int .i64 r3] 48)) #[.int .i64 0, .int .i64 0, .int .i64 0, .int .i64 0, .int .i64 0, .int .i64 0, .int .i64 0, .int .i64 0, .int .i64 0] 53
              rwa [World.size_alloc, World.size_alloc] at this
            have uaxW := (K0.cell (p := ⟨ga, oa + k, none⟩) hga).trans uax
            have hgaW : ga < W0.heap.size := Nat.lt_of_lt_of_le hga K0.size
            have hS : ∀ W, On W0 W → W.cell? ⟨w.heap.size, 0, none⟩ = some (.slice a1 m1 c1) ∧ W.cell? ⟨w.heap.size, 1, none⟩ = some (.slice a2 m2 c2) ∧ W.cell? ⟨w.heap.size, 2, none⟩ = some (.slice (some ⟨ga, oa, none⟩) LL.length c) ∧ W.cell? ⟨w.heap.size + 1, 0, none⟩ = some (.int .i64 (n : Int)) ∧ W.cell? ⟨ga, oa + k, none⟩ = some (.slice (some ⟨gx, ox, none⟩) L.length cx) := fun W k' => ⟨(PB.on k').at (i := 0) rfl, (PB.on k').at (i := 1) rfl, (PB.on k').at (i := 2) rfl, (CB.on k').at (i := 0) rfl, (k'.cell (p := ⟨ga, oa + k, none⟩) hgaW).trans uaxW⟩
            have qS := hS _ (On.refl W0).drew
            have zl := ZB.lt
            go_enter Tryd.func23, Tryd.ntmps23
            go_wp2
            rw [← hW0]
            clear hW0
            refine region_fin (fun W => W.cell? ⟨w.heap.size, 0, none⟩ = some (.slice a1 m1 c1) ∧ W.cell? ⟨w.heap.size, 1, none⟩ = some (.slice a2 m2 c2) ∧ W.cell? ⟨w.heap.size, 2, none⟩ = some (.slice (some ⟨ga, oa, none⟩) LL.length c) ∧ W.cell? ⟨w.heap.size + 1, 0, none⟩ = some (.int .i64 (n : Int)) ∧ W.cell? ⟨ga, oa + k, none⟩ = some (.slice (some ⟨gx, ox, none⟩) L.length cx)) 99 20 (by kernel_rfl) rfl ?_
            refine fin_take 0 (v := ?_) rfl (by kernel_rfl) (by kernel_rfl) (by kernel_rfl) (by kernel_rfl) (fun _ _ _ h => h) rfl ?_ qS ?_
            rotate_left
            · intro W hW
              go_simp
              (try with_reducible rfl)
            simp only [Act.put, List.setIfInBounds_toArray, List.set_cons_zero, List.set_cons_succ]
            refine fin_take 1 (v := ?_) rfl (by kernel_rfl) (by kernel_rfl) (by kernel_rfl) (by kernel_rfl) (fun _ _ _ h => h) rfl ?_ qS ?_
            rotate_left
            · intro W hW
              go_simp
              (try with_reducible rfl)
            simp only [Act.put, List.setIfInBounds_toArray, List.set_cons_zero, List.set_cons_succ]
            refine fin_one 2 rfl rfl (by kernel_rfl) (fun K hK => ?_)
            go_simp
            refine (hT _ K0.drew).mono ?_
            rintro _ w1 ⟨rfl, k1'⟩
            have k1 : On W0 w1 := (On.refl W0).drew.trans k1'
            have q1 := hS _ k1
            refine hK.out _ _ (fun _ => q1) ?_
            clear hK
            refine fin_take 3 (v := ?_) rfl (by kernel_rfl) (by kernel_rfl) (by kernel_rfl) (by kernel_rfl) (fun _ _ _ h => h) rfl ?_ q1 ?_
            rotate_left
            · intro W hW
              go_simp
              (try with_reducible rfl)
            simp only [Act.put, List.setIfInBounds_toArray, List.set_cons_zero, List.set_cons_succ]
            refine fin_take 4 (v := ?_) rfl (by kernel_rfl) (by kernel_rfl) (by kernel_rfl) (by kernel_rfl) (fun _ _ _ h => h) rfl ?_ q1 ?_
            rotate_left
            · intro W hW
              go_simp
              (try with_reducible rfl)
            simp only [Act.put, List.setIfInBounds_toArray, List.set_cons_zero, List.set_cons_succ]
            refine fin_takeG 5 (v := ?_) rfl (by kernel_rfl) (by kernel_rfl) (by kernel_rfl) (by kernel_rfl) (fun _ _ _ h => h) (by rfl) ?_ q1 ?_
            rotate_left
            · intro W hW
              go_simp
              (try with_reducible rfl)
            simp only [Act.put, List.setIfInBounds_toArray, List.set_cons_zero, List.set_cons_succ]
            refine fin_takeG 6 (v := ?_) rfl (by kernel_rfl) (by kernel_rfl) (by kernel_rfl) (by kernel_rfl) (fun _ _ _ h => h) (by rfl) ?_ q1 ?_
            rotate_left
            · intro W hW
              go_simp
              (try with_reducible rfl)
            simp only [Act.put, List.setIfInBounds_toArray, List.set_cons_zero, List.set_cons_succ]
            refine fin_takeG 7 (v := ?_) rfl (by kernel_rfl) (by kernel_rfl) (by kernel_rfl) (by kernel_rfl) (fun _ _ _ h => h) (by rfl) ?_ q1 ?_
            rotate_left
            · intro W hW
              go_simp
              (try with_reducible rfl)
            simp only [Act.put, List.setIfInBounds_toArray, List.set_cons_zero, List.set_cons_succ]
            refine fin_take 8 (v := ?_) rfl (by kernel_rfl) (by kernel_rfl) (by kernel_rfl) (by kernel_rfl) (fun _ _ _ h => h) rfl ?_ q1 ?_
            rotate_left
            · intro W hW
              go_simp
              (try with_reducible rfl)
            simp only [Act.put, List.setIfInBounds_toArray, List.set_cons_zero, List.set_cons_succ]
            refine fin_take 9 (v := ?_) rfl (by kernel_rfl) (by kernel_rfl) (by kernel_rfl) (by kernel_rfl) (fun _ _ _ h => h) rfl ?_ q1 ?_
            rotate_left
            · intro W hW
              go_simp
              (try with_reducible rfl)
            simp only [Act.put, List.setIfInBounds_toArray, List.set_cons_zero, List.set_cons_succ]
            refine fin_takeG 10 (v := ?_) rfl (by kernel_rfl) (by kernel_rfl) (by kernel_rfl) (by kernel_rfl) (fun _ _ _ h => h) (by rfl) ?_ q1 ?_
            rotate_left
            · intro W hW
              go_simp
              (try with_reducible rfl)
            simp only [Act.put, List.setIfInBounds_toArray, List.set_cons_zero, List.set_cons_succ]
            refine fin_takeG 11 (v := ?_) rfl (by kernel_rfl) (by kernel_rfl) (by kernel_rfl) (by kernel_rfl) (fun _ _ _ h => h) (by rfl) ?_ q1 ?_
            rotate_left
            · intro W hW
              go_simp
              (try with_reducible rfl)
            simp only [Act.put, List.setIfInBounds_toArray, List.set_cons_zero, List.set_cons_succ]
            refine fin_takeG 12 (v := ?_) rfl (by kernel_rfl) (by kernel_rfl) (by kernel_rfl) (by kernel_rfl) (fun _ _ _ h => h) (by rfl) ?_ q1 ?_
            rotate_left
            · intro W hW
              go_simp
              (try with_reducible rfl)
            simp only [Act.put, List.setIfInBounds_toArray, List.set_cons_zero, List.set_cons_succ]
            refine fin_takeG 13 (v := ?_) rfl (by kernel_rfl) (by kernel_rfl) (by kernel_rfl) (by kernel_rfl) (fun _ _ _ h => h) (by rfl) ?_ q1 ?_
            rotate_left
            · intro W hW
              go_simp
              (try with_reducible rfl)
            simp only [Act.put, List.setIfInBounds_toArray, List.set_cons_zero, List.set_cons_succ]
            refine fin_takeG 14 (v := ?_) rfl (by kernel_rfl) (by kernel_rfl) (by kernel_rfl) (by kernel_rfl) (fun _ _ _ h => h) (by rfl) ?_ q1 ?_
            rotate_left
            · intro W hW
              go_simp
              (try with_reducible rfl)
            simp only [Act.put, List.setIfInBounds_toArray, List.set_cons_zero, List.set_cons_succ]
            refine fin_takeG 15 (v := ?_) rfl (by kernel_rfl) (by kernel_rfl) (by kernel_rfl) (by kernel_rfl) (fun _ _ _ h => h) (by rfl) ?_ q1 ?_
            rotate_left
            · intro W hW
              go_simp
              (try with_reducible rfl)
            simp only [Act.put, List.setIfInBounds_toArray, List.set_cons_zero, List.set_cons_succ]
            refine fin_takeG 16 (v := ?_) rfl (by kernel_rfl) (by kernel_rfl) (by kernel_rfl) (by kernel_rfl) (fun _ _ _ h => h) (by rfl) ?_ q1 ?_
            rotate_left
            · intro W hW
              go_simp
              (try with_reducible rfl)
            simp only [Act.put, List.setIfInBounds_toArray, List.set_cons_zero, List.set_cons_succ]
            refine fin_takeG 17 (v := ?_) rfl (by kernel_rfl) (by kernel_rfl) (by kernel_rfl) (by kernel_rfl) (fun _ _ _ h => h) (by rfl) ?_ q1 ?_
            rotate_left
            · intro W hW
              go_simp
              (try with_reducible rfl)
            simp only [Act.put, List.setIfInBounds_toArray, List.set_cons_zero, List.set_cons_succ]
            refine fin_takeG 18 (v := ?_) rfl (by kernel_rfl) (by kernel_rfl) (by kernel_rfl) (by kernel_rfl) (fun _ _ _ h => h) (by rfl) ?_ q1 ?_
            rotate_left
            · intro W hW
              go_simp
              (try with_reducible rfl)
            simp only [Act.put, List.setIfInBounds_toArray, List.set_cons_zero, List.set_cons_succ]
            refine fin_take 19 (v := ?_) rfl (by kernel_rfl) (by kernel_rfl) (by kernel_rfl) (by kernel_rfl) (fun _ _ _ h => h) rfl ?_ q1 ?_
            rotate_left
            · intro W hW
              go_simp
              (try with_reducible rfl)
            simp only [Act.put, List.setIfInBounds_toArray, List.set_cons_zero, List.set_cons_succ]
            refine fin_done (by kernel_rfl) (NoPanic.normal ?_)
            have O1 : On w w1 := K0.trans k1
            have Z1 := ZB.on k1
            have qI : ∀ W, On w1 W → W.cell? ⟨w.heap.size, 0, none⟩ = some (.slice a1 m1 c1) ∧ W.cell? ⟨w.heap.size, 1, none⟩ = some (.slice a2 m2 c2) ∧ W.cell? ⟨w.heap.size, 2, none⟩ = some (.slice (some ⟨ga, oa, none⟩) LL.length c) ∧ W.cell? ⟨w.heap.size + 1, 0, none⟩ = some (.int .i64 (n : Int)) ∧ W.cell? ⟨ga, oa + k, none⟩ = some (.slice (some ⟨gx, ox, none⟩) L.length cx) ∧ W.cell? ⟨gx, ox + n * 9, none⟩ = some (.int .i64 x.k) ∧ W.cell? ⟨gx, ox + n * 9 + 1, none⟩ = some (.int .i64 x.r) ∧ W.cell? ⟨gx, ox + n * 9 + 2, none⟩ = some (.int .i64 x.l) ∧ W.cell? ⟨gx, ox + n * 9 + 3, none⟩ = some (.int .i64 x.a.r) ∧ W.cell? ⟨gx, ox + n * 9 + 4, none⟩ = some (.int .i64 x.a.v) ∧ W.cell? ⟨gx, ox + n * 9 + 5, none⟩ = some (.int .i64 x.o) ∧ W.cell? ⟨gx, ox + n * 9 + 6, none⟩ = some (.int .i64 x.b.r) ∧ W.cell? ⟨gx, ox + n * 9 + 7, none⟩ = some (.int .i64 x.b.v) ∧ W.cell? ⟨gx, ox + n * 9 + 8, none⟩ = some (.int .i64 x.n) := fun W k' => ⟨(PB.on (k1.trans k')).at (i := 0) rfl, (PB.on (k1.trans k')).at (i := 1) rfl, (PB.on (k1.trans k')).at (i := 2) rfl, (CB.on (k1.trans k')).at (i := 0) rfl, ((k1.trans k').cell (p := ⟨ga, oa + k, none⟩) hgaW).trans uaxW, ((O1.trans k').cell (p := ⟨gx, ox + n * 9 + 0, none⟩) hgx).trans (hcell 0 _ rfl), ((O1.trans k').cell (p := ⟨gx, ox + n * 9 + 1, none⟩) hgx).trans (hcell 1 _ rfl), ((O1.trans k').cell (p := ⟨gx, ox + n * 9 + 2, none⟩) hgx).trans (hcell 2 _ rfl), ((O1.trans k').cell (p := ⟨gx, ox + n * 9 + 3, none⟩) hgx).trans (hcell 3 _ rfl), ((O1.trans k').cell (p := ⟨gx, ox + n * 9 + 4, none⟩) hgx).trans (hcell 4 _ rfl), ((O1.trans k').cell (p := ⟨gx, ox + n * 9 + 5, none⟩) hgx).trans (hcell 5 _ rfl), ((O1.trans k').cell (p := ⟨gx, ox + n * 9 + 6, none⟩) hgx).trans (hcell 6 _ rfl), ((O1.trans k').cell (p := ⟨gx, ox + n * 9 + 7, none⟩) hgx).trans (hcell 7 _ rfl), ((O1.trans k').cell (p := ⟨gx, ox + n * 9 + 8, none⟩) hgx).trans (hcell 8 _ rfl)⟩
            have q2 := qI _ (On.refl w1).drew
            have k1l := k1.size
            go_wp2
            refine region_fin (fun W => W.cell? ⟨w.heap.size, 0, none⟩ = some (.slice a1 m1 c1) ∧ W.cell? ⟨w.heap.size, 1, none⟩ = some (.slice a2 m2 c2) ∧ W.cell? ⟨w.heap.size, 2, none⟩ = some (.slice (some ⟨ga, oa, none⟩) LL.length c) ∧ W.cell? ⟨w.heap.size + 1, 0, none⟩ = some (.int .i64 (n : Int)) ∧ W.cell? ⟨ga, oa + k, none⟩ = some (.slice (some ⟨gx, ox, none⟩) L.length cx) ∧ W.cell? ⟨gx, ox + n * 9, none⟩ = some (.int .i64 x.k) ∧ W.cell? ⟨gx, ox + n * 9 + 1, none⟩ = some (.int .i64 x.r) ∧ W.cell? ⟨gx, ox + n * 9 + 2, none⟩ = some (.int .i64 x.l) ∧ W.cell? ⟨gx, ox + n * 9 + 3, none⟩ = some (.int .i64 x.a.r) ∧ W.cell? ⟨gx, ox + n * 9 + 4, none⟩ = some (.int .i64 x.a.v) ∧ W.cell? ⟨gx, ox + n * 9 + 5, none⟩ = some (.int .i64 x.o) ∧ W.cell? ⟨gx, ox + n * 9 + 6, none⟩ = some (.int .i64 x.b.r) ∧ W.cell? ⟨gx, ox + n * 9 + 7, none⟩ = some (.int .i64 x.b.v) ∧ W.cell? ⟨gx, ox + n * 9 + 8, none⟩ = some (.int .i64 x.n)) 10 11 (by kernel_rfl) rfl ?_
            refine fin_take 0 (v := ?_) rfl (by kernel_rfl) (by kernel_rfl) (by kernel_rfl) (by kernel_rfl) (fun _ _ _ h => h) rfl ?_ q2 ?_
            rotate_left
            · intro W hW
              go_simp
              (try with_reducible rfl)
            simp only [Act.put, List.setIfInBounds_toArray, List.set_cons_zero, List.set_cons_succ]
            refine fin_take 1 (v := ?_) rfl (by kernel_rfl) (by kernel_rfl) (by kernel_rfl) (by kernel_rfl) (fun _ _ _ h => h) rfl ?_ q2 ?_
            rotate_left
            · intro W hW
              go_simp
              (try with_reducible rfl)
            simp only [Act.put, List.setIfInBounds_toArray, List.set_cons_zero, List.set_cons_succ]
            refine fin_take 2 (v := ?_) rfl (by kernel_rfl) (by kernel_rfl) (by kernel_rfl) (by kernel_rfl) (fun _ _ _ h => h) rfl ?_ q2 ?_
            rotate_left
            · intro W hW
              go_simp
              (try with_reducible rfl)
            simp only [Act.put, List.setIfInBounds_toArray, List.set_cons_zero, List.set_cons_succ]
            refine fin_take 3 (v := ?_) rfl (by kernel_rfl) (by kernel_rfl) (by kernel_rfl) (by kernel_rfl) (fun _ _ _ h => h) rfl ?_ q2 ?_
            rotate_left
            · intro W hW
              go_simp
              (try with_reducible rfl)
            simp only [Act.put, List.setIfInBounds_toArray, List.set_cons_zero, List.set_cons_succ]
            refine fin_take 4 (v := ?_) rfl (by kernel_rfl) (by kernel_rfl) (by kernel_rfl) (by kernel_rfl) (fun _ _ _ h => h) rfl ?_ q2 ?_
            rotate_left
            · intro W hW
              go_simp
              (try with_reducible rfl)
            simp only [Act.put, List.setIfInBounds_toArray, List.set_cons_zero, List.set_cons_succ]
            refine fin_take 5 (v := ?_) rfl (by kernel_rfl) (by kernel_rfl) (by kernel_rfl) (by kernel_rfl) (fun _ _ _ h => h) rfl ?_ q2 ?_
            rotate_left
            · intro W hW
              go_simp
              (try with_reducible rfl)
            simp only [Act.put, List.setIfInBounds_toArray, List.set_cons_zero, List.set_cons_succ]
            refine fin_take 6 (v := ?_) rfl (by kernel_rfl) (by kernel_rfl) (by kernel_rfl) (by kernel_rfl) (fun _ _ _ h => h) rfl ?_ q2 ?_
            rotate_left
            · intro W hW
              go_simp
              (try with_reducible rfl)
            simp only [Act.put, List.setIfInBounds_toArray, List.set_cons_zero, List.set_cons_succ]
            refine fin_take 7 (v := ?_) rfl (by kernel_rfl) (by kernel_rfl) (by kernel_rfl) (by kernel_rfl) (fun _ _ _ h => h) rfl ?_ q2 ?_
            rotate_left
            · intro W hW
              go_simp
              (try with_reducible rfl)
            simp only [Act.put, List.setIfInBounds_toArray, List.set_cons_zero, List.set_cons_succ]
            refine fin_take 8 (v := ?_) rfl (by kernel_rfl) (by kernel_rfl) (by kernel_rfl) (by kernel_rfl) (fun _ _ _ h => h) rfl ?_ q2 ?_
            rotate_left
            · intro W hW
              go_simp
              (try with_reducible rfl)
            simp only [Act.put, List.setIfInBounds_toArray, List.set_cons_zero, List.set_cons_succ]
            refine fin_one 9 rfl rfl (by kernel_rfl) (fun K hK => ?_)
            go_simp
            refine hK.out _ _ (fun _ => qI _ ((On.refl w1).alloc _).drew) ?_
            clear hK
            refine fin_one 10 rfl rfl (by kernel_rfl) (fun K hK => ?_)
            go_simp
            refine hK.out _ _ (fun h => absurd rfl h) ?_
            refine fin_done (by kernel_rfl) (NoPanic.normal ?_)
            have hwr : w.heap.size + 1 + 1 < w1.heap.size := by omega
            have hne : ¬ w1.heap.size = w.heap.size + 1 + 1 := by omega
            clear q2 qI hcell
            have zf := fun i => Z1.fr i
            have z0 := Z1.at (i := 0) rfl
            have z1 := Z1.at (i := 1) rfl
            have z2 := Z1.at (i := 2) rfl
            have z3 := Z1.at (i := 3) rfl
            have z4 := Z1.at (i := 4) rfl
            have z5 := Z1.at (i := 5) rfl
            have z6 := Z1.at (i := 6) rfl
            have z7 := Z1.at (i := 7) rfl
            have z8 := Z1.at (i := 8) rfl
            have zzl := Z1.lt
            go_wp2
            refine bodyPost_ret (v := .tuple #[.agg #[.int .i64 0, .int .i64 0, .int .i64 0, .int .i64 0, .int .i64 0, .int .i64 0, .int .i64 0, .int .i64 0, .int .i64 0], .bool false]) ?_ rfl ⟨rfl, ?_⟩
            · rw [results_cell_slot rfl]
              go_simp
            · (try with_reducible refine On.drew ?_)
              repeat' (first | with_reducible refine On.setNew ?_ (by omega) _ | with_reducible exact O1 | with_reducible refine On.alloc ?_ _ | with_reducible refine On.drew ?_)
      · have e : nextV (nextP L ⟨(n : Int), r0, r1, r2, r3⟩) = .tuple #[.agg #[.int .i64 0, .int .i64 0, .int .i64 0, .int .i64 0, .int .i64 0, .int .i64 0, .int .i64 0, .int .i64 0, .int .i64 0], .bool false] := by
          unfold nextP
          rw [if_pos (Int.natCast_nonneg n)]
          simp only [Int.toNat_natCast, List.getElem?_eq_none hge]
          rfl
        rw [e]
        have hnl : ¬ n < L.length := by omega
        clear e hfl rx
        obtain ⟨W0, hW0⟩ : ∃ W0, W0 = ((w.alloc (.cells #[.slice a1 m1 c1, .slice a2 m2 c2, .slice (some ⟨ga, oa, none⟩) LL.length c] 40)).alloc (.cells #[.int .i64 (n : Int), .int .i64 r0, .int .i64 r1, .int .i64 r2, .int .i64 r3] 48)).alloc (.cells #[.int .i64 0, .int .i64 0, .int .i64 0, .int .i64 0, .int .i64 0, .int .i64 0, .int .i64 0, .int .i64 0, .int .i64 0] 53) := ⟨_, rfl⟩
        have K0 : On w W0 := by rw [hW0]; exact (((On.refl w).alloc _).alloc _).alloc _
        have PB : Bk W0 w.heap.size #[.slice a1 m1 c1, .slice a2 m2 c2, .slice (some ⟨ga, oa, none⟩) LL.length c] := by rw [hW0]; exact ((Bk.new w _ _).alloc _).alloc _
        have CB : Bk W0 (w.heap.size + 1) #[.int .i64 (n : Int), .int .i64 r0, .int .i64 r1, .int .i64 r2, .int .i64 r3] := by
          rw [hW0]
          have := (Bk.new (w.alloc (.cells #[.slice a1 m1 c1, .slice a2 m2 c2, .slice (some ⟨ga, oa, none⟩) LL.length c] 40)) #[.int .i64 (n : Int), .int .i64 r0, .int .i64 r1, .int .i64 r2, .int .i64 r3] 48).alloc (.cells #[.int .i64 0, .int .i64 0, .int .i64 0, .int .i64 0, .int .i64 0, .int .i64 0, .int .i64 0, .int .i64 0, .int .i64 0] 53)
          rwa [World.size_alloc] at this
        have ZB : Bk W0 (w.heap.size + 1 + 1) #[.int .i64 0, .int .i64 0, .int .i64 0, .int .i64 0, .int .i64 0, .int .i64 0, .int .i64 0, .int .i64 0, .int .i64 0] := by
          rw [hW0]
          have := Bk.new ((w.alloc (.cells #[.slice a1 m1 c1, .slice a2 m2 c2, .slice (some ⟨ga, oa, none⟩) LL.length c] 40)).alloc (.cells #[.int .i64 (n : Int), .int .i64 r0, .int .i64 r1, .int .i64 r2, .int .i64 r3] 48)) #[.int .i64 0, .int .i64 0, .int .i64 0, .int .i64 0, .int .i64 0, .int .i64 0, .int .i64 0, .int .i64 0, .int .i64 0] 53
          rwa [World.size_alloc, World.size_alloc] at this
        have uaxW := (K0.cell (p := ⟨ga, oa + k, none⟩) hga).trans uax
        have hgaW : ga < W0.heap.size := Nat.lt_of_lt_of_le hga K0.size
        have hS : ∀ W, On W0 W → W.cell? ⟨w.heap.size, 0, none⟩ = some (.slice a1 m1 c1) ∧ W.cell? ⟨w.heap.size, 1, none⟩ = some (.slice a2 m2 c2) ∧ W.cell? ⟨w.heap.size, 2, none⟩ = some (.slice (some ⟨ga, oa, none⟩) LL.length c) ∧ W.cell? ⟨w.heap.size + 1, 0, none⟩ = some (.int .i64 (n : Int)) ∧ W.cell? ⟨ga, oa + k, none⟩ = some (.slice ax L.length cx) := fun W k' => ⟨(PB.on k').at (i := 0) rfl, (PB.on k').at (i := 1) rfl, (PB.on k').at (i := 2) rfl, (CB.on k').at (i := 0) rfl, (k'.cell (p := ⟨ga, oa + k, none⟩) hgaW).trans uaxW⟩
        have qS := hS _ (On.refl W0).drew
        have zl := ZB.lt
        go_enter Tryd.func23, Tryd.ntmps23
        go_wp2
        rw [← hW0]
        clear hW0
        refine region_fin (fun W => W.cell? ⟨w.heap.size, 0, none⟩ = some (.slice a1 m1 c1) ∧ W.cell? ⟨w.heap.size, 1, none⟩ = some (.slice a2 m2 c2) ∧ W.cell? ⟨w.heap.size, 2, none⟩ = some (.slice (some ⟨ga, oa, none⟩) LL.length c) ∧ W.cell? ⟨w.heap.size + 1, 0, none⟩ = some (.int .i64 (n : Int)) ∧ W.cell? ⟨ga, oa + k, none⟩ = some (.slice ax L.length cx)) 99 20 (by kernel_rfl) rfl ?_
        refine fin_take 0 (v := ?_) rfl (by kernel_rfl) (by kernel_rfl) (by kernel_rfl) (by kernel_rfl) (fun _ _ _ h => h) rfl ?_ qS ?_
        rotate_left
        · intro W hW
          go_simp
          (try with_reducible rfl)
        simp only [Act.put, List.setIfInBounds_toArray, List.set_cons_zero, List.set_cons_succ]
        refine fin_take 1 (v := ?_) rfl (by kernel_rfl) (by kernel_rfl) (by kernel_rfl) (by kernel_rfl) (fun _ _ _ h => h) rfl ?_ qS ?_
        rotate_left
        · intro W hW
          go_simp
          (try with_reducible rfl)
        simp only [Act.put, List.setIfInBounds_toArray, List.set_cons_zero, List.set_cons_succ]
        refine fin_one 2 rfl rfl (by kernel_rfl) (fun K hK => ?_)
        go_simp
        refine (hT _ K0.drew).mono ?_
        rintro _ w1 ⟨rfl, k1'⟩
        have k1 : On W0 w1 := (On.refl W0).drew.trans k1'
        have q1 := hS _ k1
        refine hK.out _ _ (fun _ => q1) ?_
        clear hK
        refine fin_take 3 (v := ?_) rfl (by kernel_rfl) (by kernel_rfl) (by kernel_rfl) (by kernel_rfl) (fun _ _ _ h => h) rfl ?_ q1 ?_
        rotate_left
        · intro W hW
          go_simp
          (try with_reducible rfl)
        simp only [Act.put, List.setIfInBounds_toArray, List.set_cons_zero, List.set_cons_succ]
        refine fin_take 4 (v := ?_) rfl (by kernel_rfl) (by kernel_rfl) (by kernel_rfl) (by kernel_rfl) (fun _ _ _ h => h) rfl ?_ q1 ?_
        rotate_left
        · intro W hW
          go_simp
          (try with_reducible rfl)
        simp only [Act.put, List.setIfInBounds_toArray, List.set_cons_zero, List.set_cons_succ]
        refine fin_takeG 5 (v := ?_) rfl (by kernel_rfl) (by kernel_rfl) (by kernel_rfl) (by kernel_rfl) (fun _ _ _ h => h) (by rfl) ?_ q1 ?_
        rotate_left
        · intro W hW
          go_simp
          (try with_reducible rfl)
        simp only [Act.put, List.setIfInBounds_toArray, List.set_cons_zero, List.set_cons_succ]
        refine fin_takeG 6 (v := ?_) rfl (by kernel_rfl) (by kernel_rfl) (by kernel_rfl) (by kernel_rfl) (fun _ _ _ h => h) (by rfl) ?_ q1 ?_
        rotate_left
        · intro W hW
          go_simp
          (try with_reducible rfl)
        simp only [Act.put, List.setIfInBounds_toArray, List.set_cons_zero, List.set_cons_succ]
        refine fin_takeG 7 (v := ?_) rfl (by kernel_rfl) (by kernel_rfl) (by kernel_rfl) (by kernel_rfl) (fun _ _ _ h => h) (by rfl) ?_ q1 ?_
        rotate_left
        · intro W hW
          go_simp
          (try with_reducible rfl)
        simp only [Act.put, List.setIfInBounds_toArray, List.set_cons_zero, List.set_cons_succ]
        refine fin_take 8 (v := ?_) rfl (by kernel_rfl) (by kernel_rfl) (by kernel_rfl) (by kernel_rfl) (fun _ _ _ h => h) rfl ?_ q1 ?_
        rotate_left
        · intro W hW
          go_simp
          (try with_reducible rfl)
        simp only [Act.put, List.setIfInBounds_toArray, List.set_cons_zero, List.set_cons_succ]
        refine fin_take 9 (v := ?_) rfl (by kernel_rfl) (by kernel_rfl) (by kernel_rfl) (by kernel_rfl) (fun _ _ _ h => h) rfl ?_ q1 ?_
        rotate_left
        · intro W hW
          go_simp
          (try with_reducible rfl)
        simp only [Act.put, List.setIfInBounds_toArray, List.set_cons_zero, List.set_cons_succ]
        refine fin_takeG 10 (v := ?_) rfl (by kernel_rfl) (by kernel_rfl) (by kernel_rfl) (by kernel_rfl) (fun _ _ _ h => h) (by rfl) ?_ q1 ?_
        rotate_left
        · intro W hW
          go_simp
          (try with_reducible rfl)
        simp only [Act.put, List.setIfInBounds_toArray, List.set_cons_zero, List.set_cons_succ]
        refine fin_takeG 11 (v := ?_) rfl (by kernel_rfl) (by kernel_rfl) (by kernel_rfl) (by kernel_rfl) (fun _ _ _ h => h) (by rfl) ?_ q1 ?_
        rotate_left
        · intro W hW
          go_simp
          (try with_reducible rfl)
        simp only [Act.put, List.setIfInBounds_toArray, List.set_cons_zero, List.set_cons_succ]
        refine fin_takeG 12 (v := ?_) rfl (by kernel_rfl) (by kernel_rfl) (by kernel_rfl) (by kernel_rfl) (fun _ _ _ h => h) (by rfl) ?_ q1 ?_
        rotate_left
        · intro W hW
          go_simp
          (try with_reducible rfl)
        simp only [Act.put, List.setIfInBounds_toArray, List.set_cons_zero, List.set_cons_succ]
        refine fin_takeG 13 (v := ?_) rfl (by kernel_rfl) (by kernel_rfl) (by kernel_rfl) (by kernel_rfl) (fun _ _ _ h => h) (by rfl) ?_ q1 ?_
        rotate_left
        · intro W hW
          go_simp
          (try with_reducible rfl)
        simp only [Act.put, List.setIfInBounds_toArray, List.set_cons_zero, List.set_cons_succ]
        refine fin_takeG 14 (v := ?_) rfl (by kernel_rfl) (by kernel_rfl) (by kernel_rfl) (by kernel_rfl) (fun _ _ _ h => h) (by rfl) ?_ q1 ?_
        rotate_left
        · intro W hW
          go_simp
          (try with_reducible rfl)
        simp only [Act.put, List.setIfInBounds_toArray, List.set_cons_zero, List.set_cons_succ]
        refine fin_takeG 15 (v := ?_) rfl (by kernel_rfl) (by kernel_rfl) (by kernel_rfl) (by kernel_rfl) (fun _ _ _ h => h) (by rfl) ?_ q1 ?_
        rotate_left
        · intro W hW
          go_simp
          (try with_reducible rfl)
        simp only [Act.put, List.setIfInBounds_toArray, List.set_cons_zero, List.set_cons_succ]
        refine fin_takeG 16 (v := ?_) rfl (by kernel_rfl) (by kernel_rfl) (by kernel_rfl) (by kernel_rfl) (fun _ _ _ h => h) (by rfl) ?_ q1 ?_
        rotate_left
        · intro W hW
          go_simp
          (try with_reducible rfl)
        simp only [Act.put, List.setIfInBounds_toArray, List.set_cons_zero, List.set_cons_succ]
        refine fin_takeG 17 (v := ?_) rfl (by kernel_rfl) (by kernel_rfl) (by kernel_rfl) (by kernel_rfl) (fun _ _ _ h => h) (by rfl) ?_ q1 ?_
        rotate_left
        · intro W hW
          go_simp
          (try with_reducible rfl)
        simp only [Act.put, List.setIfInBounds_toArray, List.set_cons_zero, List.set_cons_succ]
        refine fin_takeG 18 (v := ?_) rfl (by kernel_rfl) (by kernel_rfl) (by kernel_rfl) (by kernel_rfl) (fun _ _ _ h => h) (by rfl) ?_ q1 ?_
        rotate_left
        · intro W hW
          go_simp
          (try with_reducible rfl)
        simp only [Act.put, List.setIfInBounds_toArray, List.set_cons_zero, List.set_cons_succ]
        refine fin_take 19 (v := ?_) rfl (by kernel_rfl) (by kernel_rfl) (by kernel_rfl) (by kernel_rfl) (fun _ _ _ h => h) rfl ?_ q1 ?_
        rotate_left
        · intro W hW
          go_simp
          (try with_reducible rfl)
        simp only [Act.put, List.setIfInBounds_toArray, List.set_cons_zero, List.set_cons_succ]
        refine fin_done (by kernel_rfl) (NoPanic.normal ?_)
        have O1 : On w w1 := K0.trans k1
        have Z1 := ZB.on k1
        have zf := fun i => Z1.fr i
        have z0 := Z1.at (i := 0) rfl
        have z1 := Z1.at (i := 1) rfl
        have z2 := Z1.at (i := 2) rfl
        have z3 := Z1.at (i := 3) rfl
        have z4 := Z1.at (i := 4) rfl
        have z5 := Z1.at (i := 5) rfl
        have z6 := Z1.at (i := 6) rfl
        have z7 := Z1.at (i := 7) rfl
        have z8 := Z1.at (i := 8) rfl
        have zzl := Z1.lt
        go_wp2
        refine bodyPost_ret (v := .tuple #[.agg #[.int .i64 0, .int .i64 0, .int .i64 0, .int .i64 0, .int .i64 0, .int .i64 0, .int .i64 0, .int .i64 0, .int .i64 0], .bool false]) ?_ rfl ⟨rfl, ?_⟩
        · rw [results_cell_slot rfl]
          go_simp
        · (try with_reducible refine On.drew ?_)
          repeat' (first | with_reducible refine On.setNew ?_ (by omega) _ | with_reducible exact O1 | with_reducible refine On.alloc ?_ _ | with_reducible refine On.drew ?_)
end Go.Proofs.YtengdlchglkkjaaDoor

namespace Go.Proofs.YtengdlchglkkjaaDoor
open Go.RowKit

theorem next_some {L : List InsT} {l : LocT} {x : InsT} (h : nextP L l = some x) : ∃ n : Nat, l.pc = (n : Int) ∧ L[n]? = some x ∧ seenB x.k = true := by
  unfold nextP at h
  split at h
  · rename_i h0
    cases hx : L[l.pc.toNat]? with
    | none => rw [hx] at h; cases h
    | some y =>
      rw [hx] at h
      simp only at h
      split at h
      · rename_i hs
        have : y = x := Option.some.inj h
        subst this
        exact ⟨l.pc.toNat, by omega, hx, hs⟩
      · cases h
  · cases h
set_option maxHeartbeats 8000000 in
set_option maxRecDepth 8000 in
theorem rafter_is (LL : List (List InsT)) (t : Int) (l : LocT) (rv : Int) (v : Value) (w : World) (h : ProgRd w v LL) (hf : ∀ L ∈ LL, fineL L) :
    Calls Tryd.prog 25 #[v, .int .i64 t, locV l, .int .i64 rv] w fun e w' => e = .returned (locV (afterP (threadP LL t) l rv)) ∧ On w w' := by
  have hN := fun W (k : On w W) => rnext_is LL t l v W (h.on k) hf
  have hNo := fun (k : Nat) (L : List InsT) (hL : LL[k]? = some L) (hm : L ∈ LL) (l0 : LocT) (h0 : 0 ≤ l0.pc) W (kk : On w W) => rnormal_is LL k L l0 v W (h.on kk) hL h0 (fun i x hx => (hf L hm i x hx).1)
  obtain ⟨a1, m1, c1, a2, m2, c2, a, c, rfl, r⟩ := h
  have hml : ∀ (k : Nat) (L : List InsT), LL[k]? = some L → L.length ≤ 9223372036854775807 := fun k L hL => by
    obtain ⟨_, _, _, _, _, _, _, hm, _⟩ := r.row hL
    exact hm
  clear r
  obtain ⟨pc, r0, r1, r2, r3⟩ := l
  obtain ⟨R, hR0⟩ : ∃ R, R = locV (afterP (threadP LL t) ⟨pc, r0, r1, r2, r3⟩ rv) := ⟨_, rfl⟩
  rw [← hR0]
  unfold locV at hN
  simp only at hN
  show Calls Tryd.prog 25 #[.agg #[.slice a1 m1 c1, .slice a2 m2 c2, .slice a LL.length c], .int .i64 t, .agg #[.int .i64 pc, .int .i64 r0, .int .i64 r1, .int .i64 r2, .int .i64 r3], .int .i64 rv] w _
  unfold afterP at hR0
  obtain ⟨W0, hW0⟩ : ∃ W0, W0 = ((w.alloc (.cells #[.slice a1 m1 c1, .slice a2 m2 c2, .slice a LL.length c] 40)).alloc (.cells #[.int .i64 pc, .int .i64 r0, .int .i64 r1, .int .i64 r2, .int .i64 r3] 48)).alloc (.cells #[.int .i64 0, .int .i64 0, .int .i64 0, .int .i64 0, .int .i64 0] 48) := ⟨_, rfl⟩
  have K0 : On w W0 := by rw [hW0]; exact (((On.refl w).alloc _).alloc _).alloc _
  have PB : Bk W0 w.heap.size #[.slice a1 m1 c1, .slice a2 m2 c2, .slice a LL.length c] := by rw [hW0]; exact ((Bk.new w _ _).alloc _).alloc _
  have CB : Bk W0 (w.heap.size + 1) #[.int .i64 pc, .int .i64 r0, .int .i64 r1, .int .i64 r2, .int .i64 r3] := by
    rw [hW0]
    have := (Bk.new (w.alloc (.cells #[.slice a1 m1 c1, .slice a2 m2 c2, .slice a LL.length c] 40)) #[.int .i64 pc, .int .i64 r0, .int .i64 r1, .int .i64 r2, .int .i64 r3] 48).alloc (.cells #[.int .i64 0, .int .i64 0, .int .i64 0, .int .i64 0, .int .i64 0] 48)
    rwa [World.size_alloc] at this
  have ZB : Bk W0 (w.heap.size + 1 + 1) #[.int .i64 0, .int .i64 0, .int .i64 0, .int .i64 0, .int .i64 0] := by
    rw [hW0]
    have := Bk.new ((w.alloc (.cells #[.slice a1 m1 c1, .slice a2 m2 c2, .slice a LL.length c] 40)).alloc (.cells #[.int .i64 pc, .int .i64 r0, .int .i64 r1, .int .i64 r2, .int .i64 r3] 48)) #[.int .i64 0, .int .i64 0, .int .i64 0, .int .i64 0, .int .i64 0] 48
    rwa [World.size_alloc, World.size_alloc] at this
  cases hx : nextP (threadP LL t) ⟨pc, r0, r1, r2, r3⟩ with
  | none =>
    rw [hx] at hN hR0
    have hN1 := hN _ K0
    rw [hW0] at hN1
    simp only [nextV, Option.getD_none, Option.isSome_none] at hN1
    unfold insV insZ at hN1
    simp only at hN1
    obtain rfl : R = .agg #[.int .i64 pc, .int .i64 r0, .int .i64 r1, .int .i64 r2, .int .i64 r3] := hR0
    clear hN hNo hx hml
    go_enter Tryd.func25, Tryd.ntmps25
    go_wp2_with fail
    refine hN1.mono ?_
    rw [← hW0]
    rintro _ w1 ⟨rfl, k1⟩
    have C1 := CB.on k1
    have Z1 := ZB.on k1
    have O1 : On w w1 := K0.trans k1
    have zf := fun i => Z1.fr i
    have z0 := Z1.at (i := 0) rfl
    have z1 := Z1.at (i := 1) rfl
    have z2 := Z1.at (i := 2) rfl
    have z3 := Z1.at (i := 3) rfl
    have z4 := Z1.at (i := 4) rfl
    have zl := Z1.lt
    have c0' := C1.at (i := 0) rfl
    have c1' := C1.at (i := 1) rfl
    have c2' := C1.at (i := 2) rfl
    have c3' := C1.at (i := 3) rfl
    have c4' := C1.at (i := 4) rfl
    have cf := fun i => C1.fr i
    have cl' := C1.lt
    go_wp2
    refine bodyPost_ret (v := .agg #[.int .i64 pc, .int .i64 r0, .int .i64 r1, .int .i64 r2, .int .i64 r3]) ?_ rfl ⟨rfl, ?_⟩
    · rw [results_cell rfl]
      go_simp
    · repeat' (first | with_reducible refine On.setNew ?_ (by omega) _ | with_reducible exact O1 | with_reducible refine On.alloc ?_ _ | with_reducible refine On.drew ?_)
  | some x =>
    rw [hx] at hN hR0
    have hN1 := hN _ K0
    rw [hW0] at hN1
    simp only [nextV, Option.getD_some, Option.isSome_some] at hN1
    unfold insV at hN1
    obtain ⟨n, rfl, hxn, hseen⟩ := next_some hx
    cases hb : thereB LL t with
    | false => rw [there_none LL t hb] at hxn; simp at hxn
    | true =>
      obtain ⟨k, L, rfl, hk, hL, e, hm⟩ := there_some LL t hb
      rw [e] at hxn hR0
      have hlt : n < L.length := (List.getElem?_eq_some_iff.1 hxn).1
      have hLm := hml k L hL
      have hreg := (hf L hm n x hxn).2.2
      clear hN hx hb e hf hml
      have hS : ∀ s0 s1 s2 s3 : Int, stepTo x ⟨(n : Int), r0, r1, r2, r3⟩ rv = ⟨((n : Int) + 1), s0, s1, s2, s3⟩ → ∀ W, On w W → Calls Tryd.prog 44 #[.agg #[.slice a1 m1 c1, .slice a2 m2 c2, .slice a LL.length c], .int .i64 (k : Int), .agg #[.int .i64 ((n : Int) + 1), .int .i64 s0, .int .i64 s1, .int .i64 s2, .int .i64 s3]] W fun e w' => e = .returned (locV (settleP L (stepTo x ⟨(n : Int), r0, r1, r2, r3⟩ rv))) ∧ On W w' := fun s0 s1 s2 s3 es W kk => by
        rw [es]
        exact hNo k L hL hm ⟨((n : Int) + 1), s0, s1, s2, s3⟩ (by show 0 ≤ (n : Int) + 1; omega) W kk
      obtain ⟨⟨f0, f1, f2, f3, f4⟩, hR⟩ : ∃ R, settleP L (stepTo x ⟨(n : Int), r0, r1, r2, r3⟩ rv) = R := ⟨_, rfl⟩
      rw [hR] at hS
      unfold locV at hS
      simp only at hS
      obtain rfl : R = .agg #[.int .i64 f0, .int .i64 f1, .int .i64 f2, .int .i64 f3, .int .i64 f4] := by
        rw [hR0]
        show locV (settleP L (stepTo x ⟨(n : Int), r0, r1, r2, r3⟩ rv)) = _
        rw [hR]
        rfl
      clear hR hR0 hNo hL hm hxn
      cases hrd : readB x.k with
      | false =>
        have es : stepTo x ⟨(n : Int), r0, r1, r2, r3⟩ rv = ⟨((n : Int) + 1), r0, r1, r2, r3⟩ := by unfold stepTo; rw [hrd]; rfl
        have hS1 := hS _ _ _ _ es
        unfold readB at hrd
        have hk2 : (x.k == 2) = false := by revert hrd; cases (x.k == 2) <;> simp
        have hk4 : (x.k == 4) = false := by revert hrd; cases (x.k == 4) <;> simp
        clear hS es hrd hreg hseen
        go_enter Tryd.func25, Tryd.ntmps25
        go_wp2_with fail
        refine hN1.mono ?_
        rw [← hW0]
        rintro _ w1 ⟨rfl, k1⟩
        have P1 := PB.on k1
        have C1 := CB.on k1
        have Z1 := ZB.on k1
        have O1 : On w w1 := K0.trans k1
        have hw1 : w.heap.size + 1 + 1 < w1.heap.size := Z1.lt
        have hne : ¬ w1.heap.size = w.heap.size + 1 := by omega
        have c0' := C1.at (i := 0) rfl
        have c1' := C1.at (i := 1) rfl
        have c2' := C1.at (i := 2) rfl
        have c3' := C1.at (i := 3) rfl
        have c4' := C1.at (i := 4) rfl
        have cf := fun i => C1.fr i
        have cl' := C1.lt
        have p0' := P1.at (i := 0) rfl
        have p1' := P1.at (i := 1) rfl
        have p2' := P1.at (i := 2) rfl
        have pl' := P1.lt
        clear hN1 hW0
        go_wp2_with fail
        have O2 : On w ((w1.setCell ⟨w.heap.size + 1, 0, none⟩ (.int .i64 ((n : Int) + 1))).alloc (.cells #[.int .i64 x.k, .int .i64 x.r, .int .i64 x.l, .int .i64 x.a.r, .int .i64 x.a.v, .int .i64 x.o, .int .i64 x.b.r, .int .i64 x.b.v, .int .i64 x.n] 53)) := (O1.setNew (by omega) _).alloc _
        refine (hS1 _ O2).mono ?_
        rintro _ w2 ⟨rfl, k2⟩
        have Z2 := ((Z1.far (N := w.heap.size + 1) (by omega) 0 (.int .i64 ((n : Int) + 1))).alloc (.cells #[.int .i64 x.k, .int .i64 x.r, .int .i64 x.l, .int .i64 x.a.r, .int .i64 x.a.v, .int .i64 x.o, .int .i64 x.b.r, .int .i64 x.b.v, .int .i64 x.n] 53)).on k2
        have O3 := O2.trans k2
        have zf := fun i => Z2.fr i
        have z0 := Z2.at (i := 0) rfl
        have z1 := Z2.at (i := 1) rfl
        have z2 := Z2.at (i := 2) rfl
        have z3 := Z2.at (i := 3) rfl
        have z4 := Z2.at (i := 4) rfl
        have zl := Z2.lt
        go_wp2
        refine bodyPost_ret (v := .agg #[.int .i64 f0, .int .i64 f1, .int .i64 f2, .int .i64 f3, .int .i64 f4]) ?_ rfl ⟨rfl, ?_⟩
        · rw [results_cell rfl]
          go_simp
        · repeat' (first | with_reducible refine On.setNew ?_ (by omega) _ | with_reducible exact O3 | with_reducible refine On.alloc ?_ _ | with_reducible refine On.drew ?_)
      | true =>
        have hrk : x.k = 2 ∨ x.k = 4 := by unfold readB at hrd; simpa using hrd
        have hok := hreg hrk
        rcases regOk_four hok with hr | hr | hr | hr
        · have es : stepTo x ⟨(n : Int), r0, r1, r2, r3⟩ rv = ⟨((n : Int) + 1), rv, r1, r2, r3⟩ := by unfold stepTo; rw [hrd, hr]; rfl
          have hS1 := hS _ _ _ _ es
          clear hS es hrd hreg hseen hok
          rcases hrk with hq | hq
          · have hk2 : (x.k == 2) = true := by simpa using hq
            clear hq
            go_enter Tryd.func25, Tryd.ntmps25
            go_wp2_with fail
            refine hN1.mono ?_
            rw [← hW0]
            rintro _ w1 ⟨rfl, k1⟩
            have P1 := PB.on k1
            have C1 := CB.on k1
            have Z1 := ZB.on k1
            have O1 : On w w1 := K0.trans k1
            have hw1 : w.heap.size + 1 + 1 < w1.heap.size := Z1.lt
            have hne : ¬ w1.heap.size = w.heap.size + 1 := by omega
            have c0' := C1.at (i := 0) rfl
            have c1' := C1.at (i := 1) rfl
            have c2' := C1.at (i := 2) rfl
            have c3' := C1.at (i := 3) rfl
            have c4' := C1.at (i := 4) rfl
            have cf := fun i => C1.fr i
            have cl' := C1.lt
            have p0' := P1.at (i := 0) rfl
            have p1' := P1.at (i := 1) rfl
            have p2' := P1.at (i := 2) rfl
            have pl' := P1.lt
            clear hN1 hW0
            go_wp2_with fail
            have O2 : On w (((w1.setCell ⟨w.heap.size + 1, 1, none⟩ (.int .i64 rv)).setCell ⟨w.heap.size + 1, 0, none⟩ (.int .i64 ((n : Int) + 1))).alloc (.cells #[.int .i64 x.k, .int .i64 0, .int .i64 x.l, .int .i64 x.a.r, .int .i64 x.a.v, .int .i64 x.o, .int .i64 x.b.r, .int .i64 x.b.v, .int .i64 x.n] 53)) := ((O1.setNew (by omega) _).setNew (by omega) _).alloc _
            refine (hS1 _ O2).mono ?_
            rintro _ w2 ⟨rfl, k2⟩
            have Z2 := (((Z1.far (N := w.heap.size + 1) (by omega) 1 (.int .i64 rv)).far (N := w.heap.size + 1) (by omega) 0 (.int .i64 ((n : Int) + 1))).alloc (.cells #[.int .i64 x.k, .int .i64 0, .int .i64 x.l, .int .i64 x.a.r, .int .i64 x.a.v, .int .i64 x.o, .int .i64 x.b.r, .int .i64 x.b.v, .int .i64 x.n] 53)).on k2
            have O3 := O2.trans k2
            have zf := fun i => Z2.fr i
            have z0 := Z2.at (i := 0) rfl
            have z1 := Z2.at (i := 1) rfl
            have z2 := Z2.at (i := 2) rfl
            have z3 := Z2.at (i := 3) rfl
            have z4 := Z2.at (i := 4) rfl
            have zl := Z2.lt
            go_wp2
            refine bodyPost_ret (v := .agg #[.int .i64 f0, .int .i64 f1, .int .i64 f2, .int .i64 f3, .int .i64 f4]) ?_ rfl ⟨rfl, ?_⟩
            · rw [results_cell rfl]
              go_simp
            · repeat' (first | with_reducible refine On.setNew ?_ (by omega) _ | with_reducible exact O3 | with_reducible refine On.alloc ?_ _ | with_reducible refine On.drew ?_)
          · have hk2 : (x.k == 2) = false := by rw [hq]; rfl
            have hk4 : (x.k == 4) = true := by simpa using hq
            clear hq
            go_enter Tryd.func25, Tryd.ntmps25
            go_wp2_with fail
            refine hN1.mono ?_
            rw [← hW0]
            rintro _ w1 ⟨rfl, k1⟩
            have P1 := PB.on k1
            have C1 := CB.on k1
            have Z1 := ZB.on k1
            have O1 : On w w1 := K0.trans k1
            have hw1 : w.heap.size + 1 + 1 < w1.heap.size := Z1.lt
            have hne : ¬ w1.heap.size = w.heap.size + 1 := by omega
            have c0' := C1.at (i := 0) rfl
            have c1' := C1.at (i := 1) rfl
            have c2' := C1.at (i := 2) rfl
            have c3' := C1.at (i := 3) rfl
            have c4' := C1.at (i := 4) rfl
            have cf := fun i => C1.fr i
            have cl' := C1.lt
            have p0' := P1.at (i := 0) rfl
            have p1' := P1.at (i := 1) rfl
            have p2' := P1.at (i := 2) rfl
            have pl' := P1.lt
            clear hN1 hW0
            go_wp2_with fail
            have O2 : On w (((w1.setCell ⟨w.heap.size + 1, 1, none⟩ (.int .i64 rv)).setCell ⟨w.heap.size + 1, 0, none⟩ (.int .i64 ((n : Int) + 1))).alloc (.cells #[.int .i64 x.k, .int .i64 0, .int .i64 x.l, .int .i64 x.a.r, .int .i64 x.a.v, .int .i64 x.o, .int .i64 x.b.r, .int .i64 x.b.v, .int .i64 x.n] 53)) := ((O1.setNew (by omega) _).setNew (by omega) _).alloc _
            refine (hS1 _ O2).mono ?_
            rintro _ w2 ⟨rfl, k2⟩
            have Z2 := (((Z1.far (N := w.heap.size + 1) (by omega) 1 (.int .i64 rv)).far (N := w.heap.size + 1) (by omega) 0 (.int .i64 ((n : Int) + 1))).alloc (.cells #[.int .i64 x.k, .int .i64 0, .int .i64 x.l, .int .i64 x.a.r, .int .i64 x.a.v, .int .i64 x.o, .int .i64 x.b.r, .int .i64 x.b.v, .int .i64 x.n] 53)).on k2
            have O3 := O2.trans k2
            have zf := fun i => Z2.fr i
            have z0 := Z2.at (i := 0) rfl
            have z1 := Z2.at (i := 1) rfl
            have z2 := Z2.at (i := 2) rfl
            have z3 := Z2.at (i := 3) rfl
            have z4 := Z2.at (i := 4) rfl
            have zl := Z2.lt
            go_wp2
            refine bodyPost_ret (v := .agg #[.int .i64 f0, .int .i64 f1, .int .i64 f2, .int .i64 f3, .int .i64 f4]) ?_ rfl ⟨rfl, ?_⟩
            · rw [results_cell rfl]
              go_simp
            · repeat' (first | with_reducible refine On.setNew ?_ (by omega) _ | with_reducible exact O3 | with_reducible refine On.alloc ?_ _ | with_reducible refine On.drew ?_)
        · have es : stepTo x ⟨(n : Int), r0, r1, r2, r3⟩ rv = ⟨((n : Int) + 1), r0, rv, r2, r3⟩ := by unfold stepTo; rw [hrd, hr]; rfl
          have hS1 := hS _ _ _ _ es
          clear hS es hrd hreg hseen hok
          rcases hrk with hq | hq
          · have hk2 : (x.k == 2) = true := by simpa using hq
            clear hq
            go_enter Tryd.func25, Tryd.ntmps25
            go_wp2_with fail
            refine hN1.mono ?_
            rw [← hW0]
            rintro _ w1 ⟨rfl, k1⟩
            have P1 := PB.on k1
            have C1 := CB.on k1
            have Z1 := ZB.on k1
            have O1 : On w w1 := K0.trans k1
            have hw1 : w.heap.size + 1 + 1 < w1.heap.size := Z1.lt
            have hne : ¬ w1.heap.size = w.heap.size + 1 := by omega
            have c0' := C1.at (i := 0) rfl
            have c1' := C1.at (i := 1) rfl
            have c2' := C1.at (i := 2) rfl
            have c3' := C1.at (i := 3) rfl
            have c4' := C1.at (i := 4) rfl
            have cf := fun i => C1.fr i
            have cl' := C1.lt
            have p0' := P1.at (i := 0) rfl
            have p1' := P1.at (i := 1) rfl
            have p2' := P1.at (i := 2) rfl
            have pl' := P1.lt
            clear hN1 hW0
            go_wp2_with fail
            have O2 : On w (((w1.setCell ⟨w.heap.size + 1, 2, none⟩ (.int .i64 rv)).setCell ⟨w.heap.size + 1, 0, none⟩ (.int .i64 ((n : Int) + 1))).alloc (.cells #[.int .i64 x.k, .int .i64 1, .int .i64 x.l, .int .i64 x.a.r, .int .i64 x.a.v, .int .i64 x.o, .int .i64 x.b.r, .int .i64 x.b.v, .int .i64 x.n] 53)) := ((O1.setNew (by omega) _).setNew (by omega) _).alloc _
            refine (hS1 _ O2).mono ?_
            rintro _ w2 ⟨rfl, k2⟩
            have Z2 := (((Z1.far (N := w.heap.size + 1) (by omega) 2 (.int .i64 rv)).far (N := w.heap.size + 1) (by omega) 0 (.int .i64 ((n : Int) + 1))).alloc (.cells #[.int .i64 x.k, .int .i64 1, .int .i64 x.l, .int .i64 x.a.r, .int .i64 x.a.v, .int .i64 x.o, .int .i64 x.b.r, .int .i64 x.b.v, .int .i64 x.n] 53)).on k2
            have O3 := O2.trans k2
            have zf := fun i => Z2.fr i
            have z0 := Z2.at (i := 0) rfl
            have z1 := Z2.at (i := 1) rfl
            have z2 := Z2.at (i := 2) rfl
            have z3 := Z2.at (i := 3) rfl
            have z4 := Z2.at (i := 4) rfl
            have zl := Z2.lt
            go_wp2
            refine bodyPost_ret (v := .agg #[.int .i64 f0, .int .i64 f1, .int .i64 f2, .int .i64 f3, .int .i64 f4]) ?_ rfl ⟨rfl, ?_⟩
            · rw [results_cell rfl]
              go_simp
            · repeat' (first | with_reducible refine On.setNew ?_ (by omega) _ | with_reducible exact O3 | with_reducible refine On.alloc ?_ _ | with_reducible refine On.drew ?_)
          · have hk2 : (x.k == 2) = false := by rw [hq]; rfl
            have hk4 : (x.k == 4) = true := by simpa using hq
            clear hq
            go_enter Tryd.func25, Tryd.ntmps25
            go_wp2_with fail
            refine hN1.mono ?_
            rw [← hW0]
            rintro _ w1 ⟨rfl, k1⟩
            have P1 := PB.on k1
            have C1 := CB.on k1
            have Z1 := ZB.on k1
            have O1 : On w w1 := K0.trans k1
            have hw1 : w.heap.size + 1 + 1 < w1.heap.size := Z1.lt
            have hne : ¬ w1.heap.size = w.heap.size + 1 := by omega
            have c0' := C1.at (i := 0) rfl
            have c1' := C1.at (i := 1) rfl
            have c2' := C1.at (i := 2) rfl
            have c3' := C1.at (i := 3) rfl
            have c4' := C1.at (i := 4) rfl
            have cf := fun i => C1.fr i
            have cl' := C1.lt
            have p0' := P1.at (i := 0) rfl
            have p1' := P1.at (i := 1) rfl
            have p2' := P1.at (i := 2) rfl
            have pl' := P1.lt
            clear hN1 hW0
            go_wp2_with fail
            have O2 : On w (((w1.setCell ⟨w.heap.size + 1, 2, none⟩ (.int .i64 rv)).setCell ⟨w.heap.size + 1, 0, none⟩ (.int .i64 ((n : Int) + 1))).alloc (.cells #[.int .i64 x.k, .int .i64 1, .int .i64 x.l, .int .i64 x.a.r, .int .i64 x.a.v, .int .i64 x.o, .int .i64 x.b.r, .int .i64 x.b.v, .int .i64 x.n] 53)) := ((O1.setNew (by omega) _).setNew (by omega) _).alloc _
            refine (hS1 _ O2).mono ?_
            rintro _ w2 ⟨rfl, k2⟩
            have Z2 := (((Z1.far (N := w.heap.size + 1) (by omega) 2 (.int .i64 rv)).far (N := w.heap.size + 1) (by omega) 0 (.int .i64 ((n : Int) + 1))).alloc (.cells #[.int .i64 x.k, .int .i64 1, .int .i64 x.l, .int .i64 x.a.r, .int .i64 x.a.v, .int .i64 x.o, .int .i64 x.b.r, .int .i64 x.b.v, .int .i64 x.n] 53)).on k2
            have O3 := O2.trans k2
            have zf := fun i => Z2.fr i
            have z0 := Z2.at (i := 0) rfl
            have z1 := Z2.at (i := 1) rfl
            have z2 := Z2.at (i := 2) rfl
            have z3 := Z2.at (i := 3) rfl
            have z4 := Z2.at (i := 4) rfl
            have zl := Z2.lt
            go_wp2
            refine bodyPost_ret (v := .agg #[.int .i64 f0, .int .i64 f1, .int .i64 f2, .int .i64 f3, .int .i64 f4]) ?_ rfl ⟨rfl, ?_⟩
            · rw [results_cell rfl]
              go_simp
            · repeat' (first | with_reducible refine On.setNew ?_ (by omega) _ | with_reducible exact O3 | with_reducible refine On.alloc ?_ _ | with_reducible refine On.drew ?_)
        · have es : stepTo x ⟨(n : Int), r0, r1, r2, r3⟩ rv = ⟨((n : Int) + 1), r0, r1, rv, r3⟩ := by unfold stepTo; rw [hrd, hr]; rfl
          have hS1 := hS _ _ _ _ es
          clear hS es hrd hreg hseen hok
          rcases hrk with hq | hq
          · have hk2 : (x.k == 2) = true := by simpa using hq
            clear hq
            go_enter Tryd.func25, Tryd.ntmps25
            go_wp2_with fail
            refine hN1.mono ?_
            rw [← hW0]
            rintro _ w1 ⟨rfl, k1⟩
            have P1 := PB.on k1
            have C1 := CB.on k1
            have Z1 := ZB.on k1
            have O1 : On w w1 := K0.trans k1
            have hw1 : w.heap.size + 1 + 1 < w1.heap.size := Z1.lt
            have hne : ¬ w1.heap.size = w.heap.size + 1 := by omega
            have c0' := C1.at (i := 0) rfl
            have c1' := C1.at (i := 1) rfl
            have c2' := C1.at (i := 2) rfl
            have c3' := C1.at (i := 3) rfl
            have c4' := C1.at (i := 4) rfl
            have cf := fun i => C1.fr i
            have cl' := C1.lt
            have p0' := P1.at (i := 0) rfl
            have p1' := P1.at (i := 1) rfl
            have p2' := P1.at (i := 2) rfl
            have pl' := P1.lt
            clear hN1 hW0
            go_wp2_with fail
            have O2 : On w (((w1.setCell ⟨w.heap.size + 1, 3, none⟩ (.int .i64 rv)).setCell ⟨w.heap.size + 1, 0, none⟩ (.int .i64 ((n : Int) + 1))).alloc (.cells #[.int .i64 x.k, .int .i64 2, .int .i64 x.l, .int .i64 x.a.r, .int .i64 x.a.v, .int .i64 x.o, .int .i64 x.b.r, .int .i64 x.b.v, .int .i64 x.n] 53)) := ((O1.setNew (by omega) _).setNew (by omega) _).alloc _
            refine (hS1 _ O2).mono ?_
            rintro _ w2 ⟨rfl, k2⟩
            have Z2 := (((Z1.far (N := w.heap.size + 1) (by omega) 3 (.int .i64 rv)).far (N := w.heap.size + 1) (by omega) 0 (.int .i64 ((n : Int) + 1))).alloc (.cells #[.int .i64 x.k, .int .i64 2, .int .i64 x.l, .int .i64 x.a.r, .int .i64 x.a.v, .int .i64 x.o, .int .i64 x.b.r, .int .i64 x.b.v, .int .i64 x.n] 53)).on k2
            have O3 := O2.trans k2
            have zf := fun i => Z2.fr i
            have z0 := Z2.at (i := 0) rfl
            have z1 := Z2.at (i := 1) rfl
            have z2 := Z2.at (i := 2) rfl
            have z3 := Z2.at (i := 3) rfl
            have z4 := Z2.at (i := 4) rfl
            have zl := Z2.lt
            go_wp2
            refine bodyPost_ret (v := .agg #[.int .i64 f0, .int .i64 f1, .int .i64 f2, .int .i64 f3, .int .i64 f4]) ?_ rfl ⟨rfl, ?_⟩
            · rw [results_cell rfl]
              go_simp
            · repeat' (first | with_reducible refine On.setNew ?_ (by omega) _ | with_reducible exact O3 | with_reducible refine On.alloc ?_ _ | with_reducible refine On.drew ?_)
          · have hk2 : (x.k == 2) = false := by rw [hq]; rfl
            have hk4 : (x.k == 4) = true := by simpa using hq
            clear hq
            go_enter Tryd.func25, Tryd.ntmps25
            go_wp2_with fail
            refine hN1.mono ?_
            rw [← hW0]
            rintro _ w1 ⟨rfl, k1⟩
            have P1 := PB.on k1
            have C1 := CB.on k1
            have Z1 := ZB.on k1
            have O1 : On w w1 := K0.trans k1
            have hw1 : w.heap.size + 1 + 1 < w1.heap.size := Z1.lt
            have hne : ¬ w1.heap.size = w.heap.size + 1 := by omega
            have c0' := C1.at (i := 0) rfl
            have c1' := C1.at (i := 1) rfl
            have c2' := C1.at (i := 2) rfl
            have c3' := C1.at (i := 3) rfl
            have c4' := C1.at (i := 4) rfl
            have cf := fun i => C1.fr i
            have cl' := C1.lt
            have p0' := P1.at (i := 0) rfl
            have p1' := P1.at (i := 1) rfl
            have p2' := P1.at (i := 2) rfl
            have pl' := P1.lt
            clear hN1 hW0
            go_wp2_with fail
            have O2 : On w (((w1.setCell ⟨w.heap.size + 1, 3, none⟩ (.int .i64 rv)).setCell ⟨w.heap.size + 1, 0, none⟩ (.int .i64 ((n : Int) + 1))).alloc (.cells #[.int .i64 x.k, .int .i64 2, .int .i64 x.l, .int .i64 x.a.r, .int .i64 x.a.v, .int .i64 x.o, .int .i64 x.b.r, .int .i64 x.b.v, .int .i64 x.n] 53)) := ((O1.setNew (by omega) _).setNew (by omega) _).alloc _
            refine (hS1 _ O2).mono ?_
            rintro _ w2 ⟨rfl, k2⟩
            have Z2 := (((Z1.far (N := w.heap.size + 1) (by omega) 3 (.int .i64 rv)).far (N := w.heap.size + 1) (by omega) 0 (.int .i64 ((n : Int) + 1))).alloc (.cells #[.int .i64 x.k, .int .i64 2, .int .i64 x.l, .int .i64 x.a.r, .int .i64 x.a.v, .int .i64 x.o, .int .i64 x.b.r, .int .i64 x.b.v, .int .i64 x.n] 53)).on k2
            have O3 := O2.trans k2
            have zf := fun i => Z2.fr i
            have z0 := Z2.at (i := 0) rfl
            have z1 := Z2.at (i := 1) rfl
            have z2 := Z2.at (i := 2) rfl
            have z3 := Z2.at (i := 3) rfl
            have z4 := Z2.at (i := 4) rfl
            have zl := Z2.lt
            go_wp2
            refine bodyPost_ret (v := .agg #[.int .i64 f0, .int .i64 f1, .int .i64 f2, .int .i64 f3, .int .i64 f4]) ?_ rfl ⟨rfl, ?_⟩
            · rw [results_cell rfl]
              go_simp
            · repeat' (first | with_reducible refine On.setNew ?_ (by omega) _ | with_reducible exact O3 | with_reducible refine On.alloc ?_ _ | with_reducible refine On.drew ?_)
        · have es : stepTo x ⟨(n : Int), r0, r1, r2, r3⟩ rv = ⟨((n : Int) + 1), r0, r1, r2, rv⟩ := by unfold stepTo; rw [hrd, hr]; rfl
          have hS1 := hS _ _ _ _ es
          clear hS es hrd hreg hseen hok
          rcases hrk with hq | hq
          · have hk2 : (x.k == 2) = true := by simpa using hq
            clear hq
            go_enter Tryd.func25, Tryd.ntmps25
            go_wp2_with fail
            refine hN1.mono ?_
            rw [← hW0]
            rintro _ w1 ⟨rfl, k1⟩
            have P1 := PB.on k1
            have C1 := CB.on k1
            have Z1 := ZB.on k1
            have O1 : On w w1 := K0.trans k1
            have hw1 : w.heap.size + 1 + 1 < w1.heap.size := Z1.lt
            have hne : ¬ w1.heap.size = w.heap.size + 1 := by omega
            have c0' := C1.at (i := 0) rfl
            have c1' := C1.at (i := 1) rfl
            have c2' := C1.at (i := 2) rfl
            have c3' := C1.at (i := 3) rfl
            have c4' := C1.at (i := 4) rfl
            have cf := fun i => C1.fr i
            have cl' := C1.lt
            have p0' := P1.at (i := 0) rfl
            have p1' := P1.at (i := 1) rfl
            have p2' := P1.at (i := 2) rfl
            have pl' := P1.lt
            clear hN1 hW0
            go_wp2_with fail
            have O2 : On w (((w1.setCell ⟨w.heap.size + 1, 4, none⟩ (.int .i64 rv)).setCell ⟨w.heap.size + 1, 0, none⟩ (.int .i64 ((n : Int) + 1))).alloc (.cells #[.int .i64 x.k, .int .i64 3, .int .i64 x.l, .int .i64 x.a.r, .int .i64 x.a.v, .int .i64 x.o, .int .i64 x.b.r, .int .i64 x.b.v, .int .i64 x.n] 53)) := ((O1.setNew (by omega) _).setNew (by omega) _).alloc _
            refine (hS1 _ O2).mono ?_
            rintro _ w2 ⟨rfl, k2⟩
            have Z2 := (((Z1.far (N := w.heap.size + 1) (by omega) 4 (.int .i64 rv)).far (N := w.heap.size + 1) (by omega) 0 (.int .i64 ((n : Int) + 1))).alloc (.cells #[.int .i64 x.k, .int .i64 3, .int .i64 x.l, .int .i64 x.a.r, .int .i64 x.a.v, .int .i64 x.o, .int .i64 x.b.r, .int .i64 x.b.v, .int .i64 x.n] 53)).on k2
            have O3 := O2.trans k2
            have zf := fun i => Z2.fr i
            have z0 := Z2.at (i := 0) rfl
            have z1 := Z2.at (i := 1) rfl
            have z2 := Z2.at (i := 2) rfl
            have z3 := Z2.at (i := 3) rfl
            have z4 := Z2.at (i := 4) rfl
            have zl := Z2.lt
            go_wp2
            refine bodyPost_ret (v := .agg #[.int .i64 f0, .int .i64 f1, .int .i64 f2, .int .i64 f3, .int .i64 f4]) ?_ rfl ⟨rfl, ?_⟩
            · rw [results_cell rfl]
              go_simp
            · repeat' (first | with_reducible refine On.setNew ?_ (by omega) _ | with_reducible exact O3 | with_reducible refine On.alloc ?_ _ | with_reducible refine On.drew ?_)
          · have hk2 : (x.k == 2) = false := by rw [hq]; rfl
            have hk4 : (x.k == 4) = true := by simpa using hq
            clear hq
            go_enter Tryd.func25, Tryd.ntmps25
            go_wp2_with fail
            refine hN1.mono ?_
            rw [← hW0]
            rintro _ w1 ⟨rfl, k1⟩
            have P1 := PB.on k1
            have C1 := CB.on k1
            have Z1 := ZB.on k1
            have O1 : On w w1 := K0.trans k1
            have hw1 : w.heap.size + 1 + 1 < w1.heap.size := Z1.lt
            have hne : ¬ w1.heap.size = w.heap.size + 1 := by omega
            have c0' := C1.at (i := 0) rfl
            have c1' := C1.at (i := 1) rfl
            have c2' := C1.at (i := 2) rfl
            have c3' := C1.at (i := 3) rfl
            have c4' := C1.at (i := 4) rfl
            have cf := fun i => C1.fr i
            have cl' := C1.lt
            have p0' := P1.at (i := 0) rfl
            have p1' := P1.at (i := 1) rfl
            have p2' := P1.at (i := 2) rfl
            have pl' := P1.lt
            clear hN1 hW0
            go_wp2_with fail
            have O2 : On w (((w1.setCell ⟨w.heap.size + 1, 4, none⟩ (.int .i64 rv)).setCell ⟨w.heap.size + 1, 0, none⟩ (.int .i64 ((n : Int) + 1))).alloc (.cells #[.int .i64 x.k, .int .i64 3, .int .i64 x.l, .int .i64 x.a.r, .int .i64 x.a.v, .int .i64 x.o, .int .i64 x.b.r, .int .i64 x.b.v, .int .i64 x.n] 53)) := ((O1.setNew (by omega) _).setNew (by omega) _).alloc _
            refine (hS1 _ O2).mono ?_
            rintro _ w2 ⟨rfl, k2⟩
            have Z2 := (((Z1.far (N := w.heap.size + 1) (by omega) 4 (.int .i64 rv)).far (N := w.heap.size + 1) (by omega) 0 (.int .i64 ((n : Int) + 1))).alloc (.cells #[.int .i64 x.k, .int .i64 3, .int .i64 x.l, .int .i64 x.a.r, .int .i64 x.a.v, .int .i64 x.o, .int .i64 x.b.r, .int .i64 x.b.v, .int .i64 x.n] 53)).on k2
            have O3 := O2.trans k2
            have zf := fun i => Z2.fr i
            have z0 := Z2.at (i := 0) rfl
            have z1 := Z2.at (i := 1) rfl
            have z2 := Z2.at (i := 2) rfl
            have z3 := Z2.at (i := 3) rfl
            have z4 := Z2.at (i := 4) rfl
            have zl := Z2.lt
            go_wp2
            refine bodyPost_ret (v := .agg #[.int .i64 f0, .int .i64 f1, .int .i64 f2, .int .i64 f3, .int .i64 f4]) ?_ rfl ⟨rfl, ?_⟩
            · rw [results_cell rfl]
              go_simp
            · repeat' (first | with_reducible refine On.setNew ?_ (by omega) _ | with_reducible exact O3 | with_reducible refine On.alloc ?_ _ | with_reducible refine On.drew ?_)
end Go.Proofs.YtengdlchglkkjaaDoor
