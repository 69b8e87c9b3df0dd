/- prog.After for every program that lies in memory. -/
import Derived.Test.YtplihlmejnohnaaGreatDoorJ17SmallB
namespace Go.Proofs.YtplihlmejnohnaaGreatDoor
open Go.RowKit

def readB (k : Int) : Bool := k == 2 || k == 4
/-- Where a thread is behind its next instruction. -/
def stepTo (x : InsT) (l : LocT) (v : Int) : LocT := pcTo (if readB x.k then withR l x.r v else l) (l.pc + 1)
def afterP (L : List InsT) (l : LocT) (v : Int) : LocT := match nextP L l with | none => l | some x => settleP L (stepTo x l v)
theorem next_at {L : List InsT} {l : LocT} {x : InsT} (h : nextP L l = some x) : 0 ≤ l.pc ∧ l.pc < L.length := by
  unfold nextP at h
  split at h
  · split at h
    · rename_i hx
      have := (List.getElem?_eq_some_iff.1 hx).1
      omega
    · cases h
  · cases h
set_option maxHeartbeats 8000000 in
set_option maxRecDepth 8000 in
theorem after_is (LL : List (List InsT)) (t : Int) (l : LocT) (rv : Int) (v : Value) (w : World) (h : ProgRd w v LL) :
    Calls Tryz.prog 67 #[v, .int .i64 t, locV l, .int .i64 rv] w fun e w' => e = .returned (locV (afterP (threadP LL t) l rv)) ∧ On w w' := by
  have hN := fun W (k : On w W) => pnext_is LL t l v W (h.on k)
  have hT := fun W (k : On w W) => thread_is LL t v W (h.on k)
  have hmx : (threadP LL t).length ≤ 9223372036854775807 := by
    unfold threadP
    split
    · rw [List.getD_eq_getElem?_getD]
      rcases hq : LL[t.toNat]? with _ | M
      · simp
      · obtain ⟨_, _, _, _, _, _, _, _, rfl, r⟩ := h
        obtain ⟨_, _, _, _, _, _, _, hm, _⟩ := r.row hq
        simpa using hm
    · simp
  obtain ⟨a1, m1, c1, a2, m2, c2, a, c, rfl, r⟩ := h
  obtain ⟨pc, r0, r1, r2, r3⟩ := l
  clear r
  have k0 : ∀ A B C, On w (((w.alloc A).alloc B).alloc C) := fun A B C => (((On.refl w).alloc A).alloc B).alloc C
  have bp : ∀ cs T B C, Bk (((w.alloc (.cells cs T)).alloc B).alloc C) w.heap.size cs := fun cs T B C => ((Bk.new w cs T).alloc B).alloc C
  have bl : ∀ A cs T C, Bk (((w.alloc A).alloc (.cells cs T)).alloc C) (w.heap.size + 1) cs := fun A cs T C => by have := (Bk.new (w.alloc A) cs T).alloc C; rwa [World.size_alloc] at this
  have br : ∀ A B cs T, Bk (((w.alloc A).alloc B).alloc (.cells cs T)) (w.heap.size + 1 + 1) cs := fun A B cs T => by have := Bk.new ((w.alloc A).alloc B) cs T; rwa [World.size_alloc, World.size_alloc] at this
  unfold afterP
  have hS0 := fun x a c W h h0 => settle_is (threadP LL t) (stepTo x ⟨pc, r0, r1, r2, r3⟩ rv) a c W h h0
  generalize threadP LL t = L at *
  cases hx : nextP L ⟨pc, r0, r1, r2, r3⟩ with
  | none =>
    rw [hx] at hN
    unfold nextV insV insZ locV at hN
    simp only [Option.getD_none, Option.isSome_none] at hN
    simp only
    unfold locV
    clear hS0 hx
    go_enter Tryz.func67, Tryz.ntmps67
    go_wp2_with fail
    refine (hN _ (k0 _ _ _)).mono ?_
    rintro e w1 ⟨rfl, k1⟩
    have L1 := (bl _ _ _ _).on k1
    have Z1 := (br _ _ _ _).on k1
    have K1 : Hid (On w w1) := (k0 _ _ _).trans k1
    clear hN hT k1 k0 bp bl br
    have l0 := L1.at (i := 0) rfl
    have l1 := L1.at (i := 1) rfl
    have l2 := L1.at (i := 2) rfl
    have l3 := L1.at (i := 3) rfl
    have l4 := L1.at (i := 4) rfl
    have ll := L1.lt
    have z0 := Z1.at (i := 0) rfl
    have z1 := Z1.at (i := 1) rfl
    have z2 := Z1.at (i := 2) rfl
    have z3 := Z1.at (i := 3) rfl
    have z4 := Z1.at (i := 4) rfl
    have zf := fun i => Z1.fr i
    have lf := fun i => L1.fr i
    have zl := Z1.lt
    go_wp2
    refine bodyPost_ret (v := .agg #[.int .i64 pc, .int .i64 r0, .int .i64 r1, .int .i64 r2, .int .i64 r3]) ?_ rfl ⟨rfl, ?_⟩
    · rw [results_cell rfl]
      go_simp
    · repeat' (first | with_reducible refine On.setNew ?_ (by omega) _ | with_reducible exact K1.out | with_reducible refine On.alloc ?_ _)
  | some x =>
    rw [hx] at hN
    obtain ⟨p0, p1⟩ := next_at hx
    simp only at p0 p1
    obtain ⟨n, rfl⟩ : ∃ n : Nat, pc = (n : Int) := ⟨pc.toNat, by omega⟩
    unfold nextV insV locV at hN
    simp only [Option.getD_some, Option.isSome_some] at hN
    simp only
    have hS1 := fun a c W h => hS0 x a c W h (by unfold stepTo pcTo; simp only; omega)
    clear hS0 hx
    have hsz : (n : Int) + 1 ≤ 9223372036854775807 := by omega
    cases hb : readB x.k with
    | true =>
      have e1 : stepTo x ⟨(n : Int), r0, r1, r2, r3⟩ rv = pcTo (withR ⟨(n : Int), r0, r1, r2, r3⟩ x.r rv) ((n : Int) + 1) := by unfold stepTo; rw [hb]; rfl
      rw [e1] at hS1 ⊢
      have hW := fun W => pwith_is ⟨(n : Int), r0, r1, r2, r3⟩ x.r rv W
      have hpc := withR_pc ⟨(n : Int), r0, r1, r2, r3⟩ x.r rv
      generalize withR ⟨(n : Int), r0, r1, r2, r3⟩ x.r rv = lq at *
      obtain ⟨pq, s0, s1, s2, s3⟩ := lq
      simp only at hpc
      subst hpc
      unfold pcTo at hS1 ⊢
      simp only at hS1 ⊢
      obtain ⟨⟨q0, q1, q2, q3, q4⟩, hR⟩ : ∃ R, settleP L ⟨(n : Int) + 1, s0, s1, s2, s3⟩ = R := ⟨_, rfl⟩
      rw [hR] at hS1 ⊢
      have hS := hS1
      clear hS1 hR e1
      unfold locV at hS hW ⊢
      have hb2 : ((x.k == 2) = true) ∨ ((x.k == 2) = false ∧ (x.k == 4) = true) := by unfold readB at hb; cases h2 : (x.k == 2) with | true => exact Or.inl rfl | false => rw [h2] at hb; exact Or.inr ⟨rfl, hb⟩
      rcases hb2 with h2 | ⟨h2, h4⟩
      · go_enter Tryz.func67, Tryz.ntmps67
        go_wp2_with fail
        refine (hN _ (k0 _ _ _)).mono ?_
        rintro e w1 ⟨rfl, k1⟩
        have P1 := (bp _ _ _ _).on k1
        have L1 := (bl _ _ _ _).on k1
        have Z1 := (br _ _ _ _).on k1
        have K1 : Hid (On w w1) := (k0 _ _ _).trans k1
        clear hN k1 k0 bp bl br
        have l0 := L1.at (i := 0) rfl
        have l1 := L1.at (i := 1) rfl
        have l2 := L1.at (i := 2) rfl
        have l3 := L1.at (i := 3) rfl
        have l4 := L1.at (i := 4) rfl
        have ll := L1.lt
        have z0 := Z1.at (i := 0) rfl
        have z1 := Z1.at (i := 1) rfl
        have z2 := Z1.at (i := 2) rfl
        have z3 := Z1.at (i := 3) rfl
        have z4 := Z1.at (i := 4) rfl
        have zf := fun i => Z1.fr i
        have lf := fun i => L1.fr i
        have zl := Z1.lt
        have kI : ∀ A, On w1 (w1.alloc A) := fun A => (On.refl w1).alloc A
        go_wp2_with fail
        refine (hW _).mono ?_
        rintro e w2 ⟨rfl, k2⟩
        have k12 : On w1 w2 := (kI _).trans k2
        have P2 := P1.on k12
        have L2 := L1.on k12
        have Z2 := Z1.on k12
        have K2 : Hid (On w w2) := K1.out.trans k12
        have m0 := L2.at (i := 0) rfl
        have m1' := L2.at (i := 1) rfl
        have m2' := L2.at (i := 2) rfl
        have m3 := L2.at (i := 3) rfl
        have m4 := L2.at (i := 4) rfl
        have mf := fun i => L2.fr i
        clear l0 l1 l2 l3 l4 z0 z1 z2 z3 z4 zf lf k2 kI hW
        go_wp2
        obtain ⟨w3, hw3⟩ : ∃ w3, w3 = (((((w2.setCell ⟨w.heap.size + 1, 0, none⟩ (.int .i64 (n : Int))).setCell ⟨w.heap.size + 1, 1, none⟩ (.int .i64 s0)).setCell ⟨w.heap.size + 1, 2, none⟩ (.int .i64 s1)).setCell ⟨w.heap.size + 1, 3, none⟩ (.int .i64 s2)).setCell ⟨w.heap.size + 1, 4, none⟩ (.int .i64 s3)).setCell ⟨w.heap.size + 1, 0, none⟩ (.int .i64 ((n : Int) + 1)) := ⟨_, rfl⟩
        rw [← hw3]
        have L3 : Bk w3 (w.heap.size + 1) #[.int .i64 ((n : Int) + 1), .int .i64 s0, .int .i64 s1, .int .i64 s2, .int .i64 s3] := by rw [hw3]; exact (L2.set5 _ _ _ _ _).set0 _
        have P3 : Bk w3 w.heap.size #[.slice a1 m1 c1, .slice a2 m2 c2, .slice a LL.length c] := by rw [hw3]; exact (P2.far5 (by omega) _ _ _ _ _).far (by omega) _ _
        have Z3 : Bk w3 (w.heap.size + 1 + 1) #[.int .i64 0, .int .i64 0, .int .i64 0, .int .i64 0, .int .i64 0] := by rw [hw3]; exact (Z2.far5 (by omega) _ _ _ _ _).far (by omega) _ _
        have K3 : Hid (On w w3) := by show On w w3; rw [hw3]; exact (((((K2.out.setNew (by omega) _).setNew (by omega) _).setNew (by omega) _).setNew (by omega) _).setNew (by omega) _).setNew (by omega) _
        have p0' := P3.at (i := 0) rfl
        have p1' := P3.at (i := 1) rfl
        have p2' := P3.at (i := 2) rfl
        have t0' := L3.at (i := 0) rfl
        have t1' := L3.at (i := 1) rfl
        have t2' := L3.at (i := 2) rfl
        have t3' := L3.at (i := 3) rfl
        have t4' := L3.at (i := 4) rfl
        clear hw3 m0 m1' m2' m3 m4 mf
        have hk3 : ∀ W, On w3.drew W → W.cell? ⟨w.heap.size, 0, none⟩ = some (.slice a1 m1 c1) ∧ W.cell? ⟨w.heap.size, 1, none⟩ = some (.slice a2 m2 c2) ∧ W.cell? ⟨w.heap.size, 2, none⟩ = some (.slice a LL.length c) ∧ W.cell? ⟨w.heap.size + 1, 0, none⟩ = some (.int .i64 ((n : Int) + 1)) ∧ W.cell? ⟨w.heap.size + 1, 1, none⟩ = some (.int .i64 s0) ∧ W.cell? ⟨w.heap.size + 1, 2, none⟩ = some (.int .i64 s1) ∧ W.cell? ⟨w.heap.size + 1, 3, none⟩ = some (.int .i64 s2) ∧ W.cell? ⟨w.heap.size + 1, 4, none⟩ = some (.int .i64 s3) := fun W k => ⟨(P3.on ((On.refl w3).drew.trans k)).at (i := 0) rfl, (P3.on ((On.refl w3).drew.trans k)).at (i := 1) rfl, (P3.on ((On.refl w3).drew.trans k)).at (i := 2) rfl, (L3.on ((On.refl w3).drew.trans k)).at (i := 0) rfl, (L3.on ((On.refl w3).drew.trans k)).at (i := 1) rfl, (L3.on ((On.refl w3).drew.trans k)).at (i := 2) rfl, (L3.on ((On.refl w3).drew.trans k)).at (i := 3) rfl, (L3.on ((On.refl w3).drew.trans k)).at (i := 4) rfl⟩
        refine region_fin (fun W => W.cell? ⟨w.heap.size, 0, none⟩ = some (.slice a1 m1 c1) ∧ W.cell? ⟨w.heap.size, 1, none⟩ = some (.slice a2 m2 c2) ∧ W.cell? ⟨w.heap.size, 2, none⟩ = some (.slice a LL.length c) ∧ W.cell? ⟨w.heap.size + 1, 0, none⟩ = some (.int .i64 ((n : Int) + 1)) ∧ W.cell? ⟨w.heap.size + 1, 1, none⟩ = some (.int .i64 s0) ∧ W.cell? ⟨w.heap.size + 1, 2, none⟩ = some (.int .i64 s1) ∧ W.cell? ⟨w.heap.size + 1, 3, none⟩ = some (.int .i64 s2) ∧ W.cell? ⟨w.heap.size + 1, 4, none⟩ = some (.int .i64 s3)) 5 6 (by kernel_rfl) rfl ?_
        refine fin_take 0 (v := ?_) rfl (by kernel_rfl) (by kernel_rfl) (by kernel_rfl) (by kernel_rfl) (fun _ _ _ h => h) rfl ?_ (hk3 _ (On.refl _)) ?_
        rotate_left
        · intro W hW
          go_simp
          (try with_reducible rfl)
        simp only [Act.put, List.setIfInBounds_toArray, List.set_cons_zero, List.set_cons_succ]
        refine fin_take 1 (v := ?_) rfl (by kernel_rfl) (by kernel_rfl) (by kernel_rfl) (by kernel_rfl) (fun _ _ _ h => h) rfl ?_ (hk3 _ (On.refl _)) ?_
        rotate_left
        · intro W hW
          go_simp
          (try with_reducible rfl)
        simp only [Act.put, List.setIfInBounds_toArray, List.set_cons_zero, List.set_cons_succ]
        refine fin_take 3 (v := ?_) rfl (by kernel_rfl) (by kernel_rfl) (by kernel_rfl) (by kernel_rfl) (fun _ _ _ h => h) rfl ?_ (hk3 _ (On.refl _)) ?_
        rotate_left
        · intro W hW
          go_simp
          (try with_reducible rfl)
        simp only [Act.put, List.setIfInBounds_toArray, List.set_cons_zero, List.set_cons_succ]
        refine fin_one 2 rfl rfl (by kernel_rfl) (fun K hK => ?_)
        go_simp
        refine (hT _ (K3.out.drew)).mono ?_
        rintro e w4 ⟨ax, cx, rfl, rx, k4⟩
        refine hK.out _ _ (fun _ => hk3 _ k4) ?_
        clear hK
        refine fin_one 4 rfl rfl (by kernel_rfl) (fun K hK => ?_)
        go_simp
        refine (hS ax cx w4 rx).mono ?_
        rintro e w5 ⟨rfl, k5⟩
        have k35 : On w3 w5 := (On.refl w3).drew.trans (k4.trans k5)
        have Z5 := Z3.on k35
        have zz0 := Z5.at (i := 0) rfl
        have zz1 := Z5.at (i := 1) rfl
        have zz2 := Z5.at (i := 2) rfl
        have zz3 := Z5.at (i := 3) rfl
        have zz4 := Z5.at (i := 4) rfl
        have zzf := fun i => Z5.fr i
        refine hK.out _ _ (fun _ => hk3 _ (k4.trans k5)) ?_
        clear hK
        refine fin_one 5 rfl rfl (by kernel_rfl) (fun K hK => ?_)
        go_simp
        refine hK.out _ _ (fun h => absurd rfl h) ?_
        refine fin_done (by kernel_rfl) (NoPanic.normal ?_)
        go_wp2
        refine bodyPost_ret (v := .agg #[.int .i64 q0, .int .i64 q1, .int .i64 q2, .int .i64 q3, .int .i64 q4]) ?_ rfl ⟨rfl, ?_⟩
        · rw [results_cell rfl]
          go_simp
        · have hO : On w w5 := K3.out.trans k35
          repeat' (first | with_reducible refine On.setNew ?_ (by omega) _ | with_reducible exact hO)
      · go_enter Tryz.func67, Tryz.ntmps67
        go_wp2_with fail
        refine (hN _ (k0 _ _ _)).mono ?_
        rintro e w1 ⟨rfl, k1⟩
        have P1 := (bp _ _ _ _).on k1
        have L1 := (bl _ _ _ _).on k1
        have Z1 := (br _ _ _ _).on k1
        have K1 : Hid (On w w1) := (k0 _ _ _).trans k1
        clear hN k1 k0 bp bl br
        have l0 := L1.at (i := 0) rfl
        have l1 := L1.at (i := 1) rfl
        have l2 := L1.at (i := 2) rfl
        have l3 := L1.at (i := 3) rfl
        have l4 := L1.at (i := 4) rfl
        have ll := L1.lt
        have z0 := Z1.at (i := 0) rfl
        have z1 := Z1.at (i := 1) rfl
        have z2 := Z1.at (i := 2) rfl
        have z3 := Z1.at (i := 3) rfl
        have z4 := Z1.at (i := 4) rfl
        have zf := fun i => Z1.fr i
        have lf := fun i => L1.fr i
        have zl := Z1.lt
        have kI : ∀ A, On w1 (w1.alloc A) := fun A => (On.refl w1).alloc A
        go_wp2_with fail
        refine (hW _).mono ?_
        rintro e w2 ⟨rfl, k2⟩
        have k12 : On w1 w2 := (kI _).trans k2
        have P2 := P1.on k12
        have L2 := L1.on k12
        have Z2 := Z1.on k12
        have K2 : Hid (On w w2) := K1.out.trans k12
        have m0 := L2.at (i := 0) rfl
        have m1' := L2.at (i := 1) rfl
        have m2' := L2.at (i := 2) rfl
        have m3 := L2.at (i := 3) rfl
        have m4 := L2.at (i := 4) rfl
        have mf := fun i => L2.fr i
        clear l0 l1 l2 l3 l4 z0 z1 z2 z3 z4 zf lf k2 kI hW
        go_wp2
        obtain ⟨w3, hw3⟩ : ∃ w3, w3 = (((((w2.setCell ⟨w.heap.size + 1, 0, none⟩ (.int .i64 (n : Int))).setCell ⟨w.heap.size + 1, 1, none⟩ (.int .i64 s0)).setCell ⟨w.heap.size + 1, 2, none⟩ (.int .i64 s1)).setCell ⟨w.heap.size + 1, 3, none⟩ (.int .i64 s2)).setCell ⟨w.heap.size + 1, 4, none⟩ (.int .i64 s3)).setCell ⟨w.heap.size + 1, 0, none⟩ (.int .i64 ((n : Int) + 1)) := ⟨_, rfl⟩
        rw [← hw3]
        have L3 : Bk w3 (w.heap.size + 1) #[.int .i64 ((n : Int) + 1), .int .i64 s0, .int .i64 s1, .int .i64 s2, .int .i64 s3] := by rw [hw3]; exact (L2.set5 _ _ _ _ _).set0 _
        have P3 : Bk w3 w.heap.size #[.slice a1 m1 c1, .slice a2 m2 c2, .slice a LL.length c] := by rw [hw3]; exact (P2.far5 (by omega) _ _ _ _ _).far (by omega) _ _
        have Z3 : Bk w3 (w.heap.size + 1 + 1) #[.int .i64 0, .int .i64 0, .int .i64 0, .int .i64 0, .int .i64 0] := by rw [hw3]; exact (Z2.far5 (by omega) _ _ _ _ _).far (by omega) _ _
        have K3 : Hid (On w w3) := by show On w w3; rw [hw3]; exact (((((K2.out.setNew (by omega) _).setNew (by omega) _).setNew (by omega) _).setNew (by omega) _).setNew (by omega) _).setNew (by omega) _
        have p0' := P3.at (i := 0) rfl
        have p1' := P3.at (i := 1) rfl
        have p2' := P3.at (i := 2) rfl
        have t0' := L3.at (i := 0) rfl
        have t1' := L3.at (i := 1) rfl
        have t2' := L3.at (i := 2) rfl
        have t3' := L3.at (i := 3) rfl
        have t4' := L3.at (i := 4) rfl
        clear hw3 m0 m1' m2' m3 m4 mf
        have hk3 : ∀ W, On w3.drew W → W.cell? ⟨w.heap.size, 0, none⟩ = some (.slice a1 m1 c1) ∧ W.cell? ⟨w.heap.size, 1, none⟩ = some (.slice a2 m2 c2) ∧ W.cell? ⟨w.heap.size, 2, none⟩ = some (.slice a LL.length c) ∧ W.cell? ⟨w.heap.size + 1, 0, none⟩ = some (.int .i64 ((n : Int) + 1)) ∧ W.cell? ⟨w.heap.size + 1, 1, none⟩ = some (.int .i64 s0) ∧ W.cell? ⟨w.heap.size + 1, 2, none⟩ = some (.int .i64 s1) ∧ W.cell? ⟨w.heap.size + 1, 3, none⟩ = some (.int .i64 s2) ∧ W.cell? ⟨w.heap.size + 1, 4, none⟩ = some (.int .i64 s3) := fun W k => ⟨(P3.on ((On.refl w3).drew.trans k)).at (i := 0) rfl, (P3.on ((On.refl w3).drew.trans k)).at (i := 1) rfl, (P3.on ((On.refl w3).drew.trans k)).at (i := 2) rfl, (L3.on ((On.refl w3).drew.trans k)).at (i := 0) rfl, (L3.on ((On.refl w3).drew.trans k)).at (i := 1) rfl, (L3.on ((On.refl w3).drew.trans k)).at (i := 2) rfl, (L3.on ((On.refl w3).drew.trans k)).at (i := 3) rfl, (L3.on ((On.refl w3).drew.trans k)).at (i := 4) rfl⟩
        refine region_fin (fun W => W.cell? ⟨w.heap.size, 0, none⟩ = some (.slice a1 m1 c1) ∧ W.cell? ⟨w.heap.size, 1, none⟩ = some (.slice a2 m2 c2) ∧ W.cell? ⟨w.heap.size, 2, none⟩ = some (.slice a LL.length c) ∧ W.cell? ⟨w.heap.size + 1, 0, none⟩ = some (.int .i64 ((n : Int) + 1)) ∧ W.cell? ⟨w.heap.size + 1, 1, none⟩ = some (.int .i64 s0) ∧ W.cell? ⟨w.heap.size + 1, 2, none⟩ = some (.int .i64 s1) ∧ W.cell? ⟨w.heap.size + 1, 3, none⟩ = some (.int .i64 s2) ∧ W.cell? ⟨w.heap.size + 1, 4, none⟩ = some (.int .i64 s3)) 5 6 (by kernel_rfl) rfl ?_
        refine fin_take 0 (v := ?_) rfl (by kernel_rfl) (by kernel_rfl) (by kernel_rfl) (by kernel_rfl) (fun _ _ _ h => h) rfl ?_ (hk3 _ (On.refl _)) ?_
        rotate_left
        · intro W hW
          go_simp
          (try with_reducible rfl)
        simp only [Act.put, List.setIfInBounds_toArray, List.set_cons_zero, List.set_cons_succ]
        refine fin_take 1 (v := ?_) rfl (by kernel_rfl) (by kernel_rfl) (by kernel_rfl) (by kernel_rfl) (fun _ _ _ h => h) rfl ?_ (hk3 _ (On.refl _)) ?_
        rotate_left
        · intro W hW
          go_simp
          (try with_reducible rfl)
        simp only [Act.put, List.setIfInBounds_toArray, List.set_cons_zero, List.set_cons_succ]
        refine fin_take 3 (v := ?_) rfl (by kernel_rfl) (by kernel_rfl) (by kernel_rfl) (by kernel_rfl) (fun _ _ _ h => h) rfl ?_ (hk3 _ (On.refl _)) ?_
        rotate_left
        · intro W hW
          go_simp
          (try with_reducible rfl)
        simp only [Act.put, List.setIfInBounds_toArray, List.set_cons_zero, List.set_cons_succ]
        refine fin_one 2 rfl rfl (by kernel_rfl) (fun K hK => ?_)
        go_simp
        refine (hT _ (K3.out.drew)).mono ?_
        rintro e w4 ⟨ax, cx, rfl, rx, k4⟩
        refine hK.out _ _ (fun _ => hk3 _ k4) ?_
        clear hK
        refine fin_one 4 rfl rfl (by kernel_rfl) (fun K hK => ?_)
        go_simp
        refine (hS ax cx w4 rx).mono ?_
        rintro e w5 ⟨rfl, k5⟩
        have k35 : On w3 w5 := (On.refl w3).drew.trans (k4.trans k5)
        have Z5 := Z3.on k35
        have zz0 := Z5.at (i := 0) rfl
        have zz1 := Z5.at (i := 1) rfl
        have zz2 := Z5.at (i := 2) rfl
        have zz3 := Z5.at (i := 3) rfl
        have zz4 := Z5.at (i := 4) rfl
        have zzf := fun i => Z5.fr i
        refine hK.out _ _ (fun _ => hk3 _ (k4.trans k5)) ?_
        clear hK
        refine fin_one 5 rfl rfl (by kernel_rfl) (fun K hK => ?_)
        go_simp
        refine hK.out _ _ (fun h => absurd rfl h) ?_
        refine fin_done (by kernel_rfl) (NoPanic.normal ?_)
        go_wp2
        refine bodyPost_ret (v := .agg #[.int .i64 q0, .int .i64 q1, .int .i64 q2, .int .i64 q3, .int .i64 q4]) ?_ rfl ⟨rfl, ?_⟩
        · rw [results_cell rfl]
          go_simp
        · have hO : On w w5 := K3.out.trans k35
          repeat' (first | with_reducible refine On.setNew ?_ (by omega) _ | with_reducible exact hO)
    | false =>
      have e1 : stepTo x ⟨(n : Int), r0, r1, r2, r3⟩ rv = pcTo ⟨(n : Int), r0, r1, r2, r3⟩ ((n : Int) + 1) := by unfold stepTo; rw [hb]; rfl
      rw [e1] at hS1 ⊢
      unfold pcTo at hS1 ⊢
      simp only at hS1 ⊢
      obtain ⟨⟨q0, q1, q2, q3, q4⟩, hR⟩ : ∃ R, settleP L ⟨(n : Int) + 1, r0, r1, r2, r3⟩ = R := ⟨_, rfl⟩
      rw [hR] at hS1 ⊢
      have hS := hS1
      clear hS1 hR e1
      unfold locV at hS ⊢
      have hb2 : (x.k == 2) = false ∧ (x.k == 4) = false := by unfold readB at hb; simpa using hb
      obtain ⟨h2, h4⟩ := hb2
      go_enter Tryz.func67, Tryz.ntmps67
      go_wp2_with fail
      refine (hN _ (k0 _ _ _)).mono ?_
      rintro e w1 ⟨rfl, k1⟩
      have P1 := (bp _ _ _ _).on k1
      have L1 := (bl _ _ _ _).on k1
      have Z1 := (br _ _ _ _).on k1
      have K1 : Hid (On w w1) := (k0 _ _ _).trans k1
      clear hN k1 k0 bp bl br
      have l0 := L1.at (i := 0) rfl
      have l1 := L1.at (i := 1) rfl
      have l2 := L1.at (i := 2) rfl
      have l3 := L1.at (i := 3) rfl
      have l4 := L1.at (i := 4) rfl
      have ll := L1.lt
      have z0 := Z1.at (i := 0) rfl
      have z1 := Z1.at (i := 1) rfl
      have z2 := Z1.at (i := 2) rfl
      have z3 := Z1.at (i := 3) rfl
      have z4 := Z1.at (i := 4) rfl
      have zf := fun i => Z1.fr i
      have lf := fun i => L1.fr i
      have zl := Z1.lt
      have kI : ∀ A, On w1 (w1.alloc A) := fun A => (On.refl w1).alloc A
      have L2 := fun A => L1.on (kI A)
      have P2 := fun A => P1.on (kI A)
      have Z2 := fun A => Z1.on (kI A)
      go_wp2
      obtain ⟨w3, hw3⟩ : ∃ w3, w3 = (w1.setCell ⟨w.heap.size + 1, 0, none⟩ (.int .i64 ((n : Int) + 1))).alloc (.cells #[.int .i64 x.k, .int .i64 x.r, .int .i64 x.l, .int .i64 x.a.r, .int .i64 x.a.v, .int .i64 x.o, .int .i64 x.b.r, .int .i64 x.b.v, .int .i64 x.n] 107) := ⟨_, rfl⟩
      rw [← hw3]
      have L3 : Bk w3 (w.heap.size + 1) #[.int .i64 ((n : Int) + 1), .int .i64 r0, .int .i64 r1, .int .i64 r2, .int .i64 r3] := by rw [hw3]; exact (L1.set0 _).alloc _
      have P3 : Bk w3 w.heap.size #[.slice a1 m1 c1, .slice a2 m2 c2, .slice a LL.length c] := by rw [hw3]; exact (P1.far (by omega) _ _).alloc _
      have Z3 : Bk w3 (w.heap.size + 1 + 1) #[.int .i64 0, .int .i64 0, .int .i64 0, .int .i64 0, .int .i64 0] := by rw [hw3]; exact (Z1.far (by omega) _ _).alloc _
      have K3 : Hid (On w w3) := by show On w w3; rw [hw3]; exact (K1.out.setNew (by omega) _).alloc _
      have p0' := P3.at (i := 0) rfl
      have p1' := P3.at (i := 1) rfl
      have p2' := P3.at (i := 2) rfl
      have t0' := L3.at (i := 0) rfl
      have t1' := L3.at (i := 1) rfl
      have t2' := L3.at (i := 2) rfl
      have t3' := L3.at (i := 3) rfl
      have t4' := L3.at (i := 4) rfl
      clear hw3 l0 l1 l2 l3 l4 z0 z1 z2 z3 z4 zf lf kI L2 P2 Z2
      have hk3 : ∀ W, On w3.drew W → W.cell? ⟨w.heap.size, 0, none⟩ = some (.slice a1 m1 c1) ∧ W.cell? ⟨w.heap.size, 1, none⟩ = some (.slice a2 m2 c2) ∧ W.cell? ⟨w.heap.size, 2, none⟩ = some (.slice a LL.length c) ∧ W.cell? ⟨w.heap.size + 1, 0, none⟩ = some (.int .i64 ((n : Int) + 1)) ∧ W.cell? ⟨w.heap.size + 1, 1, none⟩ = some (.int .i64 r0) ∧ W.cell? ⟨w.heap.size + 1, 2, none⟩ = some (.int .i64 r1) ∧ W.cell? ⟨w.heap.size + 1, 3, none⟩ = some (.int .i64 r2) ∧ W.cell? ⟨w.heap.size + 1, 4, none⟩ = some (.int .i64 r3) := fun W k => ⟨(P3.on ((On.refl w3).drew.trans k)).at (i := 0) rfl, (P3.on ((On.refl w3).drew.trans k)).at (i := 1) rfl, (P3.on ((On.refl w3).drew.trans k)).at (i := 2) rfl, (L3.on ((On.refl w3).drew.trans k)).at (i := 0) rfl, (L3.on ((On.refl w3).drew.trans k)).at (i := 1) rfl, (L3.on ((On.refl w3).drew.trans k)).at (i := 2) rfl, (L3.on ((On.refl w3).drew.trans k)).at (i := 3) rfl, (L3.on ((On.refl w3).drew.trans k)).at (i := 4) rfl⟩
      refine region_fin (fun W => W.cell? ⟨w.heap.size, 0, none⟩ = some (.slice a1 m1 c1) ∧ W.cell? ⟨w.heap.size, 1, none⟩ = some (.slice a2 m2 c2) ∧ W.cell? ⟨w.heap.size, 2, none⟩ = some (.slice a LL.length c) ∧ W.cell? ⟨w.heap.size + 1, 0, none⟩ = some (.int .i64 ((n : Int) + 1)) ∧ W.cell? ⟨w.heap.size + 1, 1, none⟩ = some (.int .i64 r0) ∧ W.cell? ⟨w.heap.size + 1, 2, none⟩ = some (.int .i64 r1) ∧ W.cell? ⟨w.heap.size + 1, 3, none⟩ = some (.int .i64 r2) ∧ W.cell? ⟨w.heap.size + 1, 4, none⟩ = some (.int .i64 r3)) 5 6 (by kernel_rfl) rfl ?_
      refine fin_take 0 (v := ?_) rfl (by kernel_rfl) (by kernel_rfl) (by kernel_rfl) (by kernel_rfl) (fun _ _ _ h => h) rfl ?_ (hk3 _ (On.refl _)) ?_
      rotate_left
      · intro W hW
        go_simp
        (try with_reducible rfl)
      simp only [Act.put, List.setIfInBounds_toArray, List.set_cons_zero, List.set_cons_succ]
      refine fin_take 1 (v := ?_) rfl (by kernel_rfl) (by kernel_rfl) (by kernel_rfl) (by kernel_rfl) (fun _ _ _ h => h) rfl ?_ (hk3 _ (On.refl _)) ?_
      rotate_left
      · intro W hW
        go_simp
        (try with_reducible rfl)
      simp only [Act.put, List.setIfInBounds_toArray, List.set_cons_zero, List.set_cons_succ]
      refine fin_take 3 (v := ?_) rfl (by kernel_rfl) (by kernel_rfl) (by kernel_rfl) (by kernel_rfl) (fun _ _ _ h => h) rfl ?_ (hk3 _ (On.refl _)) ?_
      rotate_left
      · intro W hW
        go_simp
        (try with_reducible rfl)
      simp only [Act.put, List.setIfInBounds_toArray, List.set_cons_zero, List.set_cons_succ]
      refine fin_one 2 rfl rfl (by kernel_rfl) (fun K hK => ?_)
      go_simp
      refine (hT _ (K3.out.drew)).mono ?_
      rintro e w4 ⟨ax, cx, rfl, rx, k4⟩
      refine hK.out _ _ (fun _ => hk3 _ k4) ?_
      clear hK
      refine fin_one 4 rfl rfl (by kernel_rfl) (fun K hK => ?_)
      go_simp
      refine (hS ax cx w4 rx).mono ?_
      rintro e w5 ⟨rfl, k5⟩
      have k35 : On w3 w5 := (On.refl w3).drew.trans (k4.trans k5)
      have Z5 := Z3.on k35
      have zz0 := Z5.at (i := 0) rfl
      have zz1 := Z5.at (i := 1) rfl
      have zz2 := Z5.at (i := 2) rfl
      have zz3 := Z5.at (i := 3) rfl
      have zz4 := Z5.at (i := 4) rfl
      have zzf := fun i => Z5.fr i
      refine hK.out _ _ (fun _ => hk3 _ (k4.trans k5)) ?_
      clear hK
      refine fin_one 5 rfl rfl (by kernel_rfl) (fun K hK => ?_)
      go_simp
      refine hK.out _ _ (fun h => absurd rfl h) ?_
      refine fin_done (by kernel_rfl) (NoPanic.normal ?_)
      go_wp2
      refine bodyPost_ret (v := .agg #[.int .i64 q0, .int .i64 q1, .int .i64 q2, .int .i64 q3, .int .i64 q4]) ?_ rfl ⟨rfl, ?_⟩
      · rw [results_cell rfl]
        go_simp
      · have hO : On w w5 := K3.out.trans k35
        repeat' (first | with_reducible refine On.setNew ?_ (by omega) _ | with_reducible exact hO)
end Go.Proofs.YtplihlmejnohnaaGreatDoor
