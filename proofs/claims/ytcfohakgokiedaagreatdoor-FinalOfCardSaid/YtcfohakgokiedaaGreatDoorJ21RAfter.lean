/- The document's there, Start and Next. -/
import Derived.Test.YtcfohakgokiedaaGreatDoorJ20RStep
namespace Go.Proofs.YtcfohakgokiedaaGreatDoor
open Go.RowKit

def thereB (LL : List (List InsT)) (t : Int) : Bool := decide (0 ≤ t) && decide (t < LL.length)
set_option maxHeartbeats 4000000 in
theorem there_is (LL : List (List InsT)) (t : Int) (v : Value) (w : World) (h : ProgRd w v LL) :
  Calls Tryz.prog 36 #[v, .int .i64 t] w fun e w' => e = .returned (.bool (thereB LL t)) ∧ On w w' := by
 obtain ⟨a1, m1, c1, a2, m2, c2, a, c, rfl, r⟩ := h
 obtain ⟨_, _, _, _, hmL⟩ := r.slice
 clear r
 unfold thereB
 by_cases h0 : 0 ≤ t
 ·
  by_cases h1 : t < LL.length
  ·
   rw [decide_eq_true h0, decide_eq_true h1]
   go_enter Tryz.func36, Tryz.ntmps36
   go_wp2
   go_ret
   exact ⟨rfl, (On.refl w).alloc _⟩
  ·
   rw [decide_eq_true h0, decide_eq_false h1]
   go_enter Tryz.func36, Tryz.ntmps36
   go_wp2
   go_ret
   exact ⟨rfl, (On.refl w).alloc _⟩
 ·
  rw [decide_eq_false h0]
  go_enter Tryz.func36, Tryz.ntmps36
  go_wp2
  go_ret
  exact ⟨rfl, (On.refl w).alloc _⟩
/-- What the walks ask of a thread's instructions. -/
def fineL (L : List InsT) : Prop := ∀ (i : Nat) (x : InsT), L[i]? = some x → ((x.k = 5 → regOk x.r = true) ∧ (x.k = 6 → 0 ≤ x.n ∧ x.n ≤ (L.length : Int) - i - 1)) ∧ ((x.k == 5 || x.k == 6) = !seenB x.k) ∧ ((x.k = 2 ∨ x.k = 4) → regOk x.r = true)
theorem there_none (LL : List (List InsT)) (t : Int) (hb : thereB LL t = false) : threadP LL t = [] := by
 unfold threadP
 split
 ·
  rename_i h0
  have h1 : ¬ t < LL.length := by
   unfold thereB at hb
   rw [decide_eq_true h0] at hb
   simpa using hb
  rw [List.getD_eq_getElem?_getD, List.getElem?_eq_none (by omega)]
  rfl
 ·
  rfl
theorem there_some (LL : List (List InsT)) (t : Int) (hb : thereB LL t = true) : ∃ (k : Nat) (L : List InsT), t = (k : Int) ∧ k < LL.length ∧ LL[k]? = some L ∧ threadP LL t = L ∧ L ∈ LL := by
 unfold thereB at hb
 simp only [Bool.and_eq_true, decide_eq_true_eq] at hb
 have hk : t.toNat < LL.length := by omega
 refine ⟨t.toNat, LL[t.toNat], by omega, hk, List.getElem?_eq_getElem hk, ?_, List.getElem_mem hk⟩
 unfold threadP
 rw [if_pos hb.1, List.getD_eq_getElem?_getD, List.getElem?_eq_getElem hk]
 rfl
set_option maxHeartbeats 4000000 in
set_option maxRecDepth 8000 in
theorem rstart_is (LL : List (List InsT)) (t : Int) (v : Value) (w : World) (h : ProgRd w v LL) (hf : ∀ L ∈ LL, fineL L) :
  Calls Tryz.prog 37 #[v, .int .i64 t] w fun e w' => e = .returned (locV (startP (threadP LL t))) ∧ On w w' := by
 have hT := fun W (k : On w W) => there_is LL t v W (h.on k)
 have hNo := fun (k : Nat) (L : List InsT) (hL : LL[k]? = some L) (hm : L ∈ LL) W (kk : On w W) => rnormal_is LL k L ⟨0, 0, 0, 0, 0⟩ v W (h.on kk) hL (by decide) (fun i x hx => (hf L hm i x hx).1)
 obtain ⟨a1, m1, c1, a2, m2, c2, a, c, rfl, r⟩ := h
 clear r
 have k0 : ∀ A B, On w ((w.alloc A).alloc B) := fun A B => ((On.refl w).alloc A).alloc B
 have bp : ∀ cs T B, Bk ((w.alloc (.cells cs T)).alloc B) w.heap.size cs := fun cs T B => (Bk.new w cs T).alloc B
 have bk : ∀ A cs T, Bk ((w.alloc A).alloc (.cells cs T)) (w.heap.size + 1) cs := fun A cs T => by have := Bk.new (w.alloc A) cs T; rwa [World.size_alloc] at this
 cases hb : thereB LL t with
 | false =>
  rw [hb] at hT
  rw [there_none LL t hb, show startP [] = ⟨0, 0, 0, 0, 0⟩ from rfl]
  unfold locV
  clear hb hNo
  go_enter Tryz.func37, Tryz.ntmps37
  go_wp2_with fail
  refine (hT _ (k0 _ _)).mono ?_
  rintro _ w1 ⟨rfl, k1⟩
  have B1 := (bk _ _ _).on k1
  have K1 : On w w1 := (k0 _ _).trans k1
  have zf := fun i => B1.fr i
  have z0 := B1.at (i := 0) rfl
  have z1 := B1.at (i := 1) rfl
  have z2 := B1.at (i := 2) rfl
  have z3 := B1.at (i := 3) rfl
  have z4 := B1.at (i := 4) rfl
  have zl := B1.lt
  clear hT k0 bp bk k1
  go_wp2
  refine bodyPost_ret (v := .agg #[.int .i64 0, .int .i64 0, .int .i64 0, .int .i64 0, .int .i64 0]) ?_ rfl ⟨rfl, ?_⟩
  ·
   rw [results_cell rfl]
   go_simp
  ·
   repeat' (first | with_reducible refine On.setNew ?_ (by omega) _ | with_reducible exact K1)
 | true =>
  rw [hb] at hT
  obtain ⟨k, L, rfl, hk, hL, e, hm⟩ := there_some LL t hb
  rw [e]
  unfold startP
  have hS := hNo k L hL hm
  obtain ⟨⟨q0, q1, q2, q3, q4⟩, hR⟩ : ∃ R, settleP L ⟨0, 0, 0, 0, 0⟩ = R := ⟨_, rfl⟩
  rw [hR] at hS ⊢
  unfold locV at hS ⊢
  clear hR hb e hNo
  go_enter Tryz.func37, Tryz.ntmps37
  go_wp2_with fail
  refine (hT _ (k0 _ _)).mono ?_
  rintro _ w1 ⟨rfl, k1⟩
  have P1 := (bp _ _ _).on k1
  have B1 := (bk _ _ _).on k1
  have K1 : On w w1 := (k0 _ _).trans k1
  have p0 := P1.at (i := 0) rfl
  have p1 := P1.at (i := 1) rfl
  have p2 := P1.at (i := 2) rfl
  have pl := P1.lt
  clear hT k0 bp bk k1
  go_wp2_with fail
  refine (hS _ K1).mono ?_
  rintro _ w2 ⟨rfl, k2⟩
  have B2 := B1.on k2
  have K2 := K1.trans k2
  have zf := fun i => B2.fr i
  have z0 := B2.at (i := 0) rfl
  have z1 := B2.at (i := 1) rfl
  have z2 := B2.at (i := 2) rfl
  have z3 := B2.at (i := 3) rfl
  have z4 := B2.at (i := 4) rfl
  have zl := B2.lt
  go_wp2
  refine bodyPost_ret (v := .agg #[.int .i64 q0, .int .i64 q1, .int .i64 q2, .int .i64 q3, .int .i64 q4]) ?_ rfl ⟨rfl, ?_⟩
  ·
   rw [results_cell rfl]
   go_simp
  ·
   repeat' (first | with_reducible refine On.setNew ?_ (by omega) _ | with_reducible exact K2)
set_option maxHeartbeats 8000000 in
set_option maxRecDepth 8000 in
theorem rnext_is (LL : List (List InsT)) (t : Int) (l : LocT) (v : Value) (w : World) (h : ProgRd w v LL) (hf : ∀ L ∈ LL, fineL L) :
  Calls Tryz.prog 32 #[v, .int .i64 t, locV l] w fun e w' => e = .returned (nextV (nextP (threadP LL t) l)) ∧ On w w' := by
 have hT := fun W (k : On w W) => there_is LL t v W (h.on k)
 obtain ⟨a1, m1, c1, a2, m2, c2, a, c, rfl, r⟩ := h
 obtain ⟨_, _, _, _, hmL⟩ := r.slice
 obtain ⟨pc, r0, r1, r2, r3⟩ := l
 unfold locV
 cases hb : thereB LL t with
 | false =>
  rw [hb] at hT
  have e : nextV (nextP (threadP LL t) ⟨pc, r0, r1, r2, r3⟩) = .tuple #[.agg #[.int .i64 0, .int .i64 0, .int .i64 0, .int .i64 0, .int .i64 0, .int .i64 0, .int .i64 0, .int .i64 0, .int .i64 0], .bool false] := by
   rw [there_none LL t hb]
   unfold nextP
   split <;> simp [nextV] <;> rfl
  rw [e]
  clear e hb hf r
  obtain ⟨W0, hW0⟩ : ∃ W0, W0 = ((w.alloc (.cells #[.slice a1 m1 c1, .slice a2 m2 c2, .slice a LL.length c] 27)).alloc (.cells #[.int .i64 pc, .int .i64 r0, .int .i64 r1, .int .i64 r2, .int .i64 r3] 73)).alloc (.cells #[.int .i64 0, .int .i64 0, .int .i64 0, .int .i64 0, .int .i64 0, .int .i64 0, .int .i64 0, .int .i64 0, .int .i64 0] 67) := ⟨_, rfl⟩
  have K0 : On w W0 := by rw [hW0]; exact (((On.refl w).alloc _).alloc _).alloc _
  have PB : Bk W0 w.heap.size #[.slice a1 m1 c1, .slice a2 m2 c2, .slice a LL.length c] := by rw [hW0]; exact ((Bk.new w _ _).alloc _).alloc _
  have CB : Bk W0 (w.heap.size + 1) #[.int .i64 pc, .int .i64 r0, .int .i64 r1, .int .i64 r2, .int .i64 r3] := by
   rw [hW0]
   have := (Bk.new (w.alloc (.cells #[.slice a1 m1 c1, .slice a2 m2 c2, .slice a LL.length c] 27)) #[.int .i64 pc, .int .i64 r0, .int .i64 r1, .int .i64 r2, .int .i64 r3] 73).alloc (.cells #[.int .i64 0, .int .i64 0, .int .i64 0, .int .i64 0, .int .i64 0, .int .i64 0, .int .i64 0, .int .i64 0, .int .i64 0] 67)
   rwa [World.size_alloc] at this
  have ZB : Bk W0 (w.heap.size + 1 + 1) #[.int .i64 0, .int .i64 0, .int .i64 0, .int .i64 0, .int .i64 0, .int .i64 0, .int .i64 0, .int .i64 0, .int .i64 0] := by
   rw [hW0]
   have := Bk.new ((w.alloc (.cells #[.slice a1 m1 c1, .slice a2 m2 c2, .slice a LL.length c] 27)).alloc (.cells #[.int .i64 pc, .int .i64 r0, .int .i64 r1, .int .i64 r2, .int .i64 r3] 73)) #[.int .i64 0, .int .i64 0, .int .i64 0, .int .i64 0, .int .i64 0, .int .i64 0, .int .i64 0, .int .i64 0, .int .i64 0] 67
   rwa [World.size_alloc, World.size_alloc] at this
  have hS : ∀ W, On W0 W → W.cell? ⟨w.heap.size, 0, none⟩ = some (.slice a1 m1 c1) ∧ W.cell? ⟨w.heap.size, 1, none⟩ = some (.slice a2 m2 c2) ∧ W.cell? ⟨w.heap.size, 2, none⟩ = some (.slice a LL.length c) ∧ W.cell? ⟨w.heap.size + 1, 0, none⟩ = some (.int .i64 pc) := fun W k' => ⟨(PB.on k').at (i := 0) rfl, (PB.on k').at (i := 1) rfl, (PB.on k').at (i := 2) rfl, (CB.on k').at (i := 0) rfl⟩
  have qS := hS _ (On.refl W0).drew
  have zl := ZB.lt
  go_enter Tryz.func32, Tryz.ntmps32
  go_wp2
  rw [← hW0]
  clear hW0
  refine region_fin (fun W => W.cell? ⟨w.heap.size, 0, none⟩ = some (.slice a1 m1 c1) ∧ W.cell? ⟨w.heap.size, 1, none⟩ = some (.slice a2 m2 c2) ∧ W.cell? ⟨w.heap.size, 2, none⟩ = some (.slice a LL.length c) ∧ W.cell? ⟨w.heap.size + 1, 0, none⟩ = some (.int .i64 pc)) 99 20 (by kernel_rfl) rfl ?_
  refine fin_take 0 (v := ?_) rfl (by kernel_rfl) (by kernel_rfl) (by kernel_rfl) (by kernel_rfl) (fun _ _ _ h => h) rfl ?_ qS ?_
  rotate_left
  ·
   intro W hW
   go_simp
   (try with_reducible rfl)
  simp only [pu, sa, sz0, ss1]
  refine fin_take 1 (v := ?_) rfl (by kernel_rfl) (by kernel_rfl) (by kernel_rfl) (by kernel_rfl) (fun _ _ _ h => h) rfl ?_ qS ?_
  rotate_left
  ·
   intro W hW
   go_simp
   (try with_reducible rfl)
  simp only [pu, sa, sz0, ss1]
  refine fin_one 2 rfl rfl (by kernel_rfl) (fun K hK => ?_)
  go_simp
  refine (hT _ K0.drew).mono ?_
  rintro _ w1 ⟨rfl, k1'⟩
  have k1 : On W0 w1 := (On.refl W0).drew.trans k1'
  have q1 := hS _ k1
  refine hK.out _ _ (fun _ => q1) ?_
  clear hK
  refine fin_take 3 (v := ?_) rfl (by kernel_rfl) (by kernel_rfl) (by kernel_rfl) (by kernel_rfl) (fun _ _ _ h => h) rfl ?_ q1 ?_
  rotate_left
  ·
   intro W hW
   go_simp
   (try with_reducible rfl)
  simp only [pu, sa, sz0, ss1]
  refine fin_take 4 (v := ?_) rfl (by kernel_rfl) (by kernel_rfl) (by kernel_rfl) (by kernel_rfl) (fun _ _ _ h => h) rfl ?_ q1 ?_
  rotate_left
  ·
   intro W hW
   go_simp
   (try with_reducible rfl)
  simp only [pu, sa, sz0, ss1]
  refine fin_takeN 5 rfl (by kernel_rfl) (by kernel_rfl) (by kernel_rfl) (by kernel_rfl) (fun _ _ _ h => h) (by rfl) q1 ?_
  simp only [pu, sa, sz0, ss1]
  refine fin_takeN 6 rfl (by kernel_rfl) (by kernel_rfl) (by kernel_rfl) (by kernel_rfl) (fun _ _ _ h => h) (by rfl) q1 ?_
  simp only [pu, sa, sz0, ss1]
  refine fin_takeN 7 rfl (by kernel_rfl) (by kernel_rfl) (by kernel_rfl) (by kernel_rfl) (fun _ _ _ h => h) (by rfl) q1 ?_
  simp only [pu, sa, sz0, ss1]
  refine fin_take 8 (v := ?_) rfl (by kernel_rfl) (by kernel_rfl) (by kernel_rfl) (by kernel_rfl) (fun _ _ _ h => h) rfl ?_ q1 ?_
  rotate_left
  ·
   intro W hW
   go_simp
   (try with_reducible rfl)
  simp only [pu, sa, sz0, ss1]
  refine fin_take 9 (v := ?_) rfl (by kernel_rfl) (by kernel_rfl) (by kernel_rfl) (by kernel_rfl) (fun _ _ _ h => h) rfl ?_ q1 ?_
  rotate_left
  ·
   intro W hW
   go_simp
   (try with_reducible rfl)
  simp only [pu, sa, sz0, ss1]
  refine fin_takeN 10 rfl (by kernel_rfl) (by kernel_rfl) (by kernel_rfl) (by kernel_rfl) (fun _ _ _ h => h) (by rfl) q1 ?_
  simp only [pu, sa, sz0, ss1]
  refine fin_takeN 11 rfl (by kernel_rfl) (by kernel_rfl) (by kernel_rfl) (by kernel_rfl) (fun _ _ _ h => h) (by rfl) q1 ?_
  simp only [pu, sa, sz0, ss1]
  refine fin_takeN 12 rfl (by kernel_rfl) (by kernel_rfl) (by kernel_rfl) (by kernel_rfl) (fun _ _ _ h => h) (by rfl) q1 ?_
  simp only [pu, sa, sz0, ss1]
  refine fin_takeN 13 rfl (by kernel_rfl) (by kernel_rfl) (by kernel_rfl) (by kernel_rfl) (fun _ _ _ h => h) (by rfl) q1 ?_
  simp only [pu, sa, sz0, ss1]
  refine fin_takeN 14 rfl (by kernel_rfl) (by kernel_rfl) (by kernel_rfl) (by kernel_rfl) (fun _ _ _ h => h) (by rfl) q1 ?_
  simp only [pu, sa, sz0, ss1]
  refine fin_takeN 15 rfl (by kernel_rfl) (by kernel_rfl) (by kernel_rfl) (by kernel_rfl) (fun _ _ _ h => h) (by rfl) q1 ?_
  simp only [pu, sa, sz0, ss1]
  refine fin_takeN 16 rfl (by kernel_rfl) (by kernel_rfl) (by kernel_rfl) (by kernel_rfl) (fun _ _ _ h => h) (by rfl) q1 ?_
  simp only [pu, sa, sz0, ss1]
  refine fin_takeN 17 rfl (by kernel_rfl) (by kernel_rfl) (by kernel_rfl) (by kernel_rfl) (fun _ _ _ h => h) (by rfl) q1 ?_
  simp only [pu, sa, sz0, ss1]
  refine fin_takeN 18 rfl (by kernel_rfl) (by kernel_rfl) (by kernel_rfl) (by kernel_rfl) (fun _ _ _ h => h) (by rfl) q1 ?_
  simp only [pu, sa, sz0, ss1]
  refine fin_take 19 (v := ?_) rfl (by kernel_rfl) (by kernel_rfl) (by kernel_rfl) (by kernel_rfl) (fun _ _ _ h => h) rfl ?_ q1 ?_
  rotate_left
  ·
   intro W hW
   go_simp
   (try with_reducible rfl)
  simp only [pu, sa, sz0, ss1]
  refine fin_done (by kernel_rfl) (NoPanic.normal ?_)
  have O1 : On w w1 := K0.trans k1
  have Z1 := ZB.on k1
  have zf := fun i => Z1.fr i
  have z0 := Z1.at (i := 0) rfl
  have z1 := Z1.at (i := 1) rfl
  have z2 := Z1.at (i := 2) rfl
  have z3 := Z1.at (i := 3) rfl
  have z4 := Z1.at (i := 4) rfl
  have z5 := Z1.at (i := 5) rfl
  have z6 := Z1.at (i := 6) rfl
  have z7 := Z1.at (i := 7) rfl
  have z8 := Z1.at (i := 8) rfl
  have zzl := Z1.lt
  go_wp2
  refine bodyPost_ret (v := .tuple #[.agg #[.int .i64 0, .int .i64 0, .int .i64 0, .int .i64 0, .int .i64 0, .int .i64 0, .int .i64 0, .int .i64 0, .int .i64 0], .bool false]) ?_ rfl ⟨rfl, ?_⟩
  ·
   rw [results_cell_slot rfl]
   go_simp
  ·
   (try with_reducible refine On.drew ?_)
   repeat' (first | with_reducible refine On.setNew ?_ (by omega) _ | with_reducible exact O1 | with_reducible refine On.alloc ?_ _ | with_reducible refine On.drew ?_)
 | true =>
  rw [hb] at hT
  obtain ⟨k, L, rfl, hk, hL, e, hm⟩ := there_some LL t hb
  rw [e]
  have hfl := hf L hm
  clear hb e hf
  obtain ⟨ga, oa, rfl, hga, ax, cx, uax, hxm, rx⟩ := r.row hL
  clear r
  by_cases hneg : pc < 0
  ·
   have e : nextV (nextP L ⟨pc, r0, r1, r2, r3⟩) = .tuple #[.agg #[.int .i64 0, .int .i64 0, .int .i64 0, .int .i64 0, .int .i64 0, .int .i64 0, .int .i64 0, .int .i64 0, .int .i64 0], .bool false] := by
    unfold nextP
    rw [if_neg (by show ¬ 0 ≤ pc; omega)]
    rfl
   rw [e]
   clear e
   obtain ⟨a, ha⟩ : ∃ a : Option Addr, a = some ⟨ga, oa, none⟩ := ⟨_, rfl⟩
   rw [← ha] at hT ⊢
   clear ha uax rx hga
   obtain ⟨W0, hW0⟩ : ∃ W0, W0 = ((w.alloc (.cells #[.slice a1 m1 c1, .slice a2 m2 c2, .slice a LL.length c] 27)).alloc (.cells #[.int .i64 pc, .int .i64 r0, .int .i64 r1, .int .i64 r2, .int .i64 r3] 73)).alloc (.cells #[.int .i64 0, .int .i64 0, .int .i64 0, .int .i64 0, .int .i64 0, .int .i64 0, .int .i64 0, .int .i64 0, .int .i64 0] 67) := ⟨_, rfl⟩
   have K0 : On w W0 := by rw [hW0]; exact (((On.refl w).alloc _).alloc _).alloc _
   have PB : Bk W0 w.heap.size #[.slice a1 m1 c1, .slice a2 m2 c2, .slice a LL.length c] := by rw [hW0]; exact ((Bk.new w _ _).alloc _).alloc _
   have CB : Bk W0 (w.heap.size + 1) #[.int .i64 pc, .int .i64 r0, .int .i64 r1, .int .i64 r2, .int .i64 r3] := by
    rw [hW0]
    have := (Bk.new (w.alloc (.cells #[.slice a1 m1 c1, .slice a2 m2 c2, .slice a LL.length c] 27)) #[.int .i64 pc, .int .i64 r0, .int .i64 r1, .int .i64 r2, .int .i64 r3] 73).alloc (.cells #[.int .i64 0, .int .i64 0, .int .i64 0, .int .i64 0, .int .i64 0, .int .i64 0, .int .i64 0, .int .i64 0, .int .i64 0] 67)
    rwa [World.size_alloc] at this
   have ZB : Bk W0 (w.heap.size + 1 + 1) #[.int .i64 0, .int .i64 0, .int .i64 0, .int .i64 0, .int .i64 0, .int .i64 0, .int .i64 0, .int .i64 0, .int .i64 0] := by
    rw [hW0]
    have := Bk.new ((w.alloc (.cells #[.slice a1 m1 c1, .slice a2 m2 c2, .slice a LL.length c] 27)).alloc (.cells #[.int .i64 pc, .int .i64 r0, .int .i64 r1, .int .i64 r2, .int .i64 r3] 73)) #[.int .i64 0, .int .i64 0, .int .i64 0, .int .i64 0, .int .i64 0, .int .i64 0, .int .i64 0, .int .i64 0, .int .i64 0] 67
    rwa [World.size_alloc, World.size_alloc] at this
   have hS : ∀ W, On W0 W → W.cell? ⟨w.heap.size, 0, none⟩ = some (.slice a1 m1 c1) ∧ W.cell? ⟨w.heap.size, 1, none⟩ = some (.slice a2 m2 c2) ∧ W.cell? ⟨w.heap.size, 2, none⟩ = some (.slice a LL.length c) ∧ W.cell? ⟨w.heap.size + 1, 0, none⟩ = some (.int .i64 pc) := fun W k' => ⟨(PB.on k').at (i := 0) rfl, (PB.on k').at (i := 1) rfl, (PB.on k').at (i := 2) rfl, (CB.on k').at (i := 0) rfl⟩
   have qS := hS _ (On.refl W0).drew
   have zl := ZB.lt
   go_enter Tryz.func32, Tryz.ntmps32
   go_wp2
   rw [← hW0]
   clear hW0
   refine region_fin (fun W => W.cell? ⟨w.heap.size, 0, none⟩ = some (.slice a1 m1 c1) ∧ W.cell? ⟨w.heap.size, 1, none⟩ = some (.slice a2 m2 c2) ∧ W.cell? ⟨w.heap.size, 2, none⟩ = some (.slice a LL.length c) ∧ W.cell? ⟨w.heap.size + 1, 0, none⟩ = some (.int .i64 pc)) 99 20 (by kernel_rfl) rfl ?_
   refine fin_take 0 (v := ?_) rfl (by kernel_rfl) (by kernel_rfl) (by kernel_rfl) (by kernel_rfl) (fun _ _ _ h => h) rfl ?_ qS ?_
   rotate_left
   ·
    intro W hW
    go_simp
    (try with_reducible rfl)
   simp only [pu, sa, sz0, ss1]
   refine fin_take 1 (v := ?_) rfl (by kernel_rfl) (by kernel_rfl) (by kernel_rfl) (by kernel_rfl) (fun _ _ _ h => h) rfl ?_ qS ?_
   rotate_left
   ·
    intro W hW
    go_simp
    (try with_reducible rfl)
   simp only [pu, sa, sz0, ss1]
   refine fin_one 2 rfl rfl (by kernel_rfl) (fun K hK => ?_)
   go_simp
   refine (hT _ K0.drew).mono ?_
   rintro _ w1 ⟨rfl, k1'⟩
   have k1 : On W0 w1 := (On.refl W0).drew.trans k1'
   have q1 := hS _ k1
   refine hK.out _ _ (fun _ => q1) ?_
   clear hK
   refine fin_take 3 (v := ?_) rfl (by kernel_rfl) (by kernel_rfl) (by kernel_rfl) (by kernel_rfl) (fun _ _ _ h => h) rfl ?_ q1 ?_
   rotate_left
   ·
    intro W hW
    go_simp
    (try with_reducible rfl)
   simp only [pu, sa, sz0, ss1]
   refine fin_take 4 (v := ?_) rfl (by kernel_rfl) (by kernel_rfl) (by kernel_rfl) (by kernel_rfl) (fun _ _ _ h => h) rfl ?_ q1 ?_
   rotate_left
   ·
    intro W hW
    go_simp
    (try with_reducible rfl)
   simp only [pu, sa, sz0, ss1]
   refine fin_takeG 5 (v := ?_) rfl (by kernel_rfl) (by kernel_rfl) (by kernel_rfl) (by kernel_rfl) (fun _ _ _ h => h) (by rfl) ?_ q1 ?_
   rotate_left
   ·
    intro W hW
    go_simp
    (try with_reducible rfl)
   simp only [pu, sa, sz0, ss1]
   refine fin_takeG 6 (v := ?_) rfl (by kernel_rfl) (by kernel_rfl) (by kernel_rfl) (by kernel_rfl) (fun _ _ _ h => h) (by rfl) ?_ q1 ?_
   rotate_left
   ·
    intro W hW
    go_simp
    (try with_reducible rfl)
   simp only [pu, sa, sz0, ss1]
   refine fin_takeG 7 (v := ?_) rfl (by kernel_rfl) (by kernel_rfl) (by kernel_rfl) (by kernel_rfl) (fun _ _ _ h => h) (by rfl) ?_ q1 ?_
   rotate_left
   ·
    intro W hW
    go_simp
    (try with_reducible rfl)
   simp only [pu, sa, sz0, ss1]
   refine fin_take 8 (v := ?_) rfl (by kernel_rfl) (by kernel_rfl) (by kernel_rfl) (by kernel_rfl) (fun _ _ _ h => h) rfl ?_ q1 ?_
   rotate_left
   ·
    intro W hW
    go_simp
    (try with_reducible rfl)
   simp only [pu, sa, sz0, ss1]
   refine fin_take 9 (v := ?_) rfl (by kernel_rfl) (by kernel_rfl) (by kernel_rfl) (by kernel_rfl) (fun _ _ _ h => h) rfl ?_ q1 ?_
   rotate_left
   ·
    intro W hW
    go_simp
    (try with_reducible rfl)
   simp only [pu, sa, sz0, ss1]
   refine fin_takeN 10 rfl (by kernel_rfl) (by kernel_rfl) (by kernel_rfl) (by kernel_rfl) (fun _ _ _ h => h) (by rfl) q1 ?_
   simp only [pu, sa, sz0, ss1]
   refine fin_takeN 11 rfl (by kernel_rfl) (by kernel_rfl) (by kernel_rfl) (by kernel_rfl) (fun _ _ _ h => h) (by rfl) q1 ?_
   simp only [pu, sa, sz0, ss1]
   refine fin_takeN 12 rfl (by kernel_rfl) (by kernel_rfl) (by kernel_rfl) (by kernel_rfl) (fun _ _ _ h => h) (by rfl) q1 ?_
   simp only [pu, sa, sz0, ss1]
   refine fin_takeN 13 rfl (by kernel_rfl) (by kernel_rfl) (by kernel_rfl) (by kernel_rfl) (fun _ _ _ h => h) (by rfl) q1 ?_
   simp only [pu, sa, sz0, ss1]
   refine fin_takeN 14 rfl (by kernel_rfl) (by kernel_rfl) (by kernel_rfl) (by kernel_rfl) (fun _ _ _ h => h) (by rfl) q1 ?_
   simp only [pu, sa, sz0, ss1]
   refine fin_takeN 15 rfl (by kernel_rfl) (by kernel_rfl) (by kernel_rfl) (by kernel_rfl) (fun _ _ _ h => h) (by rfl) q1 ?_
   simp only [pu, sa, sz0, ss1]
   refine fin_takeN 16 rfl (by kernel_rfl) (by kernel_rfl) (by kernel_rfl) (by kernel_rfl) (fun _ _ _ h => h) (by rfl) q1 ?_
   simp only [pu, sa, sz0, ss1]
   refine fin_takeN 17 rfl (by kernel_rfl) (by kernel_rfl) (by kernel_rfl) (by kernel_rfl) (fun _ _ _ h => h) (by rfl) q1 ?_
   simp only [pu, sa, sz0, ss1]
   refine fin_takeN 18 rfl (by kernel_rfl) (by kernel_rfl) (by kernel_rfl) (by kernel_rfl) (fun _ _ _ h => h) (by rfl) q1 ?_
   simp only [pu, sa, sz0, ss1]
   refine fin_take 19 (v := ?_) rfl (by kernel_rfl) (by kernel_rfl) (by kernel_rfl) (by kernel_rfl) (fun _ _ _ h => h) rfl ?_ q1 ?_
   rotate_left
   ·
    intro W hW
    go_simp
    (try with_reducible rfl)
   simp only [pu, sa, sz0, ss1]
   refine fin_done (by kernel_rfl) (NoPanic.normal ?_)
   have O1 : On w w1 := K0.trans k1
   have Z1 := ZB.on k1
   have zf := fun i => Z1.fr i
   have z0 := Z1.at (i := 0) rfl
   have z1 := Z1.at (i := 1) rfl
   have z2 := Z1.at (i := 2) rfl
   have z3 := Z1.at (i := 3) rfl
   have z4 := Z1.at (i := 4) rfl
   have z5 := Z1.at (i := 5) rfl
   have z6 := Z1.at (i := 6) rfl
   have z7 := Z1.at (i := 7) rfl
   have z8 := Z1.at (i := 8) rfl
   have zzl := Z1.lt
   go_wp2
   refine bodyPost_ret (v := .tuple #[.agg #[.int .i64 0, .int .i64 0, .int .i64 0, .int .i64 0, .int .i64 0, .int .i64 0, .int .i64 0, .int .i64 0, .int .i64 0], .bool false]) ?_ rfl ⟨rfl, ?_⟩
   ·
    rw [results_cell_slot rfl]
    go_simp
   ·
    (try with_reducible refine On.drew ?_)
    repeat' (first | with_reducible refine On.setNew ?_ (by omega) _ | with_reducible exact O1 | with_reducible refine On.alloc ?_ _ | with_reducible refine On.drew ?_)
  ·
   obtain ⟨n, rfl⟩ : ∃ n : Nat, pc = (n : Int) := ⟨pc.toNat, by omega⟩
   clear hneg
   rcases Nat.lt_or_ge n L.length with hlt | hge
   ·
    obtain ⟨x, hx⟩ : ∃ x, L[n]? = some x := ⟨_, List.getElem?_eq_getElem hlt⟩
    have hkx := (hfl n x hx).2.1
    obtain ⟨gx, ox, rfl, hgx, hcell⟩ := rx.at hx
    cases hs : seenB x.k with
    | true =>
     have e : nextV (nextP L ⟨(n : Int), r0, r1, r2, r3⟩) = .tuple #[.agg #[.int .i64 x.k, .int .i64 x.r, .int .i64 x.l, .int .i64 x.a.r, .int .i64 x.a.v, .int .i64 x.o, .int .i64 x.b.r, .int .i64 x.b.v, .int .i64 x.n], .bool true] := by
      unfold nextP
      rw [if_pos (Int.natCast_nonneg n)]
      simp only [Int.toNat_natCast, hx, hs]
      rfl
     rw [e]
     rw [hs] at hkx
     have hk5 : (x.k == 5) = false := by revert hkx; cases (x.k == 5) <;> simp
     have hk6 : (x.k == 6) = false := by revert hkx; cases (x.k == 6) <;> simp
     clear e hx hkx hs hfl rx
     obtain ⟨W0, hW0⟩ : ∃ W0, W0 = ((w.alloc (.cells #[.slice a1 m1 c1, .slice a2 m2 c2, .slice (some ⟨ga, oa, none⟩) LL.length c] 27)).alloc (.cells #[.int .i64 (n : Int), .int .i64 r0, .int .i64 r1, .int .i64 r2, .int .i64 r3] 73)).alloc (.cells #[.int .i64 0, .int .i64 0, .int .i64 0, .int .i64 0, .int .i64 0, .int .i64 0, .int .i64 0, .int .i64 0, .int .i64 0] 67) := ⟨_, rfl⟩
     have K0 : On w W0 := by rw [hW0]; exact (((On.refl w).alloc _).alloc _).alloc _
     have PB : Bk W0 w.heap.size #[.slice a1 m1 c1, .slice a2 m2 c2, .slice (some ⟨ga, oa, none⟩) LL.length c] := by rw [hW0]; exact ((Bk.new w _ _).alloc _).alloc _
     have CB : Bk W0 (w.heap.size + 1) #[.int .i64 (n : Int), .int .i64 r0, .int .i64 r1, .int .i64 r2, .int .i64 r3] := by
      rw [hW0]
      have := (Bk.new (w.alloc (.cells #[.slice a1 m1 c1, .slice a2 m2 c2, .slice (some ⟨ga, oa, none⟩) LL.length c] 27)) #[.int .i64 (n : Int), .int .i64 r0, .int .i64 r1, .int .i64 r2, .int .i64 r3] 73).alloc (.cells #[.int .i64 0, .int .i64 0, .int .i64 0, .int .i64 0, .int .i64 0, .int .i64 0, .int .i64 0, .int .i64 0, .int .i64 0] 67)
      rwa [World.size_alloc] at this
     have ZB : Bk W0 (w.heap.size + 1 + 1) #[.int .i64 0, .int .i64 0, .int .i64 0, .int .i64 0, .int .i64 0, .int .i64 0, .int .i64 0, .int .i64 0, .int .i64 0] := by
      rw [hW0]
      have := Bk.new ((w.alloc (.cells #[.slice a1 m1 c1, .slice a2 m2 c2, .slice (some ⟨ga, oa, none⟩) LL.length c] 27)).alloc (.cells #[.int .i64 (n : Int), .int .i64 r0, .int .i64 r1, .int .i64 r2, .int .i64 r3] 73)) #[.int .i64 0, .int .i64 0, .int .i64 0, .int .i64 0, .int .i64 0, .int .i64 0, .int .i64 0, .int .i64 0, .int .i64 0] 67
      rwa [World.size_alloc, World.size_alloc] at this
     have uaxW := (K0.cell (p := ⟨ga, oa + k, none⟩) hga).trans uax
     have hgaW : ga < W0.heap.size := Nat.lt_of_lt_of_le hga K0.size
     have hS : ∀ W, On W0 W → W.cell? ⟨w.heap.size, 0, none⟩ = some (.slice a1 m1 c1) ∧ W.cell? ⟨w.heap.size, 1, none⟩ = some (.slice a2 m2 c2) ∧ W.cell? ⟨w.heap.size, 2, none⟩ = some (.slice (some ⟨ga, oa, none⟩) LL.length c) ∧ W.cell? ⟨w.heap.size + 1, 0, none⟩ = some (.int .i64 (n : Int)) ∧ W.cell? ⟨ga, oa + k, none⟩ = some (.slice (some ⟨gx, ox, none⟩) L.length cx) := fun W k' => ⟨(PB.on k').at (i := 0) rfl, (PB.on k').at (i := 1) rfl, (PB.on k').at (i := 2) rfl, (CB.on k').at (i := 0) rfl, (k'.cell (p := ⟨ga, oa + k, none⟩) hgaW).trans uaxW⟩
     have qS := hS _ (On.refl W0).drew
     have zl := ZB.lt
     go_enter Tryz.func32, Tryz.ntmps32
     go_wp2
     rw [← hW0]
     clear hW0
     refine region_fin (fun W => W.cell? ⟨w.heap.size, 0, none⟩ = some (.slice a1 m1 c1) ∧ W.cell? ⟨w.heap.size, 1, none⟩ = some (.slice a2 m2 c2) ∧ W.cell? ⟨w.heap.size, 2, none⟩ = some (.slice (some ⟨ga, oa, none⟩) LL.length c) ∧ W.cell? ⟨w.heap.size + 1, 0, none⟩ = some (.int .i64 (n : Int)) ∧ W.cell? ⟨ga, oa + k, none⟩ = some (.slice (some ⟨gx, ox, none⟩) L.length cx)) 99 20 (by kernel_rfl) rfl ?_
     refine fin_take 0 (v := ?_) rfl (by kernel_rfl) (by kernel_rfl) (by kernel_rfl) (by kernel_rfl) (fun _ _ _ h => h) rfl ?_ qS ?_
     rotate_left
     ·
      intro W hW
      go_simp
      (try with_reducible rfl)
     simp only [pu, sa, sz0, ss1]
     refine fin_take 1 (v := ?_) rfl (by kernel_rfl) (by kernel_rfl) (by kernel_rfl) (by kernel_rfl) (fun _ _ _ h => h) rfl ?_ qS ?_
     rotate_left
     ·
      intro W hW
      go_simp
      (try with_reducible rfl)
     simp only [pu, sa, sz0, ss1]
     refine fin_one 2 rfl rfl (by kernel_rfl) (fun K hK => ?_)
     go_simp
     refine (hT _ K0.drew).mono ?_
     rintro _ w1 ⟨rfl, k1'⟩
     have k1 : On W0 w1 := (On.refl W0).drew.trans k1'
     have q1 := hS _ k1
     refine hK.out _ _ (fun _ => q1) ?_
     clear hK
     refine fin_take 3 (v := ?_) rfl (by kernel_rfl) (by kernel_rfl) (by kernel_rfl) (by kernel_rfl) (fun _ _ _ h => h) rfl ?_ q1 ?_
     rotate_left
     ·
      intro W hW
      go_simp
      (try with_reducible rfl)
     simp only [pu, sa, sz0, ss1]
     refine fin_take 4 (v := ?_) rfl (by kernel_rfl) (by kernel_rfl) (by kernel_rfl) (by kernel_rfl) (fun _ _ _ h => h) rfl ?_ q1 ?_
     rotate_left
     ·
      intro W hW
      go_simp
      (try with_reducible rfl)
     simp only [pu, sa, sz0, ss1]
     refine fin_takeG 5 (v := ?_) rfl (by kernel_rfl) (by kernel_rfl) (by kernel_rfl) (by kernel_rfl) (fun _ _ _ h => h) (by rfl) ?_ q1 ?_
     rotate_left
     ·
      intro W hW
      go_simp
      (try with_reducible rfl)
     simp only [pu, sa, sz0, ss1]
     refine fin_takeG 6 (v := ?_) rfl (by kernel_rfl) (by kernel_rfl) (by kernel_rfl) (by kernel_rfl) (fun _ _ _ h => h) (by rfl) ?_ q1 ?_
     rotate_left
     ·
      intro W hW
      go_simp
      (try with_reducible rfl)
     simp only [pu, sa, sz0, ss1]
     refine fin_takeG 7 (v := ?_) rfl (by kernel_rfl) (by kernel_rfl) (by kernel_rfl) (by kernel_rfl) (fun _ _ _ h => h) (by rfl) ?_ q1 ?_
     rotate_left
     ·
      intro W hW
      go_simp
      (try with_reducible rfl)
     simp only [pu, sa, sz0, ss1]
     refine fin_take 8 (v := ?_) rfl (by kernel_rfl) (by kernel_rfl) (by kernel_rfl) (by kernel_rfl) (fun _ _ _ h => h) rfl ?_ q1 ?_
     rotate_left
     ·
      intro W hW
      go_simp
      (try with_reducible rfl)
     simp only [pu, sa, sz0, ss1]
     refine fin_take 9 (v := ?_) rfl (by kernel_rfl) (by kernel_rfl) (by kernel_rfl) (by kernel_rfl) (fun _ _ _ h => h) rfl ?_ q1 ?_
     rotate_left
     ·
      intro W hW
      go_simp
      (try with_reducible rfl)
     simp only [pu, sa, sz0, ss1]
     refine fin_takeG 10 (v := ?_) rfl (by kernel_rfl) (by kernel_rfl) (by kernel_rfl) (by kernel_rfl) (fun _ _ _ h => h) (by rfl) ?_ q1 ?_
     rotate_left
     ·
      intro W hW
      go_simp
      (try with_reducible rfl)
     simp only [pu, sa, sz0, ss1]
     refine fin_takeG 11 (v := ?_) rfl (by kernel_rfl) (by kernel_rfl) (by kernel_rfl) (by kernel_rfl) (fun _ _ _ h => h) (by rfl) ?_ q1 ?_
     rotate_left
     ·
      intro W hW
      go_simp
      (try with_reducible rfl)
     simp only [pu, sa, sz0, ss1]
     refine fin_takeG 12 (v := ?_) rfl (by kernel_rfl) (by kernel_rfl) (by kernel_rfl) (by kernel_rfl) (fun _ _ _ h => h) (by rfl) ?_ q1 ?_
     rotate_left
     ·
      intro W hW
      go_simp
      (try with_reducible rfl)
     simp only [pu, sa, sz0, ss1]
     refine fin_takeG 13 (v := ?_) rfl (by kernel_rfl) (by kernel_rfl) (by kernel_rfl) (by kernel_rfl) (fun _ _ _ h => h) (by rfl) ?_ q1 ?_
     rotate_left
     ·
      intro W hW
      go_simp
      (try with_reducible rfl)
     simp only [pu, sa, sz0, ss1]
     refine fin_takeG 14 (v := ?_) rfl (by kernel_rfl) (by kernel_rfl) (by kernel_rfl) (by kernel_rfl) (fun _ _ _ h => h) (by rfl) ?_ q1 ?_
     rotate_left
     ·
      intro W hW
      go_simp
      (try with_reducible rfl)
     simp only [pu, sa, sz0, ss1]
     refine fin_takeG 15 (v := ?_) rfl (by kernel_rfl) (by kernel_rfl) (by kernel_rfl) (by kernel_rfl) (fun _ _ _ h => h) (by rfl) ?_ q1 ?_
     rotate_left
     ·
      intro W hW
      go_simp
      (try with_reducible rfl)
     simp only [pu, sa, sz0, ss1]
     refine fin_takeG 16 (v := ?_) rfl (by kernel_rfl) (by kernel_rfl) (by kernel_rfl) (by kernel_rfl) (fun _ _ _ h => h) (by rfl) ?_ q1 ?_
     rotate_left
     ·
      intro W hW
      go_simp
      (try with_reducible rfl)
     simp only [pu, sa, sz0, ss1]
     refine fin_takeG 17 (v := ?_) rfl (by kernel_rfl) (by kernel_rfl) (by kernel_rfl) (by kernel_rfl) (fun _ _ _ h => h) (by rfl) ?_ q1 ?_
     rotate_left
     ·
      intro W hW
      go_simp
      (try with_reducible rfl)
     simp only [pu, sa, sz0, ss1]
     refine fin_takeG 18 (v := ?_) rfl (by kernel_rfl) (by kernel_rfl) (by kernel_rfl) (by kernel_rfl) (fun _ _ _ h => h) (by rfl) ?_ q1 ?_
     rotate_left
     ·
      intro W hW
      go_simp
      (try with_reducible rfl)
     simp only [pu, sa, sz0, ss1]
     refine fin_take 19 (v := ?_) rfl (by kernel_rfl) (by kernel_rfl) (by kernel_rfl) (by kernel_rfl) (fun _ _ _ h => h) rfl ?_ q1 ?_
     rotate_left
     ·
      intro W hW
      go_simp
      (try with_reducible rfl)
     simp only [pu, sa, sz0, ss1]
     refine fin_done (by kernel_rfl) (NoPanic.normal ?_)
     have O1 : On w w1 := K0.trans k1
     have Z1 := ZB.on k1
     have qI : ∀ W, On w1 W → W.cell? ⟨w.heap.size, 0, none⟩ = some (.slice a1 m1 c1) ∧ W.cell? ⟨w.heap.size, 1, none⟩ = some (.slice a2 m2 c2) ∧ W.cell? ⟨w.heap.size, 2, none⟩ = some (.slice (some ⟨ga, oa, none⟩) LL.length c) ∧ W.cell? ⟨w.heap.size + 1, 0, none⟩ = some (.int .i64 (n : Int)) ∧ W.cell? ⟨ga, oa + k, none⟩ = some (.slice (some ⟨gx, ox, none⟩) L.length cx) ∧ W.cell? ⟨gx, ox + n * 9, none⟩ = some (.int .i64 x.k) ∧ W.cell? ⟨gx, ox + n * 9 + 1, none⟩ = some (.int .i64 x.r) ∧ W.cell? ⟨gx, ox + n * 9 + 2, none⟩ = some (.int .i64 x.l) ∧ W.cell? ⟨gx, ox + n * 9 + 3, none⟩ = some (.int .i64 x.a.r) ∧ W.cell? ⟨gx, ox + n * 9 + 4, none⟩ = some (.int .i64 x.a.v) ∧ W.cell? ⟨gx, ox + n * 9 + 5, none⟩ = some (.int .i64 x.o) ∧ W.cell? ⟨gx, ox + n * 9 + 6, none⟩ = some (.int .i64 x.b.r) ∧ W.cell? ⟨gx, ox + n * 9 + 7, none⟩ = some (.int .i64 x.b.v) ∧ W.cell? ⟨gx, ox + n * 9 + 8, none⟩ = some (.int .i64 x.n) := fun W k' => ⟨(PB.on (k1.trans k')).at (i := 0) rfl, (PB.on (k1.trans k')).at (i := 1) rfl, (PB.on (k1.trans k')).at (i := 2) rfl, (CB.on (k1.trans k')).at (i := 0) rfl, ((k1.trans k').cell (p := ⟨ga, oa + k, none⟩) hgaW).trans uaxW, ((O1.trans k').cell (p := ⟨gx, ox + n * 9 + 0, none⟩) hgx).trans (hcell 0 _ rfl), ((O1.trans k').cell (p := ⟨gx, ox + n * 9 + 1, none⟩) hgx).trans (hcell 1 _ rfl), ((O1.trans k').cell (p := ⟨gx, ox + n * 9 + 2, none⟩) hgx).trans (hcell 2 _ rfl), ((O1.trans k').cell (p := ⟨gx, ox + n * 9 + 3, none⟩) hgx).trans (hcell 3 _ rfl), ((O1.trans k').cell (p := ⟨gx, ox + n * 9 + 4, none⟩) hgx).trans (hcell 4 _ rfl), ((O1.trans k').cell (p := ⟨gx, ox + n * 9 + 5, none⟩) hgx).trans (hcell 5 _ rfl), ((O1.trans k').cell (p := ⟨gx, ox + n * 9 + 6, none⟩) hgx).trans (hcell 6 _ rfl), ((O1.trans k').cell (p := ⟨gx, ox + n * 9 + 7, none⟩) hgx).trans (hcell 7 _ rfl), ((O1.trans k').cell (p := ⟨gx, ox + n * 9 + 8, none⟩) hgx).trans (hcell 8 _ rfl)⟩
     have q2 := qI _ (On.refl w1).drew
     have k1l := k1.size
     go_wp2
     refine region_fin (fun W => W.cell? ⟨w.heap.size, 0, none⟩ = some (.slice a1 m1 c1) ∧ W.cell? ⟨w.heap.size, 1, none⟩ = some (.slice a2 m2 c2) ∧ W.cell? ⟨w.heap.size, 2, none⟩ = some (.slice (some ⟨ga, oa, none⟩) LL.length c) ∧ W.cell? ⟨w.heap.size + 1, 0, none⟩ = some (.int .i64 (n : Int)) ∧ W.cell? ⟨ga, oa + k, none⟩ = some (.slice (some ⟨gx, ox, none⟩) L.length cx) ∧ W.cell? ⟨gx, ox + n * 9, none⟩ = some (.int .i64 x.k) ∧ W.cell? ⟨gx, ox + n * 9 + 1, none⟩ = some (.int .i64 x.r) ∧ W.cell? ⟨gx, ox + n * 9 + 2, none⟩ = some (.int .i64 x.l) ∧ W.cell? ⟨gx, ox + n * 9 + 3, none⟩ = some (.int .i64 x.a.r) ∧ W.cell? ⟨gx, ox + n * 9 + 4, none⟩ = some (.int .i64 x.a.v) ∧ W.cell? ⟨gx, ox + n * 9 + 5, none⟩ = some (.int .i64 x.o) ∧ W.cell? ⟨gx, ox + n * 9 + 6, none⟩ = some (.int .i64 x.b.r) ∧ W.cell? ⟨gx, ox + n * 9 + 7, none⟩ = some (.int .i64 x.b.v) ∧ W.cell? ⟨gx, ox + n * 9 + 8, none⟩ = some (.int .i64 x.n)) 10 11 (by kernel_rfl) rfl ?_
     refine fin_take 0 (v := ?_) rfl (by kernel_rfl) (by kernel_rfl) (by kernel_rfl) (by kernel_rfl) (fun _ _ _ h => h) rfl ?_ q2 ?_
     rotate_left
     ·
      intro W hW
      go_simp
      (try with_reducible rfl)
     simp only [pu, sa, sz0, ss1]
     refine fin_take 1 (v := ?_) rfl (by kernel_rfl) (by kernel_rfl) (by kernel_rfl) (by kernel_rfl) (fun _ _ _ h => h) rfl ?_ q2 ?_
     rotate_left
     ·
      intro W hW
      go_simp
      (try with_reducible rfl)
     simp only [pu, sa, sz0, ss1]
     refine fin_take 2 (v := ?_) rfl (by kernel_rfl) (by kernel_rfl) (by kernel_rfl) (by kernel_rfl) (fun _ _ _ h => h) rfl ?_ q2 ?_
     rotate_left
     ·
      intro W hW
      go_simp
      (try with_reducible rfl)
     simp only [pu, sa, sz0, ss1]
     refine fin_take 3 (v := ?_) rfl (by kernel_rfl) (by kernel_rfl) (by kernel_rfl) (by kernel_rfl) (fun _ _ _ h => h) rfl ?_ q2 ?_
     rotate_left
     ·
      intro W hW
      go_simp
      (try with_reducible rfl)
     simp only [pu, sa, sz0, ss1]
     refine fin_take 4 (v := ?_) rfl (by kernel_rfl) (by kernel_rfl) (by kernel_rfl) (by kernel_rfl) (fun _ _ _ h => h) rfl ?_ q2 ?_
     rotate_left
     ·
      intro W hW
      go_simp
      (try with_reducible rfl)
     simp only [pu, sa, sz0, ss1]
     refine fin_take 5 (v := ?_) rfl (by kernel_rfl) (by kernel_rfl) (by kernel_rfl) (by kernel_rfl) (fun _ _ _ h => h) rfl ?_ q2 ?_
     rotate_left
     ·
      intro W hW
      go_simp
      (try with_reducible rfl)
     simp only [pu, sa, sz0, ss1]
     refine fin_take 6 (v := ?_) rfl (by kernel_rfl) (by kernel_rfl) (by kernel_rfl) (by kernel_rfl) (fun _ _ _ h => h) rfl ?_ q2 ?_
     rotate_left
     ·
      intro W hW
      go_simp
      (try with_reducible rfl)
     simp only [pu, sa, sz0, ss1]
     refine fin_take 7 (v := ?_) rfl (by kernel_rfl) (by kernel_rfl) (by kernel_rfl) (by kernel_rfl) (fun _ _ _ h => h) rfl ?_ q2 ?_
     rotate_left
     ·
      intro W hW
      go_simp
      (try with_reducible rfl)
     simp only [pu, sa, sz0, ss1]
     refine fin_take 8 (v := ?_) rfl (by kernel_rfl) (by kernel_rfl) (by kernel_rfl) (by kernel_rfl) (fun _ _ _ h => h) rfl ?_ q2 ?_
     rotate_left
     ·
      intro W hW
      go_simp
      (try with_reducible rfl)
     simp only [pu, sa, sz0, ss1]
     refine fin_one 9 rfl rfl (by kernel_rfl) (fun K hK => ?_)
     go_simp
     refine hK.out _ _ (fun _ => qI _ ((On.refl w1).alloc _).drew) ?_
     clear hK
     refine fin_one 10 rfl rfl (by kernel_rfl) (fun K hK => ?_)
     go_simp
     refine hK.out _ _ (fun h => absurd rfl h) ?_
     refine fin_done (by kernel_rfl) (NoPanic.normal ?_)
     have hwr : w.heap.size + 1 + 1 < w1.heap.size := by omega
     have hne : ¬ w1.heap.size = w.heap.size + 1 + 1 := by omega
     clear q2 qI hcell
     have zf := fun i => Z1.fr i
     have z0 := Z1.at (i := 0) rfl
     have z1 := Z1.at (i := 1) rfl
     have z2 := Z1.at (i := 2) rfl
     have z3 := Z1.at (i := 3) rfl
     have z4 := Z1.at (i := 4) rfl
     have z5 := Z1.at (i := 5) rfl
     have z6 := Z1.at (i := 6) rfl
     have z7 := Z1.at (i := 7) rfl
     have z8 := Z1.at (i := 8) rfl
     have zzl := Z1.lt
     go_wp2
     refine bodyPost_ret (v := .tuple #[.agg #[.int .i64 x.k, .int .i64 x.r, .int .i64 x.l, .int .i64 x.a.r, .int .i64 x.a.v, .int .i64 x.o, .int .i64 x.b.r, .int .i64 x.b.v, .int .i64 x.n], .bool true]) ?_ rfl ⟨rfl, ?_⟩
     ·
      rw [results_cell_slot rfl]
      go_simp
     ·
      (try with_reducible refine On.drew ?_)
      repeat' (first | with_reducible refine On.setNew ?_ (by omega) _ | with_reducible exact O1 | with_reducible refine On.alloc ?_ _ | with_reducible refine On.drew ?_)
    | false =>
     have e : nextV (nextP L ⟨(n : Int), r0, r1, r2, r3⟩) = .tuple #[.agg #[.int .i64 0, .int .i64 0, .int .i64 0, .int .i64 0, .int .i64 0, .int .i64 0, .int .i64 0, .int .i64 0, .int .i64 0], .bool false] := by
      unfold nextP
      rw [if_pos (Int.natCast_nonneg n)]
      simp only [Int.toNat_natCast, hx, hs]
      rfl
     rw [e]
     rw [hs] at hkx
     clear e hx hs hfl rx
     cases hk5 : (x.k == 5)
     ·
      have hk6 : (x.k == 6) = true := by rw [hk5] at hkx; simpa using hkx
      clear hkx
      obtain ⟨W0, hW0⟩ : ∃ W0, W0 = ((w.alloc (.cells #[.slice a1 m1 c1, .slice a2 m2 c2, .slice (some ⟨ga, oa, none⟩) LL.length c] 27)).alloc (.cells #[.int .i64 (n : Int), .int .i64 r0, .int .i64 r1, .int .i64 r2, .int .i64 r3] 73)).alloc (.cells #[.int .i64 0, .int .i64 0, .int .i64 0, .int .i64 0, .int .i64 0, .int .i64 0, .int .i64 0, .int .i64 0, .int .i64 0] 67) := ⟨_, rfl⟩
      have K0 : On w W0 := by rw [hW0]; exact (((On.refl w).alloc _).alloc _).alloc _
      have PB : Bk W0 w.heap.size #[.slice a1 m1 c1, .slice a2 m2 c2, .slice (some ⟨ga, oa, none⟩) LL.length c] := by rw [hW0]; exact ((Bk.new w _ _).alloc _).alloc _
      have CB : Bk W0 (w.heap.size + 1) #[.int .i64 (n : Int), .int .i64 r0, .int .i64 r1, .int .i64 r2, .int .i64 r3] := by
       rw [hW0]
       have := (Bk.new (w.alloc (.cells #[.slice a1 m1 c1, .slice a2 m2 c2, .slice (some ⟨ga, oa, none⟩) LL.length c] 27)) #[.int .i64 (n : Int), .int .i64 r0, .int .i64 r1, .int .i64 r2, .int .i64 r3] 73).alloc (.cells #[.int .i64 0, .int .i64 0, .int .i64 0, .int .i64 0, .int .i64 0, .int .i64 0, .int .i64 0, .int .i64 0, .int .i64 0] 67)
       rwa [World.size_alloc] at this
      have ZB : Bk W0 (w.heap.size + 1 + 1) #[.int .i64 0, .int .i64 0, .int .i64 0, .int .i64 0, .int .i64 0, .int .i64 0, .int .i64 0, .int .i64 0, .int .i64 0] := by
       rw [hW0]
       have := Bk.new ((w.alloc (.cells #[.slice a1 m1 c1, .slice a2 m2 c2, .slice (some ⟨ga, oa, none⟩) LL.length c] 27)).alloc (.cells #[.int .i64 (n : Int), .int .i64 r0, .int .i64 r1, .int .i64 r2, .int .i64 r3] 73)) #[.int .i64 0, .int .i64 0, .int .i64 0, .int .i64 0, .int .i64 0, .int .i64 0, .int .i64 0, .int .i64 0, .int .i64 0] 67
       rwa [World.size_alloc, World.size_alloc] at this
      have uaxW := (K0.cell (p := ⟨ga, oa + k, none⟩) hga).trans uax
      have hgaW : ga < W0.heap.size := Nat.lt_of_lt_of_le hga K0.size
      have hS : ∀ W, On W0 W → W.cell? ⟨w.heap.size, 0, none⟩ = some (.slice a1 m1 c1) ∧ W.cell? ⟨w.heap.size, 1, none⟩ = some (.slice a2 m2 c2) ∧ W.cell? ⟨w.heap.size, 2, none⟩ = some (.slice (some ⟨ga, oa, none⟩) LL.length c) ∧ W.cell? ⟨w.heap.size + 1, 0, none⟩ = some (.int .i64 (n : Int)) ∧ W.cell? ⟨ga, oa + k, none⟩ = some (.slice (some ⟨gx, ox, none⟩) L.length cx) := fun W k' => ⟨(PB.on k').at (i := 0) rfl, (PB.on k').at (i := 1) rfl, (PB.on k').at (i := 2) rfl, (CB.on k').at (i := 0) rfl, (k'.cell (p := ⟨ga, oa + k, none⟩) hgaW).trans uaxW⟩
      have qS := hS _ (On.refl W0).drew
      have zl := ZB.lt
      go_enter Tryz.func32, Tryz.ntmps32
      go_wp2
      rw [← hW0]
      clear hW0
      refine region_fin (fun W => W.cell? ⟨w.heap.size, 0, none⟩ = some (.slice a1 m1 c1) ∧ W.cell? ⟨w.heap.size, 1, none⟩ = some (.slice a2 m2 c2) ∧ W.cell? ⟨w.heap.size, 2, none⟩ = some (.slice (some ⟨ga, oa, none⟩) LL.length c) ∧ W.cell? ⟨w.heap.size + 1, 0, none⟩ = some (.int .i64 (n : Int)) ∧ W.cell? ⟨ga, oa + k, none⟩ = some (.slice (some ⟨gx, ox, none⟩) L.length cx)) 99 20 (by kernel_rfl) rfl ?_
      refine fin_take 0 (v := ?_) rfl (by kernel_rfl) (by kernel_rfl) (by kernel_rfl) (by kernel_rfl) (fun _ _ _ h => h) rfl ?_ qS ?_
      rotate_left
      ·
       intro W hW
       go_simp
       (try with_reducible rfl)
      simp only [pu, sa, sz0, ss1]
      refine fin_take 1 (v := ?_) rfl (by kernel_rfl) (by kernel_rfl) (by kernel_rfl) (by kernel_rfl) (fun _ _ _ h => h) rfl ?_ qS ?_
      rotate_left
      ·
       intro W hW
       go_simp
       (try with_reducible rfl)
      simp only [pu, sa, sz0, ss1]
      refine fin_one 2 rfl rfl (by kernel_rfl) (fun K hK => ?_)
      go_simp
      refine (hT _ K0.drew).mono ?_
      rintro _ w1 ⟨rfl, k1'⟩
      have k1 : On W0 w1 := (On.refl W0).drew.trans k1'
      have q1 := hS _ k1
      refine hK.out _ _ (fun _ => q1) ?_
      clear hK
      refine fin_take 3 (v := ?_) rfl (by kernel_rfl) (by kernel_rfl) (by kernel_rfl) (by kernel_rfl) (fun _ _ _ h => h) rfl ?_ q1 ?_
      rotate_left
      ·
       intro W hW
       go_simp
       (try with_reducible rfl)
      simp only [pu, sa, sz0, ss1]
      refine fin_take 4 (v := ?_) rfl (by kernel_rfl) (by kernel_rfl) (by kernel_rfl) (by kernel_rfl) (fun _ _ _ h => h) rfl ?_ q1 ?_
      rotate_left
      ·
       intro W hW
       go_simp
       (try with_reducible rfl)
      simp only [pu, sa, sz0, ss1]
      refine fin_takeG 5 (v := ?_) rfl (by kernel_rfl) (by kernel_rfl) (by kernel_rfl) (by kernel_rfl) (fun _ _ _ h => h) (by rfl) ?_ q1 ?_
      rotate_left
      ·
       intro W hW
       go_simp
       (try with_reducible rfl)
      simp only [pu, sa, sz0, ss1]
      refine fin_takeG 6 (v := ?_) rfl (by kernel_rfl) (by kernel_rfl) (by kernel_rfl) (by kernel_rfl) (fun _ _ _ h => h) (by rfl) ?_ q1 ?_
      rotate_left
      ·
       intro W hW
       go_simp
       (try with_reducible rfl)
      simp only [pu, sa, sz0, ss1]
      refine fin_takeG 7 (v := ?_) rfl (by kernel_rfl) (by kernel_rfl) (by kernel_rfl) (by kernel_rfl) (fun _ _ _ h => h) (by rfl) ?_ q1 ?_
      rotate_left
      ·
       intro W hW
       go_simp
       (try with_reducible rfl)
      simp only [pu, sa, sz0, ss1]
      refine fin_take 8 (v := ?_) rfl (by kernel_rfl) (by kernel_rfl) (by kernel_rfl) (by kernel_rfl) (fun _ _ _ h => h) rfl ?_ q1 ?_
      rotate_left
      ·
       intro W hW
       go_simp
       (try with_reducible rfl)
      simp only [pu, sa, sz0, ss1]
      refine fin_take 9 (v := ?_) rfl (by kernel_rfl) (by kernel_rfl) (by kernel_rfl) (by kernel_rfl) (fun _ _ _ h => h) rfl ?_ q1 ?_
      rotate_left
      ·
       intro W hW
       go_simp
       (try with_reducible rfl)
      simp only [pu, sa, sz0, ss1]
      refine fin_takeG 10 (v := ?_) rfl (by kernel_rfl) (by kernel_rfl) (by kernel_rfl) (by kernel_rfl) (fun _ _ _ h => h) (by rfl) ?_ q1 ?_
      rotate_left
      ·
       intro W hW
       go_simp
       (try with_reducible rfl)
      simp only [pu, sa, sz0, ss1]
      refine fin_takeG 11 (v := ?_) rfl (by kernel_rfl) (by kernel_rfl) (by kernel_rfl) (by kernel_rfl) (fun _ _ _ h => h) (by rfl) ?_ q1 ?_
      rotate_left
      ·
       intro W hW
       go_simp
       (try with_reducible rfl)
      simp only [pu, sa, sz0, ss1]
      refine fin_takeG 12 (v := ?_) rfl (by kernel_rfl) (by kernel_rfl) (by kernel_rfl) (by kernel_rfl) (fun _ _ _ h => h) (by rfl) ?_ q1 ?_
      rotate_left
      ·
       intro W hW
       go_simp
       (try with_reducible rfl)
      simp only [pu, sa, sz0, ss1]
      refine fin_takeG 13 (v := ?_) rfl (by kernel_rfl) (by kernel_rfl) (by kernel_rfl) (by kernel_rfl) (fun _ _ _ h => h) (by rfl) ?_ q1 ?_
      rotate_left
      ·
       intro W hW
       go_simp
       (try with_reducible rfl)
      simp only [pu, sa, sz0, ss1]
      refine fin_takeG 14 (v := ?_) rfl (by kernel_rfl) (by kernel_rfl) (by kernel_rfl) (by kernel_rfl) (fun _ _ _ h => h) (by rfl) ?_ q1 ?_
      rotate_left
      ·
       intro W hW
       go_simp
       (try with_reducible rfl)
      simp only [pu, sa, sz0, ss1]
      refine fin_takeG 15 (v := ?_) rfl (by kernel_rfl) (by kernel_rfl) (by kernel_rfl) (by kernel_rfl) (fun _ _ _ h => h) (by rfl) ?_ q1 ?_
      rotate_left
      ·
       intro W hW
       go_simp
       (try with_reducible rfl)
      simp only [pu, sa, sz0, ss1]
      refine fin_takeG 16 (v := ?_) rfl (by kernel_rfl) (by kernel_rfl) (by kernel_rfl) (by kernel_rfl) (fun _ _ _ h => h) (by rfl) ?_ q1 ?_
      rotate_left
      ·
       intro W hW
       go_simp
       (try with_reducible rfl)
      simp only [pu, sa, sz0, ss1]
      refine fin_takeG 17 (v := ?_) rfl (by kernel_rfl) (by kernel_rfl) (by kernel_rfl) (by kernel_rfl) (fun _ _ _ h => h) (by rfl) ?_ q1 ?_
      rotate_left
      ·
       intro W hW
       go_simp
       (try with_reducible rfl)
      simp only [pu, sa, sz0, ss1]
      refine fin_takeG 18 (v := ?_) rfl (by kernel_rfl) (by kernel_rfl) (by kernel_rfl) (by kernel_rfl) (fun _ _ _ h => h) (by rfl) ?_ q1 ?_
      rotate_left
      ·
       intro W hW
       go_simp
       (try with_reducible rfl)
      simp only [pu, sa, sz0, ss1]
      refine fin_take 19 (v := ?_) rfl (by kernel_rfl) (by kernel_rfl) (by kernel_rfl) (by kernel_rfl) (fun _ _ _ h => h) rfl ?_ q1 ?_
      rotate_left
      ·
       intro W hW
       go_simp
       (try with_reducible rfl)
      simp only [pu, sa, sz0, ss1]
      refine fin_done (by kernel_rfl) (NoPanic.normal ?_)
      have O1 : On w w1 := K0.trans k1
      have Z1 := ZB.on k1
      have qI : ∀ W, On w1 W → W.cell? ⟨w.heap.size, 0, none⟩ = some (.slice a1 m1 c1) ∧ W.cell? ⟨w.heap.size, 1, none⟩ = some (.slice a2 m2 c2) ∧ W.cell? ⟨w.heap.size, 2, none⟩ = some (.slice (some ⟨ga, oa, none⟩) LL.length c) ∧ W.cell? ⟨w.heap.size + 1, 0, none⟩ = some (.int .i64 (n : Int)) ∧ W.cell? ⟨ga, oa + k, none⟩ = some (.slice (some ⟨gx, ox, none⟩) L.length cx) ∧ W.cell? ⟨gx, ox + n * 9, none⟩ = some (.int .i64 x.k) ∧ W.cell? ⟨gx, ox + n * 9 + 1, none⟩ = some (.int .i64 x.r) ∧ W.cell? ⟨gx, ox + n * 9 + 2, none⟩ = some (.int .i64 x.l) ∧ W.cell? ⟨gx, ox + n * 9 + 3, none⟩ = some (.int .i64 x.a.r) ∧ W.cell? ⟨gx, ox + n * 9 + 4, none⟩ = some (.int .i64 x.a.v) ∧ W.cell? ⟨gx, ox + n * 9 + 5, none⟩ = some (.int .i64 x.o) ∧ W.cell? ⟨gx, ox + n * 9 + 6, none⟩ = some (.int .i64 x.b.r) ∧ W.cell? ⟨gx, ox + n * 9 + 7, none⟩ = some (.int .i64 x.b.v) ∧ W.cell? ⟨gx, ox + n * 9 + 8, none⟩ = some (.int .i64 x.n) := fun W k' => ⟨(PB.on (k1.trans k')).at (i := 0) rfl, (PB.on (k1.trans k')).at (i := 1) rfl, (PB.on (k1.trans k')).at (i := 2) rfl, (CB.on (k1.trans k')).at (i := 0) rfl, ((k1.trans k').cell (p := ⟨ga, oa + k, none⟩) hgaW).trans uaxW, ((O1.trans k').cell (p := ⟨gx, ox + n * 9 + 0, none⟩) hgx).trans (hcell 0 _ rfl), ((O1.trans k').cell (p := ⟨gx, ox + n * 9 + 1, none⟩) hgx).trans (hcell 1 _ rfl), ((O1.trans k').cell (p := ⟨gx, ox + n * 9 + 2, none⟩) hgx).trans (hcell 2 _ rfl), ((O1.trans k').cell (p := ⟨gx, ox + n * 9 + 3, none⟩) hgx).trans (hcell 3 _ rfl), ((O1.trans k').cell (p := ⟨gx, ox + n * 9 + 4, none⟩) hgx).trans (hcell 4 _ rfl), ((O1.trans k').cell (p := ⟨gx, ox + n * 9 + 5, none⟩) hgx).trans (hcell 5 _ rfl), ((O1.trans k').cell (p := ⟨gx, ox + n * 9 + 6, none⟩) hgx).trans (hcell 6 _ rfl), ((O1.trans k').cell (p := ⟨gx, ox + n * 9 + 7, none⟩) hgx).trans (hcell 7 _ rfl), ((O1.trans k').cell (p := ⟨gx, ox + n * 9 + 8, none⟩) hgx).trans (hcell 8 _ rfl)⟩
      have q2 := qI _ (On.refl w1).drew
      have k1l := k1.size
      go_wp2
      refine region_fin (fun W => W.cell? ⟨w.heap.size, 0, none⟩ = some (.slice a1 m1 c1) ∧ W.cell? ⟨w.heap.size, 1, none⟩ = some (.slice a2 m2 c2) ∧ W.cell? ⟨w.heap.size, 2, none⟩ = some (.slice (some ⟨ga, oa, none⟩) LL.length c) ∧ W.cell? ⟨w.heap.size + 1, 0, none⟩ = some (.int .i64 (n : Int)) ∧ W.cell? ⟨ga, oa + k, none⟩ = some (.slice (some ⟨gx, ox, none⟩) L.length cx) ∧ W.cell? ⟨gx, ox + n * 9, none⟩ = some (.int .i64 x.k) ∧ W.cell? ⟨gx, ox + n * 9 + 1, none⟩ = some (.int .i64 x.r) ∧ W.cell? ⟨gx, ox + n * 9 + 2, none⟩ = some (.int .i64 x.l) ∧ W.cell? ⟨gx, ox + n * 9 + 3, none⟩ = some (.int .i64 x.a.r) ∧ W.cell? ⟨gx, ox + n * 9 + 4, none⟩ = some (.int .i64 x.a.v) ∧ W.cell? ⟨gx, ox + n * 9 + 5, none⟩ = some (.int .i64 x.o) ∧ W.cell? ⟨gx, ox + n * 9 + 6, none⟩ = some (.int .i64 x.b.r) ∧ W.cell? ⟨gx, ox + n * 9 + 7, none⟩ = some (.int .i64 x.b.v) ∧ W.cell? ⟨gx, ox + n * 9 + 8, none⟩ = some (.int .i64 x.n)) 10 11 (by kernel_rfl) rfl ?_
      refine fin_take 0 (v := ?_) rfl (by kernel_rfl) (by kernel_rfl) (by kernel_rfl) (by kernel_rfl) (fun _ _ _ h => h) rfl ?_ q2 ?_
      rotate_left
      ·
       intro W hW
       go_simp
       (try with_reducible rfl)
      simp only [pu, sa, sz0, ss1]
      refine fin_take 1 (v := ?_) rfl (by kernel_rfl) (by kernel_rfl) (by kernel_rfl) (by kernel_rfl) (fun _ _ _ h => h) rfl ?_ q2 ?_
      rotate_left
      ·
       intro W hW
       go_simp
       (try with_reducible rfl)
      simp only [pu, sa, sz0, ss1]
      refine fin_take 2 (v := ?_) rfl (by kernel_rfl) (by kernel_rfl) (by kernel_rfl) (by kernel_rfl) (fun _ _ _ h => h) rfl ?_ q2 ?_
      rotate_left
      ·
       intro W hW
       go_simp
       (try with_reducible rfl)
      simp only [pu, sa, sz0, ss1]
      refine fin_take 3 (v := ?_) rfl (by kernel_rfl) (by kernel_rfl) (by kernel_rfl) (by kernel_rfl) (fun _ _ _ h => h) rfl ?_ q2 ?_
      rotate_left
      ·
       intro W hW
       go_simp
       (try with_reducible rfl)
      simp only [pu, sa, sz0, ss1]
      refine fin_take 4 (v := ?_) rfl (by kernel_rfl) (by kernel_rfl) (by kernel_rfl) (by kernel_rfl) (fun _ _ _ h => h) rfl ?_ q2 ?_
      rotate_left
      ·
       intro W hW
       go_simp
       (try with_reducible rfl)
      simp only [pu, sa, sz0, ss1]
      refine fin_take 5 (v := ?_) rfl (by kernel_rfl) (by kernel_rfl) (by kernel_rfl) (by kernel_rfl) (fun _ _ _ h => h) rfl ?_ q2 ?_
      rotate_left
      ·
       intro W hW
       go_simp
       (try with_reducible rfl)
      simp only [pu, sa, sz0, ss1]
      refine fin_take 6 (v := ?_) rfl (by kernel_rfl) (by kernel_rfl) (by kernel_rfl) (by kernel_rfl) (fun _ _ _ h => h) rfl ?_ q2 ?_
      rotate_left
      ·
       intro W hW
       go_simp
       (try with_reducible rfl)
      simp only [pu, sa, sz0, ss1]
      refine fin_take 7 (v := ?_) rfl (by kernel_rfl) (by kernel_rfl) (by kernel_rfl) (by kernel_rfl) (fun _ _ _ h => h) rfl ?_ q2 ?_
      rotate_left
      ·
       intro W hW
       go_simp
       (try with_reducible rfl)
      simp only [pu, sa, sz0, ss1]
      refine fin_take 8 (v := ?_) rfl (by kernel_rfl) (by kernel_rfl) (by kernel_rfl) (by kernel_rfl) (fun _ _ _ h => h) rfl ?_ q2 ?_
      rotate_left
      ·
       intro W hW
       go_simp
       (try with_reducible rfl)
      simp only [pu, sa, sz0, ss1]
      refine fin_one 9 rfl rfl (by kernel_rfl) (fun K hK => ?_)
      go_simp
      refine hK.out _ _ (fun _ => qI _ ((On.refl w1).alloc _).drew) ?_
      clear hK
      refine fin_one 10 rfl rfl (by kernel_rfl) (fun K hK => ?_)
      go_simp
      refine hK.out _ _ (fun h => absurd rfl h) ?_
      refine fin_done (by kernel_rfl) (NoPanic.normal ?_)
      have hwr : w.heap.size + 1 + 1 < w1.heap.size := by omega
      have hne : ¬ w1.heap.size = w.heap.size + 1 + 1 := by omega
      clear q2 qI hcell
      have zf := fun i => Z1.fr i
      have z0 := Z1.at (i := 0) rfl
      have z1 := Z1.at (i := 1) rfl
      have z2 := Z1.at (i := 2) rfl
      have z3 := Z1.at (i := 3) rfl
      have z4 := Z1.at (i := 4) rfl
      have z5 := Z1.at (i := 5) rfl
      have z6 := Z1.at (i := 6) rfl
      have z7 := Z1.at (i := 7) rfl
      have z8 := Z1.at (i := 8) rfl
      have zzl := Z1.lt
      go_wp2
      refine bodyPost_ret (v := .tuple #[.agg #[.int .i64 0, .int .i64 0, .int .i64 0, .int .i64 0, .int .i64 0, .int .i64 0, .int .i64 0, .int .i64 0, .int .i64 0], .bool false]) ?_ rfl ⟨rfl, ?_⟩
      ·
       rw [results_cell_slot rfl]
       go_simp
      ·
       (try with_reducible refine On.drew ?_)
       repeat' (first | with_reducible refine On.setNew ?_ (by omega) _ | with_reducible exact O1 | with_reducible refine On.alloc ?_ _ | with_reducible refine On.drew ?_)
     ·
      clear hkx
      obtain ⟨W0, hW0⟩ : ∃ W0, W0 = ((w.alloc (.cells #[.slice a1 m1 c1, .slice a2 m2 c2, .slice (some ⟨ga, oa, none⟩) LL.length c] 27)).alloc (.cells #[.int .i64 (n : Int), .int .i64 r0, .int .i64 r1, .int .i64 r2, .int .i64 r3] 73)).alloc (.cells #[.int .i64 0, .int .i64 0, .int .i64 0, .int .i64 0, .int .i64 0, .int .i64 0, .int .i64 0, .int .i64 0, .int .i64 0] 67) := ⟨_, rfl⟩
      have K0 : On w W0 := by rw [hW0]; exact (((On.refl w).alloc _).alloc _).alloc _
      have PB : Bk W0 w.heap.size #[.slice a1 m1 c1, .slice a2 m2 c2, .slice (some ⟨ga, oa, none⟩) LL.length c] := by rw [hW0]; exact ((Bk.new w _ _).alloc _).alloc _
      have CB : Bk W0 (w.heap.size + 1) #[.int .i64 (n : Int), .int .i64 r0, .int .i64 r1, .int .i64 r2, .int .i64 r3] := by
       rw [hW0]
       have := (Bk.new (w.alloc (.cells #[.slice a1 m1 c1, .slice a2 m2 c2, .slice (some ⟨ga, oa, none⟩) LL.length c] 27)) #[.int .i64 (n : Int), .int .i64 r0, .int .i64 r1, .int .i64 r2, .int .i64 r3] 73).alloc (.cells #[.int .i64 0, .int .i64 0, .int .i64 0, .int .i64 0, .int .i64 0, .int .i64 0, .int .i64 0, .int .i64 0, .int .i64 0] 67)
       rwa [World.size_alloc] at this
      have ZB : Bk W0 (w.heap.size + 1 + 1) #[.int .i64 0, .int .i64 0, .int .i64 0, .int .i64 0, .int .i64 0, .int .i64 0, .int .i64 0, .int .i64 0, .int .i64 0] := by
       rw [hW0]
       have := Bk.new ((w.alloc (.cells #[.slice a1 m1 c1, .slice a2 m2 c2, .slice (some ⟨ga, oa, none⟩) LL.length c] 27)).alloc (.cells #[.int .i64 (n : Int), .int .i64 r0, .int .i64 r1, .int .i64 r2, .int .i64 r3] 73)) #[.int .i64 0, .int .i64 0, .int .i64 0, .int .i64 0, .int .i64 0, .int .i64 0, .int .i64 0, .int .i64 0, .int .i64 0] 67
       rwa [World.size_alloc, World.size_alloc] at this
      have uaxW := (K0.cell (p := ⟨ga, oa + k, none⟩) hga).trans uax
      have hgaW : ga < W0.heap.size := Nat.lt_of_lt_of_le hga K0.size
      have hS : ∀ W, On W0 W → W.cell? ⟨w.heap.size, 0, none⟩ = some (.slice a1 m1 c1) ∧ W.cell? ⟨w.heap.size, 1, none⟩ = some (.slice a2 m2 c2) ∧ W.cell? ⟨w.heap.size, 2, none⟩ = some (.slice (some ⟨ga, oa, none⟩) LL.length c) ∧ W.cell? ⟨w.heap.size + 1, 0, none⟩ = some (.int .i64 (n : Int)) ∧ W.cell? ⟨ga, oa + k, none⟩ = some (.slice (some ⟨gx, ox, none⟩) L.length cx) := fun W k' => ⟨(PB.on k').at (i := 0) rfl, (PB.on k').at (i := 1) rfl, (PB.on k').at (i := 2) rfl, (CB.on k').at (i := 0) rfl, (k'.cell (p := ⟨ga, oa + k, none⟩) hgaW).trans uaxW⟩
      have qS := hS _ (On.refl W0).drew
      have zl := ZB.lt
      go_enter Tryz.func32, Tryz.ntmps32
      go_wp2
      rw [← hW0]
      clear hW0
      refine region_fin (fun W => W.cell? ⟨w.heap.size, 0, none⟩ = some (.slice a1 m1 c1) ∧ W.cell? ⟨w.heap.size, 1, none⟩ = some (.slice a2 m2 c2) ∧ W.cell? ⟨w.heap.size, 2, none⟩ = some (.slice (some ⟨ga, oa, none⟩) LL.length c) ∧ W.cell? ⟨w.heap.size + 1, 0, none⟩ = some (.int .i64 (n : Int)) ∧ W.cell? ⟨ga, oa + k, none⟩ = some (.slice (some ⟨gx, ox, none⟩) L.length cx)) 99 20 (by kernel_rfl) rfl ?_
      refine fin_take 0 (v := ?_) rfl (by kernel_rfl) (by kernel_rfl) (by kernel_rfl) (by kernel_rfl) (fun _ _ _ h => h) rfl ?_ qS ?_
      rotate_left
      ·
       intro W hW
       go_simp
       (try with_reducible rfl)
      simp only [pu, sa, sz0, ss1]
      refine fin_take 1 (v := ?_) rfl (by kernel_rfl) (by kernel_rfl) (by kernel_rfl) (by kernel_rfl) (fun _ _ _ h => h) rfl ?_ qS ?_
      rotate_left
      ·
       intro W hW
       go_simp
       (try with_reducible rfl)
      simp only [pu, sa, sz0, ss1]
      refine fin_one 2 rfl rfl (by kernel_rfl) (fun K hK => ?_)
      go_simp
      refine (hT _ K0.drew).mono ?_
      rintro _ w1 ⟨rfl, k1'⟩
      have k1 : On W0 w1 := (On.refl W0).drew.trans k1'
      have q1 := hS _ k1
      refine hK.out _ _ (fun _ => q1) ?_
      clear hK
      refine fin_take 3 (v := ?_) rfl (by kernel_rfl) (by kernel_rfl) (by kernel_rfl) (by kernel_rfl) (fun _ _ _ h => h) rfl ?_ q1 ?_
      rotate_left
      ·
       intro W hW
       go_simp
       (try with_reducible rfl)
      simp only [pu, sa, sz0, ss1]
      refine fin_take 4 (v := ?_) rfl (by kernel_rfl) (by kernel_rfl) (by kernel_rfl) (by kernel_rfl) (fun _ _ _ h => h) rfl ?_ q1 ?_
      rotate_left
      ·
       intro W hW
       go_simp
       (try with_reducible rfl)
      simp only [pu, sa, sz0, ss1]
      refine fin_takeG 5 (v := ?_) rfl (by kernel_rfl) (by kernel_rfl) (by kernel_rfl) (by kernel_rfl) (fun _ _ _ h => h) (by rfl) ?_ q1 ?_
      rotate_left
      ·
       intro W hW
       go_simp
       (try with_reducible rfl)
      simp only [pu, sa, sz0, ss1]
      refine fin_takeG 6 (v := ?_) rfl (by kernel_rfl) (by kernel_rfl) (by kernel_rfl) (by kernel_rfl) (fun _ _ _ h => h) (by rfl) ?_ q1 ?_
      rotate_left
      ·
       intro W hW
       go_simp
       (try with_reducible rfl)
      simp only [pu, sa, sz0, ss1]
      refine fin_takeG 7 (v := ?_) rfl (by kernel_rfl) (by kernel_rfl) (by kernel_rfl) (by kernel_rfl) (fun _ _ _ h => h) (by rfl) ?_ q1 ?_
      rotate_left
      ·
       intro W hW
       go_simp
       (try with_reducible rfl)
      simp only [pu, sa, sz0, ss1]
      refine fin_take 8 (v := ?_) rfl (by kernel_rfl) (by kernel_rfl) (by kernel_rfl) (by kernel_rfl) (fun _ _ _ h => h) rfl ?_ q1 ?_
      rotate_left
      ·
       intro W hW
       go_simp
       (try with_reducible rfl)
      simp only [pu, sa, sz0, ss1]
      refine fin_take 9 (v := ?_) rfl (by kernel_rfl) (by kernel_rfl) (by kernel_rfl) (by kernel_rfl) (fun _ _ _ h => h) rfl ?_ q1 ?_
      rotate_left
      ·
       intro W hW
       go_simp
       (try with_reducible rfl)
      simp only [pu, sa, sz0, ss1]
      refine fin_takeG 10 (v := ?_) rfl (by kernel_rfl) (by kernel_rfl) (by kernel_rfl) (by kernel_rfl) (fun _ _ _ h => h) (by rfl) ?_ q1 ?_
      rotate_left
      ·
       intro W hW
       go_simp
       (try with_reducible rfl)
      simp only [pu, sa, sz0, ss1]
      refine fin_takeG 11 (v := ?_) rfl (by kernel_rfl) (by kernel_rfl) (by kernel_rfl) (by kernel_rfl) (fun _ _ _ h => h) (by rfl) ?_ q1 ?_
      rotate_left
      ·
       intro W hW
       go_simp
       (try with_reducible rfl)
      simp only [pu, sa, sz0, ss1]
      refine fin_takeG 12 (v := ?_) rfl (by kernel_rfl) (by kernel_rfl) (by kernel_rfl) (by kernel_rfl) (fun _ _ _ h => h) (by rfl) ?_ q1 ?_
      rotate_left
      ·
       intro W hW
       go_simp
       (try with_reducible rfl)
      simp only [pu, sa, sz0, ss1]
      refine fin_takeG 13 (v := ?_) rfl (by kernel_rfl) (by kernel_rfl) (by kernel_rfl) (by kernel_rfl) (fun _ _ _ h => h) (by rfl) ?_ q1 ?_
      rotate_left
      ·
       intro W hW
       go_simp
       (try with_reducible rfl)
      simp only [pu, sa, sz0, ss1]
      refine fin_takeG 14 (v := ?_) rfl (by kernel_rfl) (by kernel_rfl) (by kernel_rfl) (by kernel_rfl) (fun _ _ _ h => h) (by rfl) ?_ q1 ?_
      rotate_left
      ·
       intro W hW
       go_simp
       (try with_reducible rfl)
      simp only [pu, sa, sz0, ss1]
      refine fin_takeG 15 (v := ?_) rfl (by kernel_rfl) (by kernel_rfl) (by kernel_rfl) (by kernel_rfl) (fun _ _ _ h => h) (by rfl) ?_ q1 ?_
      rotate_left
      ·
       intro W hW
       go_simp
       (try with_reducible rfl)
      simp only [pu, sa, sz0, ss1]
      refine fin_takeG 16 (v := ?_) rfl (by kernel_rfl) (by kernel_rfl) (by kernel_rfl) (by kernel_rfl) (fun _ _ _ h => h) (by rfl) ?_ q1 ?_
      rotate_left
      ·
       intro W hW
       go_simp
       (try with_reducible rfl)
      simp only [pu, sa, sz0, ss1]
      refine fin_takeG 17 (v := ?_) rfl (by kernel_rfl) (by kernel_rfl) (by kernel_rfl) (by kernel_rfl) (fun _ _ _ h => h) (by rfl) ?_ q1 ?_
      rotate_left
      ·
       intro W hW
       go_simp
       (try with_reducible rfl)
      simp only [pu, sa, sz0, ss1]
      refine fin_takeG 18 (v := ?_) rfl (by kernel_rfl) (by kernel_rfl) (by kernel_rfl) (by kernel_rfl) (fun _ _ _ h => h) (by rfl) ?_ q1 ?_
      rotate_left
      ·
       intro W hW
       go_simp
       (try with_reducible rfl)
      simp only [pu, sa, sz0, ss1]
      refine fin_take 19 (v := ?_) rfl (by kernel_rfl) (by kernel_rfl) (by kernel_rfl) (by kernel_rfl) (fun _ _ _ h => h) rfl ?_ q1 ?_
      rotate_left
      ·
       intro W hW
       go_simp
       (try with_reducible rfl)
      simp only [pu, sa, sz0, ss1]
      refine fin_done (by kernel_rfl) (NoPanic.normal ?_)
      have O1 : On w w1 := K0.trans k1
      have Z1 := ZB.on k1
      have qI : ∀ W, On w1 W → W.cell? ⟨w.heap.size, 0, none⟩ = some (.slice a1 m1 c1) ∧ W.cell? ⟨w.heap.size, 1, none⟩ = some (.slice a2 m2 c2) ∧ W.cell? ⟨w.heap.size, 2, none⟩ = some (.slice (some ⟨ga, oa, none⟩) LL.length c) ∧ W.cell? ⟨w.heap.size + 1, 0, none⟩ = some (.int .i64 (n : Int)) ∧ W.cell? ⟨ga, oa + k, none⟩ = some (.slice (some ⟨gx, ox, none⟩) L.length cx) ∧ W.cell? ⟨gx, ox + n * 9, none⟩ = some (.int .i64 x.k) ∧ W.cell? ⟨gx, ox + n * 9 + 1, none⟩ = some (.int .i64 x.r) ∧ W.cell? ⟨gx, ox + n * 9 + 2, none⟩ = some (.int .i64 x.l) ∧ W.cell? ⟨gx, ox + n * 9 + 3, none⟩ = some (.int .i64 x.a.r) ∧ W.cell? ⟨gx, ox + n * 9 + 4, none⟩ = some (.int .i64 x.a.v) ∧ W.cell? ⟨gx, ox + n * 9 + 5, none⟩ = some (.int .i64 x.o) ∧ W.cell? ⟨gx, ox + n * 9 + 6, none⟩ = some (.int .i64 x.b.r) ∧ W.cell? ⟨gx, ox + n * 9 + 7, none⟩ = some (.int .i64 x.b.v) ∧ W.cell? ⟨gx, ox + n * 9 + 8, none⟩ = some (.int .i64 x.n) := fun W k' => ⟨(PB.on (k1.trans k')).at (i := 0) rfl, (PB.on (k1.trans k')).at (i := 1) rfl, (PB.on (k1.trans k')).at (i := 2) rfl, (CB.on (k1.trans k')).at (i := 0) rfl, ((k1.trans k').cell (p := ⟨ga, oa + k, none⟩) hgaW).trans uaxW, ((O1.trans k').cell (p := ⟨gx, ox + n * 9 + 0, none⟩) hgx).trans (hcell 0 _ rfl), ((O1.trans k').cell (p := ⟨gx, ox + n * 9 + 1, none⟩) hgx).trans (hcell 1 _ rfl), ((O1.trans k').cell (p := ⟨gx, ox + n * 9 + 2, none⟩) hgx).trans (hcell 2 _ rfl), ((O1.trans k').cell (p := ⟨gx, ox + n * 9 + 3, none⟩) hgx).trans (hcell 3 _ rfl), ((O1.trans k').cell (p := ⟨gx, ox + n * 9 + 4, none⟩) hgx).trans (hcell 4 _ rfl), ((O1.trans k').cell (p := ⟨gx, ox + n * 9 + 5, none⟩) hgx).trans (hcell 5 _ rfl), ((O1.trans k').cell (p := ⟨gx, ox + n * 9 + 6, none⟩) hgx).trans (hcell 6 _ rfl), ((O1.trans k').cell (p := ⟨gx, ox + n * 9 + 7, none⟩) hgx).trans (hcell 7 _ rfl), ((O1.trans k').cell (p := ⟨gx, ox + n * 9 + 8, none⟩) hgx).trans (hcell 8 _ rfl)⟩
      have q2 := qI _ (On.refl w1).drew
      have k1l := k1.size
      go_wp2
      refine region_fin (fun W => W.cell? ⟨w.heap.size, 0, none⟩ = some (.slice a1 m1 c1) ∧ W.cell? ⟨w.heap.size, 1, none⟩ = some (.slice a2 m2 c2) ∧ W.cell? ⟨w.heap.size, 2, none⟩ = some (.slice (some ⟨ga, oa, none⟩) LL.length c) ∧ W.cell? ⟨w.heap.size + 1, 0, none⟩ = some (.int .i64 (n : Int)) ∧ W.cell? ⟨ga, oa + k, none⟩ = some (.slice (some ⟨gx, ox, none⟩) L.length cx) ∧ W.cell? ⟨gx, ox + n * 9, none⟩ = some (.int .i64 x.k) ∧ W.cell? ⟨gx, ox + n * 9 + 1, none⟩ = some (.int .i64 x.r) ∧ W.cell? ⟨gx, ox + n * 9 + 2, none⟩ = some (.int .i64 x.l) ∧ W.cell? ⟨gx, ox + n * 9 + 3, none⟩ = some (.int .i64 x.a.r) ∧ W.cell? ⟨gx, ox + n * 9 + 4, none⟩ = some (.int .i64 x.a.v) ∧ W.cell? ⟨gx, ox + n * 9 + 5, none⟩ = some (.int .i64 x.o) ∧ W.cell? ⟨gx, ox + n * 9 + 6, none⟩ = some (.int .i64 x.b.r) ∧ W.cell? ⟨gx, ox + n * 9 + 7, none⟩ = some (.int .i64 x.b.v) ∧ W.cell? ⟨gx, ox + n * 9 + 8, none⟩ = some (.int .i64 x.n)) 10 11 (by kernel_rfl) rfl ?_
      refine fin_take 0 (v := ?_) rfl (by kernel_rfl) (by kernel_rfl) (by kernel_rfl) (by kernel_rfl) (fun _ _ _ h => h) rfl ?_ q2 ?_
      rotate_left
      ·
       intro W hW
       go_simp
       (try with_reducible rfl)
      simp only [pu, sa, sz0, ss1]
      refine fin_take 1 (v := ?_) rfl (by kernel_rfl) (by kernel_rfl) (by kernel_rfl) (by kernel_rfl) (fun _ _ _ h => h) rfl ?_ q2 ?_
      rotate_left
      ·
       intro W hW
       go_simp
       (try with_reducible rfl)
      simp only [pu, sa, sz0, ss1]
      refine fin_take 2 (v := ?_) rfl (by kernel_rfl) (by kernel_rfl) (by kernel_rfl) (by kernel_rfl) (fun _ _ _ h => h) rfl ?_ q2 ?_
      rotate_left
      ·
       intro W hW
       go_simp
       (try with_reducible rfl)
      simp only [pu, sa, sz0, ss1]
      refine fin_take 3 (v := ?_) rfl (by kernel_rfl) (by kernel_rfl) (by kernel_rfl) (by kernel_rfl) (fun _ _ _ h => h) rfl ?_ q2 ?_
      rotate_left
      ·
       intro W hW
       go_simp
       (try with_reducible rfl)
      simp only [pu, sa, sz0, ss1]
      refine fin_take 4 (v := ?_) rfl (by kernel_rfl) (by kernel_rfl) (by kernel_rfl) (by kernel_rfl) (fun _ _ _ h => h) rfl ?_ q2 ?_
      rotate_left
      ·
       intro W hW
       go_simp
       (try with_reducible rfl)
      simp only [pu, sa, sz0, ss1]
      refine fin_take 5 (v := ?_) rfl (by kernel_rfl) (by kernel_rfl) (by kernel_rfl) (by kernel_rfl) (fun _ _ _ h => h) rfl ?_ q2 ?_
      rotate_left
      ·
       intro W hW
       go_simp
       (try with_reducible rfl)
      simp only [pu, sa, sz0, ss1]
      refine fin_take 6 (v := ?_) rfl (by kernel_rfl) (by kernel_rfl) (by kernel_rfl) (by kernel_rfl) (fun _ _ _ h => h) rfl ?_ q2 ?_
      rotate_left
      ·
       intro W hW
       go_simp
       (try with_reducible rfl)
      simp only [pu, sa, sz0, ss1]
      refine fin_take 7 (v := ?_) rfl (by kernel_rfl) (by kernel_rfl) (by kernel_rfl) (by kernel_rfl) (fun _ _ _ h => h) rfl ?_ q2 ?_
      rotate_left
      ·
       intro W hW
       go_simp
       (try with_reducible rfl)
      simp only [pu, sa, sz0, ss1]
      refine fin_take 8 (v := ?_) rfl (by kernel_rfl) (by kernel_rfl) (by kernel_rfl) (by kernel_rfl) (fun _ _ _ h => h) rfl ?_ q2 ?_
      rotate_left
      ·
       intro W hW
       go_simp
       (try with_reducible rfl)
      simp only [pu, sa, sz0, ss1]
      refine fin_one 9 rfl rfl (by kernel_rfl) (fun K hK => ?_)
      go_simp
      refine hK.out _ _ (fun _ => qI _ ((On.refl w1).alloc _).drew) ?_
      clear hK
      refine fin_one 10 rfl rfl (by kernel_rfl) (fun K hK => ?_)
      go_simp
      refine hK.out _ _ (fun h => absurd rfl h) ?_
      refine fin_done (by kernel_rfl) (NoPanic.normal ?_)
      have hwr : w.heap.size + 1 + 1 < w1.heap.size := by omega
      have hne : ¬ w1.heap.size = w.heap.size + 1 + 1 := by omega
      clear q2 qI hcell
      have zf := fun i => Z1.fr i
      have z0 := Z1.at (i := 0) rfl
      have z1 := Z1.at (i := 1) rfl
      have z2 := Z1.at (i := 2) rfl
      have z3 := Z1.at (i := 3) rfl
      have z4 := Z1.at (i := 4) rfl
      have z5 := Z1.at (i := 5) rfl
      have z6 := Z1.at (i := 6) rfl
      have z7 := Z1.at (i := 7) rfl
      have z8 := Z1.at (i := 8) rfl
      have zzl := Z1.lt
      go_wp2
      refine bodyPost_ret (v := .tuple #[.agg #[.int .i64 0, .int .i64 0, .int .i64 0, .int .i64 0, .int .i64 0, .int .i64 0, .int .i64 0, .int .i64 0, .int .i64 0], .bool false]) ?_ rfl ⟨rfl, ?_⟩
      ·
       rw [results_cell_slot rfl]
       go_simp
      ·
       (try with_reducible refine On.drew ?_)
       repeat' (first | with_reducible refine On.setNew ?_ (by omega) _ | with_reducible exact O1 | with_reducible refine On.alloc ?_ _ | with_reducible refine On.drew ?_)
   ·
    have e : nextV (nextP L ⟨(n : Int), r0, r1, r2, r3⟩) = .tuple #[.agg #[.int .i64 0, .int .i64 0, .int .i64 0, .int .i64 0, .int .i64 0, .int .i64 0, .int .i64 0, .int .i64 0, .int .i64 0], .bool false] := by
     unfold nextP
     rw [if_pos (Int.natCast_nonneg n)]
     simp only [Int.toNat_natCast, List.getElem?_eq_none hge]
     rfl
    rw [e]
    have hnl : ¬ n < L.length := by omega
    clear e hfl rx
    obtain ⟨W0, hW0⟩ : ∃ W0, W0 = ((w.alloc (.cells #[.slice a1 m1 c1, .slice a2 m2 c2, .slice (some ⟨ga, oa, none⟩) LL.length c] 27)).alloc (.cells #[.int .i64 (n : Int), .int .i64 r0, .int .i64 r1, .int .i64 r2, .int .i64 r3] 73)).alloc (.cells #[.int .i64 0, .int .i64 0, .int .i64 0, .int .i64 0, .int .i64 0, .int .i64 0, .int .i64 0, .int .i64 0, .int .i64 0] 67) := ⟨_, rfl⟩
    have K0 : On w W0 := by rw [hW0]; exact (((On.refl w).alloc _).alloc _).alloc _
    have PB : Bk W0 w.heap.size #[.slice a1 m1 c1, .slice a2 m2 c2, .slice (some ⟨ga, oa, none⟩) LL.length c] := by rw [hW0]; exact ((Bk.new w _ _).alloc _).alloc _
    have CB : Bk W0 (w.heap.size + 1) #[.int .i64 (n : Int), .int .i64 r0, .int .i64 r1, .int .i64 r2, .int .i64 r3] := by
     rw [hW0]
     have := (Bk.new (w.alloc (.cells #[.slice a1 m1 c1, .slice a2 m2 c2, .slice (some ⟨ga, oa, none⟩) LL.length c] 27)) #[.int .i64 (n : Int), .int .i64 r0, .int .i64 r1, .int .i64 r2, .int .i64 r3] 73).alloc (.cells #[.int .i64 0, .int .i64 0, .int .i64 0, .int .i64 0, .int .i64 0, .int .i64 0, .int .i64 0, .int .i64 0, .int .i64 0] 67)
     rwa [World.size_alloc] at this
    have ZB : Bk W0 (w.heap.size + 1 + 1) #[.int .i64 0, .int .i64 0, .int .i64 0, .int .i64 0, .int .i64 0, .int .i64 0, .int .i64 0, .int .i64 0, .int .i64 0] := by
     rw [hW0]
     have := Bk.new ((w.alloc (.cells #[.slice a1 m1 c1, .slice a2 m2 c2, .slice (some ⟨ga, oa, none⟩) LL.length c] 27)).alloc (.cells #[.int .i64 (n : Int), .int .i64 r0, .int .i64 r1, .int .i64 r2, .int .i64 r3] 73)) #[.int .i64 0, .int .i64 0, .int .i64 0, .int .i64 0, .int .i64 0, .int .i64 0, .int .i64 0, .int .i64 0, .int .i64 0] 67
     rwa [World.size_alloc, World.size_alloc] at this
    have uaxW := (K0.cell (p := ⟨ga, oa + k, none⟩) hga).trans uax
    have hgaW : ga < W0.heap.size := Nat.lt_of_lt_of_le hga K0.size
    have hS : ∀ W, On W0 W → W.cell? ⟨w.heap.size, 0, none⟩ = some (.slice a1 m1 c1) ∧ W.cell? ⟨w.heap.size, 1, none⟩ = some (.slice a2 m2 c2) ∧ W.cell? ⟨w.heap.size, 2, none⟩ = some (.slice (some ⟨ga, oa, none⟩) LL.length c) ∧ W.cell? ⟨w.heap.size + 1, 0, none⟩ = some (.int .i64 (n : Int)) ∧ W.cell? ⟨ga, oa + k, none⟩ = some (.slice ax L.length cx) := fun W k' => ⟨(PB.on k').at (i := 0) rfl, (PB.on k').at (i := 1) rfl, (PB.on k').at (i := 2) rfl, (CB.on k').at (i := 0) rfl, (k'.cell (p := ⟨ga, oa + k, none⟩) hgaW).trans uaxW⟩
    have qS := hS _ (On.refl W0).drew
    have zl := ZB.lt
    go_enter Tryz.func32, Tryz.ntmps32
    go_wp2
    rw [← hW0]
    clear hW0
    refine region_fin (fun W => W.cell? ⟨w.heap.size, 0, none⟩ = some (.slice a1 m1 c1) ∧ W.cell? ⟨w.heap.size, 1, none⟩ = some (.slice a2 m2 c2) ∧ W.cell? ⟨w.heap.size, 2, none⟩ = some (.slice (some ⟨ga, oa, none⟩) LL.length c) ∧ W.cell? ⟨w.heap.size + 1, 0, none⟩ = some (.int .i64 (n : Int)) ∧ W.cell? ⟨ga, oa + k, none⟩ = some (.slice ax L.length cx)) 99 20 (by kernel_rfl) rfl ?_
    refine fin_take 0 (v := ?_) rfl (by kernel_rfl) (by kernel_rfl) (by kernel_rfl) (by kernel_rfl) (fun _ _ _ h => h) rfl ?_ qS ?_
    rotate_left
    ·
     intro W hW
     go_simp
     (try with_reducible rfl)
    simp only [pu, sa, sz0, ss1]
    refine fin_take 1 (v := ?_) rfl (by kernel_rfl) (by kernel_rfl) (by kernel_rfl) (by kernel_rfl) (fun _ _ _ h => h) rfl ?_ qS ?_
    rotate_left
    ·
     intro W hW
     go_simp
     (try with_reducible rfl)
    simp only [pu, sa, sz0, ss1]
    refine fin_one 2 rfl rfl (by kernel_rfl) (fun K hK => ?_)
    go_simp
    refine (hT _ K0.drew).mono ?_
    rintro _ w1 ⟨rfl, k1'⟩
    have k1 : On W0 w1 := (On.refl W0).drew.trans k1'
    have q1 := hS _ k1
    refine hK.out _ _ (fun _ => q1) ?_
    clear hK
    refine fin_take 3 (v := ?_) rfl (by kernel_rfl) (by kernel_rfl) (by kernel_rfl) (by kernel_rfl) (fun _ _ _ h => h) rfl ?_ q1 ?_
    rotate_left
    ·
     intro W hW
     go_simp
     (try with_reducible rfl)
    simp only [pu, sa, sz0, ss1]
    refine fin_take 4 (v := ?_) rfl (by kernel_rfl) (by kernel_rfl) (by kernel_rfl) (by kernel_rfl) (fun _ _ _ h => h) rfl ?_ q1 ?_
    rotate_left
    ·
     intro W hW
     go_simp
     (try with_reducible rfl)
    simp only [pu, sa, sz0, ss1]
    refine fin_takeG 5 (v := ?_) rfl (by kernel_rfl) (by kernel_rfl) (by kernel_rfl) (by kernel_rfl) (fun _ _ _ h => h) (by rfl) ?_ q1 ?_
    rotate_left
    ·
     intro W hW
     go_simp
     (try with_reducible rfl)
    simp only [pu, sa, sz0, ss1]
    refine fin_takeG 6 (v := ?_) rfl (by kernel_rfl) (by kernel_rfl) (by kernel_rfl) (by kernel_rfl) (fun _ _ _ h => h) (by rfl) ?_ q1 ?_
    rotate_left
    ·
     intro W hW
     go_simp
     (try with_reducible rfl)
    simp only [pu, sa, sz0, ss1]
    refine fin_takeG 7 (v := ?_) rfl (by kernel_rfl) (by kernel_rfl) (by kernel_rfl) (by kernel_rfl) (fun _ _ _ h => h) (by rfl) ?_ q1 ?_
    rotate_left
    ·
     intro W hW
     go_simp
     (try with_reducible rfl)
    simp only [pu, sa, sz0, ss1]
    refine fin_take 8 (v := ?_) rfl (by kernel_rfl) (by kernel_rfl) (by kernel_rfl) (by kernel_rfl) (fun _ _ _ h => h) rfl ?_ q1 ?_
    rotate_left
    ·
     intro W hW
     go_simp
     (try with_reducible rfl)
    simp only [pu, sa, sz0, ss1]
    refine fin_take 9 (v := ?_) rfl (by kernel_rfl) (by kernel_rfl) (by kernel_rfl) (by kernel_rfl) (fun _ _ _ h => h) rfl ?_ q1 ?_
    rotate_left
    ·
     intro W hW
     go_simp
     (try with_reducible rfl)
    simp only [pu, sa, sz0, ss1]
    refine fin_takeG 10 (v := ?_) rfl (by kernel_rfl) (by kernel_rfl) (by kernel_rfl) (by kernel_rfl) (fun _ _ _ h => h) (by rfl) ?_ q1 ?_
    rotate_left
    ·
     intro W hW
     go_simp
     (try with_reducible rfl)
    simp only [pu, sa, sz0, ss1]
    refine fin_takeG 11 (v := ?_) rfl (by kernel_rfl) (by kernel_rfl) (by kernel_rfl) (by kernel_rfl) (fun _ _ _ h => h) (by rfl) ?_ q1 ?_
    rotate_left
    ·
     intro W hW
     go_simp
     (try with_reducible rfl)
    simp only [pu, sa, sz0, ss1]
    refine fin_takeG 12 (v := ?_) rfl (by kernel_rfl) (by kernel_rfl) (by kernel_rfl) (by kernel_rfl) (fun _ _ _ h => h) (by rfl) ?_ q1 ?_
    rotate_left
    ·
     intro W hW
     go_simp
     (try with_reducible rfl)
    simp only [pu, sa, sz0, ss1]
    refine fin_takeG 13 (v := ?_) rfl (by kernel_rfl) (by kernel_rfl) (by kernel_rfl) (by kernel_rfl) (fun _ _ _ h => h) (by rfl) ?_ q1 ?_
    rotate_left
    ·
     intro W hW
     go_simp
     (try with_reducible rfl)
    simp only [pu, sa, sz0, ss1]
    refine fin_takeG 14 (v := ?_) rfl (by kernel_rfl) (by kernel_rfl) (by kernel_rfl) (by kernel_rfl) (fun _ _ _ h => h) (by rfl) ?_ q1 ?_
    rotate_left
    ·
     intro W hW
     go_simp
     (try with_reducible rfl)
    simp only [pu, sa, sz0, ss1]
    refine fin_takeG 15 (v := ?_) rfl (by kernel_rfl) (by kernel_rfl) (by kernel_rfl) (by kernel_rfl) (fun _ _ _ h => h) (by rfl) ?_ q1 ?_
    rotate_left
    ·
     intro W hW
     go_simp
     (try with_reducible rfl)
    simp only [pu, sa, sz0, ss1]
    refine fin_takeG 16 (v := ?_) rfl (by kernel_rfl) (by kernel_rfl) (by kernel_rfl) (by kernel_rfl) (fun _ _ _ h => h) (by rfl) ?_ q1 ?_
    rotate_left
    ·
     intro W hW
     go_simp
     (try with_reducible rfl)
    simp only [pu, sa, sz0, ss1]
    refine fin_takeG 17 (v := ?_) rfl (by kernel_rfl) (by kernel_rfl) (by kernel_rfl) (by kernel_rfl) (fun _ _ _ h => h) (by rfl) ?_ q1 ?_
    rotate_left
    ·
     intro W hW
     go_simp
     (try with_reducible rfl)
    simp only [pu, sa, sz0, ss1]
    refine fin_takeG 18 (v := ?_) rfl (by kernel_rfl) (by kernel_rfl) (by kernel_rfl) (by kernel_rfl) (fun _ _ _ h => h) (by rfl) ?_ q1 ?_
    rotate_left
    ·
     intro W hW
     go_simp
     (try with_reducible rfl)
    simp only [pu, sa, sz0, ss1]
    refine fin_take 19 (v := ?_) rfl (by kernel_rfl) (by kernel_rfl) (by kernel_rfl) (by kernel_rfl) (fun _ _ _ h => h) rfl ?_ q1 ?_
    rotate_left
    ·
     intro W hW
     go_simp
     (try with_reducible rfl)
    simp only [pu, sa, sz0, ss1]
    refine fin_done (by kernel_rfl) (NoPanic.normal ?_)
    have O1 : On w w1 := K0.trans k1
    have Z1 := ZB.on k1
    have zf := fun i => Z1.fr i
    have z0 := Z1.at (i := 0) rfl
    have z1 := Z1.at (i := 1) rfl
    have z2 := Z1.at (i := 2) rfl
    have z3 := Z1.at (i := 3) rfl
    have z4 := Z1.at (i := 4) rfl
    have z5 := Z1.at (i := 5) rfl
    have z6 := Z1.at (i := 6) rfl
    have z7 := Z1.at (i := 7) rfl
    have z8 := Z1.at (i := 8) rfl
    have zzl := Z1.lt
    go_wp2
    refine bodyPost_ret (v := .tuple #[.agg #[.int .i64 0, .int .i64 0, .int .i64 0, .int .i64 0, .int .i64 0, .int .i64 0, .int .i64 0, .int .i64 0, .int .i64 0], .bool false]) ?_ rfl ⟨rfl, ?_⟩
    ·
     rw [results_cell_slot rfl]
     go_simp
    ·
     (try with_reducible refine On.drew ?_)
     repeat' (first | with_reducible refine On.setNew ?_ (by omega) _ | with_reducible exact O1 | with_reducible refine On.alloc ?_ _ | with_reducible refine On.drew ?_)
end Go.Proofs.YtcfohakgokiedaaGreatDoor

namespace Go.Proofs.YtcfohakgokiedaaGreatDoor
open Go.RowKit

theorem next_some {L : List InsT} {l : LocT} {x : InsT} (h : nextP L l = some x) : ∃ n : Nat, l.pc = (n : Int) ∧ L[n]? = some x ∧ seenB x.k = true := by
 unfold nextP at h
 split at h
 ·
  rename_i h0
  cases hx : L[l.pc.toNat]? with
  | none => rw [hx] at h; cases h
  | some y =>
   rw [hx] at h
   simp only at h
   split at h
   ·
    rename_i hs
    have : y = x := Option.some.inj h
    subst this
    exact ⟨l.pc.toNat, by omega, hx, hs⟩
   ·
    cases h
 ·
  cases h
set_option maxHeartbeats 8000000 in
set_option maxRecDepth 8000 in
theorem rafter_is (LL : List (List InsT)) (t : Int) (l : LocT) (rv : Int) (v : Value) (w : World) (h : ProgRd w v LL) (hf : ∀ L ∈ LL, fineL L) :
  Calls Tryz.prog 39 #[v, .int .i64 t, locV l, .int .i64 rv] w fun e w' => e = .returned (locV (afterP (threadP LL t) l rv)) ∧ On w w' := by
 have hN := fun W (k : On w W) => rnext_is LL t l v W (h.on k) hf
 have hNo := fun (k : Nat) (L : List InsT) (hL : LL[k]? = some L) (hm : L ∈ LL) (l0 : LocT) (h0 : 0 ≤ l0.pc) W (kk : On w W) => rnormal_is LL k L l0 v W (h.on kk) hL h0 (fun i x hx => (hf L hm i x hx).1)
 obtain ⟨a1, m1, c1, a2, m2, c2, a, c, rfl, r⟩ := h
 have hml : ∀ (k : Nat) (L : List InsT), LL[k]? = some L → L.length ≤ 9223372036854775807 := fun k L hL => by
  obtain ⟨_, _, _, _, _, _, _, hm, _⟩ := r.row hL
  exact hm
 clear r
 obtain ⟨pc, r0, r1, r2, r3⟩ := l
 obtain ⟨R, hR0⟩ : ∃ R, R = locV (afterP (threadP LL t) ⟨pc, r0, r1, r2, r3⟩ rv) := ⟨_, rfl⟩
 rw [← hR0]
 unfold locV at hN
 simp only at hN
 show Calls Tryz.prog 39 #[.agg #[.slice a1 m1 c1, .slice a2 m2 c2, .slice a LL.length c], .int .i64 t, .agg #[.int .i64 pc, .int .i64 r0, .int .i64 r1, .int .i64 r2, .int .i64 r3], .int .i64 rv] w _
 unfold afterP at hR0
 obtain ⟨W0, hW0⟩ : ∃ W0, W0 = ((w.alloc (.cells #[.slice a1 m1 c1, .slice a2 m2 c2, .slice a LL.length c] 27)).alloc (.cells #[.int .i64 pc, .int .i64 r0, .int .i64 r1, .int .i64 r2, .int .i64 r3] 73)).alloc (.cells #[.int .i64 0, .int .i64 0, .int .i64 0, .int .i64 0, .int .i64 0] 73) := ⟨_, rfl⟩
 have K0 : On w W0 := by rw [hW0]; exact (((On.refl w).alloc _).alloc _).alloc _
 have PB : Bk W0 w.heap.size #[.slice a1 m1 c1, .slice a2 m2 c2, .slice a LL.length c] := by rw [hW0]; exact ((Bk.new w _ _).alloc _).alloc _
 have CB : Bk W0 (w.heap.size + 1) #[.int .i64 pc, .int .i64 r0, .int .i64 r1, .int .i64 r2, .int .i64 r3] := by
  rw [hW0]
  have := (Bk.new (w.alloc (.cells #[.slice a1 m1 c1, .slice a2 m2 c2, .slice a LL.length c] 27)) #[.int .i64 pc, .int .i64 r0, .int .i64 r1, .int .i64 r2, .int .i64 r3] 73).alloc (.cells #[.int .i64 0, .int .i64 0, .int .i64 0, .int .i64 0, .int .i64 0] 73)
  rwa [World.size_alloc] at this
 have ZB : Bk W0 (w.heap.size + 1 + 1) #[.int .i64 0, .int .i64 0, .int .i64 0, .int .i64 0, .int .i64 0] := by
  rw [hW0]
  have := Bk.new ((w.alloc (.cells #[.slice a1 m1 c1, .slice a2 m2 c2, .slice a LL.length c] 27)).alloc (.cells #[.int .i64 pc, .int .i64 r0, .int .i64 r1, .int .i64 r2, .int .i64 r3] 73)) #[.int .i64 0, .int .i64 0, .int .i64 0, .int .i64 0, .int .i64 0] 73
  rwa [World.size_alloc, World.size_alloc] at this
 cases hx : nextP (threadP LL t) ⟨pc, r0, r1, r2, r3⟩ with
 | none =>
  rw [hx] at hN hR0
  have hN1 := hN _ K0
  rw [hW0] at hN1
  simp only [nextV, Option.getD_none, Option.isSome_none] at hN1
  unfold insV insZ at hN1
  simp only at hN1
  obtain rfl : R = .agg #[.int .i64 pc, .int .i64 r0, .int .i64 r1, .int .i64 r2, .int .i64 r3] := hR0
  clear hN hNo hx hml
  go_enter Tryz.func39, Tryz.ntmps39
  go_wp2_with fail
  refine hN1.mono ?_
  rw [← hW0]
  rintro _ w1 ⟨rfl, k1⟩
  have C1 := CB.on k1
  have Z1 := ZB.on k1
  have O1 : On w w1 := K0.trans k1
  have zf := fun i => Z1.fr i
  have z0 := Z1.at (i := 0) rfl
  have z1 := Z1.at (i := 1) rfl
  have z2 := Z1.at (i := 2) rfl
  have z3 := Z1.at (i := 3) rfl
  have z4 := Z1.at (i := 4) rfl
  have zl := Z1.lt
  have c0' := C1.at (i := 0) rfl
  have c1' := C1.at (i := 1) rfl
  have c2' := C1.at (i := 2) rfl
  have c3' := C1.at (i := 3) rfl
  have c4' := C1.at (i := 4) rfl
  have cf := fun i => C1.fr i
  have cl' := C1.lt
  go_wp2
  refine bodyPost_ret (v := .agg #[.int .i64 pc, .int .i64 r0, .int .i64 r1, .int .i64 r2, .int .i64 r3]) ?_ rfl ⟨rfl, ?_⟩
  ·
   rw [results_cell rfl]
   go_simp
  ·
   repeat' (first | with_reducible refine On.setNew ?_ (by omega) _ | with_reducible exact O1 | with_reducible refine On.alloc ?_ _ | with_reducible refine On.drew ?_)
 | some x =>
  rw [hx] at hN hR0
  have hN1 := hN _ K0
  rw [hW0] at hN1
  simp only [nextV, Option.getD_some, Option.isSome_some] at hN1
  unfold insV at hN1
  obtain ⟨n, rfl, hxn, hseen⟩ := next_some hx
  cases hb : thereB LL t with
  | false => rw [there_none LL t hb] at hxn; simp at hxn
  | true =>
   obtain ⟨k, L, rfl, hk, hL, e, hm⟩ := there_some LL t hb
   rw [e] at hxn hR0
   have hlt : n < L.length := (List.getElem?_eq_some_iff.1 hxn).1
   have hLm := hml k L hL
   have hreg := (hf L hm n x hxn).2.2
   clear hN hx hb e hf hml
   have hS : ∀ s0 s1 s2 s3 : Int, stepTo x ⟨(n : Int), r0, r1, r2, r3⟩ rv = ⟨((n : Int) + 1), s0, s1, s2, s3⟩ → ∀ W, On w W → Calls Tryz.prog 54 #[.agg #[.slice a1 m1 c1, .slice a2 m2 c2, .slice a LL.length c], .int .i64 (k : Int), .agg #[.int .i64 ((n : Int) + 1), .int .i64 s0, .int .i64 s1, .int .i64 s2, .int .i64 s3]] W fun e w' => e = .returned (locV (settleP L (stepTo x ⟨(n : Int), r0, r1, r2, r3⟩ rv))) ∧ On W w' := fun s0 s1 s2 s3 es W kk => by
    rw [es]
    exact hNo k L hL hm ⟨((n : Int) + 1), s0, s1, s2, s3⟩ (by show 0 ≤ (n : Int) + 1; omega) W kk
   obtain ⟨⟨f0, f1, f2, f3, f4⟩, hR⟩ : ∃ R, settleP L (stepTo x ⟨(n : Int), r0, r1, r2, r3⟩ rv) = R := ⟨_, rfl⟩
   rw [hR] at hS
   unfold locV at hS
   simp only at hS
   obtain rfl : R = .agg #[.int .i64 f0, .int .i64 f1, .int .i64 f2, .int .i64 f3, .int .i64 f4] := by
    rw [hR0]
    show locV (settleP L (stepTo x ⟨(n : Int), r0, r1, r2, r3⟩ rv)) = _
    rw [hR]
    rfl
   clear hR hR0 hNo hL hm hxn
   cases hrd : readB x.k with
   | false =>
    have es : stepTo x ⟨(n : Int), r0, r1, r2, r3⟩ rv = ⟨((n : Int) + 1), r0, r1, r2, r3⟩ := by unfold stepTo; rw [hrd]; rfl
    have hS1 := hS _ _ _ _ es
    unfold readB at hrd
    have hk2 : (x.k == 2) = false := by revert hrd; cases (x.k == 2) <;> simp
    have hk4 : (x.k == 4) = false := by revert hrd; cases (x.k == 4) <;> simp
    clear hS es hrd hreg hseen
    go_enter Tryz.func39, Tryz.ntmps39
    go_wp2_with fail
    refine hN1.mono ?_
    rw [← hW0]
    rintro _ w1 ⟨rfl, k1⟩
    have P1 := PB.on k1
    have C1 := CB.on k1
    have Z1 := ZB.on k1
    have O1 : On w w1 := K0.trans k1
    have hw1 : w.heap.size + 1 + 1 < w1.heap.size := Z1.lt
    have hne : ¬ w1.heap.size = w.heap.size + 1 := by omega
    have c0' := C1.at (i := 0) rfl
    have c1' := C1.at (i := 1) rfl
    have c2' := C1.at (i := 2) rfl
    have c3' := C1.at (i := 3) rfl
    have c4' := C1.at (i := 4) rfl
    have cf := fun i => C1.fr i
    have cl' := C1.lt
    have p0' := P1.at (i := 0) rfl
    have p1' := P1.at (i := 1) rfl
    have p2' := P1.at (i := 2) rfl
    have pl' := P1.lt
    clear hN1 hW0
    go_wp2_with fail
    have O2 : On w ((w1.setCell ⟨w.heap.size + 1, 0, none⟩ (.int .i64 ((n : Int) + 1))).alloc (.cells #[.int .i64 x.k, .int .i64 x.r, .int .i64 x.l, .int .i64 x.a.r, .int .i64 x.a.v, .int .i64 x.o, .int .i64 x.b.r, .int .i64 x.b.v, .int .i64 x.n] 67)) := (O1.setNew (by omega) _).alloc _
    refine (hS1 _ O2).mono ?_
    rintro _ w2 ⟨rfl, k2⟩
    have Z2 := ((Z1.far (N := w.heap.size + 1) (by omega) 0 (.int .i64 ((n : Int) + 1))).alloc (.cells #[.int .i64 x.k, .int .i64 x.r, .int .i64 x.l, .int .i64 x.a.r, .int .i64 x.a.v, .int .i64 x.o, .int .i64 x.b.r, .int .i64 x.b.v, .int .i64 x.n] 67)).on k2
    have O3 := O2.trans k2
    have zf := fun i => Z2.fr i
    have z0 := Z2.at (i := 0) rfl
    have z1 := Z2.at (i := 1) rfl
    have z2 := Z2.at (i := 2) rfl
    have z3 := Z2.at (i := 3) rfl
    have z4 := Z2.at (i := 4) rfl
    have zl := Z2.lt
    go_wp2
    refine bodyPost_ret (v := .agg #[.int .i64 f0, .int .i64 f1, .int .i64 f2, .int .i64 f3, .int .i64 f4]) ?_ rfl ⟨rfl, ?_⟩
    ·
     rw [results_cell rfl]
     go_simp
    ·
     repeat' (first | with_reducible refine On.setNew ?_ (by omega) _ | with_reducible exact O3 | with_reducible refine On.alloc ?_ _ | with_reducible refine On.drew ?_)
   | true =>
    have hrk : x.k = 2 ∨ x.k = 4 := by unfold readB at hrd; simpa using hrd
    have hok := hreg hrk
    rcases regOk_four hok with hr | hr | hr | hr
    ·
     have es : stepTo x ⟨(n : Int), r0, r1, r2, r3⟩ rv = ⟨((n : Int) + 1), rv, r1, r2, r3⟩ := by unfold stepTo; rw [hrd, hr]; rfl
     have hS1 := hS _ _ _ _ es
     clear hS es hrd hreg hseen hok
     rcases hrk with hq | hq
     ·
      have hk2 : (x.k == 2) = true := by simpa using hq
      clear hq
      go_enter Tryz.func39, Tryz.ntmps39
      go_wp2_with fail
      refine hN1.mono ?_
      rw [← hW0]
      rintro _ w1 ⟨rfl, k1⟩
      have P1 := PB.on k1
      have C1 := CB.on k1
      have Z1 := ZB.on k1
      have O1 : On w w1 := K0.trans k1
      have hw1 : w.heap.size + 1 + 1 < w1.heap.size := Z1.lt
      have hne : ¬ w1.heap.size = w.heap.size + 1 := by omega
      have c0' := C1.at (i := 0) rfl
      have c1' := C1.at (i := 1) rfl
      have c2' := C1.at (i := 2) rfl
      have c3' := C1.at (i := 3) rfl
      have c4' := C1.at (i := 4) rfl
      have cf := fun i => C1.fr i
      have cl' := C1.lt
      have p0' := P1.at (i := 0) rfl
      have p1' := P1.at (i := 1) rfl
      have p2' := P1.at (i := 2) rfl
      have pl' := P1.lt
      clear hN1 hW0
      go_wp2_with fail
      have O2 : On w (((w1.setCell ⟨w.heap.size + 1, 1, none⟩ (.int .i64 rv)).setCell ⟨w.heap.size + 1, 0, none⟩ (.int .i64 ((n : Int) + 1))).alloc (.cells #[.int .i64 x.k, .int .i64 0, .int .i64 x.l, .int .i64 x.a.r, .int .i64 x.a.v, .int .i64 x.o, .int .i64 x.b.r, .int .i64 x.b.v, .int .i64 x.n] 67)) := ((O1.setNew (by omega) _).setNew (by omega) _).alloc _
      refine (hS1 _ O2).mono ?_
      rintro _ w2 ⟨rfl, k2⟩
      have Z2 := (((Z1.far (N := w.heap.size + 1) (by omega) 1 (.int .i64 rv)).far (N := w.heap.size + 1) (by omega) 0 (.int .i64 ((n : Int) + 1))).alloc (.cells #[.int .i64 x.k, .int .i64 0, .int .i64 x.l, .int .i64 x.a.r, .int .i64 x.a.v, .int .i64 x.o, .int .i64 x.b.r, .int .i64 x.b.v, .int .i64 x.n] 67)).on k2
      have O3 := O2.trans k2
      have zf := fun i => Z2.fr i
      have z0 := Z2.at (i := 0) rfl
      have z1 := Z2.at (i := 1) rfl
      have z2 := Z2.at (i := 2) rfl
      have z3 := Z2.at (i := 3) rfl
      have z4 := Z2.at (i := 4) rfl
      have zl := Z2.lt
      go_wp2
      refine bodyPost_ret (v := .agg #[.int .i64 f0, .int .i64 f1, .int .i64 f2, .int .i64 f3, .int .i64 f4]) ?_ rfl ⟨rfl, ?_⟩
      ·
       rw [results_cell rfl]
       go_simp
      ·
       repeat' (first | with_reducible refine On.setNew ?_ (by omega) _ | with_reducible exact O3 | with_reducible refine On.alloc ?_ _ | with_reducible refine On.drew ?_)
     ·
      have hk2 : (x.k == 2) = false := by rw [hq]; rfl
      have hk4 : (x.k == 4) = true := by simpa using hq
      clear hq
      go_enter Tryz.func39, Tryz.ntmps39
      go_wp2_with fail
      refine hN1.mono ?_
      rw [← hW0]
      rintro _ w1 ⟨rfl, k1⟩
      have P1 := PB.on k1
      have C1 := CB.on k1
      have Z1 := ZB.on k1
      have O1 : On w w1 := K0.trans k1
      have hw1 : w.heap.size + 1 + 1 < w1.heap.size := Z1.lt
      have hne : ¬ w1.heap.size = w.heap.size + 1 := by omega
      have c0' := C1.at (i := 0) rfl
      have c1' := C1.at (i := 1) rfl
      have c2' := C1.at (i := 2) rfl
      have c3' := C1.at (i := 3) rfl
      have c4' := C1.at (i := 4) rfl
      have cf := fun i => C1.fr i
      have cl' := C1.lt
      have p0' := P1.at (i := 0) rfl
      have p1' := P1.at (i := 1) rfl
      have p2' := P1.at (i := 2) rfl
      have pl' := P1.lt
      clear hN1 hW0
      go_wp2_with fail
      have O2 : On w (((w1.setCell ⟨w.heap.size + 1, 1, none⟩ (.int .i64 rv)).setCell ⟨w.heap.size + 1, 0, none⟩ (.int .i64 ((n : Int) + 1))).alloc (.cells #[.int .i64 x.k, .int .i64 0, .int .i64 x.l, .int .i64 x.a.r, .int .i64 x.a.v, .int .i64 x.o, .int .i64 x.b.r, .int .i64 x.b.v, .int .i64 x.n] 67)) := ((O1.setNew (by omega) _).setNew (by omega) _).alloc _
      refine (hS1 _ O2).mono ?_
      rintro _ w2 ⟨rfl, k2⟩
      have Z2 := (((Z1.far (N := w.heap.size + 1) (by omega) 1 (.int .i64 rv)).far (N := w.heap.size + 1) (by omega) 0 (.int .i64 ((n : Int) + 1))).alloc (.cells #[.int .i64 x.k, .int .i64 0, .int .i64 x.l, .int .i64 x.a.r, .int .i64 x.a.v, .int .i64 x.o, .int .i64 x.b.r, .int .i64 x.b.v, .int .i64 x.n] 67)).on k2
      have O3 := O2.trans k2
      have zf := fun i => Z2.fr i
      have z0 := Z2.at (i := 0) rfl
      have z1 := Z2.at (i := 1) rfl
      have z2 := Z2.at (i := 2) rfl
      have z3 := Z2.at (i := 3) rfl
      have z4 := Z2.at (i := 4) rfl
      have zl := Z2.lt
      go_wp2
      refine bodyPost_ret (v := .agg #[.int .i64 f0, .int .i64 f1, .int .i64 f2, .int .i64 f3, .int .i64 f4]) ?_ rfl ⟨rfl, ?_⟩
      ·
       rw [results_cell rfl]
       go_simp
      ·
       repeat' (first | with_reducible refine On.setNew ?_ (by omega) _ | with_reducible exact O3 | with_reducible refine On.alloc ?_ _ | with_reducible refine On.drew ?_)
    ·
     have es : stepTo x ⟨(n : Int), r0, r1, r2, r3⟩ rv = ⟨((n : Int) + 1), r0, rv, r2, r3⟩ := by unfold stepTo; rw [hrd, hr]; rfl
     have hS1 := hS _ _ _ _ es
     clear hS es hrd hreg hseen hok
     rcases hrk with hq | hq
     ·
      have hk2 : (x.k == 2) = true := by simpa using hq
      clear hq
      go_enter Tryz.func39, Tryz.ntmps39
      go_wp2_with fail
      refine hN1.mono ?_
      rw [← hW0]
      rintro _ w1 ⟨rfl, k1⟩
      have P1 := PB.on k1
      have C1 := CB.on k1
      have Z1 := ZB.on k1
      have O1 : On w w1 := K0.trans k1
      have hw1 : w.heap.size + 1 + 1 < w1.heap.size := Z1.lt
      have hne : ¬ w1.heap.size = w.heap.size + 1 := by omega
      have c0' := C1.at (i := 0) rfl
      have c1' := C1.at (i := 1) rfl
      have c2' := C1.at (i := 2) rfl
      have c3' := C1.at (i := 3) rfl
      have c4' := C1.at (i := 4) rfl
      have cf := fun i => C1.fr i
      have cl' := C1.lt
      have p0' := P1.at (i := 0) rfl
      have p1' := P1.at (i := 1) rfl
      have p2' := P1.at (i := 2) rfl
      have pl' := P1.lt
      clear hN1 hW0
      go_wp2_with fail
      have O2 : On w (((w1.setCell ⟨w.heap.size + 1, 2, none⟩ (.int .i64 rv)).setCell ⟨w.heap.size + 1, 0, none⟩ (.int .i64 ((n : Int) + 1))).alloc (.cells #[.int .i64 x.k, .int .i64 1, .int .i64 x.l, .int .i64 x.a.r, .int .i64 x.a.v, .int .i64 x.o, .int .i64 x.b.r, .int .i64 x.b.v, .int .i64 x.n] 67)) := ((O1.setNew (by omega) _).setNew (by omega) _).alloc _
      refine (hS1 _ O2).mono ?_
      rintro _ w2 ⟨rfl, k2⟩
      have Z2 := (((Z1.far (N := w.heap.size + 1) (by omega) 2 (.int .i64 rv)).far (N := w.heap.size + 1) (by omega) 0 (.int .i64 ((n : Int) + 1))).alloc (.cells #[.int .i64 x.k, .int .i64 1, .int .i64 x.l, .int .i64 x.a.r, .int .i64 x.a.v, .int .i64 x.o, .int .i64 x.b.r, .int .i64 x.b.v, .int .i64 x.n] 67)).on k2
      have O3 := O2.trans k2
      have zf := fun i => Z2.fr i
      have z0 := Z2.at (i := 0) rfl
      have z1 := Z2.at (i := 1) rfl
      have z2 := Z2.at (i := 2) rfl
      have z3 := Z2.at (i := 3) rfl
      have z4 := Z2.at (i := 4) rfl
      have zl := Z2.lt
      go_wp2
      refine bodyPost_ret (v := .agg #[.int .i64 f0, .int .i64 f1, .int .i64 f2, .int .i64 f3, .int .i64 f4]) ?_ rfl ⟨rfl, ?_⟩
      ·
       rw [results_cell rfl]
       go_simp
      ·
       repeat' (first | with_reducible refine On.setNew ?_ (by omega) _ | with_reducible exact O3 | with_reducible refine On.alloc ?_ _ | with_reducible refine On.drew ?_)
     ·
      have hk2 : (x.k == 2) = false := by rw [hq]; rfl
      have hk4 : (x.k == 4) = true := by simpa using hq
      clear hq
      go_enter Tryz.func39, Tryz.ntmps39
      go_wp2_with fail
      refine hN1.mono ?_
      rw [← hW0]
      rintro _ w1 ⟨rfl, k1⟩
      have P1 := PB.on k1
      have C1 := CB.on k1
      have Z1 := ZB.on k1
      have O1 : On w w1 := K0.trans k1
      have hw1 : w.heap.size + 1 + 1 < w1.heap.size := Z1.lt
      have hne : ¬ w1.heap.size = w.heap.size + 1 := by omega
      have c0' := C1.at (i := 0) rfl
      have c1' := C1.at (i := 1) rfl
      have c2' := C1.at (i := 2) rfl
      have c3' := C1.at (i := 3) rfl
      have c4' := C1.at (i := 4) rfl
      have cf := fun i => C1.fr i
      have cl' := C1.lt
      have p0' := P1.at (i := 0) rfl
      have p1' := P1.at (i := 1) rfl
      have p2' := P1.at (i := 2) rfl
      have pl' := P1.lt
      clear hN1 hW0
      go_wp2_with fail
      have O2 : On w (((w1.setCell ⟨w.heap.size + 1, 2, none⟩ (.int .i64 rv)).setCell ⟨w.heap.size + 1, 0, none⟩ (.int .i64 ((n : Int) + 1))).alloc (.cells #[.int .i64 x.k, .int .i64 1, .int .i64 x.l, .int .i64 x.a.r, .int .i64 x.a.v, .int .i64 x.o, .int .i64 x.b.r, .int .i64 x.b.v, .int .i64 x.n] 67)) := ((O1.setNew (by omega) _).setNew (by omega) _).alloc _
      refine (hS1 _ O2).mono ?_
      rintro _ w2 ⟨rfl, k2⟩
      have Z2 := (((Z1.far (N := w.heap.size + 1) (by omega) 2 (.int .i64 rv)).far (N := w.heap.size + 1) (by omega) 0 (.int .i64 ((n : Int) + 1))).alloc (.cells #[.int .i64 x.k, .int .i64 1, .int .i64 x.l, .int .i64 x.a.r, .int .i64 x.a.v, .int .i64 x.o, .int .i64 x.b.r, .int .i64 x.b.v, .int .i64 x.n] 67)).on k2
      have O3 := O2.trans k2
      have zf := fun i => Z2.fr i
      have z0 := Z2.at (i := 0) rfl
      have z1 := Z2.at (i := 1) rfl
      have z2 := Z2.at (i := 2) rfl
      have z3 := Z2.at (i := 3) rfl
      have z4 := Z2.at (i := 4) rfl
      have zl := Z2.lt
      go_wp2
      refine bodyPost_ret (v := .agg #[.int .i64 f0, .int .i64 f1, .int .i64 f2, .int .i64 f3, .int .i64 f4]) ?_ rfl ⟨rfl, ?_⟩
      ·
       rw [results_cell rfl]
       go_simp
      ·
       repeat' (first | with_reducible refine On.setNew ?_ (by omega) _ | with_reducible exact O3 | with_reducible refine On.alloc ?_ _ | with_reducible refine On.drew ?_)
    ·
     have es : stepTo x ⟨(n : Int), r0, r1, r2, r3⟩ rv = ⟨((n : Int) + 1), r0, r1, rv, r3⟩ := by unfold stepTo; rw [hrd, hr]; rfl
     have hS1 := hS _ _ _ _ es
     clear hS es hrd hreg hseen hok
     rcases hrk with hq | hq
     ·
      have hk2 : (x.k == 2) = true := by simpa using hq
      clear hq
      go_enter Tryz.func39, Tryz.ntmps39
      go_wp2_with fail
      refine hN1.mono ?_
      rw [← hW0]
      rintro _ w1 ⟨rfl, k1⟩
      have P1 := PB.on k1
      have C1 := CB.on k1
      have Z1 := ZB.on k1
      have O1 : On w w1 := K0.trans k1
      have hw1 : w.heap.size + 1 + 1 < w1.heap.size := Z1.lt
      have hne : ¬ w1.heap.size = w.heap.size + 1 := by omega
      have c0' := C1.at (i := 0) rfl
      have c1' := C1.at (i := 1) rfl
      have c2' := C1.at (i := 2) rfl
      have c3' := C1.at (i := 3) rfl
      have c4' := C1.at (i := 4) rfl
      have cf := fun i => C1.fr i
      have cl' := C1.lt
      have p0' := P1.at (i := 0) rfl
      have p1' := P1.at (i := 1) rfl
      have p2' := P1.at (i := 2) rfl
      have pl' := P1.lt
      clear hN1 hW0
      go_wp2_with fail
      have O2 : On w (((w1.setCell ⟨w.heap.size + 1, 3, none⟩ (.int .i64 rv)).setCell ⟨w.heap.size + 1, 0, none⟩ (.int .i64 ((n : Int) + 1))).alloc (.cells #[.int .i64 x.k, .int .i64 2, .int .i64 x.l, .int .i64 x.a.r, .int .i64 x.a.v, .int .i64 x.o, .int .i64 x.b.r, .int .i64 x.b.v, .int .i64 x.n] 67)) := ((O1.setNew (by omega) _).setNew (by omega) _).alloc _
      refine (hS1 _ O2).mono ?_
      rintro _ w2 ⟨rfl, k2⟩
      have Z2 := (((Z1.far (N := w.heap.size + 1) (by omega) 3 (.int .i64 rv)).far (N := w.heap.size + 1) (by omega) 0 (.int .i64 ((n : Int) + 1))).alloc (.cells #[.int .i64 x.k, .int .i64 2, .int .i64 x.l, .int .i64 x.a.r, .int .i64 x.a.v, .int .i64 x.o, .int .i64 x.b.r, .int .i64 x.b.v, .int .i64 x.n] 67)).on k2
      have O3 := O2.trans k2
      have zf := fun i => Z2.fr i
      have z0 := Z2.at (i := 0) rfl
      have z1 := Z2.at (i := 1) rfl
      have z2 := Z2.at (i := 2) rfl
      have z3 := Z2.at (i := 3) rfl
      have z4 := Z2.at (i := 4) rfl
      have zl := Z2.lt
      go_wp2
      refine bodyPost_ret (v := .agg #[.int .i64 f0, .int .i64 f1, .int .i64 f2, .int .i64 f3, .int .i64 f4]) ?_ rfl ⟨rfl, ?_⟩
      ·
       rw [results_cell rfl]
       go_simp
      ·
       repeat' (first | with_reducible refine On.setNew ?_ (by omega) _ | with_reducible exact O3 | with_reducible refine On.alloc ?_ _ | with_reducible refine On.drew ?_)
     ·
      have hk2 : (x.k == 2) = false := by rw [hq]; rfl
      have hk4 : (x.k == 4) = true := by simpa using hq
      clear hq
      go_enter Tryz.func39, Tryz.ntmps39
      go_wp2_with fail
      refine hN1.mono ?_
      rw [← hW0]
      rintro _ w1 ⟨rfl, k1⟩
      have P1 := PB.on k1
      have C1 := CB.on k1
      have Z1 := ZB.on k1
      have O1 : On w w1 := K0.trans k1
      have hw1 : w.heap.size + 1 + 1 < w1.heap.size := Z1.lt
      have hne : ¬ w1.heap.size = w.heap.size + 1 := by omega
      have c0' := C1.at (i := 0) rfl
      have c1' := C1.at (i := 1) rfl
      have c2' := C1.at (i := 2) rfl
      have c3' := C1.at (i := 3) rfl
      have c4' := C1.at (i := 4) rfl
      have cf := fun i => C1.fr i
      have cl' := C1.lt
      have p0' := P1.at (i := 0) rfl
      have p1' := P1.at (i := 1) rfl
      have p2' := P1.at (i := 2) rfl
      have pl' := P1.lt
      clear hN1 hW0
      go_wp2_with fail
      have O2 : On w (((w1.setCell ⟨w.heap.size + 1, 3, none⟩ (.int .i64 rv)).setCell ⟨w.heap.size + 1, 0, none⟩ (.int .i64 ((n : Int) + 1))).alloc (.cells #[.int .i64 x.k, .int .i64 2, .int .i64 x.l, .int .i64 x.a.r, .int .i64 x.a.v, .int .i64 x.o, .int .i64 x.b.r, .int .i64 x.b.v, .int .i64 x.n] 67)) := ((O1.setNew (by omega) _).setNew (by omega) _).alloc _
      refine (hS1 _ O2).mono ?_
      rintro _ w2 ⟨rfl, k2⟩
      have Z2 := (((Z1.far (N := w.heap.size + 1) (by omega) 3 (.int .i64 rv)).far (N := w.heap.size + 1) (by omega) 0 (.int .i64 ((n : Int) + 1))).alloc (.cells #[.int .i64 x.k, .int .i64 2, .int .i64 x.l, .int .i64 x.a.r, .int .i64 x.a.v, .int .i64 x.o, .int .i64 x.b.r, .int .i64 x.b.v, .int .i64 x.n] 67)).on k2
      have O3 := O2.trans k2
      have zf := fun i => Z2.fr i
      have z0 := Z2.at (i := 0) rfl
      have z1 := Z2.at (i := 1) rfl
      have z2 := Z2.at (i := 2) rfl
      have z3 := Z2.at (i := 3) rfl
      have z4 := Z2.at (i := 4) rfl
      have zl := Z2.lt
      go_wp2
      refine bodyPost_ret (v := .agg #[.int .i64 f0, .int .i64 f1, .int .i64 f2, .int .i64 f3, .int .i64 f4]) ?_ rfl ⟨rfl, ?_⟩
      ·
       rw [results_cell rfl]
       go_simp
      ·
       repeat' (first | with_reducible refine On.setNew ?_ (by omega) _ | with_reducible exact O3 | with_reducible refine On.alloc ?_ _ | with_reducible refine On.drew ?_)
    ·
     have es : stepTo x ⟨(n : Int), r0, r1, r2, r3⟩ rv = ⟨((n : Int) + 1), r0, r1, r2, rv⟩ := by unfold stepTo; rw [hrd, hr]; rfl
     have hS1 := hS _ _ _ _ es
     clear hS es hrd hreg hseen hok
     rcases hrk with hq | hq
     ·
      have hk2 : (x.k == 2) = true := by simpa using hq
      clear hq
      go_enter Tryz.func39, Tryz.ntmps39
      go_wp2_with fail
      refine hN1.mono ?_
      rw [← hW0]
      rintro _ w1 ⟨rfl, k1⟩
      have P1 := PB.on k1
      have C1 := CB.on k1
      have Z1 := ZB.on k1
      have O1 : On w w1 := K0.trans k1
      have hw1 : w.heap.size + 1 + 1 < w1.heap.size := Z1.lt
      have hne : ¬ w1.heap.size = w.heap.size + 1 := by omega
      have c0' := C1.at (i := 0) rfl
      have c1' := C1.at (i := 1) rfl
      have c2' := C1.at (i := 2) rfl
      have c3' := C1.at (i := 3) rfl
      have c4' := C1.at (i := 4) rfl
      have cf := fun i => C1.fr i
      have cl' := C1.lt
      have p0' := P1.at (i := 0) rfl
      have p1' := P1.at (i := 1) rfl
      have p2' := P1.at (i := 2) rfl
      have pl' := P1.lt
      clear hN1 hW0
      go_wp2_with fail
      have O2 : On w (((w1.setCell ⟨w.heap.size + 1, 4, none⟩ (.int .i64 rv)).setCell ⟨w.heap.size + 1, 0, none⟩ (.int .i64 ((n : Int) + 1))).alloc (.cells #[.int .i64 x.k, .int .i64 3, .int .i64 x.l, .int .i64 x.a.r, .int .i64 x.a.v, .int .i64 x.o, .int .i64 x.b.r, .int .i64 x.b.v, .int .i64 x.n] 67)) := ((O1.setNew (by omega) _).setNew (by omega) _).alloc _
      refine (hS1 _ O2).mono ?_
      rintro _ w2 ⟨rfl, k2⟩
      have Z2 := (((Z1.far (N := w.heap.size + 1) (by omega) 4 (.int .i64 rv)).far (N := w.heap.size + 1) (by omega) 0 (.int .i64 ((n : Int) + 1))).alloc (.cells #[.int .i64 x.k, .int .i64 3, .int .i64 x.l, .int .i64 x.a.r, .int .i64 x.a.v, .int .i64 x.o, .int .i64 x.b.r, .int .i64 x.b.v, .int .i64 x.n] 67)).on k2
      have O3 := O2.trans k2
      have zf := fun i => Z2.fr i
      have z0 := Z2.at (i := 0) rfl
      have z1 := Z2.at (i := 1) rfl
      have z2 := Z2.at (i := 2) rfl
      have z3 := Z2.at (i := 3) rfl
      have z4 := Z2.at (i := 4) rfl
      have zl := Z2.lt
      go_wp2
      refine bodyPost_ret (v := .agg #[.int .i64 f0, .int .i64 f1, .int .i64 f2, .int .i64 f3, .int .i64 f4]) ?_ rfl ⟨rfl, ?_⟩
      ·
       rw [results_cell rfl]
       go_simp
      ·
       repeat' (first | with_reducible refine On.setNew ?_ (by omega) _ | with_reducible exact O3 | with_reducible refine On.alloc ?_ _ | with_reducible refine On.drew ?_)
     ·
      have hk2 : (x.k == 2) = false := by rw [hq]; rfl
      have hk4 : (x.k == 4) = true := by simpa using hq
      clear hq
      go_enter Tryz.func39, Tryz.ntmps39
      go_wp2_with fail
      refine hN1.mono ?_
      rw [← hW0]
      rintro _ w1 ⟨rfl, k1⟩
      have P1 := PB.on k1
      have C1 := CB.on k1
      have Z1 := ZB.on k1
      have O1 : On w w1 := K0.trans k1
      have hw1 : w.heap.size + 1 + 1 < w1.heap.size := Z1.lt
      have hne : ¬ w1.heap.size = w.heap.size + 1 := by omega
      have c0' := C1.at (i := 0) rfl
      have c1' := C1.at (i := 1) rfl
      have c2' := C1.at (i := 2) rfl
      have c3' := C1.at (i := 3) rfl
      have c4' := C1.at (i := 4) rfl
      have cf := fun i => C1.fr i
      have cl' := C1.lt
      have p0' := P1.at (i := 0) rfl
      have p1' := P1.at (i := 1) rfl
      have p2' := P1.at (i := 2) rfl
      have pl' := P1.lt
      clear hN1 hW0
      go_wp2_with fail
      have O2 : On w (((w1.setCell ⟨w.heap.size + 1, 4, none⟩ (.int .i64 rv)).setCell ⟨w.heap.size + 1, 0, none⟩ (.int .i64 ((n : Int) + 1))).alloc (.cells #[.int .i64 x.k, .int .i64 3, .int .i64 x.l, .int .i64 x.a.r, .int .i64 x.a.v, .int .i64 x.o, .int .i64 x.b.r, .int .i64 x.b.v, .int .i64 x.n] 67)) := ((O1.setNew (by omega) _).setNew (by omega) _).alloc _
      refine (hS1 _ O2).mono ?_
      rintro _ w2 ⟨rfl, k2⟩
      have Z2 := (((Z1.far (N := w.heap.size + 1) (by omega) 4 (.int .i64 rv)).far (N := w.heap.size + 1) (by omega) 0 (.int .i64 ((n : Int) + 1))).alloc (.cells #[.int .i64 x.k, .int .i64 3, .int .i64 x.l, .int .i64 x.a.r, .int .i64 x.a.v, .int .i64 x.o, .int .i64 x.b.r, .int .i64 x.b.v, .int .i64 x.n] 67)).on k2
      have O3 := O2.trans k2
      have zf := fun i => Z2.fr i
      have z0 := Z2.at (i := 0) rfl
      have z1 := Z2.at (i := 1) rfl
      have z2 := Z2.at (i := 2) rfl
      have z3 := Z2.at (i := 3) rfl
      have z4 := Z2.at (i := 4) rfl
      have zl := Z2.lt
      go_wp2
      refine bodyPost_ret (v := .agg #[.int .i64 f0, .int .i64 f1, .int .i64 f2, .int .i64 f3, .int .i64 f4]) ?_ rfl ⟨rfl, ?_⟩
      ·
       rw [results_cell rfl]
       go_simp
      ·
       repeat' (first | with_reducible refine On.setNew ?_ (by omega) _ | with_reducible exact O3 | with_reducible refine On.alloc ?_ _ | with_reducible refine On.drew ?_)
end Go.Proofs.YtcfohakgokiedaaGreatDoor
