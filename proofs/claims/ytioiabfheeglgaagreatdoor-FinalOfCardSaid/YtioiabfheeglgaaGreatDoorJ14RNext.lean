/- The document's threads, step by step. -/
import Derived.Test.YtioiabfheeglgaaGreatDoorJ11EvP
import Derived.Test.YtioiabfheeglgaaGreatDoorJ13EvA
import Derived.Test.YtioiabfheeglgaaGreatDoorJ03RegGrow
namespace Go.Proofs.YtioiabfheeglgaaGreatDoor
open Go.RowKit

set_option maxHeartbeats 8000000 in
set_option maxRecDepth 8000 in
theorem rnormal_is (LL : List (List InsT)) (t : Nat) (L : List InsT) (l0 : LocT) (v : Value) (w : World) (h : ProgRd w v LL) (hL : LL[t]? = some L) (h0 : 0 ≤ l0.pc)
  (hok : ∀ (i : Nat) (x : InsT), L[i]? = some x → (x.k = 5 → regOk x.r = true) ∧ (x.k = 6 → 0 ≤ x.n ∧ x.n ≤ (L.length : Int) - i - 1)) :
  Calls Tryz.prog 54 #[v, .int .i64 t, locV l0] w fun e w' => e = .returned (locV (settleP L l0)) ∧ On w w' := by
 obtain ⟨a1, m1, c1, a2, m2, c2, a, c, rfl, r⟩ := h
 have HR : Hid (Rd2 insC 9 w (.slice a LL.length c) LL) := r
 obtain ⟨_, _, _, _, hmL⟩ := r.slice
 have htl : t < LL.length := (List.getElem?_eq_some_iff.1 hL).1
 obtain ⟨ga, oa, rfl, hga, ax, cx, uax, hxm, rx⟩ := r.row hL
 have HX : Hid (Rd insC 9 w (.slice ax L.length cx) L) := rx
 have HOK : Hid (∀ (i : Nat) (x : InsT), L[i]? = some x → (x.k = 5 → regOk x.r = true) ∧ (x.k = 6 → 0 ≤ x.n ∧ x.n ≤ (L.length : Int) - i - 1)) := hok
 clear r rx hL hok
 obtain ⟨R, hR⟩ : ∃ R, R = locV (settleP L l0) := ⟨_, rfl⟩
 rw [← hR]
 obtain ⟨pc, p0, p1, p2, p3⟩ := l0
 obtain ⟨n0, rfl⟩ : ∃ n : Nat, pc = (n : Int) := ⟨pc.toNat, by have : 0 ≤ pc := h0; omega⟩
 have HS : Hid (R = locV (settleP L ⟨(n0 : Int), p0, p1, p2, p3⟩)) := hR
 clear hR h0
 unfold locV
 obtain ⟨W0, hW0⟩ : ∃ W0, W0 = ((w.alloc (.cells #[.slice a1 m1 c1, .slice a2 m2 c2, .slice (some ⟨ga, oa, none⟩) LL.length c] 27)).alloc (.cells #[.int .i64 (n0 : Int), .int .i64 p0, .int .i64 p1, .int .i64 p2, .int .i64 p3] 73)).alloc (.cells #[.int .i64 0, .int .i64 0, .int .i64 0, .int .i64 0, .int .i64 0] 73) := ⟨_, rfl⟩
 have K0 : On w W0 := by rw [hW0]; exact (((On.refl w).alloc _).alloc _).alloc _
 have PB0 : Bk W0 w.heap.size #[.slice a1 m1 c1, .slice a2 m2 c2, .slice (some ⟨ga, oa, none⟩) LL.length c] := by rw [hW0]; exact ((Bk.new w _ _).alloc _).alloc _
 have CB0 : Bk W0 (w.heap.size + 1) #[.int .i64 (n0 : Int), .int .i64 p0, .int .i64 p1, .int .i64 p2, .int .i64 p3] := by
  rw [hW0]
  have := (Bk.new (w.alloc (.cells #[.slice a1 m1 c1, .slice a2 m2 c2, .slice (some ⟨ga, oa, none⟩) LL.length c] 27)) #[.int .i64 (n0 : Int), .int .i64 p0, .int .i64 p1, .int .i64 p2, .int .i64 p3] 73).alloc (.cells #[.int .i64 0, .int .i64 0, .int .i64 0, .int .i64 0, .int .i64 0] 73)
  rwa [World.size_alloc] at this
 have ZB0 : Bk W0 (w.heap.size + 1 + 1) #[.int .i64 0, .int .i64 0, .int .i64 0, .int .i64 0, .int .i64 0] := by
  rw [hW0]
  have := Bk.new ((w.alloc (.cells #[.slice a1 m1 c1, .slice a2 m2 c2, .slice (some ⟨ga, oa, none⟩) LL.length c] 27)).alloc (.cells #[.int .i64 (n0 : Int), .int .i64 p0, .int .i64 p1, .int .i64 p2, .int .i64 p3] 73)) #[.int .i64 0, .int .i64 0, .int .i64 0, .int .i64 0, .int .i64 0] 73
  rwa [World.size_alloc, World.size_alloc] at this
 go_enter Tryz.func54, Tryz.ntmps54
 go_wp2
 rw [← hW0]
 clear hW0
 go_loopg [] (L.length - n0) (fun gg wq => ∃ (n : Nat) (r0 r1 r2 r3 : Int), gg = L.length - n ∧ Hid (On w wq) ∧ Bk wq w.heap.size #[.slice a1 m1 c1, .slice a2 m2 c2, .slice (some ⟨ga, oa, none⟩) LL.length c] ∧ Bk wq (w.heap.size + 1) #[.int .i64 (n : Int), .int .i64 r0, .int .i64 r1, .int .i64 r2, .int .i64 r3] ∧ Bk wq (w.heap.size + 1 + 1) #[.int .i64 0, .int .i64 0, .int .i64 0, .int .i64 0, .int .i64 0] ∧ Hid (R = locV (settleP L ⟨(n : Int), r0, r1, r2, r3⟩)))
 case atStart => exact ⟨n0, p0, p1, p2, p3, rfl, K0, PB0, CB0, ZB0, HS⟩
 case round =>
  clear HS PB0 CB0 ZB0
  obtain ⟨n, r0, r1, r2, r3, hgg, HO, PB, CB, ZB, HS⟩ := hrel
  have pl := PB.lt
  have cl := CB.lt
  have zl := ZB.lt
  have q2 := PB.at (i := 2) rfl
  have c0 := CB.at (i := 0) rfl
  have u0 := (HO.out.cell (p := ⟨ga, oa + t, none⟩) hga).trans uax
  have qS : (fun W : World => W.cell? ⟨w.heap.size, 2, none⟩ = some (.slice (some ⟨ga, oa, none⟩) LL.length c) ∧ W.cell? ⟨w.heap.size + 1, 0, none⟩ = some (.int .i64 (n : Int)) ∧ W.cell? ⟨ga, oa + t, none⟩ = some (.slice ax L.length cx)) wr.drew := ⟨q2, c0, u0⟩
  rcases Nat.lt_or_ge n L.length with hlt | hge
  ·
   obtain ⟨x, hx⟩ : ∃ x, L[n]? = some x := ⟨_, List.getElem?_eq_getElem hlt⟩
   have hst := settle_step (L := L) (l := ⟨(n : Int), r0, r1, r2, r3⟩) (i := x) (Int.natCast_nonneg n) (by simpa using hx)
   obtain ⟨hok5, hok6⟩ := HOK.out n x hx
   go_wp2
   refine region_fin (fun W => W.cell? ⟨w.heap.size, 2, none⟩ = some (.slice (some ⟨ga, oa, none⟩) LL.length c) ∧ W.cell? ⟨w.heap.size + 1, 0, none⟩ = some (.int .i64 (n : Int)) ∧ W.cell? ⟨ga, oa + t, none⟩ = some (.slice ax L.length cx)) 99 9 (by kernel_rfl) rfl ?_
   refine fin_take 0 (v := ?_) rfl (by kernel_rfl) (by kernel_rfl) (by kernel_rfl) (by kernel_rfl) (fun _ _ _ h => h) rfl ?_ qS ?_
   rotate_left
   ·
    intro W hW
    go_simp
    (try with_reducible rfl)
   simp only [zpu, zsa, zsz, zss]
   refine fin_take 1 (v := ?_) rfl (by kernel_rfl) (by kernel_rfl) (by kernel_rfl) (by kernel_rfl) (fun _ _ _ h => h) rfl ?_ qS ?_
   rotate_left
   ·
    intro W hW
    go_simp
    (try with_reducible rfl)
   simp only [zpu, zsa, zsz, zss]
   refine fin_take 2 (v := ?_) rfl (by kernel_rfl) (by kernel_rfl) (by kernel_rfl) (by kernel_rfl) (fun _ _ _ h => h) rfl ?_ qS ?_
   rotate_left
   ·
    intro W hW
    go_simp
    (try with_reducible rfl)
   simp only [zpu, zsa, zsz, zss]
   refine fin_take 3 (v := ?_) rfl (by kernel_rfl) (by kernel_rfl) (by kernel_rfl) (by kernel_rfl) (fun _ _ _ h => h) rfl ?_ qS ?_
   rotate_left
   ·
    intro W hW
    go_simp
    (try with_reducible rfl)
   simp only [zpu, zsa, zsz, zss]
   refine fin_take 4 (v := ?_) rfl (by kernel_rfl) (by kernel_rfl) (by kernel_rfl) (by kernel_rfl) (fun _ _ _ h => h) rfl ?_ qS ?_
   rotate_left
   ·
    intro W hW
    go_simp
    (try with_reducible rfl)
   simp only [zpu, zsa, zsz, zss]
   refine fin_take 5 (v := ?_) rfl (by kernel_rfl) (by kernel_rfl) (by kernel_rfl) (by kernel_rfl) (fun _ _ _ h => h) rfl ?_ qS ?_
   rotate_left
   ·
    intro W hW
    go_simp
    (try with_reducible rfl)
   simp only [zpu, zsa, zsz, zss]
   refine fin_take 6 (v := ?_) rfl (by kernel_rfl) (by kernel_rfl) (by kernel_rfl) (by kernel_rfl) (fun _ _ _ h => h) rfl ?_ qS ?_
   rotate_left
   ·
    intro W hW
    go_simp
    (try with_reducible rfl)
   simp only [zpu, zsa, zsz, zss]
   refine fin_take 7 (v := ?_) rfl (by kernel_rfl) (by kernel_rfl) (by kernel_rfl) (by kernel_rfl) (fun _ _ _ h => h) rfl ?_ qS ?_
   rotate_left
   ·
    intro W hW
    go_simp
    (try with_reducible rfl)
   simp only [zpu, zsa, zsz, zss]
   refine fin_take 8 (v := ?_) rfl (by kernel_rfl) (by kernel_rfl) (by kernel_rfl) (by kernel_rfl) (fun _ _ _ h => h) rfl ?_ qS ?_
   rotate_left
   ·
    intro W hW
    go_simp
    (try with_reducible rfl)
   simp only [zpu, zsa, zsz, zss]
   refine fin_done (by kernel_rfl) (NoPanic.normal ?_)
   clear qS
   obtain ⟨gx, ox, rfl, hgx, hcell⟩ := (HX.out.on HO.out).at hx
   have qI : ∀ W, On wr W → W.cell? ⟨w.heap.size, 2, none⟩ = some (.slice (some ⟨ga, oa, none⟩) LL.length c) ∧ W.cell? ⟨w.heap.size + 1, 0, none⟩ = some (.int .i64 (n : Int)) ∧ W.cell? ⟨ga, oa + t, none⟩ = some (.slice (some ⟨gx, ox, none⟩) L.length cx) ∧ W.cell? ⟨gx, ox + n * 9, none⟩ = some (.int .i64 x.k) ∧ W.cell? ⟨gx, ox + n * 9 + 1, none⟩ = some (.int .i64 x.r) ∧ W.cell? ⟨gx, ox + n * 9 + 2, none⟩ = some (.int .i64 x.l) ∧ W.cell? ⟨gx, ox + n * 9 + 3, none⟩ = some (.int .i64 x.a.r) ∧ W.cell? ⟨gx, ox + n * 9 + 4, none⟩ = some (.int .i64 x.a.v) ∧ W.cell? ⟨gx, ox + n * 9 + 5, none⟩ = some (.int .i64 x.o) ∧ W.cell? ⟨gx, ox + n * 9 + 6, none⟩ = some (.int .i64 x.b.r) ∧ W.cell? ⟨gx, ox + n * 9 + 7, none⟩ = some (.int .i64 x.b.v) ∧ W.cell? ⟨gx, ox + n * 9 + 8, none⟩ = some (.int .i64 x.n) := fun W k => ⟨(PB.on k).at (i := 2) rfl, (CB.on k).at (i := 0) rfl, (k.cell (p := ⟨ga, oa + t, none⟩) (Nat.lt_of_lt_of_le hga HO.out.size)).trans u0, (k.cell (p := ⟨gx, ox + n * 9 + 0, none⟩) hgx).trans (hcell 0 _ rfl), (k.cell (p := ⟨gx, ox + n * 9 + 1, none⟩) hgx).trans (hcell 1 _ rfl), (k.cell (p := ⟨gx, ox + n * 9 + 2, none⟩) hgx).trans (hcell 2 _ rfl), (k.cell (p := ⟨gx, ox + n * 9 + 3, none⟩) hgx).trans (hcell 3 _ rfl), (k.cell (p := ⟨gx, ox + n * 9 + 4, none⟩) hgx).trans (hcell 4 _ rfl), (k.cell (p := ⟨gx, ox + n * 9 + 5, none⟩) hgx).trans (hcell 5 _ rfl), (k.cell (p := ⟨gx, ox + n * 9 + 6, none⟩) hgx).trans (hcell 6 _ rfl), (k.cell (p := ⟨gx, ox + n * 9 + 7, none⟩) hgx).trans (hcell 7 _ rfl), (k.cell (p := ⟨gx, ox + n * 9 + 8, none⟩) hgx).trans (hcell 8 _ rfl)⟩
   have q9 := qI _ (On.refl wr).drew.drew
   go_wp2
   refine region_fin (fun W => W.cell? ⟨w.heap.size, 2, none⟩ = some (.slice (some ⟨ga, oa, none⟩) LL.length c) ∧ W.cell? ⟨w.heap.size + 1, 0, none⟩ = some (.int .i64 (n : Int)) ∧ W.cell? ⟨ga, oa + t, none⟩ = some (.slice (some ⟨gx, ox, none⟩) L.length cx) ∧ W.cell? ⟨gx, ox + n * 9, none⟩ = some (.int .i64 x.k) ∧ W.cell? ⟨gx, ox + n * 9 + 1, none⟩ = some (.int .i64 x.r) ∧ W.cell? ⟨gx, ox + n * 9 + 2, none⟩ = some (.int .i64 x.l) ∧ W.cell? ⟨gx, ox + n * 9 + 3, none⟩ = some (.int .i64 x.a.r) ∧ W.cell? ⟨gx, ox + n * 9 + 4, none⟩ = some (.int .i64 x.a.v) ∧ W.cell? ⟨gx, ox + n * 9 + 5, none⟩ = some (.int .i64 x.o) ∧ W.cell? ⟨gx, ox + n * 9 + 6, none⟩ = some (.int .i64 x.b.r) ∧ W.cell? ⟨gx, ox + n * 9 + 7, none⟩ = some (.int .i64 x.b.v) ∧ W.cell? ⟨gx, ox + n * 9 + 8, none⟩ = some (.int .i64 x.n)) 10 11 (by kernel_rfl) rfl ?_
   refine fin_take 0 (v := ?_) rfl (by kernel_rfl) (by kernel_rfl) (by kernel_rfl) (by kernel_rfl) (fun _ _ _ h => h) rfl ?_ q9 ?_
   rotate_left
   ·
    intro W hW
    go_simp
    (try with_reducible rfl)
   simp only [zpu, zsa, zsz, zss]
   refine fin_take 1 (v := ?_) rfl (by kernel_rfl) (by kernel_rfl) (by kernel_rfl) (by kernel_rfl) (fun _ _ _ h => h) rfl ?_ q9 ?_
   rotate_left
   ·
    intro W hW
    go_simp
    (try with_reducible rfl)
   simp only [zpu, zsa, zsz, zss]
   refine fin_take 2 (v := ?_) rfl (by kernel_rfl) (by kernel_rfl) (by kernel_rfl) (by kernel_rfl) (fun _ _ _ h => h) rfl ?_ q9 ?_
   rotate_left
   ·
    intro W hW
    go_simp
    (try with_reducible rfl)
   simp only [zpu, zsa, zsz, zss]
   refine fin_take 3 (v := ?_) rfl (by kernel_rfl) (by kernel_rfl) (by kernel_rfl) (by kernel_rfl) (fun _ _ _ h => h) rfl ?_ q9 ?_
   rotate_left
   ·
    intro W hW
    go_simp
    (try with_reducible rfl)
   simp only [zpu, zsa, zsz, zss]
   refine fin_take 4 (v := ?_) rfl (by kernel_rfl) (by kernel_rfl) (by kernel_rfl) (by kernel_rfl) (fun _ _ _ h => h) rfl ?_ q9 ?_
   rotate_left
   ·
    intro W hW
    go_simp
    (try with_reducible rfl)
   simp only [zpu, zsa, zsz, zss]
   refine fin_take 5 (v := ?_) rfl (by kernel_rfl) (by kernel_rfl) (by kernel_rfl) (by kernel_rfl) (fun _ _ _ h => h) rfl ?_ q9 ?_
   rotate_left
   ·
    intro W hW
    go_simp
    (try with_reducible rfl)
   simp only [zpu, zsa, zsz, zss]
   refine fin_take 6 (v := ?_) rfl (by kernel_rfl) (by kernel_rfl) (by kernel_rfl) (by kernel_rfl) (fun _ _ _ h => h) rfl ?_ q9 ?_
   rotate_left
   ·
    intro W hW
    go_simp
    (try with_reducible rfl)
   simp only [zpu, zsa, zsz, zss]
   refine fin_take 7 (v := ?_) rfl (by kernel_rfl) (by kernel_rfl) (by kernel_rfl) (by kernel_rfl) (fun _ _ _ h => h) rfl ?_ q9 ?_
   rotate_left
   ·
    intro W hW
    go_simp
    (try with_reducible rfl)
   simp only [zpu, zsa, zsz, zss]
   refine fin_take 8 (v := ?_) rfl (by kernel_rfl) (by kernel_rfl) (by kernel_rfl) (by kernel_rfl) (fun _ _ _ h => h) rfl ?_ q9 ?_
   rotate_left
   ·
    intro W hW
    go_simp
    (try with_reducible rfl)
   simp only [zpu, zsa, zsz, zss]
   refine fin_one 9 rfl rfl (by kernel_rfl) (fun K hK => ?_)
   go_simp
   refine hK.out _ _ (fun _ => qI _ (((On.refl wr).drew.drew).alloc _)) ?_
   clear hK
   refine fin_one 10 rfl rfl (by kernel_rfl) (fun K hK => ?_)
   go_simp
   refine hK.out _ _ (fun h => absurd rfl h) ?_
   refine fin_done (by kernel_rfl) (NoPanic.normal ?_)
   obtain ⟨W1, hW1⟩ : ∃ W1, W1 = (wr.alloc (.cells #[.int .i64 x.k, .int .i64 x.r, .int .i64 x.l, .int .i64 x.a.r, .int .i64 x.a.v, .int .i64 x.o, .int .i64 x.b.r, .int .i64 x.b.v, .int .i64 x.n] 67)).drew.drew := ⟨_, rfl⟩
   have k1 : On wr W1 := by rw [hW1]; exact ((On.refl wr).alloc _).drew.drew
   have I1 : Bk W1 wr.heap.size #[.int .i64 x.k, .int .i64 x.r, .int .i64 x.l, .int .i64 x.a.r, .int .i64 x.a.v, .int .i64 x.o, .int .i64 x.b.r, .int .i64 x.b.v, .int .i64 x.n] := by rw [hW1]; exact Bk.new wr _ _
   have P1 := PB.on k1
   have C1 := CB.on k1
   have Z1 := ZB.on k1
   have O1 : On w W1 := HO.out.trans k1
   rw [← hW1]
   clear hW1 q9 qI hcell u0 c0 q2 PB CB ZB
   have hS : ∀ W, On W1 W → W.cell? ⟨w.heap.size + 1, 0, none⟩ = some (.int .i64 (n : Int)) ∧ W.cell? ⟨w.heap.size + 1, 1, none⟩ = some (.int .i64 r0) ∧ W.cell? ⟨w.heap.size + 1, 2, none⟩ = some (.int .i64 r1) ∧ W.cell? ⟨w.heap.size + 1, 3, none⟩ = some (.int .i64 r2) ∧ W.cell? ⟨w.heap.size + 1, 4, none⟩ = some (.int .i64 r3) ∧ W.cell? ⟨wr.heap.size, 0, none⟩ = some (.int .i64 x.k) ∧ W.cell? ⟨wr.heap.size, 1, none⟩ = some (.int .i64 x.r) ∧ W.cell? ⟨wr.heap.size, 2, none⟩ = some (.int .i64 x.l) ∧ W.cell? ⟨wr.heap.size, 3, none⟩ = some (.int .i64 x.a.r) ∧ W.cell? ⟨wr.heap.size, 4, none⟩ = some (.int .i64 x.a.v) ∧ W.cell? ⟨wr.heap.size, 5, none⟩ = some (.int .i64 x.o) ∧ W.cell? ⟨wr.heap.size, 6, none⟩ = some (.int .i64 x.b.r) ∧ W.cell? ⟨wr.heap.size, 7, none⟩ = some (.int .i64 x.b.v) ∧ W.cell? ⟨wr.heap.size, 8, none⟩ = some (.int .i64 x.n) := fun W k => ⟨(C1.on k).at (i := 0) rfl, (C1.on k).at (i := 1) rfl, (C1.on k).at (i := 2) rfl, (C1.on k).at (i := 3) rfl, (C1.on k).at (i := 4) rfl, (I1.on k).at (i := 0) rfl, (I1.on k).at (i := 1) rfl, (I1.on k).at (i := 2) rfl, (I1.on k).at (i := 3) rfl, (I1.on k).at (i := 4) rfl, (I1.on k).at (i := 5) rfl, (I1.on k).at (i := 6) rfl, (I1.on k).at (i := 7) rfl, (I1.on k).at (i := 8) rfl⟩
   have hVa := fun W => rvalue_is x.a ⟨(n : Int), r0, r1, r2, r3⟩ W
   have hVb := fun W => rvalue_is x.b ⟨(n : Int), r0, r1, r2, r3⟩ W
   unfold locV at hVa hVb
   have hwr : w.heap.size + 1 + 1 < wr.heap.size := zl
   have hne : ¬ wr.heap.size = w.heap.size := by omega
   have hne' : ¬ wr.heap.size = w.heap.size + 1 := by omega
   have il := I1.lt
   have wl1 : w.heap.size < W1.heap.size := by omega
   have wl2 : w.heap.size + 1 < W1.heap.size := by omega
   have wl3 : w.heap.size + 1 + 1 < W1.heap.size := by omega
   obtain ⟨y0, y1, y2, y3, y4, y5, y6, y7, y8, y9, y10, y11, y12, y13⟩ := hS _ (On.refl W1)
   cases h5 : (x.k == 5) with
   | true =>
    rw [h5] at hst
    simp only [if_true] at hst
    have hreg := hok5 (by simpa using h5)
    have h0 : ((x.o == 0) = true ∧ resOf x ⟨(n : Int), r0, r1, r2, r3⟩ = valOf x.a ⟨(n : Int), r0, r1, r2, r3⟩) ∨ ((x.o == 0) = false ∧ resOf x ⟨(n : Int), r0, r1, r2, r3⟩ = doV x.o (valOf x.a ⟨(n : Int), r0, r1, r2, r3⟩) (valOf x.b ⟨(n : Int), r0, r1, r2, r3⟩)) := by
     cases ho : (x.o == 0)
     ·
      exact Or.inr ⟨rfl, by unfold resOf; rw [ho]; rfl⟩
     ·
      exact Or.inl ⟨rfl, by unfold resOf; rw [ho]; rfl⟩
    have HS1 : Hid (R = locV (settleP L (pcTo (withR ⟨(n : Int), r0, r1, r2, r3⟩ x.r (resOf x ⟨(n : Int), r0, r1, r2, r3⟩)) ((n : Int) + 1)))) := HS.out.trans (congrArg locV hst)
    clear hst HS hok5 hok6
    rcases h0 with ⟨ho, hres⟩ | ⟨ho, hres⟩
    ·
     rw [hres] at HS1
     generalize valOf x.a ⟨(n : Int), r0, r1, r2, r3⟩ = va at *
     have hob : (x.o != 0) = false := by rw [bne, ho]; rfl
     clear hres
     rcases regOk_four hreg with hr | hr | hr | hr
     ·
      have HS2 : Hid (R = locV (settleP L ⟨((n + 1 : Nat) : Int), va, r1, r2, r3⟩)) := by
       show R = _
       rw [HS1.out, hr]
       rfl
      clear HS1 hreg
      go_wp2_with fail
      refine (hVa _).mono ?_
      rintro _ w3 ⟨rfl, k3⟩
      obtain ⟨y0, y1, y2, y3, y4, y5, y6, y7, y8, y9, y10, y11, y12, y13⟩ := hS _ k3
      have C2 := C1.on k3
      have P2 := P1.on k3
      have Z2 := Z1.on k3
      have I2 := I1.on k3
      have O2 := O1.trans k3
      have cf := fun i => C2.fr i
      have c3l := C2.lt
      have i3l := I2.lt
      go_wp2
      go_roundg (L.length - (n + 1))
      case measure => omega
      case rel => exact ⟨n + 1, va, r1, r2, r3, rfl, (O2.setNew (by omega) _).setNew (by omega) _, (P2.far (by omega) _ _).far (by omega) _ _, Bk.put (cs := [.int .i64 (n : Int), .int .i64 va, .int .i64 r1, .int .i64 r2, .int .i64 r3]) (C2.put (cs := [.int .i64 (n : Int), .int .i64 r0, .int .i64 r1, .int .i64 r2, .int .i64 r3]) 1 (.int .i64 va)) 0 (.int .i64 ((n + 1 : Nat) : Int)), (Z2.far (by omega) _ _).far (by omega) _ _, HS2⟩
     ·
      have HS2 : Hid (R = locV (settleP L ⟨((n + 1 : Nat) : Int), r0, va, r2, r3⟩)) := by
       show R = _
       rw [HS1.out, hr]
       rfl
      clear HS1 hreg
      go_wp2_with fail
      refine (hVa _).mono ?_
      rintro _ w3 ⟨rfl, k3⟩
      obtain ⟨y0, y1, y2, y3, y4, y5, y6, y7, y8, y9, y10, y11, y12, y13⟩ := hS _ k3
      have C2 := C1.on k3
      have P2 := P1.on k3
      have Z2 := Z1.on k3
      have I2 := I1.on k3
      have O2 := O1.trans k3
      have cf := fun i => C2.fr i
      have c3l := C2.lt
      have i3l := I2.lt
      go_wp2
      go_roundg (L.length - (n + 1))
      case measure => omega
      case rel => exact ⟨n + 1, r0, va, r2, r3, rfl, (O2.setNew (by omega) _).setNew (by omega) _, (P2.far (by omega) _ _).far (by omega) _ _, Bk.put (cs := [.int .i64 (n : Int), .int .i64 r0, .int .i64 va, .int .i64 r2, .int .i64 r3]) (C2.put (cs := [.int .i64 (n : Int), .int .i64 r0, .int .i64 r1, .int .i64 r2, .int .i64 r3]) 2 (.int .i64 va)) 0 (.int .i64 ((n + 1 : Nat) : Int)), (Z2.far (by omega) _ _).far (by omega) _ _, HS2⟩
     ·
      have HS2 : Hid (R = locV (settleP L ⟨((n + 1 : Nat) : Int), r0, r1, va, r3⟩)) := by
       show R = _
       rw [HS1.out, hr]
       rfl
      clear HS1 hreg
      go_wp2_with fail
      refine (hVa _).mono ?_
      rintro _ w3 ⟨rfl, k3⟩
      obtain ⟨y0, y1, y2, y3, y4, y5, y6, y7, y8, y9, y10, y11, y12, y13⟩ := hS _ k3
      have C2 := C1.on k3
      have P2 := P1.on k3
      have Z2 := Z1.on k3
      have I2 := I1.on k3
      have O2 := O1.trans k3
      have cf := fun i => C2.fr i
      have c3l := C2.lt
      have i3l := I2.lt
      go_wp2
      go_roundg (L.length - (n + 1))
      case measure => omega
      case rel => exact ⟨n + 1, r0, r1, va, r3, rfl, (O2.setNew (by omega) _).setNew (by omega) _, (P2.far (by omega) _ _).far (by omega) _ _, Bk.put (cs := [.int .i64 (n : Int), .int .i64 r0, .int .i64 r1, .int .i64 va, .int .i64 r3]) (C2.put (cs := [.int .i64 (n : Int), .int .i64 r0, .int .i64 r1, .int .i64 r2, .int .i64 r3]) 3 (.int .i64 va)) 0 (.int .i64 ((n + 1 : Nat) : Int)), (Z2.far (by omega) _ _).far (by omega) _ _, HS2⟩
     ·
      have HS2 : Hid (R = locV (settleP L ⟨((n + 1 : Nat) : Int), r0, r1, r2, va⟩)) := by
       show R = _
       rw [HS1.out, hr]
       rfl
      clear HS1 hreg
      go_wp2_with fail
      refine (hVa _).mono ?_
      rintro _ w3 ⟨rfl, k3⟩
      obtain ⟨y0, y1, y2, y3, y4, y5, y6, y7, y8, y9, y10, y11, y12, y13⟩ := hS _ k3
      have C2 := C1.on k3
      have P2 := P1.on k3
      have Z2 := Z1.on k3
      have I2 := I1.on k3
      have O2 := O1.trans k3
      have cf := fun i => C2.fr i
      have c3l := C2.lt
      have i3l := I2.lt
      go_wp2
      go_roundg (L.length - (n + 1))
      case measure => omega
      case rel => exact ⟨n + 1, r0, r1, r2, va, rfl, (O2.setNew (by omega) _).setNew (by omega) _, (P2.far (by omega) _ _).far (by omega) _ _, Bk.put (cs := [.int .i64 (n : Int), .int .i64 r0, .int .i64 r1, .int .i64 r2, .int .i64 va]) (C2.put (cs := [.int .i64 (n : Int), .int .i64 r0, .int .i64 r1, .int .i64 r2, .int .i64 r3]) 4 (.int .i64 va)) 0 (.int .i64 ((n + 1 : Nat) : Int)), (Z2.far (by omega) _ _).far (by omega) _ _, HS2⟩
    ·
     rw [hres] at HS1
     have hob : (x.o != 0) = true := by rw [bne, ho]; rfl
     have hDo := fun W => rdo_any x.o (valOf x.a ⟨(n : Int), r0, r1, r2, r3⟩) (valOf x.b ⟨(n : Int), r0, r1, r2, r3⟩) W
     generalize doV x.o (valOf x.a ⟨(n : Int), r0, r1, r2, r3⟩) (valOf x.b ⟨(n : Int), r0, r1, r2, r3⟩) = vd at *
     generalize valOf x.a ⟨(n : Int), r0, r1, r2, r3⟩ = va at *
     generalize valOf x.b ⟨(n : Int), r0, r1, r2, r3⟩ = vb at *
     generalize doB x.o = bo at *
     clear hres
     rcases regOk_four hreg with hr | hr | hr | hr
     ·
      have HS2 : Hid (R = locV (settleP L ⟨((n + 1 : Nat) : Int), vd, r1, r2, r3⟩)) := by
       show R = _
       rw [HS1.out, hr]
       rfl
      clear HS1 hreg
      go_wp2_with fail
      refine (hVa _).mono ?_
      rintro _ w2 ⟨rfl, k2⟩
      obtain ⟨y0, y1, y2, y3, y4, y5, y6, y7, y8, y9, y10, y11, y12, y13⟩ := hS _ k2
      have q2 := hS _ k2.drew
      have i2l := Nat.lt_of_lt_of_le il k2.size
      have c2l := Nat.lt_of_lt_of_le wl2 k2.size
      go_wp2
      refine region_fin (fun W => W.cell? ⟨w.heap.size + 1, 0, none⟩ = some (.int .i64 (n : Int)) ∧ W.cell? ⟨w.heap.size + 1, 1, none⟩ = some (.int .i64 r0) ∧ W.cell? ⟨w.heap.size + 1, 2, none⟩ = some (.int .i64 r1) ∧ W.cell? ⟨w.heap.size + 1, 3, none⟩ = some (.int .i64 r2) ∧ W.cell? ⟨w.heap.size + 1, 4, none⟩ = some (.int .i64 r3) ∧ W.cell? ⟨wr.heap.size, 0, none⟩ = some (.int .i64 x.k) ∧ W.cell? ⟨wr.heap.size, 1, none⟩ = some (.int .i64 x.r) ∧ W.cell? ⟨wr.heap.size, 2, none⟩ = some (.int .i64 x.l) ∧ W.cell? ⟨wr.heap.size, 3, none⟩ = some (.int .i64 x.a.r) ∧ W.cell? ⟨wr.heap.size, 4, none⟩ = some (.int .i64 x.a.v) ∧ W.cell? ⟨wr.heap.size, 5, none⟩ = some (.int .i64 x.o) ∧ W.cell? ⟨wr.heap.size, 6, none⟩ = some (.int .i64 x.b.r) ∧ W.cell? ⟨wr.heap.size, 7, none⟩ = some (.int .i64 x.b.v) ∧ W.cell? ⟨wr.heap.size, 8, none⟩ = some (.int .i64 x.n)) 99 12 (by kernel_rfl) rfl ?_
      refine fin_take 0 (v := ?_) rfl (by kernel_rfl) (by kernel_rfl) (by kernel_rfl) (by kernel_rfl) (fun _ _ _ h => h) rfl ?_ q2 ?_
      rotate_left
      ·
       intro W hW
       go_simp
       (try with_reducible rfl)
      simp only [zpu, zsa, zsz, zss]
      refine fin_take 1 (v := ?_) rfl (by kernel_rfl) (by kernel_rfl) (by kernel_rfl) (by kernel_rfl) (fun _ _ _ h => h) rfl ?_ q2 ?_
      rotate_left
      ·
       intro W hW
       go_simp
       (try with_reducible rfl)
      simp only [zpu, zsa, zsz, zss]
      refine fin_take 2 (v := ?_) rfl (by kernel_rfl) (by kernel_rfl) (by kernel_rfl) (by kernel_rfl) (fun _ _ _ h => h) rfl ?_ q2 ?_
      rotate_left
      ·
       intro W hW
       go_simp
       (try with_reducible rfl)
      simp only [zpu, zsa, zsz, zss]
      refine fin_take 3 (v := ?_) rfl (by kernel_rfl) (by kernel_rfl) (by kernel_rfl) (by kernel_rfl) (fun _ _ _ h => h) rfl ?_ q2 ?_
      rotate_left
      ·
       intro W hW
       go_simp
       (try with_reducible rfl)
      simp only [zpu, zsa, zsz, zss]
      refine fin_take 4 (v := ?_) rfl (by kernel_rfl) (by kernel_rfl) (by kernel_rfl) (by kernel_rfl) (fun _ _ _ h => h) rfl ?_ q2 ?_
      rotate_left
      ·
       intro W hW
       go_simp
       (try with_reducible rfl)
      simp only [zpu, zsa, zsz, zss]
      refine fin_take 5 (v := ?_) rfl (by kernel_rfl) (by kernel_rfl) (by kernel_rfl) (by kernel_rfl) (fun _ _ _ h => h) rfl ?_ q2 ?_
      rotate_left
      ·
       intro W hW
       go_simp
       (try with_reducible rfl)
      simp only [zpu, zsa, zsz, zss]
      refine fin_one 6 rfl rfl (by kernel_rfl) (fun K hK => ?_)
      go_simp
      refine (hVb _).mono ?_
      rintro _ w3 ⟨rfl, k3'⟩
      have k3 : On W1 w3 := k2.drew.trans k3'
      have q3 := hS _ k3
      refine hK.out _ _ (fun _ => q3) ?_
      clear hK
      refine fin_one 7 rfl rfl (by kernel_rfl) (fun K hK => ?_)
      go_simp
      refine (hDo _).mono ?_
      rintro _ w4 ⟨rfl, hw4⟩
      subst w4
      refine hK.out _ _ (fun _ => q3) ?_
      clear hK
      refine fin_take 8 (v := ?_) rfl (by kernel_rfl) (by kernel_rfl) (by kernel_rfl) (by kernel_rfl) (fun _ _ _ h => h) rfl ?_ q3 ?_
      rotate_left
      ·
       intro W hW
       go_simp
       (try with_reducible rfl)
      simp only [zpu, zsa, zsz, zss]
      refine fin_take 9 (v := ?_) rfl (by kernel_rfl) (by kernel_rfl) (by kernel_rfl) (by kernel_rfl) (fun _ _ _ h => h) rfl ?_ q3 ?_
      rotate_left
      ·
       intro W hW
       go_simp
       (try with_reducible rfl)
      simp only [zpu, zsa, zsz, zss]
      refine fin_take 10 (v := ?_) rfl (by kernel_rfl) (by kernel_rfl) (by kernel_rfl) (by kernel_rfl) (fun _ _ _ h => h) rfl ?_ q3 ?_
      rotate_left
      ·
       intro W hW
       go_simp
       (try with_reducible rfl)
      simp only [zpu, zsa, zsz, zss]
      refine fin_take 11 (v := ?_) rfl (by kernel_rfl) (by kernel_rfl) (by kernel_rfl) (by kernel_rfl) (fun _ _ _ h => h) rfl ?_ q3 ?_
      rotate_left
      ·
       intro W hW
       go_simp
       (try with_reducible rfl)
      simp only [zpu, zsa, zsz, zss]
      refine fin_done (by kernel_rfl) (NoPanic.normal ?_)
      obtain ⟨y0, y1, y2, y3, y4, y5, y6, y7, y8, y9, y10, y11, y12, y13⟩ := q3
      have C2 := C1.on k3
      have P2 := P1.on k3
      have Z2 := Z1.on k3
      have I2 := I1.on k3
      have O2 := O1.trans k3
      have cf := fun i => C2.fr i
      have c3l := C2.lt
      have i3l := I2.lt
      go_wp2
      go_roundg (L.length - (n + 1))
      case measure => omega
      case rel => exact ⟨n + 1, vd, r1, r2, r3, rfl, (O2.setNew (by omega) _).setNew (by omega) _, (P2.far (by omega) _ _).far (by omega) _ _, Bk.put (cs := [.int .i64 (n : Int), .int .i64 vd, .int .i64 r1, .int .i64 r2, .int .i64 r3]) (C2.put (cs := [.int .i64 (n : Int), .int .i64 r0, .int .i64 r1, .int .i64 r2, .int .i64 r3]) 1 (.int .i64 vd)) 0 (.int .i64 ((n + 1 : Nat) : Int)), (Z2.far (by omega) _ _).far (by omega) _ _, HS2⟩
     ·
      have HS2 : Hid (R = locV (settleP L ⟨((n + 1 : Nat) : Int), r0, vd, r2, r3⟩)) := by
       show R = _
       rw [HS1.out, hr]
       rfl
      clear HS1 hreg
      go_wp2_with fail
      refine (hVa _).mono ?_
      rintro _ w2 ⟨rfl, k2⟩
      obtain ⟨y0, y1, y2, y3, y4, y5, y6, y7, y8, y9, y10, y11, y12, y13⟩ := hS _ k2
      have q2 := hS _ k2.drew
      have i2l := Nat.lt_of_lt_of_le il k2.size
      have c2l := Nat.lt_of_lt_of_le wl2 k2.size
      go_wp2
      refine region_fin (fun W => W.cell? ⟨w.heap.size + 1, 0, none⟩ = some (.int .i64 (n : Int)) ∧ W.cell? ⟨w.heap.size + 1, 1, none⟩ = some (.int .i64 r0) ∧ W.cell? ⟨w.heap.size + 1, 2, none⟩ = some (.int .i64 r1) ∧ W.cell? ⟨w.heap.size + 1, 3, none⟩ = some (.int .i64 r2) ∧ W.cell? ⟨w.heap.size + 1, 4, none⟩ = some (.int .i64 r3) ∧ W.cell? ⟨wr.heap.size, 0, none⟩ = some (.int .i64 x.k) ∧ W.cell? ⟨wr.heap.size, 1, none⟩ = some (.int .i64 x.r) ∧ W.cell? ⟨wr.heap.size, 2, none⟩ = some (.int .i64 x.l) ∧ W.cell? ⟨wr.heap.size, 3, none⟩ = some (.int .i64 x.a.r) ∧ W.cell? ⟨wr.heap.size, 4, none⟩ = some (.int .i64 x.a.v) ∧ W.cell? ⟨wr.heap.size, 5, none⟩ = some (.int .i64 x.o) ∧ W.cell? ⟨wr.heap.size, 6, none⟩ = some (.int .i64 x.b.r) ∧ W.cell? ⟨wr.heap.size, 7, none⟩ = some (.int .i64 x.b.v) ∧ W.cell? ⟨wr.heap.size, 8, none⟩ = some (.int .i64 x.n)) 99 12 (by kernel_rfl) rfl ?_
      refine fin_take 0 (v := ?_) rfl (by kernel_rfl) (by kernel_rfl) (by kernel_rfl) (by kernel_rfl) (fun _ _ _ h => h) rfl ?_ q2 ?_
      rotate_left
      ·
       intro W hW
       go_simp
       (try with_reducible rfl)
      simp only [zpu, zsa, zsz, zss]
      refine fin_take 1 (v := ?_) rfl (by kernel_rfl) (by kernel_rfl) (by kernel_rfl) (by kernel_rfl) (fun _ _ _ h => h) rfl ?_ q2 ?_
      rotate_left
      ·
       intro W hW
       go_simp
       (try with_reducible rfl)
      simp only [zpu, zsa, zsz, zss]
      refine fin_take 2 (v := ?_) rfl (by kernel_rfl) (by kernel_rfl) (by kernel_rfl) (by kernel_rfl) (fun _ _ _ h => h) rfl ?_ q2 ?_
      rotate_left
      ·
       intro W hW
       go_simp
       (try with_reducible rfl)
      simp only [zpu, zsa, zsz, zss]
      refine fin_take 3 (v := ?_) rfl (by kernel_rfl) (by kernel_rfl) (by kernel_rfl) (by kernel_rfl) (fun _ _ _ h => h) rfl ?_ q2 ?_
      rotate_left
      ·
       intro W hW
       go_simp
       (try with_reducible rfl)
      simp only [zpu, zsa, zsz, zss]
      refine fin_take 4 (v := ?_) rfl (by kernel_rfl) (by kernel_rfl) (by kernel_rfl) (by kernel_rfl) (fun _ _ _ h => h) rfl ?_ q2 ?_
      rotate_left
      ·
       intro W hW
       go_simp
       (try with_reducible rfl)
      simp only [zpu, zsa, zsz, zss]
      refine fin_take 5 (v := ?_) rfl (by kernel_rfl) (by kernel_rfl) (by kernel_rfl) (by kernel_rfl) (fun _ _ _ h => h) rfl ?_ q2 ?_
      rotate_left
      ·
       intro W hW
       go_simp
       (try with_reducible rfl)
      simp only [zpu, zsa, zsz, zss]
      refine fin_one 6 rfl rfl (by kernel_rfl) (fun K hK => ?_)
      go_simp
      refine (hVb _).mono ?_
      rintro _ w3 ⟨rfl, k3'⟩
      have k3 : On W1 w3 := k2.drew.trans k3'
      have q3 := hS _ k3
      refine hK.out _ _ (fun _ => q3) ?_
      clear hK
      refine fin_one 7 rfl rfl (by kernel_rfl) (fun K hK => ?_)
      go_simp
      refine (hDo _).mono ?_
      rintro _ w4 ⟨rfl, hw4⟩
      subst w4
      refine hK.out _ _ (fun _ => q3) ?_
      clear hK
      refine fin_take 8 (v := ?_) rfl (by kernel_rfl) (by kernel_rfl) (by kernel_rfl) (by kernel_rfl) (fun _ _ _ h => h) rfl ?_ q3 ?_
      rotate_left
      ·
       intro W hW
       go_simp
       (try with_reducible rfl)
      simp only [zpu, zsa, zsz, zss]
      refine fin_take 9 (v := ?_) rfl (by kernel_rfl) (by kernel_rfl) (by kernel_rfl) (by kernel_rfl) (fun _ _ _ h => h) rfl ?_ q3 ?_
      rotate_left
      ·
       intro W hW
       go_simp
       (try with_reducible rfl)
      simp only [zpu, zsa, zsz, zss]
      refine fin_take 10 (v := ?_) rfl (by kernel_rfl) (by kernel_rfl) (by kernel_rfl) (by kernel_rfl) (fun _ _ _ h => h) rfl ?_ q3 ?_
      rotate_left
      ·
       intro W hW
       go_simp
       (try with_reducible rfl)
      simp only [zpu, zsa, zsz, zss]
      refine fin_take 11 (v := ?_) rfl (by kernel_rfl) (by kernel_rfl) (by kernel_rfl) (by kernel_rfl) (fun _ _ _ h => h) rfl ?_ q3 ?_
      rotate_left
      ·
       intro W hW
       go_simp
       (try with_reducible rfl)
      simp only [zpu, zsa, zsz, zss]
      refine fin_done (by kernel_rfl) (NoPanic.normal ?_)
      obtain ⟨y0, y1, y2, y3, y4, y5, y6, y7, y8, y9, y10, y11, y12, y13⟩ := q3
      have C2 := C1.on k3
      have P2 := P1.on k3
      have Z2 := Z1.on k3
      have I2 := I1.on k3
      have O2 := O1.trans k3
      have cf := fun i => C2.fr i
      have c3l := C2.lt
      have i3l := I2.lt
      go_wp2
      go_roundg (L.length - (n + 1))
      case measure => omega
      case rel => exact ⟨n + 1, r0, vd, r2, r3, rfl, (O2.setNew (by omega) _).setNew (by omega) _, (P2.far (by omega) _ _).far (by omega) _ _, Bk.put (cs := [.int .i64 (n : Int), .int .i64 r0, .int .i64 vd, .int .i64 r2, .int .i64 r3]) (C2.put (cs := [.int .i64 (n : Int), .int .i64 r0, .int .i64 r1, .int .i64 r2, .int .i64 r3]) 2 (.int .i64 vd)) 0 (.int .i64 ((n + 1 : Nat) : Int)), (Z2.far (by omega) _ _).far (by omega) _ _, HS2⟩
     ·
      have HS2 : Hid (R = locV (settleP L ⟨((n + 1 : Nat) : Int), r0, r1, vd, r3⟩)) := by
       show R = _
       rw [HS1.out, hr]
       rfl
      clear HS1 hreg
      go_wp2_with fail
      refine (hVa _).mono ?_
      rintro _ w2 ⟨rfl, k2⟩
      obtain ⟨y0, y1, y2, y3, y4, y5, y6, y7, y8, y9, y10, y11, y12, y13⟩ := hS _ k2
      have q2 := hS _ k2.drew
      have i2l := Nat.lt_of_lt_of_le il k2.size
      have c2l := Nat.lt_of_lt_of_le wl2 k2.size
      go_wp2
      refine region_fin (fun W => W.cell? ⟨w.heap.size + 1, 0, none⟩ = some (.int .i64 (n : Int)) ∧ W.cell? ⟨w.heap.size + 1, 1, none⟩ = some (.int .i64 r0) ∧ W.cell? ⟨w.heap.size + 1, 2, none⟩ = some (.int .i64 r1) ∧ W.cell? ⟨w.heap.size + 1, 3, none⟩ = some (.int .i64 r2) ∧ W.cell? ⟨w.heap.size + 1, 4, none⟩ = some (.int .i64 r3) ∧ W.cell? ⟨wr.heap.size, 0, none⟩ = some (.int .i64 x.k) ∧ W.cell? ⟨wr.heap.size, 1, none⟩ = some (.int .i64 x.r) ∧ W.cell? ⟨wr.heap.size, 2, none⟩ = some (.int .i64 x.l) ∧ W.cell? ⟨wr.heap.size, 3, none⟩ = some (.int .i64 x.a.r) ∧ W.cell? ⟨wr.heap.size, 4, none⟩ = some (.int .i64 x.a.v) ∧ W.cell? ⟨wr.heap.size, 5, none⟩ = some (.int .i64 x.o) ∧ W.cell? ⟨wr.heap.size, 6, none⟩ = some (.int .i64 x.b.r) ∧ W.cell? ⟨wr.heap.size, 7, none⟩ = some (.int .i64 x.b.v) ∧ W.cell? ⟨wr.heap.size, 8, none⟩ = some (.int .i64 x.n)) 99 12 (by kernel_rfl) rfl ?_
      refine fin_take 0 (v := ?_) rfl (by kernel_rfl) (by kernel_rfl) (by kernel_rfl) (by kernel_rfl) (fun _ _ _ h => h) rfl ?_ q2 ?_
      rotate_left
      ·
       intro W hW
       go_simp
       (try with_reducible rfl)
      simp only [zpu, zsa, zsz, zss]
      refine fin_take 1 (v := ?_) rfl (by kernel_rfl) (by kernel_rfl) (by kernel_rfl) (by kernel_rfl) (fun _ _ _ h => h) rfl ?_ q2 ?_
      rotate_left
      ·
       intro W hW
       go_simp
       (try with_reducible rfl)
      simp only [zpu, zsa, zsz, zss]
      refine fin_take 2 (v := ?_) rfl (by kernel_rfl) (by kernel_rfl) (by kernel_rfl) (by kernel_rfl) (fun _ _ _ h => h) rfl ?_ q2 ?_
      rotate_left
      ·
       intro W hW
       go_simp
       (try with_reducible rfl)
      simp only [zpu, zsa, zsz, zss]
      refine fin_take 3 (v := ?_) rfl (by kernel_rfl) (by kernel_rfl) (by kernel_rfl) (by kernel_rfl) (fun _ _ _ h => h) rfl ?_ q2 ?_
      rotate_left
      ·
       intro W hW
       go_simp
       (try with_reducible rfl)
      simp only [zpu, zsa, zsz, zss]
      refine fin_take 4 (v := ?_) rfl (by kernel_rfl) (by kernel_rfl) (by kernel_rfl) (by kernel_rfl) (fun _ _ _ h => h) rfl ?_ q2 ?_
      rotate_left
      ·
       intro W hW
       go_simp
       (try with_reducible rfl)
      simp only [zpu, zsa, zsz, zss]
      refine fin_take 5 (v := ?_) rfl (by kernel_rfl) (by kernel_rfl) (by kernel_rfl) (by kernel_rfl) (fun _ _ _ h => h) rfl ?_ q2 ?_
      rotate_left
      ·
       intro W hW
       go_simp
       (try with_reducible rfl)
      simp only [zpu, zsa, zsz, zss]
      refine fin_one 6 rfl rfl (by kernel_rfl) (fun K hK => ?_)
      go_simp
      refine (hVb _).mono ?_
      rintro _ w3 ⟨rfl, k3'⟩
      have k3 : On W1 w3 := k2.drew.trans k3'
      have q3 := hS _ k3
      refine hK.out _ _ (fun _ => q3) ?_
      clear hK
      refine fin_one 7 rfl rfl (by kernel_rfl) (fun K hK => ?_)
      go_simp
      refine (hDo _).mono ?_
      rintro _ w4 ⟨rfl, hw4⟩
      subst w4
      refine hK.out _ _ (fun _ => q3) ?_
      clear hK
      refine fin_take 8 (v := ?_) rfl (by kernel_rfl) (by kernel_rfl) (by kernel_rfl) (by kernel_rfl) (fun _ _ _ h => h) rfl ?_ q3 ?_
      rotate_left
      ·
       intro W hW
       go_simp
       (try with_reducible rfl)
      simp only [zpu, zsa, zsz, zss]
      refine fin_take 9 (v := ?_) rfl (by kernel_rfl) (by kernel_rfl) (by kernel_rfl) (by kernel_rfl) (fun _ _ _ h => h) rfl ?_ q3 ?_
      rotate_left
      ·
       intro W hW
       go_simp
       (try with_reducible rfl)
      simp only [zpu, zsa, zsz, zss]
      refine fin_take 10 (v := ?_) rfl (by kernel_rfl) (by kernel_rfl) (by kernel_rfl) (by kernel_rfl) (fun _ _ _ h => h) rfl ?_ q3 ?_
      rotate_left
      ·
       intro W hW
       go_simp
       (try with_reducible rfl)
      simp only [zpu, zsa, zsz, zss]
      refine fin_take 11 (v := ?_) rfl (by kernel_rfl) (by kernel_rfl) (by kernel_rfl) (by kernel_rfl) (fun _ _ _ h => h) rfl ?_ q3 ?_
      rotate_left
      ·
       intro W hW
       go_simp
       (try with_reducible rfl)
      simp only [zpu, zsa, zsz, zss]
      refine fin_done (by kernel_rfl) (NoPanic.normal ?_)
      obtain ⟨y0, y1, y2, y3, y4, y5, y6, y7, y8, y9, y10, y11, y12, y13⟩ := q3
      have C2 := C1.on k3
      have P2 := P1.on k3
      have Z2 := Z1.on k3
      have I2 := I1.on k3
      have O2 := O1.trans k3
      have cf := fun i => C2.fr i
      have c3l := C2.lt
      have i3l := I2.lt
      go_wp2
      go_roundg (L.length - (n + 1))
      case measure => omega
      case rel => exact ⟨n + 1, r0, r1, vd, r3, rfl, (O2.setNew (by omega) _).setNew (by omega) _, (P2.far (by omega) _ _).far (by omega) _ _, Bk.put (cs := [.int .i64 (n : Int), .int .i64 r0, .int .i64 r1, .int .i64 vd, .int .i64 r3]) (C2.put (cs := [.int .i64 (n : Int), .int .i64 r0, .int .i64 r1, .int .i64 r2, .int .i64 r3]) 3 (.int .i64 vd)) 0 (.int .i64 ((n + 1 : Nat) : Int)), (Z2.far (by omega) _ _).far (by omega) _ _, HS2⟩
     ·
      have HS2 : Hid (R = locV (settleP L ⟨((n + 1 : Nat) : Int), r0, r1, r2, vd⟩)) := by
       show R = _
       rw [HS1.out, hr]
       rfl
      clear HS1 hreg
      go_wp2_with fail
      refine (hVa _).mono ?_
      rintro _ w2 ⟨rfl, k2⟩
      obtain ⟨y0, y1, y2, y3, y4, y5, y6, y7, y8, y9, y10, y11, y12, y13⟩ := hS _ k2
      have q2 := hS _ k2.drew
      have i2l := Nat.lt_of_lt_of_le il k2.size
      have c2l := Nat.lt_of_lt_of_le wl2 k2.size
      go_wp2
      refine region_fin (fun W => W.cell? ⟨w.heap.size + 1, 0, none⟩ = some (.int .i64 (n : Int)) ∧ W.cell? ⟨w.heap.size + 1, 1, none⟩ = some (.int .i64 r0) ∧ W.cell? ⟨w.heap.size + 1, 2, none⟩ = some (.int .i64 r1) ∧ W.cell? ⟨w.heap.size + 1, 3, none⟩ = some (.int .i64 r2) ∧ W.cell? ⟨w.heap.size + 1, 4, none⟩ = some (.int .i64 r3) ∧ W.cell? ⟨wr.heap.size, 0, none⟩ = some (.int .i64 x.k) ∧ W.cell? ⟨wr.heap.size, 1, none⟩ = some (.int .i64 x.r) ∧ W.cell? ⟨wr.heap.size, 2, none⟩ = some (.int .i64 x.l) ∧ W.cell? ⟨wr.heap.size, 3, none⟩ = some (.int .i64 x.a.r) ∧ W.cell? ⟨wr.heap.size, 4, none⟩ = some (.int .i64 x.a.v) ∧ W.cell? ⟨wr.heap.size, 5, none⟩ = some (.int .i64 x.o) ∧ W.cell? ⟨wr.heap.size, 6, none⟩ = some (.int .i64 x.b.r) ∧ W.cell? ⟨wr.heap.size, 7, none⟩ = some (.int .i64 x.b.v) ∧ W.cell? ⟨wr.heap.size, 8, none⟩ = some (.int .i64 x.n)) 99 12 (by kernel_rfl) rfl ?_
      refine fin_take 0 (v := ?_) rfl (by kernel_rfl) (by kernel_rfl) (by kernel_rfl) (by kernel_rfl) (fun _ _ _ h => h) rfl ?_ q2 ?_
      rotate_left
      ·
       intro W hW
       go_simp
       (try with_reducible rfl)
      simp only [zpu, zsa, zsz, zss]
      refine fin_take 1 (v := ?_) rfl (by kernel_rfl) (by kernel_rfl) (by kernel_rfl) (by kernel_rfl) (fun _ _ _ h => h) rfl ?_ q2 ?_
      rotate_left
      ·
       intro W hW
       go_simp
       (try with_reducible rfl)
      simp only [zpu, zsa, zsz, zss]
      refine fin_take 2 (v := ?_) rfl (by kernel_rfl) (by kernel_rfl) (by kernel_rfl) (by kernel_rfl) (fun _ _ _ h => h) rfl ?_ q2 ?_
      rotate_left
      ·
       intro W hW
       go_simp
       (try with_reducible rfl)
      simp only [zpu, zsa, zsz, zss]
      refine fin_take 3 (v := ?_) rfl (by kernel_rfl) (by kernel_rfl) (by kernel_rfl) (by kernel_rfl) (fun _ _ _ h => h) rfl ?_ q2 ?_
      rotate_left
      ·
       intro W hW
       go_simp
       (try with_reducible rfl)
      simp only [zpu, zsa, zsz, zss]
      refine fin_take 4 (v := ?_) rfl (by kernel_rfl) (by kernel_rfl) (by kernel_rfl) (by kernel_rfl) (fun _ _ _ h => h) rfl ?_ q2 ?_
      rotate_left
      ·
       intro W hW
       go_simp
       (try with_reducible rfl)
      simp only [zpu, zsa, zsz, zss]
      refine fin_take 5 (v := ?_) rfl (by kernel_rfl) (by kernel_rfl) (by kernel_rfl) (by kernel_rfl) (fun _ _ _ h => h) rfl ?_ q2 ?_
      rotate_left
      ·
       intro W hW
       go_simp
       (try with_reducible rfl)
      simp only [zpu, zsa, zsz, zss]
      refine fin_one 6 rfl rfl (by kernel_rfl) (fun K hK => ?_)
      go_simp
      refine (hVb _).mono ?_
      rintro _ w3 ⟨rfl, k3'⟩
      have k3 : On W1 w3 := k2.drew.trans k3'
      have q3 := hS _ k3
      refine hK.out _ _ (fun _ => q3) ?_
      clear hK
      refine fin_one 7 rfl rfl (by kernel_rfl) (fun K hK => ?_)
      go_simp
      refine (hDo _).mono ?_
      rintro _ w4 ⟨rfl, hw4⟩
      subst w4
      refine hK.out _ _ (fun _ => q3) ?_
      clear hK
      refine fin_take 8 (v := ?_) rfl (by kernel_rfl) (by kernel_rfl) (by kernel_rfl) (by kernel_rfl) (fun _ _ _ h => h) rfl ?_ q3 ?_
      rotate_left
      ·
       intro W hW
       go_simp
       (try with_reducible rfl)
      simp only [zpu, zsa, zsz, zss]
      refine fin_take 9 (v := ?_) rfl (by kernel_rfl) (by kernel_rfl) (by kernel_rfl) (by kernel_rfl) (fun _ _ _ h => h) rfl ?_ q3 ?_
      rotate_left
      ·
       intro W hW
       go_simp
       (try with_reducible rfl)
      simp only [zpu, zsa, zsz, zss]
      refine fin_take 10 (v := ?_) rfl (by kernel_rfl) (by kernel_rfl) (by kernel_rfl) (by kernel_rfl) (fun _ _ _ h => h) rfl ?_ q3 ?_
      rotate_left
      ·
       intro W hW
       go_simp
       (try with_reducible rfl)
      simp only [zpu, zsa, zsz, zss]
      refine fin_take 11 (v := ?_) rfl (by kernel_rfl) (by kernel_rfl) (by kernel_rfl) (by kernel_rfl) (fun _ _ _ h => h) rfl ?_ q3 ?_
      rotate_left
      ·
       intro W hW
       go_simp
       (try with_reducible rfl)
      simp only [zpu, zsa, zsz, zss]
      refine fin_done (by kernel_rfl) (NoPanic.normal ?_)
      obtain ⟨y0, y1, y2, y3, y4, y5, y6, y7, y8, y9, y10, y11, y12, y13⟩ := q3
      have C2 := C1.on k3
      have P2 := P1.on k3
      have Z2 := Z1.on k3
      have I2 := I1.on k3
      have O2 := O1.trans k3
      have cf := fun i => C2.fr i
      have c3l := C2.lt
      have i3l := I2.lt
      go_wp2
      go_roundg (L.length - (n + 1))
      case measure => omega
      case rel => exact ⟨n + 1, r0, r1, r2, vd, rfl, (O2.setNew (by omega) _).setNew (by omega) _, (P2.far (by omega) _ _).far (by omega) _ _, Bk.put (cs := [.int .i64 (n : Int), .int .i64 r0, .int .i64 r1, .int .i64 r2, .int .i64 vd]) (C2.put (cs := [.int .i64 (n : Int), .int .i64 r0, .int .i64 r1, .int .i64 r2, .int .i64 r3]) 4 (.int .i64 vd)) 0 (.int .i64 ((n + 1 : Nat) : Int)), (Z2.far (by omega) _ _).far (by omega) _ _, HS2⟩
   | false =>
    rw [h5] at hst
    simp only [Bool.false_eq_true, if_false] at hst
    cases h6 : (x.k == 6) with
    | true =>
     rw [h6] at hst
     simp only [if_true] at hst
     obtain ⟨hn0, hn1⟩ := hok6 (by simpa using h6)
     have HS1 : Hid (R = locV (settleP L (pcTo ⟨(n : Int), r0, r1, r2, r3⟩ ((n : Int) + skipOf x ⟨(n : Int), r0, r1, r2, r3⟩ (L.length - n - 1) + 1)))) := HS.out.trans (congrArg locV hst)
     have hsk : skipOf x ⟨(n : Int), r0, r1, r2, r3⟩ (L.length - n - 1) = if valOf x.a ⟨(n : Int), r0, r1, r2, r3⟩ == valOf x.b ⟨(n : Int), r0, r1, r2, r3⟩ then x.n else 0 := by
      unfold skipOf
      split
      ·
       omega
      ·
       rfl
     rw [hsk] at HS1
     generalize valOf x.a ⟨(n : Int), r0, r1, r2, r3⟩ = va at *
     generalize valOf x.b ⟨(n : Int), r0, r1, r2, r3⟩ = vb at *
     clear hst HS hok5 hok6 hsk
     cases hab : (va == vb)
     ·
      rw [hab] at HS1
      have HS2 : Hid (R = locV (settleP L ⟨((n + 1 : Nat) : Int), r0, r1, r2, r3⟩)) := by
       show R = _
       rw [HS1.out]
       unfold pcTo
       simp
      go_wp2
      have q1 := hS _ (On.refl W1).drew
      refine region_fin (fun W => W.cell? ⟨w.heap.size + 1, 0, none⟩ = some (.int .i64 (n : Int)) ∧ W.cell? ⟨w.heap.size + 1, 1, none⟩ = some (.int .i64 r0) ∧ W.cell? ⟨w.heap.size + 1, 2, none⟩ = some (.int .i64 r1) ∧ W.cell? ⟨w.heap.size + 1, 3, none⟩ = some (.int .i64 r2) ∧ W.cell? ⟨w.heap.size + 1, 4, none⟩ = some (.int .i64 r3) ∧ W.cell? ⟨wr.heap.size, 0, none⟩ = some (.int .i64 x.k) ∧ W.cell? ⟨wr.heap.size, 1, none⟩ = some (.int .i64 x.r) ∧ W.cell? ⟨wr.heap.size, 2, none⟩ = some (.int .i64 x.l) ∧ W.cell? ⟨wr.heap.size, 3, none⟩ = some (.int .i64 x.a.r) ∧ W.cell? ⟨wr.heap.size, 4, none⟩ = some (.int .i64 x.a.v) ∧ W.cell? ⟨wr.heap.size, 5, none⟩ = some (.int .i64 x.o) ∧ W.cell? ⟨wr.heap.size, 6, none⟩ = some (.int .i64 x.b.r) ∧ W.cell? ⟨wr.heap.size, 7, none⟩ = some (.int .i64 x.b.v) ∧ W.cell? ⟨wr.heap.size, 8, none⟩ = some (.int .i64 x.n)) 99 9 (by kernel_rfl) rfl ?_
      refine fin_take 0 (v := ?_) rfl (by kernel_rfl) (by kernel_rfl) (by kernel_rfl) (by kernel_rfl) (fun _ _ _ h => h) rfl ?_ q1 ?_
      rotate_left
      ·
       intro W hW
       go_simp
       (try with_reducible rfl)
      simp only [zpu, zsa, zsz, zss]
      refine fin_take 1 (v := ?_) rfl (by kernel_rfl) (by kernel_rfl) (by kernel_rfl) (by kernel_rfl) (fun _ _ _ h => h) rfl ?_ q1 ?_
      rotate_left
      ·
       intro W hW
       go_simp
       (try with_reducible rfl)
      simp only [zpu, zsa, zsz, zss]
      refine fin_take 2 (v := ?_) rfl (by kernel_rfl) (by kernel_rfl) (by kernel_rfl) (by kernel_rfl) (fun _ _ _ h => h) rfl ?_ q1 ?_
      rotate_left
      ·
       intro W hW
       go_simp
       (try with_reducible rfl)
      simp only [zpu, zsa, zsz, zss]
      refine fin_take 4 (v := ?_) rfl (by kernel_rfl) (by kernel_rfl) (by kernel_rfl) (by kernel_rfl) (fun _ _ _ h => h) rfl ?_ q1 ?_
      rotate_left
      ·
       intro W hW
       go_simp
       (try with_reducible rfl)
      simp only [zpu, zsa, zsz, zss]
      refine fin_take 5 (v := ?_) rfl (by kernel_rfl) (by kernel_rfl) (by kernel_rfl) (by kernel_rfl) (fun _ _ _ h => h) rfl ?_ q1 ?_
      rotate_left
      ·
       intro W hW
       go_simp
       (try with_reducible rfl)
      simp only [zpu, zsa, zsz, zss]
      refine fin_take 6 (v := ?_) rfl (by kernel_rfl) (by kernel_rfl) (by kernel_rfl) (by kernel_rfl) (fun _ _ _ h => h) rfl ?_ q1 ?_
      rotate_left
      ·
       intro W hW
       go_simp
       (try with_reducible rfl)
      simp only [zpu, zsa, zsz, zss]
      refine fin_one 3 rfl rfl (by kernel_rfl) (fun K hK => ?_)
      go_simp
      refine (hVa _).mono ?_
      rintro _ w12 ⟨rfl, k12'⟩
      have k12 : On W1 w12 := (On.refl W1).drew.trans k12'
      have q12 := hS _ k12
      refine hK.out _ _ (fun _ => q12) ?_
      clear hK
      refine fin_one 7 rfl rfl (by kernel_rfl) (fun K hK => ?_)
      go_simp
      refine (hVb _).mono ?_
      rintro _ w13 ⟨rfl, k13'⟩
      have k13 : On W1 w13 := k12.trans k13'
      have q13 := hS _ k13
      refine hK.out _ _ (fun _ => q13) ?_
      clear hK
      refine fin_take 8 (v := ?_) rfl (by kernel_rfl) (by kernel_rfl) (by kernel_rfl) (by kernel_rfl) (fun _ _ _ h => h) rfl ?_ q13 ?_
      rotate_left
      ·
       intro W hW
       go_simp
       (try with_reducible rfl)
      simp only [zpu, zsa, zsz, zss]
      refine fin_done (by kernel_rfl) (NoPanic.normal ?_)
      have C2 := C1.on k13
      have P2 := P1.on k13
      have Z2 := Z1.on k13
      have O2 := O1.trans k13
      have c0 := C2.at (i := 0) rfl
      have cf := fun i => C2.fr i
      have c2l := C2.lt
      go_wp2
      go_roundg (L.length - (n + 1))
      case measure => omega
      case rel => exact ⟨n + 1, r0, r1, r2, r3, rfl, O2.setNew (by omega) _, P2.far (by omega) _ _, C2.put (cs := [.int .i64 (n : Int), .int .i64 r0, .int .i64 r1, .int .i64 r2, .int .i64 r3]) 0 (.int .i64 ((n + 1 : Nat) : Int)), Z2.far (by omega) _ _, HS2⟩
     ·
      rw [hab] at HS1
      obtain ⟨m, hm⟩ : ∃ m : Nat, x.n = (m : Int) := ⟨x.n.toNat, by omega⟩
      have HS2 : Hid (R = locV (settleP L ⟨((n + m + 1 : Nat) : Int), r0, r1, r2, r3⟩)) := by
       show R = _
       rw [HS1.out, hm]
       unfold pcTo
       simp
      have hnm : n + m + 1 ≤ L.length := by omega
      have hlm : L.length ≤ 9223372036854775807 := hxm
      go_wp2
      have q1 := hS _ (On.refl W1).drew
      refine region_fin (fun W => W.cell? ⟨w.heap.size + 1, 0, none⟩ = some (.int .i64 (n : Int)) ∧ W.cell? ⟨w.heap.size + 1, 1, none⟩ = some (.int .i64 r0) ∧ W.cell? ⟨w.heap.size + 1, 2, none⟩ = some (.int .i64 r1) ∧ W.cell? ⟨w.heap.size + 1, 3, none⟩ = some (.int .i64 r2) ∧ W.cell? ⟨w.heap.size + 1, 4, none⟩ = some (.int .i64 r3) ∧ W.cell? ⟨wr.heap.size, 0, none⟩ = some (.int .i64 x.k) ∧ W.cell? ⟨wr.heap.size, 1, none⟩ = some (.int .i64 x.r) ∧ W.cell? ⟨wr.heap.size, 2, none⟩ = some (.int .i64 x.l) ∧ W.cell? ⟨wr.heap.size, 3, none⟩ = some (.int .i64 x.a.r) ∧ W.cell? ⟨wr.heap.size, 4, none⟩ = some (.int .i64 x.a.v) ∧ W.cell? ⟨wr.heap.size, 5, none⟩ = some (.int .i64 x.o) ∧ W.cell? ⟨wr.heap.size, 6, none⟩ = some (.int .i64 x.b.r) ∧ W.cell? ⟨wr.heap.size, 7, none⟩ = some (.int .i64 x.b.v) ∧ W.cell? ⟨wr.heap.size, 8, none⟩ = some (.int .i64 x.n)) 99 9 (by kernel_rfl) rfl ?_
      refine fin_take 0 (v := ?_) rfl (by kernel_rfl) (by kernel_rfl) (by kernel_rfl) (by kernel_rfl) (fun _ _ _ h => h) rfl ?_ q1 ?_
      rotate_left
      ·
       intro W hW
       go_simp
       (try with_reducible rfl)
      simp only [zpu, zsa, zsz, zss]
      refine fin_take 1 (v := ?_) rfl (by kernel_rfl) (by kernel_rfl) (by kernel_rfl) (by kernel_rfl) (fun _ _ _ h => h) rfl ?_ q1 ?_
      rotate_left
      ·
       intro W hW
       go_simp
       (try with_reducible rfl)
      simp only [zpu, zsa, zsz, zss]
      refine fin_take 2 (v := ?_) rfl (by kernel_rfl) (by kernel_rfl) (by kernel_rfl) (by kernel_rfl) (fun _ _ _ h => h) rfl ?_ q1 ?_
      rotate_left
      ·
       intro W hW
       go_simp
       (try with_reducible rfl)
      simp only [zpu, zsa, zsz, zss]
      refine fin_take 4 (v := ?_) rfl (by kernel_rfl) (by kernel_rfl) (by kernel_rfl) (by kernel_rfl) (fun _ _ _ h => h) rfl ?_ q1 ?_
      rotate_left
      ·
       intro W hW
       go_simp
       (try with_reducible rfl)
      simp only [zpu, zsa, zsz, zss]
      refine fin_take 5 (v := ?_) rfl (by kernel_rfl) (by kernel_rfl) (by kernel_rfl) (by kernel_rfl) (fun _ _ _ h => h) rfl ?_ q1 ?_
      rotate_left
      ·
       intro W hW
       go_simp
       (try with_reducible rfl)
      simp only [zpu, zsa, zsz, zss]
      refine fin_take 6 (v := ?_) rfl (by kernel_rfl) (by kernel_rfl) (by kernel_rfl) (by kernel_rfl) (fun _ _ _ h => h) rfl ?_ q1 ?_
      rotate_left
      ·
       intro W hW
       go_simp
       (try with_reducible rfl)
      simp only [zpu, zsa, zsz, zss]
      refine fin_one 3 rfl rfl (by kernel_rfl) (fun K hK => ?_)
      go_simp
      refine (hVa _).mono ?_
      rintro _ w12 ⟨rfl, k12'⟩
      have k12 : On W1 w12 := (On.refl W1).drew.trans k12'
      have q12 := hS _ k12
      refine hK.out _ _ (fun _ => q12) ?_
      clear hK
      refine fin_one 7 rfl rfl (by kernel_rfl) (fun K hK => ?_)
      go_simp
      refine (hVb _).mono ?_
      rintro _ w13 ⟨rfl, k13'⟩
      have k13 : On W1 w13 := k12.trans k13'
      have q13 := hS _ k13
      refine hK.out _ _ (fun _ => q13) ?_
      clear hK
      refine fin_take 8 (v := ?_) rfl (by kernel_rfl) (by kernel_rfl) (by kernel_rfl) (by kernel_rfl) (fun _ _ _ h => h) rfl ?_ q13 ?_
      rotate_left
      ·
       intro W hW
       go_simp
       (try with_reducible rfl)
      simp only [zpu, zsa, zsz, zss]
      refine fin_done (by kernel_rfl) (NoPanic.normal ?_)
      have C2 := C1.on k13
      have P2 := P1.on k13
      have Z2 := Z1.on k13
      have I2 := I1.on k13
      have O2 := O1.trans k13
      have c0 := C2.at (i := 0) rfl
      have i8 := I2.at (i := 8) rfl
      rw [hm] at i8
      have cf := fun i => C2.fr i
      have c2l := C2.lt
      have i2l := I2.lt
      clear hm hn0 hn1 q1 q12 q13 hS y0 y1 y2 y3 y4 y5 y6 y7 y8 y9 y10 y11 y12 y13
      go_wp2
      go_roundg (L.length - (n + m + 1))
      case measure => omega
      case rel => exact ⟨n + m + 1, r0, r1, r2, r3, rfl, (O2.setNew (by omega) _).setNew (by omega) _, (P2.far (by omega) _ _).far (by omega) _ _, Bk.put (cs := [.int .i64 ((n : Int) + (m : Int)), .int .i64 r0, .int .i64 r1, .int .i64 r2, .int .i64 r3]) (C2.put (cs := [.int .i64 (n : Int), .int .i64 r0, .int .i64 r1, .int .i64 r2, .int .i64 r3]) 0 (.int .i64 ((n : Int) + (m : Int)))) 0 (.int .i64 ((n + m + 1 : Nat) : Int)), (Z2.far (by omega) _ _).far (by omega) _ _, HS2⟩
    | false =>
     rw [h6] at hst
     simp only [Bool.false_eq_true, if_false] at hst
     obtain rfl : R = .agg #[.int .i64 (n : Int), .int .i64 r0, .int .i64 r1, .int .i64 r2, .int .i64 r3] := by rw [HS.out, hst]; rfl
     clear HS hst hok5 hok6
     have zf := fun i => Z1.fr i
     have z0 := Z1.at (i := 0) rfl
     have z1 := Z1.at (i := 1) rfl
     have z2 := Z1.at (i := 2) rfl
     have z3 := Z1.at (i := 3) rfl
     have z4 := Z1.at (i := 4) rfl
     go_wp2
     refine bodyPost_ret (v := .agg #[.int .i64 (n : Int), .int .i64 r0, .int .i64 r1, .int .i64 r2, .int .i64 r3]) ?_ rfl ⟨rfl, ?_⟩
     ·
      rw [results_cell rfl]
      go_simp
     ·
      repeat' (first | with_reducible refine On.setNew ?_ (by omega) _ | with_reducible exact O1)
  ·
   have e : settleP L ⟨(n : Int), r0, r1, r2, r3⟩ = ⟨(n : Int), r0, r1, r2, r3⟩ := settle_end (by simpa using hge)
   obtain rfl : R = .agg #[.int .i64 (n : Int), .int .i64 r0, .int .i64 r1, .int .i64 r2, .int .i64 r3] := by rw [HS.out, e]; rfl
   have hnn : ¬ n < L.length := by omega
   have P1 := PB.on (On.refl wr).drew
   have C1 := CB.on (On.refl wr).drew
   have Z1 := ZB.on (On.refl wr).drew
   have O1 : On w wr.drew := HO.out.drew
   have c1 := CB.at (i := 1) rfl
   have c2' := CB.at (i := 2) rfl
   have c3 := CB.at (i := 3) rfl
   have c4 := CB.at (i := 4) rfl
   have zf := fun i => ZB.fr i
   have z0 := ZB.at (i := 0) rfl
   have z1 := ZB.at (i := 1) rfl
   have z2 := ZB.at (i := 2) rfl
   have z3 := ZB.at (i := 3) rfl
   have z4 := ZB.at (i := 4) rfl
   go_wp2
   refine region_fin (fun W => W.cell? ⟨w.heap.size, 2, none⟩ = some (.slice (some ⟨ga, oa, none⟩) LL.length c) ∧ W.cell? ⟨w.heap.size + 1, 0, none⟩ = some (.int .i64 (n : Int)) ∧ W.cell? ⟨ga, oa + t, none⟩ = some (.slice ax L.length cx)) 99 9 (by kernel_rfl) rfl ?_
   refine fin_take 0 (v := ?_) rfl (by kernel_rfl) (by kernel_rfl) (by kernel_rfl) (by kernel_rfl) (fun _ _ _ h => h) rfl ?_ qS ?_
   rotate_left
   ·
    intro W hW
    go_simp
    (try with_reducible rfl)
   simp only [zpu, zsa, zsz, zss]
   refine fin_take 1 (v := ?_) rfl (by kernel_rfl) (by kernel_rfl) (by kernel_rfl) (by kernel_rfl) (fun _ _ _ h => h) rfl ?_ qS ?_
   rotate_left
   ·
    intro W hW
    go_simp
    (try with_reducible rfl)
   simp only [zpu, zsa, zsz, zss]
   refine fin_take 2 (v := ?_) rfl (by kernel_rfl) (by kernel_rfl) (by kernel_rfl) (by kernel_rfl) (fun _ _ _ h => h) rfl ?_ qS ?_
   rotate_left
   ·
    intro W hW
    go_simp
    (try with_reducible rfl)
   simp only [zpu, zsa, zsz, zss]
   refine fin_take 3 (v := ?_) rfl (by kernel_rfl) (by kernel_rfl) (by kernel_rfl) (by kernel_rfl) (fun _ _ _ h => h) rfl ?_ qS ?_
   rotate_left
   ·
    intro W hW
    go_simp
    (try with_reducible rfl)
   simp only [zpu, zsa, zsz, zss]
   refine fin_take 4 (v := ?_) rfl (by kernel_rfl) (by kernel_rfl) (by kernel_rfl) (by kernel_rfl) (fun _ _ _ h => h) rfl ?_ qS ?_
   rotate_left
   ·
    intro W hW
    go_simp
    (try with_reducible rfl)
   simp only [zpu, zsa, zsz, zss]
   refine fin_take 5 (v := ?_) rfl (by kernel_rfl) (by kernel_rfl) (by kernel_rfl) (by kernel_rfl) (fun _ _ _ h => h) rfl ?_ qS ?_
   rotate_left
   ·
    intro W hW
    go_simp
    (try with_reducible rfl)
   simp only [zpu, zsa, zsz, zss]
   refine fin_take 6 (v := ?_) rfl (by kernel_rfl) (by kernel_rfl) (by kernel_rfl) (by kernel_rfl) (fun _ _ _ h => h) rfl ?_ qS ?_
   rotate_left
   ·
    intro W hW
    go_simp
    (try with_reducible rfl)
   simp only [zpu, zsa, zsz, zss]
   refine fin_take 7 (v := ?_) rfl (by kernel_rfl) (by kernel_rfl) (by kernel_rfl) (by kernel_rfl) (fun _ _ _ h => h) rfl ?_ qS ?_
   rotate_left
   ·
    intro W hW
    go_simp
    (try with_reducible rfl)
   simp only [zpu, zsa, zsz, zss]
   refine fin_take 8 (v := ?_) rfl (by kernel_rfl) (by kernel_rfl) (by kernel_rfl) (by kernel_rfl) (fun _ _ _ h => h) rfl ?_ qS ?_
   rotate_left
   ·
    intro W hW
    go_simp
    (try with_reducible rfl)
   simp only [zpu, zsa, zsz, zss]
   refine fin_done (by kernel_rfl) (NoPanic.normal ?_)
   go_wp2
   refine bodyPost_ret (v := .agg #[.int .i64 (n : Int), .int .i64 r0, .int .i64 r1, .int .i64 r2, .int .i64 r3]) ?_ rfl ⟨rfl, ?_⟩
   ·
    rw [results_cell rfl]
    go_simp
   ·
    refine On.drew ?_
    repeat' (first | with_reducible refine On.setNew ?_ (by omega) _ | with_reducible exact HO.out)
end Go.Proofs.YtioiabfheeglgaaGreatDoor

namespace Go.Proofs.YtioiabfheeglgaaGreatDoor
open Go.RowKit

def thereB (LL : List (List InsT)) (t : Int) : Bool := decide (0 ≤ t) && decide (t < LL.length)
set_option maxHeartbeats 4000000 in
theorem there_is (LL : List (List InsT)) (t : Int) (v : Value) (w : World) (h : ProgRd w v LL) :
  Calls Tryz.prog 36 #[v, .int .i64 t] w fun e w' => e = .returned (.bool (thereB LL t)) ∧ On w w' := by
 obtain ⟨a1, m1, c1, a2, m2, c2, a, c, rfl, r⟩ := h
 obtain ⟨_, _, _, _, hmL⟩ := r.slice
 clear r
 unfold thereB
 by_cases h0 : 0 ≤ t
 ·
  by_cases h1 : t < LL.length
  ·
   rw [decide_eq_true h0, decide_eq_true h1]
   go_enter Tryz.func36, Tryz.ntmps36
   go_wp2
   go_ret
   exact ⟨rfl, (On.refl w).alloc _⟩
  ·
   rw [decide_eq_true h0, decide_eq_false h1]
   go_enter Tryz.func36, Tryz.ntmps36
   go_wp2
   go_ret
   exact ⟨rfl, (On.refl w).alloc _⟩
 ·
  rw [decide_eq_false h0]
  go_enter Tryz.func36, Tryz.ntmps36
  go_wp2
  go_ret
  exact ⟨rfl, (On.refl w).alloc _⟩
/-- What the walks ask of a thread's instructions. -/
def fineL (L : List InsT) : Prop := ∀ (i : Nat) (x : InsT), L[i]? = some x → ((x.k = 5 → regOk x.r = true) ∧ (x.k = 6 → 0 ≤ x.n ∧ x.n ≤ (L.length : Int) - i - 1)) ∧ ((x.k == 5 || x.k == 6) = !seenB x.k) ∧ ((x.k = 2 ∨ x.k = 4) → regOk x.r = true)
theorem there_none (LL : List (List InsT)) (t : Int) (hb : thereB LL t = false) : threadP LL t = [] := by
 unfold threadP
 split
 ·
  rename_i h0
  have h1 : ¬ t < LL.length := by
   unfold thereB at hb
   rw [decide_eq_true h0] at hb
   simpa using hb
  rw [List.getD_eq_getElem?_getD, List.getElem?_eq_none (by omega)]
  rfl
 ·
  rfl
theorem there_some (LL : List (List InsT)) (t : Int) (hb : thereB LL t = true) : ∃ (k : Nat) (L : List InsT), t = (k : Int) ∧ k < LL.length ∧ LL[k]? = some L ∧ threadP LL t = L ∧ L ∈ LL := by
 unfold thereB at hb
 simp only [Bool.and_eq_true, decide_eq_true_eq] at hb
 have hk : t.toNat < LL.length := by omega
 refine ⟨t.toNat, LL[t.toNat], by omega, hk, List.getElem?_eq_getElem hk, ?_, List.getElem_mem hk⟩
 unfold threadP
 rw [if_pos hb.1, List.getD_eq_getElem?_getD, List.getElem?_eq_getElem hk]
 rfl
set_option maxHeartbeats 4000000 in
set_option maxRecDepth 8000 in
theorem rstart_is (LL : List (List InsT)) (t : Int) (v : Value) (w : World) (h : ProgRd w v LL) (hf : ∀ L ∈ LL, fineL L) :
  Calls Tryz.prog 37 #[v, .int .i64 t] w fun e w' => e = .returned (locV (startP (threadP LL t))) ∧ On w w' := by
 have hT := fun W (k : On w W) => there_is LL t v W (h.on k)
 have hNo := fun (k : Nat) (L : List InsT) (hL : LL[k]? = some L) (hm : L ∈ LL) W (kk : On w W) => rnormal_is LL k L ⟨0, 0, 0, 0, 0⟩ v W (h.on kk) hL (by decide) (fun i x hx => (hf L hm i x hx).1)
 obtain ⟨a1, m1, c1, a2, m2, c2, a, c, rfl, r⟩ := h
 clear r
 have k0 : ∀ A B, On w ((w.alloc A).alloc B) := fun A B => ((On.refl w).alloc A).alloc B
 have bp : ∀ cs T B, Bk ((w.alloc (.cells cs T)).alloc B) w.heap.size cs := fun cs T B => (Bk.new w cs T).alloc B
 have bk : ∀ A cs T, Bk ((w.alloc A).alloc (.cells cs T)) (w.heap.size + 1) cs := fun A cs T => by have := Bk.new (w.alloc A) cs T; rwa [World.size_alloc] at this
 cases hb : thereB LL t with
 | false =>
  rw [hb] at hT
  rw [there_none LL t hb, show startP [] = ⟨0, 0, 0, 0, 0⟩ from rfl]
  unfold locV
  clear hb hNo
  go_enter Tryz.func37, Tryz.ntmps37
  go_wp2_with fail
  refine (hT _ (k0 _ _)).mono ?_
  rintro _ w1 ⟨rfl, k1⟩
  have B1 := (bk _ _ _).on k1
  have K1 : On w w1 := (k0 _ _).trans k1
  have zf := fun i => B1.fr i
  have z0 := B1.at (i := 0) rfl
  have z1 := B1.at (i := 1) rfl
  have z2 := B1.at (i := 2) rfl
  have z3 := B1.at (i := 3) rfl
  have z4 := B1.at (i := 4) rfl
  have zl := B1.lt
  clear hT k0 bp bk k1
  go_wp2
  refine bodyPost_ret (v := .agg #[.int .i64 0, .int .i64 0, .int .i64 0, .int .i64 0, .int .i64 0]) ?_ rfl ⟨rfl, ?_⟩
  ·
   rw [results_cell rfl]
   go_simp
  ·
   repeat' (first | with_reducible refine On.setNew ?_ (by omega) _ | with_reducible exact K1)
 | true =>
  rw [hb] at hT
  obtain ⟨k, L, rfl, hk, hL, e, hm⟩ := there_some LL t hb
  rw [e]
  unfold startP
  have hS := hNo k L hL hm
  obtain ⟨⟨q0, q1, q2, q3, q4⟩, hR⟩ : ∃ R, settleP L ⟨0, 0, 0, 0, 0⟩ = R := ⟨_, rfl⟩
  rw [hR] at hS ⊢
  unfold locV at hS ⊢
  clear hR hb e hNo
  go_enter Tryz.func37, Tryz.ntmps37
  go_wp2_with fail
  refine (hT _ (k0 _ _)).mono ?_
  rintro _ w1 ⟨rfl, k1⟩
  have P1 := (bp _ _ _).on k1
  have B1 := (bk _ _ _).on k1
  have K1 : On w w1 := (k0 _ _).trans k1
  have p0 := P1.at (i := 0) rfl
  have p1 := P1.at (i := 1) rfl
  have p2 := P1.at (i := 2) rfl
  have pl := P1.lt
  clear hT k0 bp bk k1
  go_wp2_with fail
  refine (hS _ K1).mono ?_
  rintro _ w2 ⟨rfl, k2⟩
  have B2 := B1.on k2
  have K2 := K1.trans k2
  have zf := fun i => B2.fr i
  have z0 := B2.at (i := 0) rfl
  have z1 := B2.at (i := 1) rfl
  have z2 := B2.at (i := 2) rfl
  have z3 := B2.at (i := 3) rfl
  have z4 := B2.at (i := 4) rfl
  have zl := B2.lt
  go_wp2
  refine bodyPost_ret (v := .agg #[.int .i64 q0, .int .i64 q1, .int .i64 q2, .int .i64 q3, .int .i64 q4]) ?_ rfl ⟨rfl, ?_⟩
  ·
   rw [results_cell rfl]
   go_simp
  ·
   repeat' (first | with_reducible refine On.setNew ?_ (by omega) _ | with_reducible exact K2)
set_option maxHeartbeats 8000000 in
set_option maxRecDepth 8000 in
theorem rnext_is (LL : List (List InsT)) (t : Int) (l : LocT) (v : Value) (w : World) (h : ProgRd w v LL) (hf : ∀ L ∈ LL, fineL L) :
  Calls Tryz.prog 32 #[v, .int .i64 t, locV l] w fun e w' => e = .returned (nextV (nextP (threadP LL t) l)) ∧ On w w' := by
 have hT := fun W (k : On w W) => there_is LL t v W (h.on k)
 obtain ⟨a1, m1, c1, a2, m2, c2, a, c, rfl, r⟩ := h
 obtain ⟨_, _, _, _, hmL⟩ := r.slice
 obtain ⟨pc, r0, r1, r2, r3⟩ := l
 unfold locV
 cases hb : thereB LL t with
 | false =>
  rw [hb] at hT
  have e : nextV (nextP (threadP LL t) ⟨pc, r0, r1, r2, r3⟩) = .tuple #[.agg #[.int .i64 0, .int .i64 0, .int .i64 0, .int .i64 0, .int .i64 0, .int .i64 0, .int .i64 0, .int .i64 0, .int .i64 0], .bool false] := by
   rw [there_none LL t hb]
   unfold nextP
   split <;> simp [nextV] <;> rfl
  rw [e]
  clear e hb hf r
  obtain ⟨W0, hW0⟩ : ∃ W0, W0 = ((w.alloc (.cells #[.slice a1 m1 c1, .slice a2 m2 c2, .slice a LL.length c] 27)).alloc (.cells #[.int .i64 pc, .int .i64 r0, .int .i64 r1, .int .i64 r2, .int .i64 r3] 73)).alloc (.cells #[.int .i64 0, .int .i64 0, .int .i64 0, .int .i64 0, .int .i64 0, .int .i64 0, .int .i64 0, .int .i64 0, .int .i64 0] 67) := ⟨_, rfl⟩
  have K0 : On w W0 := by rw [hW0]; exact (((On.refl w).alloc _).alloc _).alloc _
  have PB : Bk W0 w.heap.size #[.slice a1 m1 c1, .slice a2 m2 c2, .slice a LL.length c] := by rw [hW0]; exact ((Bk.new w _ _).alloc _).alloc _
  have CB : Bk W0 (w.heap.size + 1) #[.int .i64 pc, .int .i64 r0, .int .i64 r1, .int .i64 r2, .int .i64 r3] := by
   rw [hW0]
   have := (Bk.new (w.alloc (.cells #[.slice a1 m1 c1, .slice a2 m2 c2, .slice a LL.length c] 27)) #[.int .i64 pc, .int .i64 r0, .int .i64 r1, .int .i64 r2, .int .i64 r3] 73).alloc (.cells #[.int .i64 0, .int .i64 0, .int .i64 0, .int .i64 0, .int .i64 0, .int .i64 0, .int .i64 0, .int .i64 0, .int .i64 0] 67)
   rwa [World.size_alloc] at this
  have ZB : Bk W0 (w.heap.size + 1 + 1) #[.int .i64 0, .int .i64 0, .int .i64 0, .int .i64 0, .int .i64 0, .int .i64 0, .int .i64 0, .int .i64 0, .int .i64 0] := by
   rw [hW0]
   have := Bk.new ((w.alloc (.cells #[.slice a1 m1 c1, .slice a2 m2 c2, .slice a LL.length c] 27)).alloc (.cells #[.int .i64 pc, .int .i64 r0, .int .i64 r1, .int .i64 r2, .int .i64 r3] 73)) #[.int .i64 0, .int .i64 0, .int .i64 0, .int .i64 0, .int .i64 0, .int .i64 0, .int .i64 0, .int .i64 0, .int .i64 0] 67
   rwa [World.size_alloc, World.size_alloc] at this
  have hS : ∀ W, On W0 W → W.cell? ⟨w.heap.size, 0, none⟩ = some (.slice a1 m1 c1) ∧ W.cell? ⟨w.heap.size, 1, none⟩ = some (.slice a2 m2 c2) ∧ W.cell? ⟨w.heap.size, 2, none⟩ = some (.slice a LL.length c) ∧ W.cell? ⟨w.heap.size + 1, 0, none⟩ = some (.int .i64 pc) := fun W k' => ⟨(PB.on k').at (i := 0) rfl, (PB.on k').at (i := 1) rfl, (PB.on k').at (i := 2) rfl, (CB.on k').at (i := 0) rfl⟩
  have qS := hS _ (On.refl W0).drew
  have zl := ZB.lt
  go_enter Tryz.func32, Tryz.ntmps32
  go_wp2
  rw [← hW0]
  clear hW0
  refine region_fin (fun W => W.cell? ⟨w.heap.size, 0, none⟩ = some (.slice a1 m1 c1) ∧ W.cell? ⟨w.heap.size, 1, none⟩ = some (.slice a2 m2 c2) ∧ W.cell? ⟨w.heap.size, 2, none⟩ = some (.slice a LL.length c) ∧ W.cell? ⟨w.heap.size + 1, 0, none⟩ = some (.int .i64 pc)) 99 20 (by kernel_rfl) rfl ?_
  refine fin_take 0 (v := ?_) rfl (by kernel_rfl) (by kernel_rfl) (by kernel_rfl) (by kernel_rfl) (fun _ _ _ h => h) rfl ?_ qS ?_
  rotate_left
  ·
   intro W hW
   go_simp
   (try with_reducible rfl)
  simp only [zpu, zsa, zsz, zss]
  refine fin_take 1 (v := ?_) rfl (by kernel_rfl) (by kernel_rfl) (by kernel_rfl) (by kernel_rfl) (fun _ _ _ h => h) rfl ?_ qS ?_
  rotate_left
  ·
   intro W hW
   go_simp
   (try with_reducible rfl)
  simp only [zpu, zsa, zsz, zss]
  refine fin_one 2 rfl rfl (by kernel_rfl) (fun K hK => ?_)
  go_simp
  refine (hT _ K0.drew).mono ?_
  rintro _ w1 ⟨rfl, k1'⟩
  have k1 : On W0 w1 := (On.refl W0).drew.trans k1'
  have q1 := hS _ k1
  refine hK.out _ _ (fun _ => q1) ?_
  clear hK
  refine fin_take 3 (v := ?_) rfl (by kernel_rfl) (by kernel_rfl) (by kernel_rfl) (by kernel_rfl) (fun _ _ _ h => h) rfl ?_ q1 ?_
  rotate_left
  ·
   intro W hW
   go_simp
   (try with_reducible rfl)
  simp only [zpu, zsa, zsz, zss]
  refine fin_take 4 (v := ?_) rfl (by kernel_rfl) (by kernel_rfl) (by kernel_rfl) (by kernel_rfl) (fun _ _ _ h => h) rfl ?_ q1 ?_
  rotate_left
  ·
   intro W hW
   go_simp
   (try with_reducible rfl)
  simp only [zpu, zsa, zsz, zss]
  refine fin_takeN 5 rfl (by kernel_rfl) (by kernel_rfl) (by kernel_rfl) (by kernel_rfl) (fun _ _ _ h => h) (by rfl) q1 ?_
  simp only [zpu, zsa, zsz, zss]
  refine fin_takeN 6 rfl (by kernel_rfl) (by kernel_rfl) (by kernel_rfl) (by kernel_rfl) (fun _ _ _ h => h) (by rfl) q1 ?_
  simp only [zpu, zsa, zsz, zss]
  refine fin_takeN 7 rfl (by kernel_rfl) (by kernel_rfl) (by kernel_rfl) (by kernel_rfl) (fun _ _ _ h => h) (by rfl) q1 ?_
  simp only [zpu, zsa, zsz, zss]
  refine fin_take 8 (v := ?_) rfl (by kernel_rfl) (by kernel_rfl) (by kernel_rfl) (by kernel_rfl) (fun _ _ _ h => h) rfl ?_ q1 ?_
  rotate_left
  ·
   intro W hW
   go_simp
   (try with_reducible rfl)
  simp only [zpu, zsa, zsz, zss]
  refine fin_take 9 (v := ?_) rfl (by kernel_rfl) (by kernel_rfl) (by kernel_rfl) (by kernel_rfl) (fun _ _ _ h => h) rfl ?_ q1 ?_
  rotate_left
  ·
   intro W hW
   go_simp
   (try with_reducible rfl)
  simp only [zpu, zsa, zsz, zss]
  refine fin_takeN 10 rfl (by kernel_rfl) (by kernel_rfl) (by kernel_rfl) (by kernel_rfl) (fun _ _ _ h => h) (by rfl) q1 ?_
  simp only [zpu, zsa, zsz, zss]
  refine fin_takeN 11 rfl (by kernel_rfl) (by kernel_rfl) (by kernel_rfl) (by kernel_rfl) (fun _ _ _ h => h) (by rfl) q1 ?_
  simp only [zpu, zsa, zsz, zss]
  refine fin_takeN 12 rfl (by kernel_rfl) (by kernel_rfl) (by kernel_rfl) (by kernel_rfl) (fun _ _ _ h => h) (by rfl) q1 ?_
  simp only [zpu, zsa, zsz, zss]
  refine fin_takeN 13 rfl (by kernel_rfl) (by kernel_rfl) (by kernel_rfl) (by kernel_rfl) (fun _ _ _ h => h) (by rfl) q1 ?_
  simp only [zpu, zsa, zsz, zss]
  refine fin_takeN 14 rfl (by kernel_rfl) (by kernel_rfl) (by kernel_rfl) (by kernel_rfl) (fun _ _ _ h => h) (by rfl) q1 ?_
  simp only [zpu, zsa, zsz, zss]
  refine fin_takeN 15 rfl (by kernel_rfl) (by kernel_rfl) (by kernel_rfl) (by kernel_rfl) (fun _ _ _ h => h) (by rfl) q1 ?_
  simp only [zpu, zsa, zsz, zss]
  refine fin_takeN 16 rfl (by kernel_rfl) (by kernel_rfl) (by kernel_rfl) (by kernel_rfl) (fun _ _ _ h => h) (by rfl) q1 ?_
  simp only [zpu, zsa, zsz, zss]
  refine fin_takeN 17 rfl (by kernel_rfl) (by kernel_rfl) (by kernel_rfl) (by kernel_rfl) (fun _ _ _ h => h) (by rfl) q1 ?_
  simp only [zpu, zsa, zsz, zss]
  refine fin_takeN 18 rfl (by kernel_rfl) (by kernel_rfl) (by kernel_rfl) (by kernel_rfl) (fun _ _ _ h => h) (by rfl) q1 ?_
  simp only [zpu, zsa, zsz, zss]
  refine fin_take 19 (v := ?_) rfl (by kernel_rfl) (by kernel_rfl) (by kernel_rfl) (by kernel_rfl) (fun _ _ _ h => h) rfl ?_ q1 ?_
  rotate_left
  ·
   intro W hW
   go_simp
   (try with_reducible rfl)
  simp only [zpu, zsa, zsz, zss]
  refine fin_done (by kernel_rfl) (NoPanic.normal ?_)
  have O1 : On w w1 := K0.trans k1
  have Z1 := ZB.on k1
  have zf := fun i => Z1.fr i
  have z0 := Z1.at (i := 0) rfl
  have z1 := Z1.at (i := 1) rfl
  have z2 := Z1.at (i := 2) rfl
  have z3 := Z1.at (i := 3) rfl
  have z4 := Z1.at (i := 4) rfl
  have z5 := Z1.at (i := 5) rfl
  have z6 := Z1.at (i := 6) rfl
  have z7 := Z1.at (i := 7) rfl
  have z8 := Z1.at (i := 8) rfl
  have zzl := Z1.lt
  go_wp2
  refine bodyPost_ret (v := .tuple #[.agg #[.int .i64 0, .int .i64 0, .int .i64 0, .int .i64 0, .int .i64 0, .int .i64 0, .int .i64 0, .int .i64 0, .int .i64 0], .bool false]) ?_ rfl ⟨rfl, ?_⟩
  ·
   rw [results_cell_slot rfl]
   go_simp
  ·
   (try with_reducible refine On.drew ?_)
   repeat' (first | with_reducible refine On.setNew ?_ (by omega) _ | with_reducible exact O1 | with_reducible refine On.alloc ?_ _ | with_reducible refine On.drew ?_)
 | true =>
  rw [hb] at hT
  obtain ⟨k, L, rfl, hk, hL, e, hm⟩ := there_some LL t hb
  rw [e]
  have hfl := hf L hm
  clear hb e hf
  obtain ⟨ga, oa, rfl, hga, ax, cx, uax, hxm, rx⟩ := r.row hL
  clear r
  by_cases hneg : pc < 0
  ·
   have e : nextV (nextP L ⟨pc, r0, r1, r2, r3⟩) = .tuple #[.agg #[.int .i64 0, .int .i64 0, .int .i64 0, .int .i64 0, .int .i64 0, .int .i64 0, .int .i64 0, .int .i64 0, .int .i64 0], .bool false] := by
    unfold nextP
    rw [if_neg (by show ¬ 0 ≤ pc; omega)]
    rfl
   rw [e]
   clear e
   obtain ⟨a, ha⟩ : ∃ a : Option Addr, a = some ⟨ga, oa, none⟩ := ⟨_, rfl⟩
   rw [← ha] at hT ⊢
   clear ha uax rx hga
   obtain ⟨W0, hW0⟩ : ∃ W0, W0 = ((w.alloc (.cells #[.slice a1 m1 c1, .slice a2 m2 c2, .slice a LL.length c] 27)).alloc (.cells #[.int .i64 pc, .int .i64 r0, .int .i64 r1, .int .i64 r2, .int .i64 r3] 73)).alloc (.cells #[.int .i64 0, .int .i64 0, .int .i64 0, .int .i64 0, .int .i64 0, .int .i64 0, .int .i64 0, .int .i64 0, .int .i64 0] 67) := ⟨_, rfl⟩
   have K0 : On w W0 := by rw [hW0]; exact (((On.refl w).alloc _).alloc _).alloc _
   have PB : Bk W0 w.heap.size #[.slice a1 m1 c1, .slice a2 m2 c2, .slice a LL.length c] := by rw [hW0]; exact ((Bk.new w _ _).alloc _).alloc _
   have CB : Bk W0 (w.heap.size + 1) #[.int .i64 pc, .int .i64 r0, .int .i64 r1, .int .i64 r2, .int .i64 r3] := by
    rw [hW0]
    have := (Bk.new (w.alloc (.cells #[.slice a1 m1 c1, .slice a2 m2 c2, .slice a LL.length c] 27)) #[.int .i64 pc, .int .i64 r0, .int .i64 r1, .int .i64 r2, .int .i64 r3] 73).alloc (.cells #[.int .i64 0, .int .i64 0, .int .i64 0, .int .i64 0, .int .i64 0, .int .i64 0, .int .i64 0, .int .i64 0, .int .i64 0] 67)
    rwa [World.size_alloc] at this
   have ZB : Bk W0 (w.heap.size + 1 + 1) #[.int .i64 0, .int .i64 0, .int .i64 0, .int .i64 0, .int .i64 0, .int .i64 0, .int .i64 0, .int .i64 0, .int .i64 0] := by
    rw [hW0]
    have := Bk.new ((w.alloc (.cells #[.slice a1 m1 c1, .slice a2 m2 c2, .slice a LL.length c] 27)).alloc (.cells #[.int .i64 pc, .int .i64 r0, .int .i64 r1, .int .i64 r2, .int .i64 r3] 73)) #[.int .i64 0, .int .i64 0, .int .i64 0, .int .i64 0, .int .i64 0, .int .i64 0, .int .i64 0, .int .i64 0, .int .i64 0] 67
    rwa [World.size_alloc, World.size_alloc] at this
   have hS : ∀ W, On W0 W → W.cell? ⟨w.heap.size, 0, none⟩ = some (.slice a1 m1 c1) ∧ W.cell? ⟨w.heap.size, 1, none⟩ = some (.slice a2 m2 c2) ∧ W.cell? ⟨w.heap.size, 2, none⟩ = some (.slice a LL.length c) ∧ W.cell? ⟨w.heap.size + 1, 0, none⟩ = some (.int .i64 pc) := fun W k' => ⟨(PB.on k').at (i := 0) rfl, (PB.on k').at (i := 1) rfl, (PB.on k').at (i := 2) rfl, (CB.on k').at (i := 0) rfl⟩
   have qS := hS _ (On.refl W0).drew
   have zl := ZB.lt
   go_enter Tryz.func32, Tryz.ntmps32
   go_wp2
   rw [← hW0]
   clear hW0
   refine region_fin (fun W => W.cell? ⟨w.heap.size, 0, none⟩ = some (.slice a1 m1 c1) ∧ W.cell? ⟨w.heap.size, 1, none⟩ = some (.slice a2 m2 c2) ∧ W.cell? ⟨w.heap.size, 2, none⟩ = some (.slice a LL.length c) ∧ W.cell? ⟨w.heap.size + 1, 0, none⟩ = some (.int .i64 pc)) 99 20 (by kernel_rfl) rfl ?_
   refine fin_take 0 (v := ?_) rfl (by kernel_rfl) (by kernel_rfl) (by kernel_rfl) (by kernel_rfl) (fun _ _ _ h => h) rfl ?_ qS ?_
   rotate_left
   ·
    intro W hW
    go_simp
    (try with_reducible rfl)
   simp only [zpu, zsa, zsz, zss]
   refine fin_take 1 (v := ?_) rfl (by kernel_rfl) (by kernel_rfl) (by kernel_rfl) (by kernel_rfl) (fun _ _ _ h => h) rfl ?_ qS ?_
   rotate_left
   ·
    intro W hW
    go_simp
    (try with_reducible rfl)
   simp only [zpu, zsa, zsz, zss]
   refine fin_one 2 rfl rfl (by kernel_rfl) (fun K hK => ?_)
   go_simp
   refine (hT _ K0.drew).mono ?_
   rintro _ w1 ⟨rfl, k1'⟩
   have k1 : On W0 w1 := (On.refl W0).drew.trans k1'
   have q1 := hS _ k1
   refine hK.out _ _ (fun _ => q1) ?_
   clear hK
   refine fin_take 3 (v := ?_) rfl (by kernel_rfl) (by kernel_rfl) (by kernel_rfl) (by kernel_rfl) (fun _ _ _ h => h) rfl ?_ q1 ?_
   rotate_left
   ·
    intro W hW
    go_simp
    (try with_reducible rfl)
   simp only [zpu, zsa, zsz, zss]
   refine fin_take 4 (v := ?_) rfl (by kernel_rfl) (by kernel_rfl) (by kernel_rfl) (by kernel_rfl) (fun _ _ _ h => h) rfl ?_ q1 ?_
   rotate_left
   ·
    intro W hW
    go_simp
    (try with_reducible rfl)
   simp only [zpu, zsa, zsz, zss]
   refine fin_takeG 5 (v := ?_) rfl (by kernel_rfl) (by kernel_rfl) (by kernel_rfl) (by kernel_rfl) (fun _ _ _ h => h) (by rfl) ?_ q1 ?_
   rotate_left
   ·
    intro W hW
    go_simp
    (try with_reducible rfl)
   simp only [zpu, zsa, zsz, zss]
   refine fin_takeG 6 (v := ?_) rfl (by kernel_rfl) (by kernel_rfl) (by kernel_rfl) (by kernel_rfl) (fun _ _ _ h => h) (by rfl) ?_ q1 ?_
   rotate_left
   ·
    intro W hW
    go_simp
    (try with_reducible rfl)
   simp only [zpu, zsa, zsz, zss]
   refine fin_takeG 7 (v := ?_) rfl (by kernel_rfl) (by kernel_rfl) (by kernel_rfl) (by kernel_rfl) (fun _ _ _ h => h) (by rfl) ?_ q1 ?_
   rotate_left
   ·
    intro W hW
    go_simp
    (try with_reducible rfl)
   simp only [zpu, zsa, zsz, zss]
   refine fin_take 8 (v := ?_) rfl (by kernel_rfl) (by kernel_rfl) (by kernel_rfl) (by kernel_rfl) (fun _ _ _ h => h) rfl ?_ q1 ?_
   rotate_left
   ·
    intro W hW
    go_simp
    (try with_reducible rfl)
   simp only [zpu, zsa, zsz, zss]
   refine fin_take 9 (v := ?_) rfl (by kernel_rfl) (by kernel_rfl) (by kernel_rfl) (by kernel_rfl) (fun _ _ _ h => h) rfl ?_ q1 ?_
   rotate_left
   ·
    intro W hW
    go_simp
    (try with_reducible rfl)
   simp only [zpu, zsa, zsz, zss]
   refine fin_takeN 10 rfl (by kernel_rfl) (by kernel_rfl) (by kernel_rfl) (by kernel_rfl) (fun _ _ _ h => h) (by rfl) q1 ?_
   simp only [zpu, zsa, zsz, zss]
   refine fin_takeN 11 rfl (by kernel_rfl) (by kernel_rfl) (by kernel_rfl) (by kernel_rfl) (fun _ _ _ h => h) (by rfl) q1 ?_
   simp only [zpu, zsa, zsz, zss]
   refine fin_takeN 12 rfl (by kernel_rfl) (by kernel_rfl) (by kernel_rfl) (by kernel_rfl) (fun _ _ _ h => h) (by rfl) q1 ?_
   simp only [zpu, zsa, zsz, zss]
   refine fin_takeN 13 rfl (by kernel_rfl) (by kernel_rfl) (by kernel_rfl) (by kernel_rfl) (fun _ _ _ h => h) (by rfl) q1 ?_
   simp only [zpu, zsa, zsz, zss]
   refine fin_takeN 14 rfl (by kernel_rfl) (by kernel_rfl) (by kernel_rfl) (by kernel_rfl) (fun _ _ _ h => h) (by rfl) q1 ?_
   simp only [zpu, zsa, zsz, zss]
   refine fin_takeN 15 rfl (by kernel_rfl) (by kernel_rfl) (by kernel_rfl) (by kernel_rfl) (fun _ _ _ h => h) (by rfl) q1 ?_
   simp only [zpu, zsa, zsz, zss]
   refine fin_takeN 16 rfl (by kernel_rfl) (by kernel_rfl) (by kernel_rfl) (by kernel_rfl) (fun _ _ _ h => h) (by rfl) q1 ?_
   simp only [zpu, zsa, zsz, zss]
   refine fin_takeN 17 rfl (by kernel_rfl) (by kernel_rfl) (by kernel_rfl) (by kernel_rfl) (fun _ _ _ h => h) (by rfl) q1 ?_
   simp only [zpu, zsa, zsz, zss]
   refine fin_takeN 18 rfl (by kernel_rfl) (by kernel_rfl) (by kernel_rfl) (by kernel_rfl) (fun _ _ _ h => h) (by rfl) q1 ?_
   simp only [zpu, zsa, zsz, zss]
   refine fin_take 19 (v := ?_) rfl (by kernel_rfl) (by kernel_rfl) (by kernel_rfl) (by kernel_rfl) (fun _ _ _ h => h) rfl ?_ q1 ?_
   rotate_left
   ·
    intro W hW
    go_simp
    (try with_reducible rfl)
   simp only [zpu, zsa, zsz, zss]
   refine fin_done (by kernel_rfl) (NoPanic.normal ?_)
   have O1 : On w w1 := K0.trans k1
   have Z1 := ZB.on k1
   have zf := fun i => Z1.fr i
   have z0 := Z1.at (i := 0) rfl
   have z1 := Z1.at (i := 1) rfl
   have z2 := Z1.at (i := 2) rfl
   have z3 := Z1.at (i := 3) rfl
   have z4 := Z1.at (i := 4) rfl
   have z5 := Z1.at (i := 5) rfl
   have z6 := Z1.at (i := 6) rfl
   have z7 := Z1.at (i := 7) rfl
   have z8 := Z1.at (i := 8) rfl
   have zzl := Z1.lt
   go_wp2
   refine bodyPost_ret (v := .tuple #[.agg #[.int .i64 0, .int .i64 0, .int .i64 0, .int .i64 0, .int .i64 0, .int .i64 0, .int .i64 0, .int .i64 0, .int .i64 0], .bool false]) ?_ rfl ⟨rfl, ?_⟩
   ·
    rw [results_cell_slot rfl]
    go_simp
   ·
    (try with_reducible refine On.drew ?_)
    repeat' (first | with_reducible refine On.setNew ?_ (by omega) _ | with_reducible exact O1 | with_reducible refine On.alloc ?_ _ | with_reducible refine On.drew ?_)
  ·
   obtain ⟨n, rfl⟩ : ∃ n : Nat, pc = (n : Int) := ⟨pc.toNat, by omega⟩
   clear hneg
   rcases Nat.lt_or_ge n L.length with hlt | hge
   ·
    obtain ⟨x, hx⟩ : ∃ x, L[n]? = some x := ⟨_, List.getElem?_eq_getElem hlt⟩
    have hkx := (hfl n x hx).2.1
    obtain ⟨gx, ox, rfl, hgx, hcell⟩ := rx.at hx
    cases hs : seenB x.k with
    | true =>
     have e : nextV (nextP L ⟨(n : Int), r0, r1, r2, r3⟩) = .tuple #[.agg #[.int .i64 x.k, .int .i64 x.r, .int .i64 x.l, .int .i64 x.a.r, .int .i64 x.a.v, .int .i64 x.o, .int .i64 x.b.r, .int .i64 x.b.v, .int .i64 x.n], .bool true] := by
      unfold nextP
      rw [if_pos (Int.natCast_nonneg n)]
      simp only [Int.toNat_natCast, hx, hs]
      rfl
     rw [e]
     rw [hs] at hkx
     have hk5 : (x.k == 5) = false := by revert hkx; cases (x.k == 5) <;> simp
     have hk6 : (x.k == 6) = false := by revert hkx; cases (x.k == 6) <;> simp
     clear e hx hkx hs hfl rx
     obtain ⟨W0, hW0⟩ : ∃ W0, W0 = ((w.alloc (.cells #[.slice a1 m1 c1, .slice a2 m2 c2, .slice (some ⟨ga, oa, none⟩) LL.length c] 27)).alloc (.cells #[.int .i64 (n : Int), .int .i64 r0, .int .i64 r1, .int .i64 r2, .int .i64 r3] 73)).alloc (.cells #[.int .i64 0, .int .i64 0, .int .i64 0, .int .i64 0, .int .i64 0, .int .i64 0, .int .i64 0, .int .i64 0, .int .i64 0] 67) := ⟨_, rfl⟩
     have K0 : On w W0 := by rw [hW0]; exact (((On.refl w).alloc _).alloc _).alloc _
     have PB : Bk W0 w.heap.size #[.slice a1 m1 c1, .slice a2 m2 c2, .slice (some ⟨ga, oa, none⟩) LL.length c] := by rw [hW0]; exact ((Bk.new w _ _).alloc _).alloc _
     have CB : Bk W0 (w.heap.size + 1) #[.int .i64 (n : Int), .int .i64 r0, .int .i64 r1, .int .i64 r2, .int .i64 r3] := by
      rw [hW0]
      have := (Bk.new (w.alloc (.cells #[.slice a1 m1 c1, .slice a2 m2 c2, .slice (some ⟨ga, oa, none⟩) LL.length c] 27)) #[.int .i64 (n : Int), .int .i64 r0, .int .i64 r1, .int .i64 r2, .int .i64 r3] 73).alloc (.cells #[.int .i64 0, .int .i64 0, .int .i64 0, .int .i64 0, .int .i64 0, .int .i64 0, .int .i64 0, .int .i64 0, .int .i64 0] 67)
      rwa [World.size_alloc] at this
     have ZB : Bk W0 (w.heap.size + 1 + 1) #[.int .i64 0, .int .i64 0, .int .i64 0, .int .i64 0, .int .i64 0, .int .i64 0, .int .i64 0, .int .i64 0, .int .i64 0] := by
      rw [hW0]
      have := Bk.new ((w.alloc (.cells #[.slice a1 m1 c1, .slice a2 m2 c2, .slice (some ⟨ga, oa, none⟩) LL.length c] 27)).alloc (.cells #[.int .i64 (n : Int), .int .i64 r0, .int .i64 r1, .int .i64 r2, .int .i64 r3] 73)) #[.int .i64 0, .int .i64 0, .int .i64 0, .int .i64 0, .int .i64 0, .int .i64 0, .int .i64 0, .int .i64 0, .int .i64 0] 67
      rwa [World.size_alloc, World.size_alloc] at this
     have uaxW := (K0.cell (p := ⟨ga, oa + k, none⟩) hga).trans uax
     have hgaW : ga < W0.heap.size := Nat.lt_of_lt_of_le hga K0.size
     have hS : ∀ W, On W0 W → W.cell? ⟨w.heap.size, 0, none⟩ = some (.slice a1 m1 c1) ∧ W.cell? ⟨w.heap.size, 1, none⟩ = some (.slice a2 m2 c2) ∧ W.cell? ⟨w.heap.size, 2, none⟩ = some (.slice (some ⟨ga, oa, none⟩) LL.length c) ∧ W.cell? ⟨w.heap.size + 1, 0, none⟩ = some (.int .i64 (n : Int)) ∧ W.cell? ⟨ga, oa + k, none⟩ = some (.slice (some ⟨gx, ox, none⟩) L.length cx) := fun W k' => ⟨(PB.on k').at (i := 0) rfl, (PB.on k').at (i := 1) rfl, (PB.on k').at (i := 2) rfl, (CB.on k').at (i := 0) rfl, (k'.cell (p := ⟨ga, oa + k, none⟩) hgaW).trans uaxW⟩
     have qS := hS _ (On.refl W0).drew
     have zl := ZB.lt
     go_enter Tryz.func32, Tryz.ntmps32
     go_wp2
     rw [← hW0]
     clear hW0
     refine region_fin (fun W => W.cell? ⟨w.heap.size, 0, none⟩ = some (.slice a1 m1 c1) ∧ W.cell? ⟨w.heap.size, 1, none⟩ = some (.slice a2 m2 c2) ∧ W.cell? ⟨w.heap.size, 2, none⟩ = some (.slice (some ⟨ga, oa, none⟩) LL.length c) ∧ W.cell? ⟨w.heap.size + 1, 0, none⟩ = some (.int .i64 (n : Int)) ∧ W.cell? ⟨ga, oa + k, none⟩ = some (.slice (some ⟨gx, ox, none⟩) L.length cx)) 99 20 (by kernel_rfl) rfl ?_
     refine fin_take 0 (v := ?_) rfl (by kernel_rfl) (by kernel_rfl) (by kernel_rfl) (by kernel_rfl) (fun _ _ _ h => h) rfl ?_ qS ?_
     rotate_left
     ·
      intro W hW
      go_simp
      (try with_reducible rfl)
     simp only [zpu, zsa, zsz, zss]
     refine fin_take 1 (v := ?_) rfl (by kernel_rfl) (by kernel_rfl) (by kernel_rfl) (by kernel_rfl) (fun _ _ _ h => h) rfl ?_ qS ?_
     rotate_left
     ·
      intro W hW
      go_simp
      (try with_reducible rfl)
     simp only [zpu, zsa, zsz, zss]
     refine fin_one 2 rfl rfl (by kernel_rfl) (fun K hK => ?_)
     go_simp
     refine (hT _ K0.drew).mono ?_
     rintro _ w1 ⟨rfl, k1'⟩
     have k1 : On W0 w1 := (On.refl W0).drew.trans k1'
     have q1 := hS _ k1
     refine hK.out _ _ (fun _ => q1) ?_
     clear hK
     refine fin_take 3 (v := ?_) rfl (by kernel_rfl) (by kernel_rfl) (by kernel_rfl) (by kernel_rfl) (fun _ _ _ h => h) rfl ?_ q1 ?_
     rotate_left
     ·
      intro W hW
      go_simp
      (try with_reducible rfl)
     simp only [zpu, zsa, zsz, zss]
     refine fin_take 4 (v := ?_) rfl (by kernel_rfl) (by kernel_rfl) (by kernel_rfl) (by kernel_rfl) (fun _ _ _ h => h) rfl ?_ q1 ?_
     rotate_left
     ·
      intro W hW
      go_simp
      (try with_reducible rfl)
     simp only [zpu, zsa, zsz, zss]
     refine fin_takeG 5 (v := ?_) rfl (by kernel_rfl) (by kernel_rfl) (by kernel_rfl) (by kernel_rfl) (fun _ _ _ h => h) (by rfl) ?_ q1 ?_
     rotate_left
     ·
      intro W hW
      go_simp
      (try with_reducible rfl)
     simp only [zpu, zsa, zsz, zss]
     refine fin_takeG 6 (v := ?_) rfl (by kernel_rfl) (by kernel_rfl) (by kernel_rfl) (by kernel_rfl) (fun _ _ _ h => h) (by rfl) ?_ q1 ?_
     rotate_left
     ·
      intro W hW
      go_simp
      (try with_reducible rfl)
     simp only [zpu, zsa, zsz, zss]
     refine fin_takeG 7 (v := ?_) rfl (by kernel_rfl) (by kernel_rfl) (by kernel_rfl) (by kernel_rfl) (fun _ _ _ h => h) (by rfl) ?_ q1 ?_
     rotate_left
     ·
      intro W hW
      go_simp
      (try with_reducible rfl)
     simp only [zpu, zsa, zsz, zss]
     refine fin_take 8 (v := ?_) rfl (by kernel_rfl) (by kernel_rfl) (by kernel_rfl) (by kernel_rfl) (fun _ _ _ h => h) rfl ?_ q1 ?_
     rotate_left
     ·
      intro W hW
      go_simp
      (try with_reducible rfl)
     simp only [zpu, zsa, zsz, zss]
     refine fin_take 9 (v := ?_) rfl (by kernel_rfl) (by kernel_rfl) (by kernel_rfl) (by kernel_rfl) (fun _ _ _ h => h) rfl ?_ q1 ?_
     rotate_left
     ·
      intro W hW
      go_simp
      (try with_reducible rfl)
     simp only [zpu, zsa, zsz, zss]
     refine fin_takeG 10 (v := ?_) rfl (by kernel_rfl) (by kernel_rfl) (by kernel_rfl) (by kernel_rfl) (fun _ _ _ h => h) (by rfl) ?_ q1 ?_
     rotate_left
     ·
      intro W hW
      go_simp
      (try with_reducible rfl)
     simp only [zpu, zsa, zsz, zss]
     refine fin_takeG 11 (v := ?_) rfl (by kernel_rfl) (by kernel_rfl) (by kernel_rfl) (by kernel_rfl) (fun _ _ _ h => h) (by rfl) ?_ q1 ?_
     rotate_left
     ·
      intro W hW
      go_simp
      (try with_reducible rfl)
     simp only [zpu, zsa, zsz, zss]
     refine fin_takeG 12 (v := ?_) rfl (by kernel_rfl) (by kernel_rfl) (by kernel_rfl) (by kernel_rfl) (fun _ _ _ h => h) (by rfl) ?_ q1 ?_
     rotate_left
     ·
      intro W hW
      go_simp
      (try with_reducible rfl)
     simp only [zpu, zsa, zsz, zss]
     refine fin_takeG 13 (v := ?_) rfl (by kernel_rfl) (by kernel_rfl) (by kernel_rfl) (by kernel_rfl) (fun _ _ _ h => h) (by rfl) ?_ q1 ?_
     rotate_left
     ·
      intro W hW
      go_simp
      (try with_reducible rfl)
     simp only [zpu, zsa, zsz, zss]
     refine fin_takeG 14 (v := ?_) rfl (by kernel_rfl) (by kernel_rfl) (by kernel_rfl) (by kernel_rfl) (fun _ _ _ h => h) (by rfl) ?_ q1 ?_
     rotate_left
     ·
      intro W hW
      go_simp
      (try with_reducible rfl)
     simp only [zpu, zsa, zsz, zss]
     refine fin_takeG 15 (v := ?_) rfl (by kernel_rfl) (by kernel_rfl) (by kernel_rfl) (by kernel_rfl) (fun _ _ _ h => h) (by rfl) ?_ q1 ?_
     rotate_left
     ·
      intro W hW
      go_simp
      (try with_reducible rfl)
     simp only [zpu, zsa, zsz, zss]
     refine fin_takeG 16 (v := ?_) rfl (by kernel_rfl) (by kernel_rfl) (by kernel_rfl) (by kernel_rfl) (fun _ _ _ h => h) (by rfl) ?_ q1 ?_
     rotate_left
     ·
      intro W hW
      go_simp
      (try with_reducible rfl)
     simp only [zpu, zsa, zsz, zss]
     refine fin_takeG 17 (v := ?_) rfl (by kernel_rfl) (by kernel_rfl) (by kernel_rfl) (by kernel_rfl) (fun _ _ _ h => h) (by rfl) ?_ q1 ?_
     rotate_left
     ·
      intro W hW
      go_simp
      (try with_reducible rfl)
     simp only [zpu, zsa, zsz, zss]
     refine fin_takeG 18 (v := ?_) rfl (by kernel_rfl) (by kernel_rfl) (by kernel_rfl) (by kernel_rfl) (fun _ _ _ h => h) (by rfl) ?_ q1 ?_
     rotate_left
     ·
      intro W hW
      go_simp
      (try with_reducible rfl)
     simp only [zpu, zsa, zsz, zss]
     refine fin_take 19 (v := ?_) rfl (by kernel_rfl) (by kernel_rfl) (by kernel_rfl) (by kernel_rfl) (fun _ _ _ h => h) rfl ?_ q1 ?_
     rotate_left
     ·
      intro W hW
      go_simp
      (try with_reducible rfl)
     simp only [zpu, zsa, zsz, zss]
     refine fin_done (by kernel_rfl) (NoPanic.normal ?_)
     have O1 : On w w1 := K0.trans k1
     have Z1 := ZB.on k1
     have qI : ∀ W, On w1 W → W.cell? ⟨w.heap.size, 0, none⟩ = some (.slice a1 m1 c1) ∧ W.cell? ⟨w.heap.size, 1, none⟩ = some (.slice a2 m2 c2) ∧ W.cell? ⟨w.heap.size, 2, none⟩ = some (.slice (some ⟨ga, oa, none⟩) LL.length c) ∧ W.cell? ⟨w.heap.size + 1, 0, none⟩ = some (.int .i64 (n : Int)) ∧ W.cell? ⟨ga, oa + k, none⟩ = some (.slice (some ⟨gx, ox, none⟩) L.length cx) ∧ W.cell? ⟨gx, ox + n * 9, none⟩ = some (.int .i64 x.k) ∧ W.cell? ⟨gx, ox + n * 9 + 1, none⟩ = some (.int .i64 x.r) ∧ W.cell? ⟨gx, ox + n * 9 + 2, none⟩ = some (.int .i64 x.l) ∧ W.cell? ⟨gx, ox + n * 9 + 3, none⟩ = some (.int .i64 x.a.r) ∧ W.cell? ⟨gx, ox + n * 9 + 4, none⟩ = some (.int .i64 x.a.v) ∧ W.cell? ⟨gx, ox + n * 9 + 5, none⟩ = some (.int .i64 x.o) ∧ W.cell? ⟨gx, ox + n * 9 + 6, none⟩ = some (.int .i64 x.b.r) ∧ W.cell? ⟨gx, ox + n * 9 + 7, none⟩ = some (.int .i64 x.b.v) ∧ W.cell? ⟨gx, ox + n * 9 + 8, none⟩ = some (.int .i64 x.n) := fun W k' => ⟨(PB.on (k1.trans k')).at (i := 0) rfl, (PB.on (k1.trans k')).at (i := 1) rfl, (PB.on (k1.trans k')).at (i := 2) rfl, (CB.on (k1.trans k')).at (i := 0) rfl, ((k1.trans k').cell (p := ⟨ga, oa + k, none⟩) hgaW).trans uaxW, ((O1.trans k').cell (p := ⟨gx, ox + n * 9 + 0, none⟩) hgx).trans (hcell 0 _ rfl), ((O1.trans k').cell (p := ⟨gx, ox + n * 9 + 1, none⟩) hgx).trans (hcell 1 _ rfl), ((O1.trans k').cell (p := ⟨gx, ox + n * 9 + 2, none⟩) hgx).trans (hcell 2 _ rfl), ((O1.trans k').cell (p := ⟨gx, ox + n * 9 + 3, none⟩) hgx).trans (hcell 3 _ rfl), ((O1.trans k').cell (p := ⟨gx, ox + n * 9 + 4, none⟩) hgx).trans (hcell 4 _ rfl), ((O1.trans k').cell (p := ⟨gx, ox + n * 9 + 5, none⟩) hgx).trans (hcell 5 _ rfl), ((O1.trans k').cell (p := ⟨gx, ox + n * 9 + 6, none⟩) hgx).trans (hcell 6 _ rfl), ((O1.trans k').cell (p := ⟨gx, ox + n * 9 + 7, none⟩) hgx).trans (hcell 7 _ rfl), ((O1.trans k').cell (p := ⟨gx, ox + n * 9 + 8, none⟩) hgx).trans (hcell 8 _ rfl)⟩
     have q2 := qI _ (On.refl w1).drew
     have k1l := k1.size
     go_wp2
     refine region_fin (fun W => W.cell? ⟨w.heap.size, 0, none⟩ = some (.slice a1 m1 c1) ∧ W.cell? ⟨w.heap.size, 1, none⟩ = some (.slice a2 m2 c2) ∧ W.cell? ⟨w.heap.size, 2, none⟩ = some (.slice (some ⟨ga, oa, none⟩) LL.length c) ∧ W.cell? ⟨w.heap.size + 1, 0, none⟩ = some (.int .i64 (n : Int)) ∧ W.cell? ⟨ga, oa + k, none⟩ = some (.slice (some ⟨gx, ox, none⟩) L.length cx) ∧ W.cell? ⟨gx, ox + n * 9, none⟩ = some (.int .i64 x.k) ∧ W.cell? ⟨gx, ox + n * 9 + 1, none⟩ = some (.int .i64 x.r) ∧ W.cell? ⟨gx, ox + n * 9 + 2, none⟩ = some (.int .i64 x.l) ∧ W.cell? ⟨gx, ox + n * 9 + 3, none⟩ = some (.int .i64 x.a.r) ∧ W.cell? ⟨gx, ox + n * 9 + 4, none⟩ = some (.int .i64 x.a.v) ∧ W.cell? ⟨gx, ox + n * 9 + 5, none⟩ = some (.int .i64 x.o) ∧ W.cell? ⟨gx, ox + n * 9 + 6, none⟩ = some (.int .i64 x.b.r) ∧ W.cell? ⟨gx, ox + n * 9 + 7, none⟩ = some (.int .i64 x.b.v) ∧ W.cell? ⟨gx, ox + n * 9 + 8, none⟩ = some (.int .i64 x.n)) 10 11 (by kernel_rfl) rfl ?_
     refine fin_take 0 (v := ?_) rfl (by kernel_rfl) (by kernel_rfl) (by kernel_rfl) (by kernel_rfl) (fun _ _ _ h => h) rfl ?_ q2 ?_
     rotate_left
     ·
      intro W hW
      go_simp
      (try with_reducible rfl)
     simp only [zpu, zsa, zsz, zss]
     refine fin_take 1 (v := ?_) rfl (by kernel_rfl) (by kernel_rfl) (by kernel_rfl) (by kernel_rfl) (fun _ _ _ h => h) rfl ?_ q2 ?_
     rotate_left
     ·
      intro W hW
      go_simp
      (try with_reducible rfl)
     simp only [zpu, zsa, zsz, zss]
     refine fin_take 2 (v := ?_) rfl (by kernel_rfl) (by kernel_rfl) (by kernel_rfl) (by kernel_rfl) (fun _ _ _ h => h) rfl ?_ q2 ?_
     rotate_left
     ·
      intro W hW
      go_simp
      (try with_reducible rfl)
     simp only [zpu, zsa, zsz, zss]
     refine fin_take 3 (v := ?_) rfl (by kernel_rfl) (by kernel_rfl) (by kernel_rfl) (by kernel_rfl) (fun _ _ _ h => h) rfl ?_ q2 ?_
     rotate_left
     ·
      intro W hW
      go_simp
      (try with_reducible rfl)
     simp only [zpu, zsa, zsz, zss]
     refine fin_take 4 (v := ?_) rfl (by kernel_rfl) (by kernel_rfl) (by kernel_rfl) (by kernel_rfl) (fun _ _ _ h => h) rfl ?_ q2 ?_
     rotate_left
     ·
      intro W hW
      go_simp
      (try with_reducible rfl)
     simp only [zpu, zsa, zsz, zss]
     refine fin_take 5 (v := ?_) rfl (by kernel_rfl) (by kernel_rfl) (by kernel_rfl) (by kernel_rfl) (fun _ _ _ h => h) rfl ?_ q2 ?_
     rotate_left
     ·
      intro W hW
      go_simp
      (try with_reducible rfl)
     simp only [zpu, zsa, zsz, zss]
     refine fin_take 6 (v := ?_) rfl (by kernel_rfl) (by kernel_rfl) (by kernel_rfl) (by kernel_rfl) (fun _ _ _ h => h) rfl ?_ q2 ?_
     rotate_left
     ·
      intro W hW
      go_simp
      (try with_reducible rfl)
     simp only [zpu, zsa, zsz, zss]
     refine fin_take 7 (v := ?_) rfl (by kernel_rfl) (by kernel_rfl) (by kernel_rfl) (by kernel_rfl) (fun _ _ _ h => h) rfl ?_ q2 ?_
     rotate_left
     ·
      intro W hW
      go_simp
      (try with_reducible rfl)
     simp only [zpu, zsa, zsz, zss]
     refine fin_take 8 (v := ?_) rfl (by kernel_rfl) (by kernel_rfl) (by kernel_rfl) (by kernel_rfl) (fun _ _ _ h => h) rfl ?_ q2 ?_
     rotate_left
     ·
      intro W hW
      go_simp
      (try with_reducible rfl)
     simp only [zpu, zsa, zsz, zss]
     refine fin_one 9 rfl rfl (by kernel_rfl) (fun K hK => ?_)
     go_simp
     refine hK.out _ _ (fun _ => qI _ ((On.refl w1).alloc _).drew) ?_
     clear hK
     refine fin_one 10 rfl rfl (by kernel_rfl) (fun K hK => ?_)
     go_simp
     refine hK.out _ _ (fun h => absurd rfl h) ?_
     refine fin_done (by kernel_rfl) (NoPanic.normal ?_)
     have hwr : w.heap.size + 1 + 1 < w1.heap.size := by omega
     have hne : ¬ w1.heap.size = w.heap.size + 1 + 1 := by omega
     clear q2 qI hcell
     have zf := fun i => Z1.fr i
     have z0 := Z1.at (i := 0) rfl
     have z1 := Z1.at (i := 1) rfl
     have z2 := Z1.at (i := 2) rfl
     have z3 := Z1.at (i := 3) rfl
     have z4 := Z1.at (i := 4) rfl
     have z5 := Z1.at (i := 5) rfl
     have z6 := Z1.at (i := 6) rfl
     have z7 := Z1.at (i := 7) rfl
     have z8 := Z1.at (i := 8) rfl
     have zzl := Z1.lt
     go_wp2
     refine bodyPost_ret (v := .tuple #[.agg #[.int .i64 x.k, .int .i64 x.r, .int .i64 x.l, .int .i64 x.a.r, .int .i64 x.a.v, .int .i64 x.o, .int .i64 x.b.r, .int .i64 x.b.v, .int .i64 x.n], .bool true]) ?_ rfl ⟨rfl, ?_⟩
     ·
      rw [results_cell_slot rfl]
      go_simp
     ·
      (try with_reducible refine On.drew ?_)
      repeat' (first | with_reducible refine On.setNew ?_ (by omega) _ | with_reducible exact O1 | with_reducible refine On.alloc ?_ _ | with_reducible refine On.drew ?_)
    | false =>
     have e : nextV (nextP L ⟨(n : Int), r0, r1, r2, r3⟩) = .tuple #[.agg #[.int .i64 0, .int .i64 0, .int .i64 0, .int .i64 0, .int .i64 0, .int .i64 0, .int .i64 0, .int .i64 0, .int .i64 0], .bool false] := by
      unfold nextP
      rw [if_pos (Int.natCast_nonneg n)]
      simp only [Int.toNat_natCast, hx, hs]
      rfl
     rw [e]
     rw [hs] at hkx
     clear e hx hs hfl rx
     cases hk5 : (x.k == 5)
     ·
      have hk6 : (x.k == 6) = true := by rw [hk5] at hkx; simpa using hkx
      clear hkx
      obtain ⟨W0, hW0⟩ : ∃ W0, W0 = ((w.alloc (.cells #[.slice a1 m1 c1, .slice a2 m2 c2, .slice (some ⟨ga, oa, none⟩) LL.length c] 27)).alloc (.cells #[.int .i64 (n : Int), .int .i64 r0, .int .i64 r1, .int .i64 r2, .int .i64 r3] 73)).alloc (.cells #[.int .i64 0, .int .i64 0, .int .i64 0, .int .i64 0, .int .i64 0, .int .i64 0, .int .i64 0, .int .i64 0, .int .i64 0] 67) := ⟨_, rfl⟩
      have K0 : On w W0 := by rw [hW0]; exact (((On.refl w).alloc _).alloc _).alloc _
      have PB : Bk W0 w.heap.size #[.slice a1 m1 c1, .slice a2 m2 c2, .slice (some ⟨ga, oa, none⟩) LL.length c] := by rw [hW0]; exact ((Bk.new w _ _).alloc _).alloc _
      have CB : Bk W0 (w.heap.size + 1) #[.int .i64 (n : Int), .int .i64 r0, .int .i64 r1, .int .i64 r2, .int .i64 r3] := by
       rw [hW0]
       have := (Bk.new (w.alloc (.cells #[.slice a1 m1 c1, .slice a2 m2 c2, .slice (some ⟨ga, oa, none⟩) LL.length c] 27)) #[.int .i64 (n : Int), .int .i64 r0, .int .i64 r1, .int .i64 r2, .int .i64 r3] 73).alloc (.cells #[.int .i64 0, .int .i64 0, .int .i64 0, .int .i64 0, .int .i64 0, .int .i64 0, .int .i64 0, .int .i64 0, .int .i64 0] 67)
       rwa [World.size_alloc] at this
      have ZB : Bk W0 (w.heap.size + 1 + 1) #[.int .i64 0, .int .i64 0, .int .i64 0, .int .i64 0, .int .i64 0, .int .i64 0, .int .i64 0, .int .i64 0, .int .i64 0] := by
       rw [hW0]
       have := Bk.new ((w.alloc (.cells #[.slice a1 m1 c1, .slice a2 m2 c2, .slice (some ⟨ga, oa, none⟩) LL.length c] 27)).alloc (.cells #[.int .i64 (n : Int), .int .i64 r0, .int .i64 r1, .int .i64 r2, .int .i64 r3] 73)) #[.int .i64 0, .int .i64 0, .int .i64 0, .int .i64 0, .int .i64 0, .int .i64 0, .int .i64 0, .int .i64 0, .int .i64 0] 67
       rwa [World.size_alloc, World.size_alloc] at this
      have uaxW := (K0.cell (p := ⟨ga, oa + k, none⟩) hga).trans uax
      have hgaW : ga < W0.heap.size := Nat.lt_of_lt_of_le hga K0.size
      have hS : ∀ W, On W0 W → W.cell? ⟨w.heap.size, 0, none⟩ = some (.slice a1 m1 c1) ∧ W.cell? ⟨w.heap.size, 1, none⟩ = some (.slice a2 m2 c2) ∧ W.cell? ⟨w.heap.size, 2, none⟩ = some (.slice (some ⟨ga, oa, none⟩) LL.length c) ∧ W.cell? ⟨w.heap.size + 1, 0, none⟩ = some (.int .i64 (n : Int)) ∧ W.cell? ⟨ga, oa + k, none⟩ = some (.slice (some ⟨gx, ox, none⟩) L.length cx) := fun W k' => ⟨(PB.on k').at (i := 0) rfl, (PB.on k').at (i := 1) rfl, (PB.on k').at (i := 2) rfl, (CB.on k').at (i := 0) rfl, (k'.cell (p := ⟨ga, oa + k, none⟩) hgaW).trans uaxW⟩
      have qS := hS _ (On.refl W0).drew
      have zl := ZB.lt
      go_enter Tryz.func32, Tryz.ntmps32
      go_wp2
      rw [← hW0]
      clear hW0
      refine region_fin (fun W => W.cell? ⟨w.heap.size, 0, none⟩ = some (.slice a1 m1 c1) ∧ W.cell? ⟨w.heap.size, 1, none⟩ = some (.slice a2 m2 c2) ∧ W.cell? ⟨w.heap.size, 2, none⟩ = some (.slice (some ⟨ga, oa, none⟩) LL.length c) ∧ W.cell? ⟨w.heap.size + 1, 0, none⟩ = some (.int .i64 (n : Int)) ∧ W.cell? ⟨ga, oa + k, none⟩ = some (.slice (some ⟨gx, ox, none⟩) L.length cx)) 99 20 (by kernel_rfl) rfl ?_
      refine fin_take 0 (v := ?_) rfl (by kernel_rfl) (by kernel_rfl) (by kernel_rfl) (by kernel_rfl) (fun _ _ _ h => h) rfl ?_ qS ?_
      rotate_left
      ·
       intro W hW
       go_simp
       (try with_reducible rfl)
      simp only [zpu, zsa, zsz, zss]
      refine fin_take 1 (v := ?_) rfl (by kernel_rfl) (by kernel_rfl) (by kernel_rfl) (by kernel_rfl) (fun _ _ _ h => h) rfl ?_ qS ?_
      rotate_left
      ·
       intro W hW
       go_simp
       (try with_reducible rfl)
      simp only [zpu, zsa, zsz, zss]
      refine fin_one 2 rfl rfl (by kernel_rfl) (fun K hK => ?_)
      go_simp
      refine (hT _ K0.drew).mono ?_
      rintro _ w1 ⟨rfl, k1'⟩
      have k1 : On W0 w1 := (On.refl W0).drew.trans k1'
      have q1 := hS _ k1
      refine hK.out _ _ (fun _ => q1) ?_
      clear hK
      refine fin_take 3 (v := ?_) rfl (by kernel_rfl) (by kernel_rfl) (by kernel_rfl) (by kernel_rfl) (fun _ _ _ h => h) rfl ?_ q1 ?_
      rotate_left
      ·
       intro W hW
       go_simp
       (try with_reducible rfl)
      simp only [zpu, zsa, zsz, zss]
      refine fin_take 4 (v := ?_) rfl (by kernel_rfl) (by kernel_rfl) (by kernel_rfl) (by kernel_rfl) (fun _ _ _ h => h) rfl ?_ q1 ?_
      rotate_left
      ·
       intro W hW
       go_simp
       (try with_reducible rfl)
      simp only [zpu, zsa, zsz, zss]
      refine fin_takeG 5 (v := ?_) rfl (by kernel_rfl) (by kernel_rfl) (by kernel_rfl) (by kernel_rfl) (fun _ _ _ h => h) (by rfl) ?_ q1 ?_
      rotate_left
      ·
       intro W hW
       go_simp
       (try with_reducible rfl)
      simp only [zpu, zsa, zsz, zss]
      refine fin_takeG 6 (v := ?_) rfl (by kernel_rfl) (by kernel_rfl) (by kernel_rfl) (by kernel_rfl) (fun _ _ _ h => h) (by rfl) ?_ q1 ?_
      rotate_left
      ·
       intro W hW
       go_simp
       (try with_reducible rfl)
      simp only [zpu, zsa, zsz, zss]
      refine fin_takeG 7 (v := ?_) rfl (by kernel_rfl) (by kernel_rfl) (by kernel_rfl) (by kernel_rfl) (fun _ _ _ h => h) (by rfl) ?_ q1 ?_
      rotate_left
      ·
       intro W hW
       go_simp
       (try with_reducible rfl)
      simp only [zpu, zsa, zsz, zss]
      refine fin_take 8 (v := ?_) rfl (by kernel_rfl) (by kernel_rfl) (by kernel_rfl) (by kernel_rfl) (fun _ _ _ h => h) rfl ?_ q1 ?_
      rotate_left
      ·
       intro W hW
       go_simp
       (try with_reducible rfl)
      simp only [zpu, zsa, zsz, zss]
      refine fin_take 9 (v := ?_) rfl (by kernel_rfl) (by kernel_rfl) (by kernel_rfl) (by kernel_rfl) (fun _ _ _ h => h) rfl ?_ q1 ?_
      rotate_left
      ·
       intro W hW
       go_simp
       (try with_reducible rfl)
      simp only [zpu, zsa, zsz, zss]
      refine fin_takeG 10 (v := ?_) rfl (by kernel_rfl) (by kernel_rfl) (by kernel_rfl) (by kernel_rfl) (fun _ _ _ h => h) (by rfl) ?_ q1 ?_
      rotate_left
      ·
       intro W hW
       go_simp
       (try with_reducible rfl)
      simp only [zpu, zsa, zsz, zss]
      refine fin_takeG 11 (v := ?_) rfl (by kernel_rfl) (by kernel_rfl) (by kernel_rfl) (by kernel_rfl) (fun _ _ _ h => h) (by rfl) ?_ q1 ?_
      rotate_left
      ·
       intro W hW
       go_simp
       (try with_reducible rfl)
      simp only [zpu, zsa, zsz, zss]
      refine fin_takeG 12 (v := ?_) rfl (by kernel_rfl) (by kernel_rfl) (by kernel_rfl) (by kernel_rfl) (fun _ _ _ h => h) (by rfl) ?_ q1 ?_
      rotate_left
      ·
       intro W hW
       go_simp
       (try with_reducible rfl)
      simp only [zpu, zsa, zsz, zss]
      refine fin_takeG 13 (v := ?_) rfl (by kernel_rfl) (by kernel_rfl) (by kernel_rfl) (by kernel_rfl) (fun _ _ _ h => h) (by rfl) ?_ q1 ?_
      rotate_left
      ·
       intro W hW
       go_simp
       (try with_reducible rfl)
      simp only [zpu, zsa, zsz, zss]
      refine fin_takeG 14 (v := ?_) rfl (by kernel_rfl) (by kernel_rfl) (by kernel_rfl) (by kernel_rfl) (fun _ _ _ h => h) (by rfl) ?_ q1 ?_
      rotate_left
      ·
       intro W hW
       go_simp
       (try with_reducible rfl)
      simp only [zpu, zsa, zsz, zss]
      refine fin_takeG 15 (v := ?_) rfl (by kernel_rfl) (by kernel_rfl) (by kernel_rfl) (by kernel_rfl) (fun _ _ _ h => h) (by rfl) ?_ q1 ?_
      rotate_left
      ·
       intro W hW
       go_simp
       (try with_reducible rfl)
      simp only [zpu, zsa, zsz, zss]
      refine fin_takeG 16 (v := ?_) rfl (by kernel_rfl) (by kernel_rfl) (by kernel_rfl) (by kernel_rfl) (fun _ _ _ h => h) (by rfl) ?_ q1 ?_
      rotate_left
      ·
       intro W hW
       go_simp
       (try with_reducible rfl)
      simp only [zpu, zsa, zsz, zss]
      refine fin_takeG 17 (v := ?_) rfl (by kernel_rfl) (by kernel_rfl) (by kernel_rfl) (by kernel_rfl) (fun _ _ _ h => h) (by rfl) ?_ q1 ?_
      rotate_left
      ·
       intro W hW
       go_simp
       (try with_reducible rfl)
      simp only [zpu, zsa, zsz, zss]
      refine fin_takeG 18 (v := ?_) rfl (by kernel_rfl) (by kernel_rfl) (by kernel_rfl) (by kernel_rfl) (fun _ _ _ h => h) (by rfl) ?_ q1 ?_
      rotate_left
      ·
       intro W hW
       go_simp
       (try with_reducible rfl)
      simp only [zpu, zsa, zsz, zss]
      refine fin_take 19 (v := ?_) rfl (by kernel_rfl) (by kernel_rfl) (by kernel_rfl) (by kernel_rfl) (fun _ _ _ h => h) rfl ?_ q1 ?_
      rotate_left
      ·
       intro W hW
       go_simp
       (try with_reducible rfl)
      simp only [zpu, zsa, zsz, zss]
      refine fin_done (by kernel_rfl) (NoPanic.normal ?_)
      have O1 : On w w1 := K0.trans k1
      have Z1 := ZB.on k1
      have qI : ∀ W, On w1 W → W.cell? ⟨w.heap.size, 0, none⟩ = some (.slice a1 m1 c1) ∧ W.cell? ⟨w.heap.size, 1, none⟩ = some (.slice a2 m2 c2) ∧ W.cell? ⟨w.heap.size, 2, none⟩ = some (.slice (some ⟨ga, oa, none⟩) LL.length c) ∧ W.cell? ⟨w.heap.size + 1, 0, none⟩ = some (.int .i64 (n : Int)) ∧ W.cell? ⟨ga, oa + k, none⟩ = some (.slice (some ⟨gx, ox, none⟩) L.length cx) ∧ W.cell? ⟨gx, ox + n * 9, none⟩ = some (.int .i64 x.k) ∧ W.cell? ⟨gx, ox + n * 9 + 1, none⟩ = some (.int .i64 x.r) ∧ W.cell? ⟨gx, ox + n * 9 + 2, none⟩ = some (.int .i64 x.l) ∧ W.cell? ⟨gx, ox + n * 9 + 3, none⟩ = some (.int .i64 x.a.r) ∧ W.cell? ⟨gx, ox + n * 9 + 4, none⟩ = some (.int .i64 x.a.v) ∧ W.cell? ⟨gx, ox + n * 9 + 5, none⟩ = some (.int .i64 x.o) ∧ W.cell? ⟨gx, ox + n * 9 + 6, none⟩ = some (.int .i64 x.b.r) ∧ W.cell? ⟨gx, ox + n * 9 + 7, none⟩ = some (.int .i64 x.b.v) ∧ W.cell? ⟨gx, ox + n * 9 + 8, none⟩ = some (.int .i64 x.n) := fun W k' => ⟨(PB.on (k1.trans k')).at (i := 0) rfl, (PB.on (k1.trans k')).at (i := 1) rfl, (PB.on (k1.trans k')).at (i := 2) rfl, (CB.on (k1.trans k')).at (i := 0) rfl, ((k1.trans k').cell (p := ⟨ga, oa + k, none⟩) hgaW).trans uaxW, ((O1.trans k').cell (p := ⟨gx, ox + n * 9 + 0, none⟩) hgx).trans (hcell 0 _ rfl), ((O1.trans k').cell (p := ⟨gx, ox + n * 9 + 1, none⟩) hgx).trans (hcell 1 _ rfl), ((O1.trans k').cell (p := ⟨gx, ox + n * 9 + 2, none⟩) hgx).trans (hcell 2 _ rfl), ((O1.trans k').cell (p := ⟨gx, ox + n * 9 + 3, none⟩) hgx).trans (hcell 3 _ rfl), ((O1.trans k').cell (p := ⟨gx, ox + n * 9 + 4, none⟩) hgx).trans (hcell 4 _ rfl), ((O1.trans k').cell (p := ⟨gx, ox + n * 9 + 5, none⟩) hgx).trans (hcell 5 _ rfl), ((O1.trans k').cell (p := ⟨gx, ox + n * 9 + 6, none⟩) hgx).trans (hcell 6 _ rfl), ((O1.trans k').cell (p := ⟨gx, ox + n * 9 + 7, none⟩) hgx).trans (hcell 7 _ rfl), ((O1.trans k').cell (p := ⟨gx, ox + n * 9 + 8, none⟩) hgx).trans (hcell 8 _ rfl)⟩
      have q2 := qI _ (On.refl w1).drew
      have k1l := k1.size
      go_wp2
      refine region_fin (fun W => W.cell? ⟨w.heap.size, 0, none⟩ = some (.slice a1 m1 c1) ∧ W.cell? ⟨w.heap.size, 1, none⟩ = some (.slice a2 m2 c2) ∧ W.cell? ⟨w.heap.size, 2, none⟩ = some (.slice (some ⟨ga, oa, none⟩) LL.length c) ∧ W.cell? ⟨w.heap.size + 1, 0, none⟩ = some (.int .i64 (n : Int)) ∧ W.cell? ⟨ga, oa + k, none⟩ = some (.slice (some ⟨gx, ox, none⟩) L.length cx) ∧ W.cell? ⟨gx, ox + n * 9, none⟩ = some (.int .i64 x.k) ∧ W.cell? ⟨gx, ox + n * 9 + 1, none⟩ = some (.int .i64 x.r) ∧ W.cell? ⟨gx, ox + n * 9 + 2, none⟩ = some (.int .i64 x.l) ∧ W.cell? ⟨gx, ox + n * 9 + 3, none⟩ = some (.int .i64 x.a.r) ∧ W.cell? ⟨gx, ox + n * 9 + 4, none⟩ = some (.int .i64 x.a.v) ∧ W.cell? ⟨gx, ox + n * 9 + 5, none⟩ = some (.int .i64 x.o) ∧ W.cell? ⟨gx, ox + n * 9 + 6, none⟩ = some (.int .i64 x.b.r) ∧ W.cell? ⟨gx, ox + n * 9 + 7, none⟩ = some (.int .i64 x.b.v) ∧ W.cell? ⟨gx, ox + n * 9 + 8, none⟩ = some (.int .i64 x.n)) 10 11 (by kernel_rfl) rfl ?_
      refine fin_take 0 (v := ?_) rfl (by kernel_rfl) (by kernel_rfl) (by kernel_rfl) (by kernel_rfl) (fun _ _ _ h => h) rfl ?_ q2 ?_
      rotate_left
      ·
       intro W hW
       go_simp
       (try with_reducible rfl)
      simp only [zpu, zsa, zsz, zss]
      refine fin_take 1 (v := ?_) rfl (by kernel_rfl) (by kernel_rfl) (by kernel_rfl) (by kernel_rfl) (fun _ _ _ h => h) rfl ?_ q2 ?_
      rotate_left
      ·
       intro W hW
       go_simp
       (try with_reducible rfl)
      simp only [zpu, zsa, zsz, zss]
      refine fin_take 2 (v := ?_) rfl (by kernel_rfl) (by kernel_rfl) (by kernel_rfl) (by kernel_rfl) (fun _ _ _ h => h) rfl ?_ q2 ?_
      rotate_left
      ·
       intro W hW
       go_simp
       (try with_reducible rfl)
      simp only [zpu, zsa, zsz, zss]
      refine fin_take 3 (v := ?_) rfl (by kernel_rfl) (by kernel_rfl) (by kernel_rfl) (by kernel_rfl) (fun _ _ _ h => h) rfl ?_ q2 ?_
      rotate_left
      ·
       intro W hW
       go_simp
       (try with_reducible rfl)
      simp only [zpu, zsa, zsz, zss]
      refine fin_take 4 (v := ?_) rfl (by kernel_rfl) (by kernel_rfl) (by kernel_rfl) (by kernel_rfl) (fun _ _ _ h => h) rfl ?_ q2 ?_
      rotate_left
      ·
       intro W hW
       go_simp
       (try with_reducible rfl)
      simp only [zpu, zsa, zsz, zss]
      refine fin_take 5 (v := ?_) rfl (by kernel_rfl) (by kernel_rfl) (by kernel_rfl) (by kernel_rfl) (fun _ _ _ h => h) rfl ?_ q2 ?_
      rotate_left
      ·
       intro W hW
       go_simp
       (try with_reducible rfl)
      simp only [zpu, zsa, zsz, zss]
      refine fin_take 6 (v := ?_) rfl (by kernel_rfl) (by kernel_rfl) (by kernel_rfl) (by kernel_rfl) (fun _ _ _ h => h) rfl ?_ q2 ?_
      rotate_left
      ·
       intro W hW
       go_simp
       (try with_reducible rfl)
      simp only [zpu, zsa, zsz, zss]
      refine fin_take 7 (v := ?_) rfl (by kernel_rfl) (by kernel_rfl) (by kernel_rfl) (by kernel_rfl) (fun _ _ _ h => h) rfl ?_ q2 ?_
      rotate_left
      ·
       intro W hW
       go_simp
       (try with_reducible rfl)
      simp only [zpu, zsa, zsz, zss]
      refine fin_take 8 (v := ?_) rfl (by kernel_rfl) (by kernel_rfl) (by kernel_rfl) (by kernel_rfl) (fun _ _ _ h => h) rfl ?_ q2 ?_
      rotate_left
      ·
       intro W hW
       go_simp
       (try with_reducible rfl)
      simp only [zpu, zsa, zsz, zss]
      refine fin_one 9 rfl rfl (by kernel_rfl) (fun K hK => ?_)
      go_simp
      refine hK.out _ _ (fun _ => qI _ ((On.refl w1).alloc _).drew) ?_
      clear hK
      refine fin_one 10 rfl rfl (by kernel_rfl) (fun K hK => ?_)
      go_simp
      refine hK.out _ _ (fun h => absurd rfl h) ?_
      refine fin_done (by kernel_rfl) (NoPanic.normal ?_)
      have hwr : w.heap.size + 1 + 1 < w1.heap.size := by omega
      have hne : ¬ w1.heap.size = w.heap.size + 1 + 1 := by omega
      clear q2 qI hcell
      have zf := fun i => Z1.fr i
      have z0 := Z1.at (i := 0) rfl
      have z1 := Z1.at (i := 1) rfl
      have z2 := Z1.at (i := 2) rfl
      have z3 := Z1.at (i := 3) rfl
      have z4 := Z1.at (i := 4) rfl
      have z5 := Z1.at (i := 5) rfl
      have z6 := Z1.at (i := 6) rfl
      have z7 := Z1.at (i := 7) rfl
      have z8 := Z1.at (i := 8) rfl
      have zzl := Z1.lt
      go_wp2
      refine bodyPost_ret (v := .tuple #[.agg #[.int .i64 0, .int .i64 0, .int .i64 0, .int .i64 0, .int .i64 0, .int .i64 0, .int .i64 0, .int .i64 0, .int .i64 0], .bool false]) ?_ rfl ⟨rfl, ?_⟩
      ·
       rw [results_cell_slot rfl]
       go_simp
      ·
       (try with_reducible refine On.drew ?_)
       repeat' (first | with_reducible refine On.setNew ?_ (by omega) _ | with_reducible exact O1 | with_reducible refine On.alloc ?_ _ | with_reducible refine On.drew ?_)
     ·
      clear hkx
      obtain ⟨W0, hW0⟩ : ∃ W0, W0 = ((w.alloc (.cells #[.slice a1 m1 c1, .slice a2 m2 c2, .slice (some ⟨ga, oa, none⟩) LL.length c] 27)).alloc (.cells #[.int .i64 (n : Int), .int .i64 r0, .int .i64 r1, .int .i64 r2, .int .i64 r3] 73)).alloc (.cells #[.int .i64 0, .int .i64 0, .int .i64 0, .int .i64 0, .int .i64 0, .int .i64 0, .int .i64 0, .int .i64 0, .int .i64 0] 67) := ⟨_, rfl⟩
      have K0 : On w W0 := by rw [hW0]; exact (((On.refl w).alloc _).alloc _).alloc _
      have PB : Bk W0 w.heap.size #[.slice a1 m1 c1, .slice a2 m2 c2, .slice (some ⟨ga, oa, none⟩) LL.length c] := by rw [hW0]; exact ((Bk.new w _ _).alloc _).alloc _
      have CB : Bk W0 (w.heap.size + 1) #[.int .i64 (n : Int), .int .i64 r0, .int .i64 r1, .int .i64 r2, .int .i64 r3] := by
       rw [hW0]
       have := (Bk.new (w.alloc (.cells #[.slice a1 m1 c1, .slice a2 m2 c2, .slice (some ⟨ga, oa, none⟩) LL.length c] 27)) #[.int .i64 (n : Int), .int .i64 r0, .int .i64 r1, .int .i64 r2, .int .i64 r3] 73).alloc (.cells #[.int .i64 0, .int .i64 0, .int .i64 0, .int .i64 0, .int .i64 0, .int .i64 0, .int .i64 0, .int .i64 0, .int .i64 0] 67)
       rwa [World.size_alloc] at this
      have ZB : Bk W0 (w.heap.size + 1 + 1) #[.int .i64 0, .int .i64 0, .int .i64 0, .int .i64 0, .int .i64 0, .int .i64 0, .int .i64 0, .int .i64 0, .int .i64 0] := by
       rw [hW0]
       have := Bk.new ((w.alloc (.cells #[.slice a1 m1 c1, .slice a2 m2 c2, .slice (some ⟨ga, oa, none⟩) LL.length c] 27)).alloc (.cells #[.int .i64 (n : Int), .int .i64 r0, .int .i64 r1, .int .i64 r2, .int .i64 r3] 73)) #[.int .i64 0, .int .i64 0, .int .i64 0, .int .i64 0, .int .i64 0, .int .i64 0, .int .i64 0, .int .i64 0, .int .i64 0] 67
       rwa [World.size_alloc, World.size_alloc] at this
      have uaxW := (K0.cell (p := ⟨ga, oa + k, none⟩) hga).trans uax
      have hgaW : ga < W0.heap.size := Nat.lt_of_lt_of_le hga K0.size
      have hS : ∀ W, On W0 W → W.cell? ⟨w.heap.size, 0, none⟩ = some (.slice a1 m1 c1) ∧ W.cell? ⟨w.heap.size, 1, none⟩ = some (.slice a2 m2 c2) ∧ W.cell? ⟨w.heap.size, 2, none⟩ = some (.slice (some ⟨ga, oa, none⟩) LL.length c) ∧ W.cell? ⟨w.heap.size + 1, 0, none⟩ = some (.int .i64 (n : Int)) ∧ W.cell? ⟨ga, oa + k, none⟩ = some (.slice (some ⟨gx, ox, none⟩) L.length cx) := fun W k' => ⟨(PB.on k').at (i := 0) rfl, (PB.on k').at (i := 1) rfl, (PB.on k').at (i := 2) rfl, (CB.on k').at (i := 0) rfl, (k'.cell (p := ⟨ga, oa + k, none⟩) hgaW).trans uaxW⟩
      have qS := hS _ (On.refl W0).drew
      have zl := ZB.lt
      go_enter Tryz.func32, Tryz.ntmps32
      go_wp2
      rw [← hW0]
      clear hW0
      refine region_fin (fun W => W.cell? ⟨w.heap.size, 0, none⟩ = some (.slice a1 m1 c1) ∧ W.cell? ⟨w.heap.size, 1, none⟩ = some (.slice a2 m2 c2) ∧ W.cell? ⟨w.heap.size, 2, none⟩ = some (.slice (some ⟨ga, oa, none⟩) LL.length c) ∧ W.cell? ⟨w.heap.size + 1, 0, none⟩ = some (.int .i64 (n : Int)) ∧ W.cell? ⟨ga, oa + k, none⟩ = some (.slice (some ⟨gx, ox, none⟩) L.length cx)) 99 20 (by kernel_rfl) rfl ?_
      refine fin_take 0 (v := ?_) rfl (by kernel_rfl) (by kernel_rfl) (by kernel_rfl) (by kernel_rfl) (fun _ _ _ h => h) rfl ?_ qS ?_
      rotate_left
      ·
       intro W hW
       go_simp
       (try with_reducible rfl)
      simp only [zpu, zsa, zsz, zss]
      refine fin_take 1 (v := ?_) rfl (by kernel_rfl) (by kernel_rfl) (by kernel_rfl) (by kernel_rfl) (fun _ _ _ h => h) rfl ?_ qS ?_
      rotate_left
      ·
       intro W hW
       go_simp
       (try with_reducible rfl)
      simp only [zpu, zsa, zsz, zss]
      refine fin_one 2 rfl rfl (by kernel_rfl) (fun K hK => ?_)
      go_simp
      refine (hT _ K0.drew).mono ?_
      rintro _ w1 ⟨rfl, k1'⟩
      have k1 : On W0 w1 := (On.refl W0).drew.trans k1'
      have q1 := hS _ k1
      refine hK.out _ _ (fun _ => q1) ?_
      clear hK
      refine fin_take 3 (v := ?_) rfl (by kernel_rfl) (by kernel_rfl) (by kernel_rfl) (by kernel_rfl) (fun _ _ _ h => h) rfl ?_ q1 ?_
      rotate_left
      ·
       intro W hW
       go_simp
       (try with_reducible rfl)
      simp only [zpu, zsa, zsz, zss]
      refine fin_take 4 (v := ?_) rfl (by kernel_rfl) (by kernel_rfl) (by kernel_rfl) (by kernel_rfl) (fun _ _ _ h => h) rfl ?_ q1 ?_
      rotate_left
      ·
       intro W hW
       go_simp
       (try with_reducible rfl)
      simp only [zpu, zsa, zsz, zss]
      refine fin_takeG 5 (v := ?_) rfl (by kernel_rfl) (by kernel_rfl) (by kernel_rfl) (by kernel_rfl) (fun _ _ _ h => h) (by rfl) ?_ q1 ?_
      rotate_left
      ·
       intro W hW
       go_simp
       (try with_reducible rfl)
      simp only [zpu, zsa, zsz, zss]
      refine fin_takeG 6 (v := ?_) rfl (by kernel_rfl) (by kernel_rfl) (by kernel_rfl) (by kernel_rfl) (fun _ _ _ h => h) (by rfl) ?_ q1 ?_
      rotate_left
      ·
       intro W hW
       go_simp
       (try with_reducible rfl)
      simp only [zpu, zsa, zsz, zss]
      refine fin_takeG 7 (v := ?_) rfl (by kernel_rfl) (by kernel_rfl) (by kernel_rfl) (by kernel_rfl) (fun _ _ _ h => h) (by rfl) ?_ q1 ?_
      rotate_left
      ·
       intro W hW
       go_simp
       (try with_reducible rfl)
      simp only [zpu, zsa, zsz, zss]
      refine fin_take 8 (v := ?_) rfl (by kernel_rfl) (by kernel_rfl) (by kernel_rfl) (by kernel_rfl) (fun _ _ _ h => h) rfl ?_ q1 ?_
      rotate_left
      ·
       intro W hW
       go_simp
       (try with_reducible rfl)
      simp only [zpu, zsa, zsz, zss]
      refine fin_take 9 (v := ?_) rfl (by kernel_rfl) (by kernel_rfl) (by kernel_rfl) (by kernel_rfl) (fun _ _ _ h => h) rfl ?_ q1 ?_
      rotate_left
      ·
       intro W hW
       go_simp
       (try with_reducible rfl)
      simp only [zpu, zsa, zsz, zss]
      refine fin_takeG 10 (v := ?_) rfl (by kernel_rfl) (by kernel_rfl) (by kernel_rfl) (by kernel_rfl) (fun _ _ _ h => h) (by rfl) ?_ q1 ?_
      rotate_left
      ·
       intro W hW
       go_simp
       (try with_reducible rfl)
      simp only [zpu, zsa, zsz, zss]
      refine fin_takeG 11 (v := ?_) rfl (by kernel_rfl) (by kernel_rfl) (by kernel_rfl) (by kernel_rfl) (fun _ _ _ h => h) (by rfl) ?_ q1 ?_
      rotate_left
      ·
       intro W hW
       go_simp
       (try with_reducible rfl)
      simp only [zpu, zsa, zsz, zss]
      refine fin_takeG 12 (v := ?_) rfl (by kernel_rfl) (by kernel_rfl) (by kernel_rfl) (by kernel_rfl) (fun _ _ _ h => h) (by rfl) ?_ q1 ?_
      rotate_left
      ·
       intro W hW
       go_simp
       (try with_reducible rfl)
      simp only [zpu, zsa, zsz, zss]
      refine fin_takeG 13 (v := ?_) rfl (by kernel_rfl) (by kernel_rfl) (by kernel_rfl) (by kernel_rfl) (fun _ _ _ h => h) (by rfl) ?_ q1 ?_
      rotate_left
      ·
       intro W hW
       go_simp
       (try with_reducible rfl)
      simp only [zpu, zsa, zsz, zss]
      refine fin_takeG 14 (v := ?_) rfl (by kernel_rfl) (by kernel_rfl) (by kernel_rfl) (by kernel_rfl) (fun _ _ _ h => h) (by rfl) ?_ q1 ?_
      rotate_left
      ·
       intro W hW
       go_simp
       (try with_reducible rfl)
      simp only [zpu, zsa, zsz, zss]
      refine fin_takeG 15 (v := ?_) rfl (by kernel_rfl) (by kernel_rfl) (by kernel_rfl) (by kernel_rfl) (fun _ _ _ h => h) (by rfl) ?_ q1 ?_
      rotate_left
      ·
       intro W hW
       go_simp
       (try with_reducible rfl)
      simp only [zpu, zsa, zsz, zss]
      refine fin_takeG 16 (v := ?_) rfl (by kernel_rfl) (by kernel_rfl) (by kernel_rfl) (by kernel_rfl) (fun _ _ _ h => h) (by rfl) ?_ q1 ?_
      rotate_left
      ·
       intro W hW
       go_simp
       (try with_reducible rfl)
      simp only [zpu, zsa, zsz, zss]
      refine fin_takeG 17 (v := ?_) rfl (by kernel_rfl) (by kernel_rfl) (by kernel_rfl) (by kernel_rfl) (fun _ _ _ h => h) (by rfl) ?_ q1 ?_
      rotate_left
      ·
       intro W hW
       go_simp
       (try with_reducible rfl)
      simp only [zpu, zsa, zsz, zss]
      refine fin_takeG 18 (v := ?_) rfl (by kernel_rfl) (by kernel_rfl) (by kernel_rfl) (by kernel_rfl) (fun _ _ _ h => h) (by rfl) ?_ q1 ?_
      rotate_left
      ·
       intro W hW
       go_simp
       (try with_reducible rfl)
      simp only [zpu, zsa, zsz, zss]
      refine fin_take 19 (v := ?_) rfl (by kernel_rfl) (by kernel_rfl) (by kernel_rfl) (by kernel_rfl) (fun _ _ _ h => h) rfl ?_ q1 ?_
      rotate_left
      ·
       intro W hW
       go_simp
       (try with_reducible rfl)
      simp only [zpu, zsa, zsz, zss]
      refine fin_done (by kernel_rfl) (NoPanic.normal ?_)
      have O1 : On w w1 := K0.trans k1
      have Z1 := ZB.on k1
      have qI : ∀ W, On w1 W → W.cell? ⟨w.heap.size, 0, none⟩ = some (.slice a1 m1 c1) ∧ W.cell? ⟨w.heap.size, 1, none⟩ = some (.slice a2 m2 c2) ∧ W.cell? ⟨w.heap.size, 2, none⟩ = some (.slice (some ⟨ga, oa, none⟩) LL.length c) ∧ W.cell? ⟨w.heap.size + 1, 0, none⟩ = some (.int .i64 (n : Int)) ∧ W.cell? ⟨ga, oa + k, none⟩ = some (.slice (some ⟨gx, ox, none⟩) L.length cx) ∧ W.cell? ⟨gx, ox + n * 9, none⟩ = some (.int .i64 x.k) ∧ W.cell? ⟨gx, ox + n * 9 + 1, none⟩ = some (.int .i64 x.r) ∧ W.cell? ⟨gx, ox + n * 9 + 2, none⟩ = some (.int .i64 x.l) ∧ W.cell? ⟨gx, ox + n * 9 + 3, none⟩ = some (.int .i64 x.a.r) ∧ W.cell? ⟨gx, ox + n * 9 + 4, none⟩ = some (.int .i64 x.a.v) ∧ W.cell? ⟨gx, ox + n * 9 + 5, none⟩ = some (.int .i64 x.o) ∧ W.cell? ⟨gx, ox + n * 9 + 6, none⟩ = some (.int .i64 x.b.r) ∧ W.cell? ⟨gx, ox + n * 9 + 7, none⟩ = some (.int .i64 x.b.v) ∧ W.cell? ⟨gx, ox + n * 9 + 8, none⟩ = some (.int .i64 x.n) := fun W k' => ⟨(PB.on (k1.trans k')).at (i := 0) rfl, (PB.on (k1.trans k')).at (i := 1) rfl, (PB.on (k1.trans k')).at (i := 2) rfl, (CB.on (k1.trans k')).at (i := 0) rfl, ((k1.trans k').cell (p := ⟨ga, oa + k, none⟩) hgaW).trans uaxW, ((O1.trans k').cell (p := ⟨gx, ox + n * 9 + 0, none⟩) hgx).trans (hcell 0 _ rfl), ((O1.trans k').cell (p := ⟨gx, ox + n * 9 + 1, none⟩) hgx).trans (hcell 1 _ rfl), ((O1.trans k').cell (p := ⟨gx, ox + n * 9 + 2, none⟩) hgx).trans (hcell 2 _ rfl), ((O1.trans k').cell (p := ⟨gx, ox + n * 9 + 3, none⟩) hgx).trans (hcell 3 _ rfl), ((O1.trans k').cell (p := ⟨gx, ox + n * 9 + 4, none⟩) hgx).trans (hcell 4 _ rfl), ((O1.trans k').cell (p := ⟨gx, ox + n * 9 + 5, none⟩) hgx).trans (hcell 5 _ rfl), ((O1.trans k').cell (p := ⟨gx, ox + n * 9 + 6, none⟩) hgx).trans (hcell 6 _ rfl), ((O1.trans k').cell (p := ⟨gx, ox + n * 9 + 7, none⟩) hgx).trans (hcell 7 _ rfl), ((O1.trans k').cell (p := ⟨gx, ox + n * 9 + 8, none⟩) hgx).trans (hcell 8 _ rfl)⟩
      have q2 := qI _ (On.refl w1).drew
      have k1l := k1.size
      go_wp2
      refine region_fin (fun W => W.cell? ⟨w.heap.size, 0, none⟩ = some (.slice a1 m1 c1) ∧ W.cell? ⟨w.heap.size, 1, none⟩ = some (.slice a2 m2 c2) ∧ W.cell? ⟨w.heap.size, 2, none⟩ = some (.slice (some ⟨ga, oa, none⟩) LL.length c) ∧ W.cell? ⟨w.heap.size + 1, 0, none⟩ = some (.int .i64 (n : Int)) ∧ W.cell? ⟨ga, oa + k, none⟩ = some (.slice (some ⟨gx, ox, none⟩) L.length cx) ∧ W.cell? ⟨gx, ox + n * 9, none⟩ = some (.int .i64 x.k) ∧ W.cell? ⟨gx, ox + n * 9 + 1, none⟩ = some (.int .i64 x.r) ∧ W.cell? ⟨gx, ox + n * 9 + 2, none⟩ = some (.int .i64 x.l) ∧ W.cell? ⟨gx, ox + n * 9 + 3, none⟩ = some (.int .i64 x.a.r) ∧ W.cell? ⟨gx, ox + n * 9 + 4, none⟩ = some (.int .i64 x.a.v) ∧ W.cell? ⟨gx, ox + n * 9 + 5, none⟩ = some (.int .i64 x.o) ∧ W.cell? ⟨gx, ox + n * 9 + 6, none⟩ = some (.int .i64 x.b.r) ∧ W.cell? ⟨gx, ox + n * 9 + 7, none⟩ = some (.int .i64 x.b.v) ∧ W.cell? ⟨gx, ox + n * 9 + 8, none⟩ = some (.int .i64 x.n)) 10 11 (by kernel_rfl) rfl ?_
      refine fin_take 0 (v := ?_) rfl (by kernel_rfl) (by kernel_rfl) (by kernel_rfl) (by kernel_rfl) (fun _ _ _ h => h) rfl ?_ q2 ?_
      rotate_left
      ·
       intro W hW
       go_simp
       (try with_reducible rfl)
      simp only [zpu, zsa, zsz, zss]
      refine fin_take 1 (v := ?_) rfl (by kernel_rfl) (by kernel_rfl) (by kernel_rfl) (by kernel_rfl) (fun _ _ _ h => h) rfl ?_ q2 ?_
      rotate_left
      ·
       intro W hW
       go_simp
       (try with_reducible rfl)
      simp only [zpu, zsa, zsz, zss]
      refine fin_take 2 (v := ?_) rfl (by kernel_rfl) (by kernel_rfl) (by kernel_rfl) (by kernel_rfl) (fun _ _ _ h => h) rfl ?_ q2 ?_
      rotate_left
      ·
       intro W hW
       go_simp
       (try with_reducible rfl)
      simp only [zpu, zsa, zsz, zss]
      refine fin_take 3 (v := ?_) rfl (by kernel_rfl) (by kernel_rfl) (by kernel_rfl) (by kernel_rfl) (fun _ _ _ h => h) rfl ?_ q2 ?_
      rotate_left
      ·
       intro W hW
       go_simp
       (try with_reducible rfl)
      simp only [zpu, zsa, zsz, zss]
      refine fin_take 4 (v := ?_) rfl (by kernel_rfl) (by kernel_rfl) (by kernel_rfl) (by kernel_rfl) (fun _ _ _ h => h) rfl ?_ q2 ?_
      rotate_left
      ·
       intro W hW
       go_simp
       (try with_reducible rfl)
      simp only [zpu, zsa, zsz, zss]
      refine fin_take 5 (v := ?_) rfl (by kernel_rfl) (by kernel_rfl) (by kernel_rfl) (by kernel_rfl) (fun _ _ _ h => h) rfl ?_ q2 ?_
      rotate_left
      ·
       intro W hW
       go_simp
       (try with_reducible rfl)
      simp only [zpu, zsa, zsz, zss]
      refine fin_take 6 (v := ?_) rfl (by kernel_rfl) (by kernel_rfl) (by kernel_rfl) (by kernel_rfl) (fun _ _ _ h => h) rfl ?_ q2 ?_
      rotate_left
      ·
       intro W hW
       go_simp
       (try with_reducible rfl)
      simp only [zpu, zsa, zsz, zss]
      refine fin_take 7 (v := ?_) rfl (by kernel_rfl) (by kernel_rfl) (by kernel_rfl) (by kernel_rfl) (fun _ _ _ h => h) rfl ?_ q2 ?_
      rotate_left
      ·
       intro W hW
       go_simp
       (try with_reducible rfl)
      simp only [zpu, zsa, zsz, zss]
      refine fin_take 8 (v := ?_) rfl (by kernel_rfl) (by kernel_rfl) (by kernel_rfl) (by kernel_rfl) (fun _ _ _ h => h) rfl ?_ q2 ?_
      rotate_left
      ·
       intro W hW
       go_simp
       (try with_reducible rfl)
      simp only [zpu, zsa, zsz, zss]
      refine fin_one 9 rfl rfl (by kernel_rfl) (fun K hK => ?_)
      go_simp
      refine hK.out _ _ (fun _ => qI _ ((On.refl w1).alloc _).drew) ?_
      clear hK
      refine fin_one 10 rfl rfl (by kernel_rfl) (fun K hK => ?_)
      go_simp
      refine hK.out _ _ (fun h => absurd rfl h) ?_
      refine fin_done (by kernel_rfl) (NoPanic.normal ?_)
      have hwr : w.heap.size + 1 + 1 < w1.heap.size := by omega
      have hne : ¬ w1.heap.size = w.heap.size + 1 + 1 := by omega
      clear q2 qI hcell
      have zf := fun i => Z1.fr i
      have z0 := Z1.at (i := 0) rfl
      have z1 := Z1.at (i := 1) rfl
      have z2 := Z1.at (i := 2) rfl
      have z3 := Z1.at (i := 3) rfl
      have z4 := Z1.at (i := 4) rfl
      have z5 := Z1.at (i := 5) rfl
      have z6 := Z1.at (i := 6) rfl
      have z7 := Z1.at (i := 7) rfl
      have z8 := Z1.at (i := 8) rfl
      have zzl := Z1.lt
      go_wp2
      refine bodyPost_ret (v := .tuple #[.agg #[.int .i64 0, .int .i64 0, .int .i64 0, .int .i64 0, .int .i64 0, .int .i64 0, .int .i64 0, .int .i64 0, .int .i64 0], .bool false]) ?_ rfl ⟨rfl, ?_⟩
      ·
       rw [results_cell_slot rfl]
       go_simp
      ·
       (try with_reducible refine On.drew ?_)
       repeat' (first | with_reducible refine On.setNew ?_ (by omega) _ | with_reducible exact O1 | with_reducible refine On.alloc ?_ _ | with_reducible refine On.drew ?_)
   ·
    have e : nextV (nextP L ⟨(n : Int), r0, r1, r2, r3⟩) = .tuple #[.agg #[.int .i64 0, .int .i64 0, .int .i64 0, .int .i64 0, .int .i64 0, .int .i64 0, .int .i64 0, .int .i64 0, .int .i64 0], .bool false] := by
     unfold nextP
     rw [if_pos (Int.natCast_nonneg n)]
     simp only [Int.toNat_natCast, List.getElem?_eq_none hge]
     rfl
    rw [e]
    have hnl : ¬ n < L.length := by omega
    clear e hfl rx
    obtain ⟨W0, hW0⟩ : ∃ W0, W0 = ((w.alloc (.cells #[.slice a1 m1 c1, .slice a2 m2 c2, .slice (some ⟨ga, oa, none⟩) LL.length c] 27)).alloc (.cells #[.int .i64 (n : Int), .int .i64 r0, .int .i64 r1, .int .i64 r2, .int .i64 r3] 73)).alloc (.cells #[.int .i64 0, .int .i64 0, .int .i64 0, .int .i64 0, .int .i64 0, .int .i64 0, .int .i64 0, .int .i64 0, .int .i64 0] 67) := ⟨_, rfl⟩
    have K0 : On w W0 := by rw [hW0]; exact (((On.refl w).alloc _).alloc _).alloc _
    have PB : Bk W0 w.heap.size #[.slice a1 m1 c1, .slice a2 m2 c2, .slice (some ⟨ga, oa, none⟩) LL.length c] := by rw [hW0]; exact ((Bk.new w _ _).alloc _).alloc _
    have CB : Bk W0 (w.heap.size + 1) #[.int .i64 (n : Int), .int .i64 r0, .int .i64 r1, .int .i64 r2, .int .i64 r3] := by
     rw [hW0]
     have := (Bk.new (w.alloc (.cells #[.slice a1 m1 c1, .slice a2 m2 c2, .slice (some ⟨ga, oa, none⟩) LL.length c] 27)) #[.int .i64 (n : Int), .int .i64 r0, .int .i64 r1, .int .i64 r2, .int .i64 r3] 73).alloc (.cells #[.int .i64 0, .int .i64 0, .int .i64 0, .int .i64 0, .int .i64 0, .int .i64 0, .int .i64 0, .int .i64 0, .int .i64 0] 67)
     rwa [World.size_alloc] at this
    have ZB : Bk W0 (w.heap.size + 1 + 1) #[.int .i64 0, .int .i64 0, .int .i64 0, .int .i64 0, .int .i64 0, .int .i64 0, .int .i64 0, .int .i64 0, .int .i64 0] := by
     rw [hW0]
     have := Bk.new ((w.alloc (.cells #[.slice a1 m1 c1, .slice a2 m2 c2, .slice (some ⟨ga, oa, none⟩) LL.length c] 27)).alloc (.cells #[.int .i64 (n : Int), .int .i64 r0, .int .i64 r1, .int .i64 r2, .int .i64 r3] 73)) #[.int .i64 0, .int .i64 0, .int .i64 0, .int .i64 0, .int .i64 0, .int .i64 0, .int .i64 0, .int .i64 0, .int .i64 0] 67
     rwa [World.size_alloc, World.size_alloc] at this
    have uaxW := (K0.cell (p := ⟨ga, oa + k, none⟩) hga).trans uax
    have hgaW : ga < W0.heap.size := Nat.lt_of_lt_of_le hga K0.size
    have hS : ∀ W, On W0 W → W.cell? ⟨w.heap.size, 0, none⟩ = some (.slice a1 m1 c1) ∧ W.cell? ⟨w.heap.size, 1, none⟩ = some (.slice a2 m2 c2) ∧ W.cell? ⟨w.heap.size, 2, none⟩ = some (.slice (some ⟨ga, oa, none⟩) LL.length c) ∧ W.cell? ⟨w.heap.size + 1, 0, none⟩ = some (.int .i64 (n : Int)) ∧ W.cell? ⟨ga, oa + k, none⟩ = some (.slice ax L.length cx) := fun W k' => ⟨(PB.on k').at (i := 0) rfl, (PB.on k').at (i := 1) rfl, (PB.on k').at (i := 2) rfl, (CB.on k').at (i := 0) rfl, (k'.cell (p := ⟨ga, oa + k, none⟩) hgaW).trans uaxW⟩
    have qS := hS _ (On.refl W0).drew
    have zl := ZB.lt
    go_enter Tryz.func32, Tryz.ntmps32
    go_wp2
    rw [← hW0]
    clear hW0
    refine region_fin (fun W => W.cell? ⟨w.heap.size, 0, none⟩ = some (.slice a1 m1 c1) ∧ W.cell? ⟨w.heap.size, 1, none⟩ = some (.slice a2 m2 c2) ∧ W.cell? ⟨w.heap.size, 2, none⟩ = some (.slice (some ⟨ga, oa, none⟩) LL.length c) ∧ W.cell? ⟨w.heap.size + 1, 0, none⟩ = some (.int .i64 (n : Int)) ∧ W.cell? ⟨ga, oa + k, none⟩ = some (.slice ax L.length cx)) 99 20 (by kernel_rfl) rfl ?_
    refine fin_take 0 (v := ?_) rfl (by kernel_rfl) (by kernel_rfl) (by kernel_rfl) (by kernel_rfl) (fun _ _ _ h => h) rfl ?_ qS ?_
    rotate_left
    ·
     intro W hW
     go_simp
     (try with_reducible rfl)
    simp only [zpu, zsa, zsz, zss]
    refine fin_take 1 (v := ?_) rfl (by kernel_rfl) (by kernel_rfl) (by kernel_rfl) (by kernel_rfl) (fun _ _ _ h => h) rfl ?_ qS ?_
    rotate_left
    ·
     intro W hW
     go_simp
     (try with_reducible rfl)
    simp only [zpu, zsa, zsz, zss]
    refine fin_one 2 rfl rfl (by kernel_rfl) (fun K hK => ?_)
    go_simp
    refine (hT _ K0.drew).mono ?_
    rintro _ w1 ⟨rfl, k1'⟩
    have k1 : On W0 w1 := (On.refl W0).drew.trans k1'
    have q1 := hS _ k1
    refine hK.out _ _ (fun _ => q1) ?_
    clear hK
    refine fin_take 3 (v := ?_) rfl (by kernel_rfl) (by kernel_rfl) (by kernel_rfl) (by kernel_rfl) (fun _ _ _ h => h) rfl ?_ q1 ?_
    rotate_left
    ·
     intro W hW
     go_simp
     (try with_reducible rfl)
    simp only [zpu, zsa, zsz, zss]
    refine fin_take 4 (v := ?_) rfl (by kernel_rfl) (by kernel_rfl) (by kernel_rfl) (by kernel_rfl) (fun _ _ _ h => h) rfl ?_ q1 ?_
    rotate_left
    ·
     intro W hW
     go_simp
     (try with_reducible rfl)
    simp only [zpu, zsa, zsz, zss]
    refine fin_takeG 5 (v := ?_) rfl (by kernel_rfl) (by kernel_rfl) (by kernel_rfl) (by kernel_rfl) (fun _ _ _ h => h) (by rfl) ?_ q1 ?_
    rotate_left
    ·
     intro W hW
     go_simp
     (try with_reducible rfl)
    simp only [zpu, zsa, zsz, zss]
    refine fin_takeG 6 (v := ?_) rfl (by kernel_rfl) (by kernel_rfl) (by kernel_rfl) (by kernel_rfl) (fun _ _ _ h => h) (by rfl) ?_ q1 ?_
    rotate_left
    ·
     intro W hW
     go_simp
     (try with_reducible rfl)
    simp only [zpu, zsa, zsz, zss]
    refine fin_takeG 7 (v := ?_) rfl (by kernel_rfl) (by kernel_rfl) (by kernel_rfl) (by kernel_rfl) (fun _ _ _ h => h) (by rfl) ?_ q1 ?_
    rotate_left
    ·
     intro W hW
     go_simp
     (try with_reducible rfl)
    simp only [zpu, zsa, zsz, zss]
    refine fin_take 8 (v := ?_) rfl (by kernel_rfl) (by kernel_rfl) (by kernel_rfl) (by kernel_rfl) (fun _ _ _ h => h) rfl ?_ q1 ?_
    rotate_left
    ·
     intro W hW
     go_simp
     (try with_reducible rfl)
    simp only [zpu, zsa, zsz, zss]
    refine fin_take 9 (v := ?_) rfl (by kernel_rfl) (by kernel_rfl) (by kernel_rfl) (by kernel_rfl) (fun _ _ _ h => h) rfl ?_ q1 ?_
    rotate_left
    ·
     intro W hW
     go_simp
     (try with_reducible rfl)
    simp only [zpu, zsa, zsz, zss]
    refine fin_takeG 10 (v := ?_) rfl (by kernel_rfl) (by kernel_rfl) (by kernel_rfl) (by kernel_rfl) (fun _ _ _ h => h) (by rfl) ?_ q1 ?_
    rotate_left
    ·
     intro W hW
     go_simp
     (try with_reducible rfl)
    simp only [zpu, zsa, zsz, zss]
    refine fin_takeG 11 (v := ?_) rfl (by kernel_rfl) (by kernel_rfl) (by kernel_rfl) (by kernel_rfl) (fun _ _ _ h => h) (by rfl) ?_ q1 ?_
    rotate_left
    ·
     intro W hW
     go_simp
     (try with_reducible rfl)
    simp only [zpu, zsa, zsz, zss]
    refine fin_takeG 12 (v := ?_) rfl (by kernel_rfl) (by kernel_rfl) (by kernel_rfl) (by kernel_rfl) (fun _ _ _ h => h) (by rfl) ?_ q1 ?_
    rotate_left
    ·
     intro W hW
     go_simp
     (try with_reducible rfl)
    simp only [zpu, zsa, zsz, zss]
    refine fin_takeG 13 (v := ?_) rfl (by kernel_rfl) (by kernel_rfl) (by kernel_rfl) (by kernel_rfl) (fun _ _ _ h => h) (by rfl) ?_ q1 ?_
    rotate_left
    ·
     intro W hW
     go_simp
     (try with_reducible rfl)
    simp only [zpu, zsa, zsz, zss]
    refine fin_takeG 14 (v := ?_) rfl (by kernel_rfl) (by kernel_rfl) (by kernel_rfl) (by kernel_rfl) (fun _ _ _ h => h) (by rfl) ?_ q1 ?_
    rotate_left
    ·
     intro W hW
     go_simp
     (try with_reducible rfl)
    simp only [zpu, zsa, zsz, zss]
    refine fin_takeG 15 (v := ?_) rfl (by kernel_rfl) (by kernel_rfl) (by kernel_rfl) (by kernel_rfl) (fun _ _ _ h => h) (by rfl) ?_ q1 ?_
    rotate_left
    ·
     intro W hW
     go_simp
     (try with_reducible rfl)
    simp only [zpu, zsa, zsz, zss]
    refine fin_takeG 16 (v := ?_) rfl (by kernel_rfl) (by kernel_rfl) (by kernel_rfl) (by kernel_rfl) (fun _ _ _ h => h) (by rfl) ?_ q1 ?_
    rotate_left
    ·
     intro W hW
     go_simp
     (try with_reducible rfl)
    simp only [zpu, zsa, zsz, zss]
    refine fin_takeG 17 (v := ?_) rfl (by kernel_rfl) (by kernel_rfl) (by kernel_rfl) (by kernel_rfl) (fun _ _ _ h => h) (by rfl) ?_ q1 ?_
    rotate_left
    ·
     intro W hW
     go_simp
     (try with_reducible rfl)
    simp only [zpu, zsa, zsz, zss]
    refine fin_takeG 18 (v := ?_) rfl (by kernel_rfl) (by kernel_rfl) (by kernel_rfl) (by kernel_rfl) (fun _ _ _ h => h) (by rfl) ?_ q1 ?_
    rotate_left
    ·
     intro W hW
     go_simp
     (try with_reducible rfl)
    simp only [zpu, zsa, zsz, zss]
    refine fin_take 19 (v := ?_) rfl (by kernel_rfl) (by kernel_rfl) (by kernel_rfl) (by kernel_rfl) (fun _ _ _ h => h) rfl ?_ q1 ?_
    rotate_left
    ·
     intro W hW
     go_simp
     (try with_reducible rfl)
    simp only [zpu, zsa, zsz, zss]
    refine fin_done (by kernel_rfl) (NoPanic.normal ?_)
    have O1 : On w w1 := K0.trans k1
    have Z1 := ZB.on k1
    have zf := fun i => Z1.fr i
    have z0 := Z1.at (i := 0) rfl
    have z1 := Z1.at (i := 1) rfl
    have z2 := Z1.at (i := 2) rfl
    have z3 := Z1.at (i := 3) rfl
    have z4 := Z1.at (i := 4) rfl
    have z5 := Z1.at (i := 5) rfl
    have z6 := Z1.at (i := 6) rfl
    have z7 := Z1.at (i := 7) rfl
    have z8 := Z1.at (i := 8) rfl
    have zzl := Z1.lt
    go_wp2
    refine bodyPost_ret (v := .tuple #[.agg #[.int .i64 0, .int .i64 0, .int .i64 0, .int .i64 0, .int .i64 0, .int .i64 0, .int .i64 0, .int .i64 0, .int .i64 0], .bool false]) ?_ rfl ⟨rfl, ?_⟩
    ·
     rw [results_cell_slot rfl]
     go_simp
    ·
     (try with_reducible refine On.drew ?_)
     repeat' (first | with_reducible refine On.setNew ?_ (by omega) _ | with_reducible exact O1 | with_reducible refine On.alloc ?_ _ | with_reducible refine On.drew ?_)
end Go.Proofs.YtioiabfheeglgaaGreatDoor
