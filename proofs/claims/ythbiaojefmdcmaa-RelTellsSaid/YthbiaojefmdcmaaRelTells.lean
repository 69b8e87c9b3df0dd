/- RelTells, walked. -/
import Derived.Test.YthbiaojefmdcmaaTellsR
import Derived.Test.YthbiaojefmdcmaaRelCut
import Derived.Test.YthbiaojefmdcmaaRelQ
import Derived.Test.YthbiaojefmdcmaaAwake8
import Derived.Deep.DeepCutAuto
namespace Go.Proofs.Ythbiaojefmdcmaa
open Go.RowKit

/-- The blocks that stay. -/
structure TB (w : World) (nr nv nq na nb : Nat) (r q A B : RelT) : Prop where
  R : Bk w nr (relA r)
  V : Bk w nv (relA r)
  Q : Bk w nq (relA q)
  A : Bk w na (relA A)
  B : Bk w nb (relA B)
theorem TB.on {w w' : World} {nr nv nq na nb : Nat} {r q A B : RelT} (h : TB w nr nv nq na nb r q A B) (k : On w w') : TB w' nr nv nq na nb r q A B := ⟨h.R.on k, h.V.on k, h.Q.on k, h.A.on k, h.B.on k⟩
theorem TB.far {w : World} {nr nv nq na nb N : Nat} {r q A B : RelT} (h : TB w nr nv nq na nb r q A B) (h1 : N ≠ nr) (h2 : N ≠ nv) (h3 : N ≠ nq) (h4 : N ≠ na) (h5 : N ≠ nb) (i : Nat) (v : Value) : TB (w.drew.setCell ⟨N, i, none⟩ v) nr nv nq na nb r q A B := ⟨h.R.drew.far h1 i v, h.V.drew.far h2 i v, h.Q.drew.far h3 i v, h.A.drew.far h4 i v, h.B.drew.far h5 i v⟩
set_option maxHeartbeats 16000000 in
set_option maxRecDepth 8000 in
theorem relTells_core (n m p1 p2 c d : Int) (hp1 : (if n < -2 then (-2 : Int) else n) = p1) (hc1 : (if 66 < p1 then (66 : Int) else p1) = c) (hp2 : (if m < -2 then (-2 : Int) else m) = p2) (hc2 : (if 66 < p2 then (66 : Int) else p2) = d)
    (a1 : Option Addr) (L1 : List (Int × Int)) (e1 : Nat) (a2 : Option Addr) (L2 : List (Int × Int)) (e2 : Nat) (s : Nat) (w : World)
    (h1 : Rd pairC 2 w (.slice a1 L1.length e1) L1) (h2 : Rd pairC 2 w (.slice a2 L2.length e2) L2) (hs : s < 18446744073709551616) :
    Calls Try.prog 5 #[.int .i64 n, .slice a1 L1.length e1, .int .i64 m, .slice a2 L2.length e2, .int .u64 s] w fun e w' => e = .returned (.bool true) ∧ On w w' := by
  obtain ⟨hz, _⟩ := zero_of_info rel_info
  obtain ⟨hzw, _⟩ := zero_of_info rel_infow
  have hO1 := fun W (k : On w W) => pairs_is c L1 _ W (h1.on k)
  have hO2 := fun W (k : On w W) => pairs_is d L2 _ W (h2.on k)
  have hr := of_wf c L1
  have hq := of_wf d L2
  clear h1 h2
  generalize ofR c L1 = r at *
  generalize ofR d L2 = q at *
  have y1 := fun W => same_is r hr W
  have y2 := fun W => same_is q hq W
  have y3 := fun W => cut_is r hr q.n W
  have y4 := fun W => cut_is q hq r.n W
  rw [Nat.min_comm q.n r.n] at y4
  obtain ⟨mm, hmm⟩ : ∃ mm, mm = min r.n q.n := ⟨_, rfl⟩
  rw [← hmm] at y3 y4
  have hm6 : mm ≤ 64 := by have := hr.n; omega
  have hA := below_wf hr hm6
  have hB := below_wf hq hm6
  have hAn : (belowR r mm).n = mm := rfl
  have hBn : (belowR q mm).n = mm := rfl
  have zU := union_same hr hq mm hmm
  have zD := minus_same hr hq mm hmm
  have zE := meet_same hr hq mm hmm
  have zT := then_same hr hq mm hmm
  generalize belowR r mm = A at *
  generalize belowR q mm = B at *
  have x1 := fun W => union_is r q hr.wr hq.wr W
  have x2 := fun W => same_is (unionR r q) (union_wf hr hq) W
  have x3 := fun W => minus_is r q hr.wr hq.wr W
  have x4 := fun W => same_is (minusR r q) (minus_wf hr hq) W
  have x5 := fun W => meet_is r q hr.wr hq.wr W
  have x6 := fun W => same_is (meetR r q) (meet_wf hr hq) W
  have x7 := fun W => then_is r q hr.wr hq.wr W
  have x8 := fun W => same_is (thenR r q) (then_wf hr hq) W
  have x9 := fun W => inv_is r hr.wr W
  have x10 := fun W => same_is (invR r) (inv_wf hr) W
  have x11 := fun W => close_is r hr.wr W
  have x12 := fun W => wclose_is r hr.wr W
  have x13 := fun W => same_is (closeR r) (close_wf hr) W
  have x14 := fun W => keep_is r hr.wr s hs W
  have x15 := fun W => same_is (keepR r s) (keep_wf hr s) W
  have x16 := fun W => acyc_is r hr.wr W
  have x17 := fun W => wacyc_is r hr.wr W
  have xA := fun W => awake8_is W
  go_enter Try.func5, Try.ntmps5
  go_wp2_with (fail)
  refine (hO1 _ (On.refl _)).mono ?_
  rintro _ w1 ⟨rfl, k1⟩
  have K1 := (On.refl w).trans k1
  have B1a := (Bk.new w1 (relA zeroR) 27).alloc (.cells (relA zeroR) 30)
  have B1b : Bk ((w1.alloc (.cells (relA zeroR) 27)).alloc (.cells (relA zeroR) 30)) (w1.heap.size + 1) (relA zeroR) := by
    have := Bk.new (w1.alloc (.cells (relA zeroR) 27)) (relA zeroR) 30
    rwa [World.size_alloc] at this
  have B1c := B1b.rowFar (N := w1.heap.size) (by omega) (relA r)
  obtain ⟨W1, hW1⟩ : ∃ W1, W1 = (((w1.alloc (.cells (relA zeroR) 27)).alloc (.cells (relA zeroR) 30)).setRow w1.heap.size (relA r)).setRow (w1.heap.size + 1) (relA r) := ⟨_, rfl⟩
  have HW1 : Hid (W1 = (((w1.alloc (.cells (relA zeroR) 27)).alloc (.cells (relA zeroR) 30)).setRow w1.heap.size (relA r)).setRow (w1.heap.size + 1) (relA r)) := hW1
  have B1r : Bk W1 w1.heap.size (relA r) := by rw [hW1]; exact (B1a.row _).rowFar (by omega) _
  have B1w : Bk W1 (w1.heap.size + 1) (relA r) := by rw [hW1]; exact B1c.row _
  have KK1 : On w W1 := by rw [hW1]; exact (((K1.alloc _).alloc _).row K1.size _).row (by have := K1.size; omega) _
  clear hW1
  go_wp2_with (first | (refine wpList_st rfl rfl rfl rfl B1a ?_) | (refine wpList_stw rfl rfl rfl rfl B1c ?_; rw [← HW1.out]; clear HW1 B1a B1b B1c))
  refine (hO2 _ KK1).mono ?_
  rintro _ w2 ⟨rfl, k2⟩
  have K2 := KK1.trans k2
  have B2a := (Bk.new w2 (relA zeroR) 27).alloc (.cells (relA zeroR) 30)
  have B2b : Bk ((w2.alloc (.cells (relA zeroR) 27)).alloc (.cells (relA zeroR) 30)) (w2.heap.size + 1) (relA zeroR) := by
    have := Bk.new (w2.alloc (.cells (relA zeroR) 27)) (relA zeroR) 30
    rwa [World.size_alloc] at this
  have B2c := B2b.rowFar (N := w2.heap.size) (by omega) (relA q)
  obtain ⟨W2, hW2⟩ : ∃ W2, W2 = (((w2.alloc (.cells (relA zeroR) 27)).alloc (.cells (relA zeroR) 30)).setRow w2.heap.size (relA q)).setRow (w2.heap.size + 1) (relA q) := ⟨_, rfl⟩
  have HW2 : Hid (W2 = (((w2.alloc (.cells (relA zeroR) 27)).alloc (.cells (relA zeroR) 30)).setRow w2.heap.size (relA q)).setRow (w2.heap.size + 1) (relA q)) := hW2
  have B2r : Bk W2 w2.heap.size (relA q) := by rw [hW2]; exact (B2a.row _).rowFar (by omega) _
  have B2w : Bk W2 (w2.heap.size + 1) (relA q) := by rw [hW2]; exact B2c.row _
  have KK2 : On w W2 := by rw [hW2]; exact (((K2.alloc _).alloc _).row K2.size _).row (by have := K2.size; omega) _
  have C2B1r : Bk W2 w1.heap.size (relA r) := by rw [hW2]; exact ((((B1r.on k2).alloc _).alloc _).rowFar (by have := (B1r.on k2).lt; omega) _).rowFar (by have := (B1r.on k2).lt; omega) _
  have C2B1w : Bk W2 (w1.heap.size + 1) (relA r) := by rw [hW2]; exact ((((B1w.on k2).alloc _).alloc _).rowFar (by have := (B1w.on k2).lt; omega) _).rowFar (by have := (B1w.on k2).lt; omega) _
  clear hW2
  go_wp2_with (first | (refine wpList_st rfl rfl rfl rfl B2a ?_) | (refine wpList_stw rfl rfl rfl rfl B2c ?_; rw [← HW2.out]; clear HW2 B2a B2b B2c) | refine wpList_ldG (by rfl) rfl rfl C2B1r ?_ | refine wpList_ldGw (by rfl) rfl rfl C2B1w ?_)
  refine (y1 _).mono ?_
  rintro _ w3 ⟨rfl, k3⟩
  have R3 := C2B1r.on k3
  have V3 := C2B1w.on k3
  have Q3 := B2r.on k3
  have X3 := B2w.on k3
  have K3 := KK2.trans k3
  have hsep : w1.heap.size + 1 < w2.heap.size := (B1w.on k2).lt
  clear C2B1r C2B1w B2r B2w KK2 KK1 B1r B1w k1 k2 k3
  go_wp2_with (first | refine wpList_ldG (by rfl) rfl rfl Q3 ?_ | refine wpList_ldGw (by rfl) rfl rfl X3 ?_)
  refine (y2 _).mono ?_
  rintro _ w4 ⟨rfl, k4⟩
  have R4 := R3.on k4
  have V4 := V3.on k4
  have Q4 := Q3.on k4
  have X4 := X3.on k4
  have K4 := K3.trans k4
  clear R3 V3 Q3 X3 K3 k4 y1 y2
  go_wp2
  have S0 : Bk w4.drew (w1.heap.size + 1) (relA r) ∧ Bk w4.drew (w2.heap.size + 1) (relA q) := ⟨V4, X4⟩
  have hon : ∀ W W', Bk W (w1.heap.size + 1) (relA r) ∧ Bk W (w2.heap.size + 1) (relA q) → On W W' → Bk W' (w1.heap.size + 1) (relA r) ∧ Bk W' (w2.heap.size + 1) (relA q) := fun W W' h k => ⟨h.1.on k, h.2.on k⟩
  refine region_fz (fun W => Bk W (w1.heap.size + 1) (relA r) ∧ Bk W (w2.heap.size + 1) (relA q)) [] 12 (by as_aux_lemma => kernel_rfl) rfl ?_
  refine fz_take 0 (v := .agg (relA r)) rfl (by as_aux_lemma => kernel_rfl) (by as_aux_lemma => kernel_rfl) (by as_aux_lemma => kernel_rfl) (by as_aux_lemma => kernel_rfl) (fun _ _ _ h => h) rfl (fun W hW => exec_ldw rfl rfl (hW.1)) S0 ?_
  simp only [Act.put, List.setIfInBounds_toArray, List.set_cons_zero, List.set_cons_succ]
  refine fz_take 1 (v := ?_) rfl (by as_aux_lemma => kernel_rfl) (by as_aux_lemma => kernel_rfl) (by as_aux_lemma => kernel_rfl) (by as_aux_lemma => kernel_rfl) (fun _ _ _ h => h) rfl ?_ S0 ?_
  rotate_left
  · intro W hW
    go_simp
    (try with_reducible rfl)
  simp only [Act.put, List.setIfInBounds_toArray, List.set_cons_zero, List.set_cons_succ]
  refine fz_take 2 (v := ?_) rfl (by as_aux_lemma => kernel_rfl) (by as_aux_lemma => kernel_rfl) (by as_aux_lemma => kernel_rfl) (by as_aux_lemma => kernel_rfl) (fun _ _ _ h => h) rfl ?_ S0 ?_
  rotate_left
  · intro W hW
    have hcl := hW.2.at (relA_zero q)
    have hll := hW.2.lt
    go_simp
    (try with_reducible rfl)
  simp only [Act.put, List.setIfInBounds_toArray, List.set_cons_zero, List.set_cons_succ]
  refine fz_take 4 (v := .agg (relA q)) rfl (by as_aux_lemma => kernel_rfl) (by as_aux_lemma => kernel_rfl) (by as_aux_lemma => kernel_rfl) (by as_aux_lemma => kernel_rfl) (fun _ _ _ h => h) rfl (fun W hW => exec_ldw rfl rfl (hW.2)) S0 ?_
  simp only [Act.put, List.setIfInBounds_toArray, List.set_cons_zero, List.set_cons_succ]
  refine fz_take 5 (v := ?_) rfl (by as_aux_lemma => kernel_rfl) (by as_aux_lemma => kernel_rfl) (by as_aux_lemma => kernel_rfl) (by as_aux_lemma => kernel_rfl) (fun _ _ _ h => h) rfl ?_ S0 ?_
  rotate_left
  · intro W hW
    go_simp
    (try with_reducible rfl)
  simp only [Act.put, List.setIfInBounds_toArray, List.set_cons_zero, List.set_cons_succ]
  refine fz_take 6 (v := ?_) rfl (by as_aux_lemma => kernel_rfl) (by as_aux_lemma => kernel_rfl) (by as_aux_lemma => kernel_rfl) (by as_aux_lemma => kernel_rfl) (fun _ _ _ h => h) rfl ?_ S0 ?_
  rotate_left
  · intro W hW
    have hcl := hW.1.at (relA_zero r)
    have hll := hW.1.lt
    go_simp
    (try with_reducible rfl)
  simp only [Act.put, List.setIfInBounds_toArray, List.set_cons_zero, List.set_cons_succ]
  refine fz_mix [(3, 56, some (.agg (relA A))), (7, 60, some (.agg (relA B))), (8, 15, none), (9, 16, none)] #[true, true, true, true, true, true, true, true, true, true, false, false] 30 (relA zeroR) 4 2 hzw (by simp) (by simp) ?_ ?_ rfl hon S0 (by as_aux_lemma => kernel_rfl) (by as_aux_lemma => kernel_rfl) ?_ ?_
  · intro i d hi
    simp only [List.mem_cons, Prod.mk.injEq, List.not_mem_nil, or_false, reduceCtorEq, and_false, false_or, and_true] at hi
    rcases hi with ⟨rfl, rfl⟩ | ⟨rfl, rfl⟩ <;> exact ⟨_, rfl, rfl, rfl, rfl⟩
  · intro x hx
    simp only [List.mem_cons, List.not_mem_nil, or_false] at hx
    rcases hx with rfl | rfl | rfl | rfl <;> rfl
  · intro i d v hi
    simp only [List.mem_cons, Prod.mk.injEq, List.not_mem_nil, or_false, reduceCtorEq, and_false, Option.some.injEq] at hi
    rcases hi with ⟨rfl, rfl, rfl⟩ | ⟨rfl, rfl, rfl⟩
    · refine ⟨_, rfl, rfl, fun p W' K hS hO hK => ?_⟩
      simp only [putsA, List.foldl_cons, List.foldl_nil, Act.put, List.setIfInBounds_toArray, List.set_cons_zero, List.set_cons_succ]
      go_simp
      refine (y3 _).mono ?_
      rintro _ W'' ⟨rfl, kk⟩
      exact hK W'' kk
    · refine ⟨_, rfl, rfl, fun p W' K hS hO hK => ?_⟩
      simp only [putsA, List.foldl_cons, List.foldl_nil, Act.put, List.setIfInBounds_toArray, List.set_cons_zero, List.set_cons_succ]
      go_simp
      refine (y4 _).mono ?_
      rintro _ W'' ⟨rfl, kk⟩
      exact hK W'' kk
  intro p WE hm hSE
  obtain ⟨u3, hu3⟩ := Option.isSome_iff_exists.1 (hm.done (3, 56, some (.agg (relA A))) (by simp) rfl)
  obtain rfl := hm.val 3 56 (.agg (relA A)) u3 (by simp) hu3
  obtain ⟨u7, hu7⟩ := Option.isSome_iff_exists.1 (hm.done (7, 60, some (.agg (relA B))) (by simp) rfl)
  obtain rfl := hm.val 7 60 (.agg (relA B)) u7 (by simp) hu7
  obtain ⟨u8, hu8⟩ := Option.isSome_iff_exists.1 (hm.done (8, 15, none) (by simp) rfl)
  obtain ⟨N15, rfl, b15, g15⟩ := hm.blk 8 15 u8 (by simp) hu8
  obtain ⟨u9, hu9⟩ := Option.isSome_iff_exists.1 (hm.done (9, 16, none) (by simp) rfl)
  obtain ⟨N16, rfl, b16, g16⟩ := hm.blk 9 16 u9 (by simp) hu9
  have n16_15 : N16 ≠ N15 := fun e => absurd (hm.apart 9 16 8 15 _ (by simp) (by simp) hu9 (by rw [hu8, e])) (by decide)
  have kM := hm.on
  simp only [putsA, List.foldl_cons, List.foldl_nil, hu3, hu7, hu8, hu9, Option.getD_some, Act.put, List.setIfInBounds_toArray, List.set_cons_zero, List.set_cons_succ]
  clear hm hu3 hu7 hu8 hu9
  have hv4 := V4.lt
  have hx4 := X4.lt
  have hr4 := R4.lt
  have hq4 := Q4.lt
  have g15' : w4.heap.size ≤ N15 := g15
  have g16' : w4.heap.size ≤ N16 := g16
  refine fz_one 10 rfl rfl (by as_aux_lemma => kernel_rfl) (fun K hK => ?_)
  refine wp_stw rfl rfl rfl b15 ?_
  refine hK.out _ _ (fun _ => ⟨hSE.1.rowFar (by omega) _, hSE.2.rowFar (by omega) _⟩) ?_
  clear hK
  refine fz_one 11 rfl rfl (by as_aux_lemma => kernel_rfl) (fun K hK => ?_)
  refine wp_stw rfl rfl rfl (b16.rowFar (N := N15) (by omega) _) ?_
  refine hK.out _ _ (fun _ => ⟨(hSE.1.rowFar (by omega) _).rowFar (by omega) _, (hSE.2.rowFar (by omega) _).rowFar (by omega) _⟩) ?_
  clear hK
  refine fz_done (by as_aux_lemma => kernel_rfl) (NoPanic.normal ?_)
  obtain ⟨W5, hW5⟩ : ∃ W5, W5 = (WE.setRow N15 (relA A)).setRow N16 (relA B) := ⟨_, rfl⟩
  have A5 : Bk W5 N15 (relA A) := by rw [hW5]; exact (b15.row _).rowFar (by omega) _
  have B5 : Bk W5 N16 (relA B) := by rw [hW5]; exact (b16.rowFar (by omega) _).row _
  have R5 : Bk W5 w1.heap.size (relA r) := by rw [hW5]; exact ((R4.drew.on kM).rowFar (by omega) _).rowFar (by omega) _
  have V5 : Bk W5 (w1.heap.size + 1) (relA r) := by rw [hW5]; exact ((V4.drew.on kM).rowFar (by omega) _).rowFar (by omega) _
  have Q5 : Bk W5 w2.heap.size (relA q) := by rw [hW5]; exact ((Q4.drew.on kM).rowFar (by omega) _).rowFar (by omega) _
  have K5 : On w W5 := by rw [hW5]; exact ((K4.drew.trans kM).row (by have := K4.size; omega) _).row (by have := K4.size; omega) _
  rw [← hW5]
  clear hW5 hSE b15 b16 kM S0 hon y3 y4 R4 V4 Q4 X4 K4 g15 g16
  go_wp2
  have S0 : Bk W5.drew N15 (relA A) ∧ Bk W5.drew (w1.heap.size + 1) (relA r) := ⟨A5, V5⟩
  have hon : ∀ W W', Bk W N15 (relA A) ∧ Bk W (w1.heap.size + 1) (relA r) → On W W' → Bk W' N15 (relA A) ∧ Bk W' (w1.heap.size + 1) (relA r) := fun W W' h k => ⟨h.1.on k, h.2.on k⟩
  have hzA := relA_zero A
  rw [hAn] at hzA
  have HZA : Hid ((relA A)[0]? = some (.int .i64 mm)) := hzA
  have HZR : Hid ((relA r)[0]? = some (.int .i64 r.n)) := relA_zero r
  clear hzA
  refine region_fz (fun W => Bk W N15 (relA A) ∧ Bk W (w1.heap.size + 1) (relA r)) [] 30 (by as_aux_lemma => kernel_rfl) rfl ?_
  refine fz_take 0 (v := ?_) rfl (by as_aux_lemma => kernel_rfl) (by as_aux_lemma => kernel_rfl) (by as_aux_lemma => kernel_rfl) (by as_aux_lemma => kernel_rfl) (fun _ _ _ h => h) rfl ?_ S0 ?_
  rotate_left
  · intro W hW
    go_simp
    (try with_reducible rfl)
  simp only [Act.put, List.setIfInBounds_toArray, List.set_cons_zero, List.set_cons_succ]
  refine fz_take 1 (v := ?_) rfl (by as_aux_lemma => kernel_rfl) (by as_aux_lemma => kernel_rfl) (by as_aux_lemma => kernel_rfl) (by as_aux_lemma => kernel_rfl) (fun _ _ _ h => h) rfl ?_ S0 ?_
  rotate_left
  · intro W hW
    have hcl := hW.1.at HZA.out
    have hll := hW.1.lt
    go_simp
    (try with_reducible rfl)
  simp only [Act.put, List.setIfInBounds_toArray, List.set_cons_zero, List.set_cons_succ]
  refine fz_take 2 (v := .agg (relA (zm mm))) rfl (by as_aux_lemma => kernel_rfl) (by as_aux_lemma => kernel_rfl) (by as_aux_lemma => kernel_rfl) (by as_aux_lemma => kernel_rfl) (fun _ _ _ h => h) rfl ?_ S0 ?_
  · intro W hW
    go_simp
    (try rfl)
  simp only [Act.put, List.setIfInBounds_toArray, List.set_cons_zero, List.set_cons_succ]
  refine fz_take 3 (v := ?_) rfl (by as_aux_lemma => kernel_rfl) (by as_aux_lemma => kernel_rfl) (by as_aux_lemma => kernel_rfl) (by as_aux_lemma => kernel_rfl) (fun _ _ _ h => h) rfl ?_ S0 ?_
  rotate_left
  · intro W hW
    go_simp
    (try with_reducible rfl)
  simp only [Act.put, List.setIfInBounds_toArray, List.set_cons_zero, List.set_cons_succ]
  refine fz_take 4 (v := ?_) rfl (by as_aux_lemma => kernel_rfl) (by as_aux_lemma => kernel_rfl) (by as_aux_lemma => kernel_rfl) (by as_aux_lemma => kernel_rfl) (fun _ _ _ h => h) rfl ?_ S0 ?_
  rotate_left
  · intro W hW
    have hcl := hW.1.at HZA.out
    have hll := hW.1.lt
    go_simp
    (try with_reducible rfl)
  simp only [Act.put, List.setIfInBounds_toArray, List.set_cons_zero, List.set_cons_succ]
  refine fz_take 5 (v := .agg (relA (zm mm))) rfl (by as_aux_lemma => kernel_rfl) (by as_aux_lemma => kernel_rfl) (by as_aux_lemma => kernel_rfl) (by as_aux_lemma => kernel_rfl) (fun _ _ _ h => h) rfl ?_ S0 ?_
  · intro W hW
    go_simp
    (try rfl)
  simp only [Act.put, List.setIfInBounds_toArray, List.set_cons_zero, List.set_cons_succ]
  refine fz_take 6 (v := ?_) rfl (by as_aux_lemma => kernel_rfl) (by as_aux_lemma => kernel_rfl) (by as_aux_lemma => kernel_rfl) (by as_aux_lemma => kernel_rfl) (fun _ _ _ h => h) rfl ?_ S0 ?_
  rotate_left
  · intro W hW
    go_simp
    (try with_reducible rfl)
  simp only [Act.put, List.setIfInBounds_toArray, List.set_cons_zero, List.set_cons_succ]
  refine fz_take 7 (v := ?_) rfl (by as_aux_lemma => kernel_rfl) (by as_aux_lemma => kernel_rfl) (by as_aux_lemma => kernel_rfl) (by as_aux_lemma => kernel_rfl) (fun _ _ _ h => h) rfl ?_ S0 ?_
  rotate_left
  · intro W hW
    have hcl := hW.1.at HZA.out
    have hll := hW.1.lt
    go_simp
    (try with_reducible rfl)
  simp only [Act.put, List.setIfInBounds_toArray, List.set_cons_zero, List.set_cons_succ]
  refine fz_take 8 (v := .agg (relA (zm mm))) rfl (by as_aux_lemma => kernel_rfl) (by as_aux_lemma => kernel_rfl) (by as_aux_lemma => kernel_rfl) (by as_aux_lemma => kernel_rfl) (fun _ _ _ h => h) rfl ?_ S0 ?_
  · intro W hW
    go_simp
    (try rfl)
  simp only [Act.put, List.setIfInBounds_toArray, List.set_cons_zero, List.set_cons_succ]
  refine fz_take 9 (v := ?_) rfl (by as_aux_lemma => kernel_rfl) (by as_aux_lemma => kernel_rfl) (by as_aux_lemma => kernel_rfl) (by as_aux_lemma => kernel_rfl) (fun _ _ _ h => h) rfl ?_ S0 ?_
  rotate_left
  · intro W hW
    go_simp
    (try with_reducible rfl)
  simp only [Act.put, List.setIfInBounds_toArray, List.set_cons_zero, List.set_cons_succ]
  refine fz_take 10 (v := ?_) rfl (by as_aux_lemma => kernel_rfl) (by as_aux_lemma => kernel_rfl) (by as_aux_lemma => kernel_rfl) (by as_aux_lemma => kernel_rfl) (fun _ _ _ h => h) rfl ?_ S0 ?_
  rotate_left
  · intro W hW
    have hcl := hW.1.at HZA.out
    have hll := hW.1.lt
    go_simp
    (try with_reducible rfl)
  simp only [Act.put, List.setIfInBounds_toArray, List.set_cons_zero, List.set_cons_succ]
  refine fz_take 11 (v := .agg (relA (zm mm))) rfl (by as_aux_lemma => kernel_rfl) (by as_aux_lemma => kernel_rfl) (by as_aux_lemma => kernel_rfl) (by as_aux_lemma => kernel_rfl) (fun _ _ _ h => h) rfl ?_ S0 ?_
  · intro W hW
    go_simp
    (try rfl)
  simp only [Act.put, List.setIfInBounds_toArray, List.set_cons_zero, List.set_cons_succ]
  refine fz_take 12 (v := ?_) rfl (by as_aux_lemma => kernel_rfl) (by as_aux_lemma => kernel_rfl) (by as_aux_lemma => kernel_rfl) (by as_aux_lemma => kernel_rfl) (fun _ _ _ h => h) rfl ?_ S0 ?_
  rotate_left
  · intro W hW
    go_simp
    (try with_reducible rfl)
  simp only [Act.put, List.setIfInBounds_toArray, List.set_cons_zero, List.set_cons_succ]
  refine fz_take 13 (v := ?_) rfl (by as_aux_lemma => kernel_rfl) (by as_aux_lemma => kernel_rfl) (by as_aux_lemma => kernel_rfl) (by as_aux_lemma => kernel_rfl) (fun _ _ _ h => h) rfl ?_ S0 ?_
  rotate_left
  · intro W hW
    have hcl := hW.2.at HZR.out
    have hll := hW.2.lt
    go_simp
    (try with_reducible rfl)
  simp only [Act.put, List.setIfInBounds_toArray, List.set_cons_zero, List.set_cons_succ]
  refine fz_take 14 (v := .agg (relA (zm r.n))) rfl (by as_aux_lemma => kernel_rfl) (by as_aux_lemma => kernel_rfl) (by as_aux_lemma => kernel_rfl) (by as_aux_lemma => kernel_rfl) (fun _ _ _ h => h) rfl ?_ S0 ?_
  · intro W hW
    go_simp
    (try rfl)
  simp only [Act.put, List.setIfInBounds_toArray, List.set_cons_zero, List.set_cons_succ]
  refine fz_take 15 (v := ?_) rfl (by as_aux_lemma => kernel_rfl) (by as_aux_lemma => kernel_rfl) (by as_aux_lemma => kernel_rfl) (by as_aux_lemma => kernel_rfl) (fun _ _ _ h => h) rfl ?_ S0 ?_
  rotate_left
  · intro W hW
    go_simp
    (try with_reducible rfl)
  simp only [Act.put, List.setIfInBounds_toArray, List.set_cons_zero, List.set_cons_succ]
  refine fz_take 16 (v := ?_) rfl (by as_aux_lemma => kernel_rfl) (by as_aux_lemma => kernel_rfl) (by as_aux_lemma => kernel_rfl) (by as_aux_lemma => kernel_rfl) (fun _ _ _ h => h) rfl ?_ S0 ?_
  rotate_left
  · intro W hW
    have hcl := hW.2.at HZR.out
    have hll := hW.2.lt
    go_simp
    (try with_reducible rfl)
  simp only [Act.put, List.setIfInBounds_toArray, List.set_cons_zero, List.set_cons_succ]
  refine fz_take 17 (v := .agg (relA (zm r.n))) rfl (by as_aux_lemma => kernel_rfl) (by as_aux_lemma => kernel_rfl) (by as_aux_lemma => kernel_rfl) (by as_aux_lemma => kernel_rfl) (fun _ _ _ h => h) rfl ?_ S0 ?_
  · intro W hW
    go_simp
    (try rfl)
  simp only [Act.put, List.setIfInBounds_toArray, List.set_cons_zero, List.set_cons_succ]
  refine fz_mix [(18, 17, none), (19, 18, none), (20, 19, none), (21, 20, none), (22, 21, none), (23, 22, none)] #[true, true, true, true, true, true, true, true, true, true, true, true, true, true, true, true, true, true, true, true, true, true, true, true, false, false, false, false, false, false] 30 (relA zeroR) 6 6 hzw (by simp) (by simp) ?_ ?_ rfl hon S0 (by as_aux_lemma => kernel_rfl) (by as_aux_lemma => kernel_rfl) ?_ ?_
  · intro i d hi
    simp only [List.mem_cons, Prod.mk.injEq, List.not_mem_nil, or_false, and_true] at hi
    rcases hi with ⟨rfl, rfl⟩ | ⟨rfl, rfl⟩ | ⟨rfl, rfl⟩ | ⟨rfl, rfl⟩ | ⟨rfl, rfl⟩ | ⟨rfl, rfl⟩ <;> exact ⟨_, rfl, rfl, rfl, rfl⟩
  · intro x hx
    simp only [List.mem_cons, List.not_mem_nil, or_false] at hx
    rcases hx with rfl | rfl | rfl | rfl | rfl | rfl <;> rfl
  · intro i d v hi
    simp only [List.mem_cons, Prod.mk.injEq, List.not_mem_nil, or_false, reduceCtorEq, and_false] at hi
  intro p WE hm hSE
  obtain ⟨u18, hu18⟩ := Option.isSome_iff_exists.1 (hm.done (18, 17, none) (by simp) rfl)
  obtain ⟨N17, rfl, b17, g17⟩ := hm.blk 18 17 u18 (by simp) hu18
  obtain ⟨u19, hu19⟩ := Option.isSome_iff_exists.1 (hm.done (19, 18, none) (by simp) rfl)
  obtain ⟨N18, rfl, b18, g18⟩ := hm.blk 19 18 u19 (by simp) hu19
  obtain ⟨u20, hu20⟩ := Option.isSome_iff_exists.1 (hm.done (20, 19, none) (by simp) rfl)
  obtain ⟨N19, rfl, b19, g19⟩ := hm.blk 20 19 u20 (by simp) hu20
  obtain ⟨u21, hu21⟩ := Option.isSome_iff_exists.1 (hm.done (21, 20, none) (by simp) rfl)
  obtain ⟨N20, rfl, b20, g20⟩ := hm.blk 21 20 u21 (by simp) hu21
  obtain ⟨u22, hu22⟩ := Option.isSome_iff_exists.1 (hm.done (22, 21, none) (by simp) rfl)
  obtain ⟨N21, rfl, b21, g21⟩ := hm.blk 22 21 u22 (by simp) hu22
  obtain ⟨u23, hu23⟩ := Option.isSome_iff_exists.1 (hm.done (23, 22, none) (by simp) rfl)
  obtain ⟨N22, rfl, b22, g22⟩ := hm.blk 23 22 u23 (by simp) hu23
  have n18_17 : N18 ≠ N17 := fun e => absurd (hm.apart 19 18 18 17 _ (by simp) (by simp) hu19 (by rw [hu18, e])) (by decide)
  have n19_17 : N19 ≠ N17 := fun e => absurd (hm.apart 20 19 18 17 _ (by simp) (by simp) hu20 (by rw [hu18, e])) (by decide)
  have n19_18 : N19 ≠ N18 := fun e => absurd (hm.apart 20 19 19 18 _ (by simp) (by simp) hu20 (by rw [hu19, e])) (by decide)
  have n20_17 : N20 ≠ N17 := fun e => absurd (hm.apart 21 20 18 17 _ (by simp) (by simp) hu21 (by rw [hu18, e])) (by decide)
  have n20_18 : N20 ≠ N18 := fun e => absurd (hm.apart 21 20 19 18 _ (by simp) (by simp) hu21 (by rw [hu19, e])) (by decide)
  have n20_19 : N20 ≠ N19 := fun e => absurd (hm.apart 21 20 20 19 _ (by simp) (by simp) hu21 (by rw [hu20, e])) (by decide)
  have n21_17 : N21 ≠ N17 := fun e => absurd (hm.apart 22 21 18 17 _ (by simp) (by simp) hu22 (by rw [hu18, e])) (by decide)
  have n21_18 : N21 ≠ N18 := fun e => absurd (hm.apart 22 21 19 18 _ (by simp) (by simp) hu22 (by rw [hu19, e])) (by decide)
  have n21_19 : N21 ≠ N19 := fun e => absurd (hm.apart 22 21 20 19 _ (by simp) (by simp) hu22 (by rw [hu20, e])) (by decide)
  have n21_20 : N21 ≠ N20 := fun e => absurd (hm.apart 22 21 21 20 _ (by simp) (by simp) hu22 (by rw [hu21, e])) (by decide)
  have n22_17 : N22 ≠ N17 := fun e => absurd (hm.apart 23 22 18 17 _ (by simp) (by simp) hu23 (by rw [hu18, e])) (by decide)
  have n22_18 : N22 ≠ N18 := fun e => absurd (hm.apart 23 22 19 18 _ (by simp) (by simp) hu23 (by rw [hu19, e])) (by decide)
  have n22_19 : N22 ≠ N19 := fun e => absurd (hm.apart 23 22 20 19 _ (by simp) (by simp) hu23 (by rw [hu20, e])) (by decide)
  have n22_20 : N22 ≠ N20 := fun e => absurd (hm.apart 23 22 21 20 _ (by simp) (by simp) hu23 (by rw [hu21, e])) (by decide)
  have n22_21 : N22 ≠ N21 := fun e => absurd (hm.apart 23 22 22 21 _ (by simp) (by simp) hu23 (by rw [hu22, e])) (by decide)
  have kM := hm.on
  simp only [putsA, List.foldl_cons, List.foldl_nil, hu18, hu19, hu20, hu21, hu22, hu23, Option.getD_some, Act.put, List.setIfInBounds_toArray, List.set_cons_zero, List.set_cons_succ]
  clear hm hu18 hu19 hu20 hu21 hu22 hu23
  have ha5 := A5.lt
  have hb5 := B5.lt
  have hv5 := V5.lt
  have hr5 := R5.lt
  have hq5 := Q5.lt
  have g17' : W5.heap.size ≤ N17 := g17
  have g18' : W5.heap.size ≤ N18 := g18
  have g19' : W5.heap.size ≤ N19 := g19
  have g20' : W5.heap.size ≤ N20 := g20
  have g21' : W5.heap.size ≤ N21 := g21
  have g22' : W5.heap.size ≤ N22 := g22
  refine fz_one 24 rfl rfl (by as_aux_lemma => kernel_rfl) (fun K hK => ?_)
  refine wp_stw rfl rfl rfl b17 ?_
  refine hK.out _ _ (fun _ => ⟨(hSE.1.rowFar (N := N17) (by omega) _), (hSE.2.rowFar (N := N17) (by omega) _)⟩) ?_
  clear hK
  refine fz_one 25 rfl rfl (by as_aux_lemma => kernel_rfl) (fun K hK => ?_)
  refine wp_stw rfl rfl rfl (b18.rowFar (N := N17) (by omega) _) ?_
  refine hK.out _ _ (fun _ => ⟨((hSE.1.rowFar (N := N17) (by omega) _).rowFar (N := N18) (by omega) _), ((hSE.2.rowFar (N := N17) (by omega) _).rowFar (N := N18) (by omega) _)⟩) ?_
  clear hK
  refine fz_one 26 rfl rfl (by as_aux_lemma => kernel_rfl) (fun K hK => ?_)
  refine wp_stw rfl rfl rfl ((b19.rowFar (N := N17) (by omega) _).rowFar (N := N18) (by omega) _) ?_
  refine hK.out _ _ (fun _ => ⟨(((hSE.1.rowFar (N := N17) (by omega) _).rowFar (N := N18) (by omega) _).rowFar (N := N19) (by omega) _), (((hSE.2.rowFar (N := N17) (by omega) _).rowFar (N := N18) (by omega) _).rowFar (N := N19) (by omega) _)⟩) ?_
  clear hK
  refine fz_one 27 rfl rfl (by as_aux_lemma => kernel_rfl) (fun K hK => ?_)
  refine wp_stw rfl rfl rfl (((b20.rowFar (N := N17) (by omega) _).rowFar (N := N18) (by omega) _).rowFar (N := N19) (by omega) _) ?_
  refine hK.out _ _ (fun _ => ⟨((((hSE.1.rowFar (N := N17) (by omega) _).rowFar (N := N18) (by omega) _).rowFar (N := N19) (by omega) _).rowFar (N := N20) (by omega) _), ((((hSE.2.rowFar (N := N17) (by omega) _).rowFar (N := N18) (by omega) _).rowFar (N := N19) (by omega) _).rowFar (N := N20) (by omega) _)⟩) ?_
  clear hK
  refine fz_one 28 rfl rfl (by as_aux_lemma => kernel_rfl) (fun K hK => ?_)
  refine wp_stw rfl rfl rfl ((((b21.rowFar (N := N17) (by omega) _).rowFar (N := N18) (by omega) _).rowFar (N := N19) (by omega) _).rowFar (N := N20) (by omega) _) ?_
  refine hK.out _ _ (fun _ => ⟨(((((hSE.1.rowFar (N := N17) (by omega) _).rowFar (N := N18) (by omega) _).rowFar (N := N19) (by omega) _).rowFar (N := N20) (by omega) _).rowFar (N := N21) (by omega) _), (((((hSE.2.rowFar (N := N17) (by omega) _).rowFar (N := N18) (by omega) _).rowFar (N := N19) (by omega) _).rowFar (N := N20) (by omega) _).rowFar (N := N21) (by omega) _)⟩) ?_
  clear hK
  refine fz_one 29 rfl rfl (by as_aux_lemma => kernel_rfl) (fun K hK => ?_)
  refine wp_stw rfl rfl rfl (((((b22.rowFar (N := N17) (by omega) _).rowFar (N := N18) (by omega) _).rowFar (N := N19) (by omega) _).rowFar (N := N20) (by omega) _).rowFar (N := N21) (by omega) _) ?_
  refine hK.out _ _ (fun _ => ⟨((((((hSE.1.rowFar (N := N17) (by omega) _).rowFar (N := N18) (by omega) _).rowFar (N := N19) (by omega) _).rowFar (N := N20) (by omega) _).rowFar (N := N21) (by omega) _).rowFar (N := N22) (by omega) _), ((((((hSE.2.rowFar (N := N17) (by omega) _).rowFar (N := N18) (by omega) _).rowFar (N := N19) (by omega) _).rowFar (N := N20) (by omega) _).rowFar (N := N21) (by omega) _).rowFar (N := N22) (by omega) _)⟩) ?_
  clear hK
  refine fz_done (by as_aux_lemma => kernel_rfl) (NoPanic.normal ?_)
  obtain ⟨W6, hW6⟩ : ∃ W6, W6 = ((((((WE.setRow N17 (relA (zm mm))).setRow N18 (relA (zm mm))).setRow N19 (relA (zm mm))).setRow N20 (relA (zm mm))).setRow N21 (relA (zm r.n))).setRow N22 (relA (zm r.n))) := ⟨_, rfl⟩
  have A6 : Bk W6 N15 (relA A) := by rw [hW6]; exact (((((((A5.drew.on kM).rowFar (by omega) _).rowFar (by omega) _).rowFar (by omega) _).rowFar (by omega) _).rowFar (by omega) _).rowFar (by omega) _)
  have B6 : Bk W6 N16 (relA B) := by rw [hW6]; exact (((((((B5.drew.on kM).rowFar (by omega) _).rowFar (by omega) _).rowFar (by omega) _).rowFar (by omega) _).rowFar (by omega) _).rowFar (by omega) _)
  have R6 : Bk W6 w1.heap.size (relA r) := by rw [hW6]; exact (((((((R5.drew.on kM).rowFar (by omega) _).rowFar (by omega) _).rowFar (by omega) _).rowFar (by omega) _).rowFar (by omega) _).rowFar (by omega) _)
  have V6 : Bk W6 (w1.heap.size + 1) (relA r) := by rw [hW6]; exact (((((((V5.drew.on kM).rowFar (by omega) _).rowFar (by omega) _).rowFar (by omega) _).rowFar (by omega) _).rowFar (by omega) _).rowFar (by omega) _)
  have Q6 : Bk W6 w2.heap.size (relA q) := by rw [hW6]; exact (((((((Q5.drew.on kM).rowFar (by omega) _).rowFar (by omega) _).rowFar (by omega) _).rowFar (by omega) _).rowFar (by omega) _).rowFar (by omega) _)
  have U6 : Bk W6 N17 (relA (zm mm)) := by rw [hW6]; exact ((((((b17.row _).rowFar (by omega) _).rowFar (by omega) _).rowFar (by omega) _).rowFar (by omega) _).rowFar (by omega) _)
  have D6 : Bk W6 N18 (relA (zm mm)) := by rw [hW6]; exact ((((((b18.rowFar (by omega) _).row _).rowFar (by omega) _).rowFar (by omega) _).rowFar (by omega) _).rowFar (by omega) _)
  have E6 : Bk W6 N19 (relA (zm mm)) := by rw [hW6]; exact ((((((b19.rowFar (by omega) _).rowFar (by omega) _).row _).rowFar (by omega) _).rowFar (by omega) _).rowFar (by omega) _)
  have T6 : Bk W6 N20 (relA (zm mm)) := by rw [hW6]; exact ((((((b20.rowFar (by omega) _).rowFar (by omega) _).rowFar (by omega) _).row _).rowFar (by omega) _).rowFar (by omega) _)
  have I6 : Bk W6 N21 (relA (zm r.n)) := by rw [hW6]; exact ((((((b21.rowFar (by omega) _).rowFar (by omega) _).rowFar (by omega) _).rowFar (by omega) _).row _).rowFar (by omega) _)
  have P6 : Bk W6 N22 (relA (zm r.n)) := by rw [hW6]; exact ((((((b22.rowFar (by omega) _).rowFar (by omega) _).rowFar (by omega) _).rowFar (by omega) _).rowFar (by omega) _).row _)
  have K6 : On w W6 := by rw [hW6]; exact (((((((K5.drew.trans kM).row (by have := K5.size; omega) _).row (by have := K5.size; omega) _).row (by have := K5.size; omega) _).row (by have := K5.size; omega) _).row (by have := K5.size; omega) _).row (by have := K5.size; omega) _)
  have hw5 : w.heap.size ≤ W5.heap.size := K5.size
  have TB6 : TB W6 w1.heap.size (w1.heap.size + 1) w2.heap.size N15 N16 r q A B := ⟨R6, V6, Q6, A6, B6⟩
  rw [← hW6]
  clear hW6 hSE b17 b18 b19 b20 b21 b22 kM S0 hon R5 V5 Q5 A5 B5 K5 g17 g18 g19 g20 g21 g22 R6 V6 Q6 A6 B6
  have hwA := hA.wr.w
  have hwB := hB.wr.w
  have hmA : A.n ≤ 64 := hA.n
  have HUN : Hid (∀ a b, H A a b = true → a < mm ∧ b < mm) := fun a b h => by have := hA.b a b h; omega
  have HUR : Hid (∀ a b, H r a b = true → a < r.n ∧ b < r.n) := fun a b h => hr.b a b h
  have hr6 := hr.n
  rw [← iS_start hr] at I6
  rw [← pS_start hr s] at P6
  have hts := tS_start A B
  rw [hAn] at hts
  rw [← hts] at T6
  clear hts
  go_wp2
  go_loopg [23] 64 (fun gg s23 wr => ∃ x : Nat, x ≤ 64 ∧ gg = 64 - x ∧ s23 = .int .i64 x ∧ Hid (On w wr) ∧ TB wr w1.heap.size (w1.heap.size + 1) w2.heap.size N15 N16 r q A B ∧ Bk wr N17 (relA (uptoR (zm mm) (unionG A B) x)) ∧ Bk wr N18 (relA (uptoR (zm mm) (minusG A B) x)) ∧ Bk wr N19 (relA (uptoR (zm mm) (meetG A B) x)) ∧ Bk wr N20 (relA (tS A B x 0)) ∧ Bk wr N21 (relA (iS r x 0)) ∧ Bk wr N22 (relA (pS r s x 0)))
  case atStart => exact ⟨0, by omega, rfl, rfl, K6, TB6, by rw [uptoR_zero]; exact U6, by rw [uptoR_zero]; exact D6, by rw [uptoR_zero]; exact E6, T6, I6, P6⟩
  case round =>
    clear K6 TB6 U6 D6 E6 T6 I6 P6
    obtain ⟨x, hx, hk, rfl, HO, HT, U0, D0, E0, T0, I0, P0⟩ := hrel
    rcases Nat.lt_or_ge x 64 with hlt | hge
    · have hx7 : (x : Int) < 64 := by omega
      have eu : bits .or .u64 ((A.f x : Nat) : Int) ((B.f x : Nat) : Int) = ((unionG A B x : Nat) : Int) := u64_or_nat _ _ (hwA x) (hwB x)
      have ed : bits .andNot .u64 ((A.f x : Nat) : Int) ((B.f x : Nat) : Int) = ((minusG A B x : Nat) : Int) := u64_andNot_nat _ _ (hwA x) (hwB x)
      have ee : bits .and .u64 ((A.f x : Nat) : Int) ((B.f x : Nat) : Int) = ((meetG A B x : Nat) : Int) := u64_and_nat _ _ (hwA x) (hwB x)
      have HAX : Hid ((relA A)[1 + x]? = some (.int .u64 (A.f x))) := relA_at A hlt
      have HBX : Hid ((relA B)[1 + x]? = some (.int .u64 (B.f x))) := relA_at B hlt
      have hsu := uptoR_step (zm mm) (unionG A B) x
      have hsd := uptoR_step (zm mm) (minusG A B) x
      have hse := uptoR_step (zm mm) (meetG A B) x
      have U1 := U0.drew.set1 hlt (unionG A B x)
      rw [hsu] at U1
      have D1 := ((D0.drew.far (N := N17) (by omega) (1 + x) (.int .u64 (unionG A B x))).set1 hlt (minusG A B x))
      rw [hsd] at D1
      have E1 := (((E0.drew.far (N := N17) (by omega) (1 + x) (.int .u64 (unionG A B x))).far (N := N18) (by omega) (1 + x) (.int .u64 (minusG A B x))).set1 hlt (meetG A B x))
      rw [hse] at E1
      have EX := fun (M : Nat) (cs : Array Value) (h : Bk wr M cs) (h7 : N17 ≠ M) (h8 : N18 ≠ M) (h9 : N19 ≠ M) => (((h.drew.far (N := N17) h7 (1 + x) (.int .u64 (unionG A B x))).far (N := N18) h8 (1 + x) (.int .u64 (minusG A B x))).far (N := N19) h9 (1 + x) (.int .u64 (meetG A B x)))
      have U2 := (U1.far (N := N18) (by omega) (1 + x) (.int .u64 (minusG A B x))).far (N := N19) (by omega) (1 + x) (.int .u64 (meetG A B x))
      have D2 := D1.far (N := N19) (by omega) (1 + x) (.int .u64 (meetG A B x))
      have T2 := EX _ _ T0 (by omega) (by omega) (by omega)
      have I2 := EX _ _ I0 (by omega) (by omega) (by omega)
      have P2 := EX _ _ P0 (by omega) (by omega) (by omega)
      have HT2 : TB _ w1.heap.size (w1.heap.size + 1) w2.heap.size N15 N16 r q A B := ⟨EX _ _ HT.R (by omega) (by omega) (by omega), EX _ _ HT.V (by omega) (by omega) (by omega), EX _ _ HT.Q (by omega) (by omega) (by omega), EX _ _ HT.A (by omega) (by omega) (by omega), EX _ _ HT.B (by omega) (by omega) (by omega)⟩
      have K2 := (((HO.out.drew.setNew (N := N17) (i := 1 + x) (by omega) (.int .u64 (unionG A B x))).setNew (N := N18) (i := 1 + x) (by omega) (.int .u64 (minusG A B x))).setNew (N := N19) (i := 1 + x) (by omega) (.int .u64 (meetG A B x)))
      have HK2 : Hid (On w _) := K2
      clear hsu hsd hse U1 D1 EX K2
      generalize unionG A B x = gu at *
      generalize minusG A B x = gd at *
      generalize meetG A B x = ge at *
      go_wp2
      have S0 : (Bk wr.drew N15 (relA A) ∧ Bk wr.drew N16 (relA B)) := ⟨HT.A, HT.B⟩
      have c17 := U0.at (relA_at _ hlt)
      have f17 := U0.fr (1 + x)
      have l17 := U0.lt
      refine region_fz (fun W => Bk W N15 (relA A) ∧ Bk W N16 (relA B)) [] 39 (by as_aux_lemma => kernel_rfl) rfl ?_
      refine fz_take 0 (v := ?_) rfl (by as_aux_lemma => kernel_rfl) (by as_aux_lemma => kernel_rfl) (by as_aux_lemma => kernel_rfl) (by as_aux_lemma => kernel_rfl) (fun _ _ _ h => h) rfl ?_ S0 ?_
      rotate_left
      · intro W hW
        go_simp
        (try with_reducible rfl)
      simp only [Act.put, List.setIfInBounds_toArray, List.set_cons_zero, List.set_cons_succ]
      refine fz_take 1 (v := ?_) rfl (by as_aux_lemma => kernel_rfl) (by as_aux_lemma => kernel_rfl) (by as_aux_lemma => kernel_rfl) (by as_aux_lemma => kernel_rfl) (fun _ _ _ h => h) rfl ?_ S0 ?_
      rotate_left
      · intro W hW
        go_simp
        (try with_reducible rfl)
      simp only [Act.put, List.setIfInBounds_toArray, List.set_cons_zero, List.set_cons_succ]
      refine fz_take 2 (v := ?_) rfl (by as_aux_lemma => kernel_rfl) (by as_aux_lemma => kernel_rfl) (by as_aux_lemma => kernel_rfl) (by as_aux_lemma => kernel_rfl) (fun _ _ _ h => h) rfl ?_ S0 ?_
      rotate_left
      · intro W hW
        go_simp
        (try with_reducible rfl)
      simp only [Act.put, List.setIfInBounds_toArray, List.set_cons_zero, List.set_cons_succ]
      refine fz_take 3 (v := ?_) rfl (by as_aux_lemma => kernel_rfl) (by as_aux_lemma => kernel_rfl) (by as_aux_lemma => kernel_rfl) (by as_aux_lemma => kernel_rfl) (fun _ _ _ h => h) rfl ?_ S0 ?_
      rotate_left
      · intro W hW
        go_simp
        (try with_reducible rfl)
      simp only [Act.put, List.setIfInBounds_toArray, List.set_cons_zero, List.set_cons_succ]
      refine fz_take 4 (v := ?_) rfl (by as_aux_lemma => kernel_rfl) (by as_aux_lemma => kernel_rfl) (by as_aux_lemma => kernel_rfl) (by as_aux_lemma => kernel_rfl) (fun _ _ _ h => h) rfl ?_ S0 ?_
      rotate_left
      · intro W hW
        go_simp
        (try with_reducible rfl)
      simp only [Act.put, List.setIfInBounds_toArray, List.set_cons_zero, List.set_cons_succ]
      refine fz_take 5 (v := ?_) rfl (by as_aux_lemma => kernel_rfl) (by as_aux_lemma => kernel_rfl) (by as_aux_lemma => kernel_rfl) (by as_aux_lemma => kernel_rfl) (fun _ _ _ h => h) rfl ?_ S0 ?_
      rotate_left
      · intro W hW
        go_simp
        (try with_reducible rfl)
      simp only [Act.put, List.setIfInBounds_toArray, List.set_cons_zero, List.set_cons_succ]
      refine fz_take 6 (v := ?_) rfl (by as_aux_lemma => kernel_rfl) (by as_aux_lemma => kernel_rfl) (by as_aux_lemma => kernel_rfl) (by as_aux_lemma => kernel_rfl) (fun _ _ _ h => h) rfl ?_ S0 ?_
      rotate_left
      · intro W hW
        have hcl := hW.1.at HAX.out
        have hll := hW.1.lt
        go_simp
        (try with_reducible rfl)
      simp only [Act.put, List.setIfInBounds_toArray, List.set_cons_zero, List.set_cons_succ]
      refine fz_take 7 (v := ?_) rfl (by as_aux_lemma => kernel_rfl) (by as_aux_lemma => kernel_rfl) (by as_aux_lemma => kernel_rfl) (by as_aux_lemma => kernel_rfl) (fun _ _ _ h => h) rfl ?_ S0 ?_
      rotate_left
      · intro W hW
        go_simp
        (try with_reducible rfl)
      simp only [Act.put, List.setIfInBounds_toArray, List.set_cons_zero, List.set_cons_succ]
      refine fz_take 8 (v := ?_) rfl (by as_aux_lemma => kernel_rfl) (by as_aux_lemma => kernel_rfl) (by as_aux_lemma => kernel_rfl) (by as_aux_lemma => kernel_rfl) (fun _ _ _ h => h) rfl ?_ S0 ?_
      rotate_left
      · intro W hW
        go_simp
        (try with_reducible rfl)
      simp only [Act.put, List.setIfInBounds_toArray, List.set_cons_zero, List.set_cons_succ]
      refine fz_take 9 (v := ?_) rfl (by as_aux_lemma => kernel_rfl) (by as_aux_lemma => kernel_rfl) (by as_aux_lemma => kernel_rfl) (by as_aux_lemma => kernel_rfl) (fun _ _ _ h => h) rfl ?_ S0 ?_
      rotate_left
      · intro W hW
        go_simp
        (try with_reducible rfl)
      simp only [Act.put, List.setIfInBounds_toArray, List.set_cons_zero, List.set_cons_succ]
      refine fz_take 10 (v := ?_) rfl (by as_aux_lemma => kernel_rfl) (by as_aux_lemma => kernel_rfl) (by as_aux_lemma => kernel_rfl) (by as_aux_lemma => kernel_rfl) (fun _ _ _ h => h) rfl ?_ S0 ?_
      rotate_left
      · intro W hW
        have hcl := hW.2.at HBX.out
        have hll := hW.2.lt
        go_simp
        (try with_reducible rfl)
      simp only [Act.put, List.setIfInBounds_toArray, List.set_cons_zero, List.set_cons_succ]
      refine fz_take 11 (v := ?_) rfl (by as_aux_lemma => kernel_rfl) (by as_aux_lemma => kernel_rfl) (by as_aux_lemma => kernel_rfl) (by as_aux_lemma => kernel_rfl) (fun _ _ _ h => h) rfl ?_ S0 ?_
      rotate_left
      · intro W hW
        go_simp
        (try with_reducible rfl)
      simp only [Act.put, List.setIfInBounds_toArray, List.set_cons_zero, List.set_cons_succ]
      refine fz_take 12 (v := ?_) rfl (by as_aux_lemma => kernel_rfl) (by as_aux_lemma => kernel_rfl) (by as_aux_lemma => kernel_rfl) (by as_aux_lemma => kernel_rfl) (fun _ _ _ h => h) rfl ?_ S0 ?_
      rotate_left
      · intro W hW
        go_simp
        (try with_reducible rfl)
      simp only [Act.put, List.setIfInBounds_toArray, List.set_cons_zero, List.set_cons_succ]
      refine fz_take 13 (v := ?_) rfl (by as_aux_lemma => kernel_rfl) (by as_aux_lemma => kernel_rfl) (by as_aux_lemma => kernel_rfl) (by as_aux_lemma => kernel_rfl) (fun _ _ _ h => h) rfl ?_ S0 ?_
      rotate_left
      · intro W hW
        go_simp
        (try with_reducible rfl)
      simp only [Act.put, List.setIfInBounds_toArray, List.set_cons_zero, List.set_cons_succ]
      refine fz_take 14 (v := ?_) rfl (by as_aux_lemma => kernel_rfl) (by as_aux_lemma => kernel_rfl) (by as_aux_lemma => kernel_rfl) (by as_aux_lemma => kernel_rfl) (fun _ _ _ h => h) rfl ?_ S0 ?_
      rotate_left
      · intro W hW
        go_simp
        (try with_reducible rfl)
      simp only [Act.put, List.setIfInBounds_toArray, List.set_cons_zero, List.set_cons_succ]
      refine fz_take 15 (v := ?_) rfl (by as_aux_lemma => kernel_rfl) (by as_aux_lemma => kernel_rfl) (by as_aux_lemma => kernel_rfl) (by as_aux_lemma => kernel_rfl) (fun _ _ _ h => h) rfl ?_ S0 ?_
      rotate_left
      · intro W hW
        have hcl := hW.1.at HAX.out
        have hll := hW.1.lt
        go_simp
        (try with_reducible rfl)
      simp only [Act.put, List.setIfInBounds_toArray, List.set_cons_zero, List.set_cons_succ]
      refine fz_take 16 (v := ?_) rfl (by as_aux_lemma => kernel_rfl) (by as_aux_lemma => kernel_rfl) (by as_aux_lemma => kernel_rfl) (by as_aux_lemma => kernel_rfl) (fun _ _ _ h => h) rfl ?_ S0 ?_
      rotate_left
      · intro W hW
        go_simp
        (try with_reducible rfl)
      simp only [Act.put, List.setIfInBounds_toArray, List.set_cons_zero, List.set_cons_succ]
      refine fz_take 17 (v := ?_) rfl (by as_aux_lemma => kernel_rfl) (by as_aux_lemma => kernel_rfl) (by as_aux_lemma => kernel_rfl) (by as_aux_lemma => kernel_rfl) (fun _ _ _ h => h) rfl ?_ S0 ?_
      rotate_left
      · intro W hW
        go_simp
        (try with_reducible rfl)
      simp only [Act.put, List.setIfInBounds_toArray, List.set_cons_zero, List.set_cons_succ]
      refine fz_take 18 (v := ?_) rfl (by as_aux_lemma => kernel_rfl) (by as_aux_lemma => kernel_rfl) (by as_aux_lemma => kernel_rfl) (by as_aux_lemma => kernel_rfl) (fun _ _ _ h => h) rfl ?_ S0 ?_
      rotate_left
      · intro W hW
        go_simp
        (try with_reducible rfl)
      simp only [Act.put, List.setIfInBounds_toArray, List.set_cons_zero, List.set_cons_succ]
      refine fz_take 19 (v := ?_) rfl (by as_aux_lemma => kernel_rfl) (by as_aux_lemma => kernel_rfl) (by as_aux_lemma => kernel_rfl) (by as_aux_lemma => kernel_rfl) (fun _ _ _ h => h) rfl ?_ S0 ?_
      rotate_left
      · intro W hW
        have hcl := hW.2.at HBX.out
        have hll := hW.2.lt
        go_simp
        (try with_reducible rfl)
      simp only [Act.put, List.setIfInBounds_toArray, List.set_cons_zero, List.set_cons_succ]
      refine fz_take 20 (v := ?_) rfl (by as_aux_lemma => kernel_rfl) (by as_aux_lemma => kernel_rfl) (by as_aux_lemma => kernel_rfl) (by as_aux_lemma => kernel_rfl) (fun _ _ _ h => h) rfl ?_ S0 ?_
      rotate_left
      · intro W hW
        go_simp
        (try with_reducible rfl)
      simp only [Act.put, List.setIfInBounds_toArray, List.set_cons_zero, List.set_cons_succ]
      refine fz_take 21 (v := ?_) rfl (by as_aux_lemma => kernel_rfl) (by as_aux_lemma => kernel_rfl) (by as_aux_lemma => kernel_rfl) (by as_aux_lemma => kernel_rfl) (fun _ _ _ h => h) rfl ?_ S0 ?_
      rotate_left
      · intro W hW
        go_simp
        (try with_reducible rfl)
      simp only [Act.put, List.setIfInBounds_toArray, List.set_cons_zero, List.set_cons_succ]
      refine fz_take 22 (v := ?_) rfl (by as_aux_lemma => kernel_rfl) (by as_aux_lemma => kernel_rfl) (by as_aux_lemma => kernel_rfl) (by as_aux_lemma => kernel_rfl) (fun _ _ _ h => h) rfl ?_ S0 ?_
      rotate_left
      · intro W hW
        go_simp
        (try with_reducible rfl)
      simp only [Act.put, List.setIfInBounds_toArray, List.set_cons_zero, List.set_cons_succ]
      refine fz_take 23 (v := ?_) rfl (by as_aux_lemma => kernel_rfl) (by as_aux_lemma => kernel_rfl) (by as_aux_lemma => kernel_rfl) (by as_aux_lemma => kernel_rfl) (fun _ _ _ h => h) rfl ?_ S0 ?_
      rotate_left
      · intro W hW
        go_simp
        (try with_reducible rfl)
      simp only [Act.put, List.setIfInBounds_toArray, List.set_cons_zero, List.set_cons_succ]
      refine fz_take 24 (v := ?_) rfl (by as_aux_lemma => kernel_rfl) (by as_aux_lemma => kernel_rfl) (by as_aux_lemma => kernel_rfl) (by as_aux_lemma => kernel_rfl) (fun _ _ _ h => h) rfl ?_ S0 ?_
      rotate_left
      · intro W hW
        have hcl := hW.1.at HAX.out
        have hll := hW.1.lt
        go_simp
        (try with_reducible rfl)
      simp only [Act.put, List.setIfInBounds_toArray, List.set_cons_zero, List.set_cons_succ]
      refine fz_take 25 (v := ?_) rfl (by as_aux_lemma => kernel_rfl) (by as_aux_lemma => kernel_rfl) (by as_aux_lemma => kernel_rfl) (by as_aux_lemma => kernel_rfl) (fun _ _ _ h => h) rfl ?_ S0 ?_
      rotate_left
      · intro W hW
        go_simp
        (try with_reducible rfl)
      simp only [Act.put, List.setIfInBounds_toArray, List.set_cons_zero, List.set_cons_succ]
      refine fz_take 26 (v := ?_) rfl (by as_aux_lemma => kernel_rfl) (by as_aux_lemma => kernel_rfl) (by as_aux_lemma => kernel_rfl) (by as_aux_lemma => kernel_rfl) (fun _ _ _ h => h) rfl ?_ S0 ?_
      rotate_left
      · intro W hW
        go_simp
        (try with_reducible rfl)
      simp only [Act.put, List.setIfInBounds_toArray, List.set_cons_zero, List.set_cons_succ]
      refine fz_take 27 (v := ?_) rfl (by as_aux_lemma => kernel_rfl) (by as_aux_lemma => kernel_rfl) (by as_aux_lemma => kernel_rfl) (by as_aux_lemma => kernel_rfl) (fun _ _ _ h => h) rfl ?_ S0 ?_
      rotate_left
      · intro W hW
        go_simp
        (try with_reducible rfl)
      simp only [Act.put, List.setIfInBounds_toArray, List.set_cons_zero, List.set_cons_succ]
      refine fz_take 28 (v := ?_) rfl (by as_aux_lemma => kernel_rfl) (by as_aux_lemma => kernel_rfl) (by as_aux_lemma => kernel_rfl) (by as_aux_lemma => kernel_rfl) (fun _ _ _ h => h) rfl ?_ S0 ?_
      rotate_left
      · intro W hW
        have hcl := hW.2.at HBX.out
        have hll := hW.2.lt
        go_simp
        (try with_reducible rfl)
      simp only [Act.put, List.setIfInBounds_toArray, List.set_cons_zero, List.set_cons_succ]
      refine fz_take 29 (v := ?_) rfl (by as_aux_lemma => kernel_rfl) (by as_aux_lemma => kernel_rfl) (by as_aux_lemma => kernel_rfl) (by as_aux_lemma => kernel_rfl) (fun _ _ _ h => h) rfl ?_ S0 ?_
      rotate_left
      · intro W hW
        go_simp
        (try with_reducible rfl)
      simp only [Act.put, List.setIfInBounds_toArray, List.set_cons_zero, List.set_cons_succ]
      refine fz_take 30 (v := ?_) rfl (by as_aux_lemma => kernel_rfl) (by as_aux_lemma => kernel_rfl) (by as_aux_lemma => kernel_rfl) (by as_aux_lemma => kernel_rfl) (fun _ _ _ h => h) rfl ?_ S0 ?_
      rotate_left
      · intro W hW
        go_simp
        (try with_reducible rfl)
      simp only [Act.put, List.setIfInBounds_toArray, List.set_cons_zero, List.set_cons_succ]
      refine fz_take 31 (v := ?_) rfl (by as_aux_lemma => kernel_rfl) (by as_aux_lemma => kernel_rfl) (by as_aux_lemma => kernel_rfl) (by as_aux_lemma => kernel_rfl) (fun _ _ _ h => h) rfl ?_ S0 ?_
      rotate_left
      · intro W hW
        go_simp
        (try with_reducible rfl)
      simp only [Act.put, List.setIfInBounds_toArray, List.set_cons_zero, List.set_cons_succ]
      refine fz_take 33 (v := ?_) rfl (by as_aux_lemma => kernel_rfl) (by as_aux_lemma => kernel_rfl) (by as_aux_lemma => kernel_rfl) (by as_aux_lemma => kernel_rfl) (fun _ _ _ h => h) rfl ?_ S0 ?_
      rotate_left
      · intro W hW
        go_simp
        (try with_reducible rfl)
      simp only [Act.put, List.setIfInBounds_toArray, List.set_cons_zero, List.set_cons_succ]
      refine fz_take 36 (v := ?_) rfl (by as_aux_lemma => kernel_rfl) (by as_aux_lemma => kernel_rfl) (by as_aux_lemma => kernel_rfl) (by as_aux_lemma => kernel_rfl) (fun _ _ _ h => h) rfl ?_ S0 ?_
      rotate_left
      · intro W hW
        go_simp
        (try with_reducible rfl)
      simp only [Act.put, List.setIfInBounds_toArray, List.set_cons_zero, List.set_cons_succ]
      refine fz_one 32 rfl rfl (by as_aux_lemma => kernel_rfl) (fun K hK => ?_)
      go_simp
      refine hK.out _ _ (fun _ => ⟨S0.1.far (N := N17) (by omega) _ _, S0.2.far (N := N17) (by omega) _ _⟩) ?_
      clear hK
      refine fz_take 34 (v := ?_) rfl (by as_aux_lemma => kernel_rfl) (by as_aux_lemma => kernel_rfl) (by as_aux_lemma => kernel_rfl) (by as_aux_lemma => kernel_rfl) (fun _ _ _ h => h) rfl ?_ (⟨S0.1.far (N := N17) (by omega) _ _, S0.2.far (N := N17) (by omega) _ _⟩) ?_
      rotate_left
      · intro W hW
        go_simp
        (try with_reducible rfl)
      simp only [Act.put, List.setIfInBounds_toArray, List.set_cons_zero, List.set_cons_succ]
      have c18 := D0.at (relA_at _ hlt)
      have f18 := D0.fr (1 + x)
      have l18 := D0.lt
      refine fz_one 35 rfl rfl (by as_aux_lemma => kernel_rfl) (fun K hK => ?_)
      go_simp
      refine hK.out _ _ (fun _ => ⟨(S0.1.far (N := N17) (by omega) _ _).far (N := N18) (by omega) _ _, (S0.2.far (N := N17) (by omega) _ _).far (N := N18) (by omega) _ _⟩) ?_
      clear hK
      refine fz_take 37 (v := ?_) rfl (by as_aux_lemma => kernel_rfl) (by as_aux_lemma => kernel_rfl) (by as_aux_lemma => kernel_rfl) (by as_aux_lemma => kernel_rfl) (fun _ _ _ h => h) rfl ?_ (⟨(S0.1.far (N := N17) (by omega) _ _).far (N := N18) (by omega) _ _, (S0.2.far (N := N17) (by omega) _ _).far (N := N18) (by omega) _ _⟩) ?_
      rotate_left
      · intro W hW
        go_simp
        (try with_reducible rfl)
      simp only [Act.put, List.setIfInBounds_toArray, List.set_cons_zero, List.set_cons_succ]
      have c19 := E0.at (relA_at _ hlt)
      have f19 := E0.fr (1 + x)
      have l19 := E0.lt
      refine fz_one 38 rfl rfl (by as_aux_lemma => kernel_rfl) (fun K hK => ?_)
      go_simp
      refine hK.out _ _ (fun _ => ⟨((S0.1.far (N := N17) (by omega) _ _).far (N := N18) (by omega) _ _).far (N := N19) (by omega) _ _, ((S0.2.far (N := N17) (by omega) _ _).far (N := N18) (by omega) _ _).far (N := N19) (by omega) _ _⟩) ?_
      clear hK
      refine fz_done (by as_aux_lemma => kernel_rfl) (NoPanic.normal ?_)
      clear c17 f17 l17 c18 f18 l18 c19 f19 l19 eu ed ee S0 U0 D0 E0 T0 I0 P0 HT HO HAX HBX
      go_wp2
      go_loopg [24] 64 (fun gi s24 wi => ∃ y : Nat, y ≤ 64 ∧ gi = 64 - y ∧ s24 = .int .i64 y ∧ Hid (On w wi) ∧ TB wi w1.heap.size (w1.heap.size + 1) w2.heap.size N15 N16 r q A B ∧ (Bk wi N17 (relA (uptoR (zm mm) (unionG A B) (x + 1))) ∧ Bk wi N18 (relA (uptoR (zm mm) (minusG A B) (x + 1))) ∧ Bk wi N19 (relA (uptoR (zm mm) (meetG A B) (x + 1)))) ∧ Bk wi N20 (relA (tS A B x y)) ∧ Bk wi N21 (relA (iS r x y)) ∧ Bk wi N22 (relA (pS r s x y)))
      case atStart => exact ⟨0, by omega, rfl, rfl, HK2, HT2, ⟨U2, D2, E1⟩, T2, I2, P2⟩
      case round =>
        clear HK2 HT2 U2 D2 E1 T2 I2 P2
        obtain ⟨y, hy, hyk, rfl, HO, HT, HU, T0, I0, P0⟩ := hrel
        rcases Nat.lt_or_ge y 64 with hyl | hyg
        · have hy7 : (y : Int) < 64 := by omega
          obtain ⟨tb, htb⟩ : ∃ tb, tb = H A x y := ⟨_, rfl⟩
          obtain ⟨rb, hrb⟩ : ∃ rb, rb = H r x y := ⟨_, rfl⟩
          have HTB : Hid (tb = H A x y) := htb
          have HRB : Hid (rb = H r x y) := hrb
          clear htb hrb
          have hcA := HT.A.at (relA_zero A)
          rw [hAn] at hcA
          have hlA := HT.A.lt
          have hcV := HT.V.at (relA_zero r)
          have hlV := HT.V.lt
          have z1 := whas_is A hA.wr N15 x y hlt hyl _ HT.A
          rw [show (A.f x).testBit y = tb from HTB.out.symm] at z1
          have hAx : ¬ (x < mm ∧ y < mm) → tb = false := fun h => by
            rw [HTB.out]
            cases hh : H A x y with
            | false => rfl
            | true => exact absurd (HUN.out x y hh) h
          have hRx : ¬ (x < r.n ∧ y < r.n) → rb = false := fun h => by
            rw [HRB.out]
            cases hh : H r x y with
            | false => rfl
            | true => exact absurd (HUR.out x y hh) h
          have HAX : Hid (¬ (x < mm ∧ y < mm) → tb = false) := hAx
          have HRX : Hid (¬ (x < r.n ∧ y < r.n) → rb = false) := hRx
          clear hAx hRx
          go_upto_region 15 with fail
          go_cut [137] (fun u137 wc => u137 = .bool tb ∧ wc = wr)
          case first =>
            by_cases h1 : x < mm
            · by_cases h2 : y < mm
              · go_wp2_with fail
                refine z1.mono ?_
                rintro _ w6 ⟨rfl, hw6⟩
                subst w6
                go_wp2
                go_meet
                case rel => exact ⟨rfl, rfl⟩
              · have e := HAX.out (fun h => h2 h.2)
                subst e
                go_wp2
                go_meet
                case rel => exact ⟨rfl, rfl⟩
            · have e := HAX.out (fun h => h1 h.1)
              subst e
              go_wp2
              go_meet
              case rel => exact ⟨rfl, rfl⟩
          case rest =>
            obtain ⟨rfl, rfl⟩ := hcut
            clear z1 hcA hlA
            go_upto_if 137 with fail
            go_cut [] (fun wd => Hid (On w wd) ∧ TB wd w1.heap.size (w1.heap.size + 1) w2.heap.size N15 N16 r q A B ∧ (Bk wd N17 (relA (uptoR (zm mm) (unionG A B) (x + 1))) ∧ Bk wd N18 (relA (uptoR (zm mm) (minusG A B) (x + 1))) ∧ Bk wd N19 (relA (uptoR (zm mm) (meetG A B) (x + 1)))) ∧ Bk wd N20 (relA (tS A B x (y + 1))) ∧ Bk wd N21 (relA (iS r x y)) ∧ Bk wd N22 (relA (pS r s x y)))
            case first =>
              cases htc : tb with
              | false =>
                have e := tS_skip A B x y hyl (by rw [← htc]; exact HTB.out.symm)
                go_wp2
                go_meet
                case rel => exact ⟨HO, HT, HU, by rw [e]; exact T0, I0, P0⟩
              | true =>
                have e := tS_step A B x y hyl (by rw [← htc]; exact HTB.out.symm)
                have hct := T0.at (relA_at _ hlt)
                rw [tS_at] at hct
                have hft := T0.fr (1 + x)
                have hlt0 := T0.lt
                have hcb := HT.B.at (relA_at B hyl)
                have hlb := HT.B.lt
                have eb : bits .or .u64 ((fromN B (A.f x) y : Nat) : Int) ((B.f y : Nat) : Int) = ((fromN B (A.f x) y ||| B.f y : Nat) : Int) := u64_or_nat _ _ (from_lt hB.wr _ _) (hwB y)
                have T1 := T0.drew.set1 hlt (fromN B (A.f x) y ||| B.f y)
                rw [e] at T1
                have HT1 := HT.far (N := N20) (by omega) (by omega) (by omega) (by omega) (by omega) (1 + x) (.int .u64 (fromN B (A.f x) y ||| B.f y))
                have HU1 := (⟨HU.1.drew.far (N := N20) (by omega) (1 + x) (.int .u64 (fromN B (A.f x) y ||| B.f y)), HU.2.1.drew.far (N := N20) (by omega) (1 + x) (.int .u64 (fromN B (A.f x) y ||| B.f y)), HU.2.2.drew.far (N := N20) (by omega) (1 + x) (.int .u64 (fromN B (A.f x) y ||| B.f y))⟩ : _ ∧ _ ∧ _)
                have I1 := I0.drew.far (N := N20) (by omega) (1 + x) (.int .u64 (fromN B (A.f x) y ||| B.f y))
                have P1 := P0.drew.far (N := N20) (by omega) (1 + x) (.int .u64 (fromN B (A.f x) y ||| B.f y))
                have HO1 : Hid (On w _) := HO.out.drew.setNew (N := N20) (i := 1 + x) (by omega) (.int .u64 (fromN B (A.f x) y ||| B.f y))
                clear e T0 HT HU I0 P0 HO HTB HAX htc hcV hlV
                generalize fromN B (A.f x) y ||| B.f y = t2 at *
                generalize fromN B (A.f x) y = t1 at *
                generalize B.f y = by' at *
                go_wp2
                go_region
                go_wp2
                go_meet
                case rel => exact ⟨HO1, HT1, HU1, T1, I1, P1⟩
            case rest =>
              obtain ⟨HO, HT, HU, T0, I0, P0⟩ := hcut
              have hcV := HT.V.at (relA_zero r)
              have hlV := HT.V.lt
              have z2 := whas_is r hr.wr (w1.heap.size + 1) x y hlt hyl _ HT.V
              rw [show (r.f x).testBit y = rb from HRB.out.symm] at z2
              go_upto_region 17 with fail
              go_cut [164] (fun u164 we => u164 = .bool rb ∧ we = wc)
              case first =>
                by_cases h1 : x < r.n
                · by_cases h2 : y < r.n
                  · go_wp2_with fail
                    refine z2.mono ?_
                    rintro _ w6 ⟨rfl, hw6⟩
                    subst w6
                    go_wp2
                    go_meet
                    case rel => exact ⟨rfl, rfl⟩
                  · have e := HRX.out (fun h => h2 h.2)
                    subst e
                    go_wp2
                    go_meet
                    case rel => exact ⟨rfl, rfl⟩
                · have e := HRX.out (fun h => h1 h.1)
                  subst e
                  go_wp2
                  go_meet
                  case rel => exact ⟨rfl, rfl⟩
              case rest =>
                obtain ⟨rfl, rfl⟩ := hcut
                clear z2 hcV hlV
                cases hrc : rb with
                | false =>
                  have hH : H r x y = false := by rw [← hrc]; exact HRB.out.symm
                  have ei := iS_skip hr x y hH
                  have ep := pS_skip hr s x y (by rw [hH]; rfl)
                  rw [← ei] at I0
                  rw [← ep] at P0
                  clear hH ei ep HRB HRX hrc
                  go_wp2
                  go_roundg (64 - (y + 1))
                  case measure => omega
                  case rel => exact ⟨y + 1, hyl, rfl, by congr 1, HO, HT, HU, T0, I0, P0⟩
                | true =>
                  have hH : H r x y = true := by rw [← hrc]; exact HRB.out.symm
                  obtain ⟨hxn, hyn⟩ := HUR.out x y hH
                  have wi1 := wadd_is (iS r x y) (ofB_wf _ _ hr.n).wr N21 y x hyn hxn _ I0
                  rw [iS_add hr x y hH] at wi1
                  have ex := bit_test s x hs
                  have ey := bit_test s y hs
                  have epa := pS_add hr s x y hH
                  have eps := pS_skip hr s x y
                  rw [hH, Bool.true_and] at eps
                  have wp1 := fun W h => wadd_is (pS r s x y) (ofB_wf _ _ hr.n).wr N22 x y hxn hyn W h
                  clear HRB HRX hrc hH
                  go_wp2_with fail
                  refine wi1.mono ?_
                  rintro _ w6 ⟨rfl, I1, hw6⟩
                  have HT6 : TB w6 w1.heap.size (w1.heap.size + 1) w2.heap.size N15 N16 r q A B := by rw [hw6]; exact HT.far (by omega) (by omega) (by omega) (by omega) (by omega) _ _
                  have HU6 : Bk w6 N17 (relA (uptoR (zm mm) (unionG A B) (x + 1))) ∧ Bk w6 N18 (relA (uptoR (zm mm) (minusG A B) (x + 1))) ∧ Bk w6 N19 (relA (uptoR (zm mm) (meetG A B) (x + 1))) := by rw [hw6]; exact ⟨HU.1.drew.far (by omega) _ _, HU.2.1.drew.far (by omega) _ _, HU.2.2.drew.far (by omega) _ _⟩
                  have T6 : Bk w6 N20 (relA (tS A B x (y + 1))) := by rw [hw6]; exact T0.drew.far (by omega) _ _
                  have P6 : Bk w6 N22 (relA (pS r s x y)) := by rw [hw6]; exact P0.drew.far (by omega) _ _
                  have HO6 : Hid (On w w6) := by rw [hw6]; exact HO.out.drew.setNew (by omega) _
                  clear hw6 HT HU T0 P0 HO I0 wi1
                  cases hsx : s.testBit x with
                  | false =>
                    rw [hsx] at ex
                    have e := eps (by rw [hsx]; rfl)
                    rw [← e] at P6
                    clear e eps epa hsx wp1
                    go_wp2
                    go_roundg (64 - (y + 1))
                    case measure => omega
                    case rel => exact ⟨y + 1, hyl, rfl, by congr 1, HO6, HT6, HU6, T6, I1, P6⟩
                  | true =>
                    rw [hsx] at ex
                    cases hsy : s.testBit y with
                    | false =>
                      rw [hsy] at ey
                      have e := eps (by rw [hsx, hsy]; rfl)
                      rw [← e] at P6
                      clear e eps epa hsx hsy wp1
                      go_wp2
                      go_roundg (64 - (y + 1))
                      case measure => omega
                      case rel => exact ⟨y + 1, hyl, rfl, by congr 1, HO6, HT6, HU6, T6, I1, P6⟩
                    | true =>
                      rw [hsy] at ey
                      have wp2 := wp1 _ P6
                      rw [epa hsx hsy] at wp2
                      clear eps epa hsx hsy wp1
                      go_wp2_with fail
                      refine wp2.mono ?_
                      rintro _ w7 ⟨rfl, P7, hw7⟩
                      have HT7 : TB w7 w1.heap.size (w1.heap.size + 1) w2.heap.size N15 N16 r q A B := by rw [hw7]; exact HT6.far (by omega) (by omega) (by omega) (by omega) (by omega) _ _
                      have HU7 : Bk w7 N17 (relA (uptoR (zm mm) (unionG A B) (x + 1))) ∧ Bk w7 N18 (relA (uptoR (zm mm) (minusG A B) (x + 1))) ∧ Bk w7 N19 (relA (uptoR (zm mm) (meetG A B) (x + 1))) := by rw [hw7]; exact ⟨HU6.1.drew.far (by omega) _ _, HU6.2.1.drew.far (by omega) _ _, HU6.2.2.drew.far (by omega) _ _⟩
                      have T7 : Bk w7 N20 (relA (tS A B x (y + 1))) := by rw [hw7]; exact T6.drew.far (by omega) _ _
                      have I7 : Bk w7 N21 (relA (iS r x (y + 1))) := by rw [hw7]; exact I1.drew.far (by omega) _ _
                      have HO7 : Hid (On w w7) := by rw [hw7]; exact HO6.out.drew.setNew (by omega) _
                      clear hw7
                      go_wp2
                      go_roundg (64 - (y + 1))
                      case measure => omega
                      case rel => exact ⟨y + 1, hyl, rfl, by congr 1, HO7, HT7, HU7, T7, I7, P7⟩
        · obtain rfl : y = 64 := by omega
          rw [tS_next] at T0
          rw [iS_next hr] at I0
          rw [pS_next hr] at P0
          go_wp2
          go_roundg (64 - (x + 1))
          case measure => omega
          case rel => exact ⟨x + 1, hlt, rfl, by congr 1, HO, HT, HU.1, HU.2.1, HU.2.2, T0, I0, P0⟩
    · obtain rfl : x = 64 := by omega
      rw [zU] at U0
      rw [zD] at D0
      rw [zE] at E0
      rw [zT] at T0
      rw [iS_all hr] at I0
      rw [pS_all hr] at P0
      clear zU zD zE zT HUN HUR hA hB hr hq hwA hwB
      generalize unionR r q = XU at *
      generalize minusR r q = XD at *
      generalize meetR r q = XE at *
      generalize thenR r q = XT at *
      generalize invR r = XI at *
      generalize keepR r s = XP at *
      generalize closeR r = XC at *
      generalize acycR r = ac at *
      go_wp2
      have F0 : (Bk wr.drew w1.heap.size (relA r) ∧ Bk wr.drew w2.heap.size (relA q)) ∧ (Bk wr.drew (w1.heap.size + 1) (relA r) ∧ Bk wr.drew N17 (relA XU)) ∧ (Bk wr.drew N18 (relA XD) ∧ Bk wr.drew N19 (relA XE)) ∧ (Bk wr.drew N20 (relA XT) ∧ Bk wr.drew N21 (relA XI)) ∧ Bk wr.drew N22 (relA XP) := ⟨⟨HT.R, HT.Q⟩, ⟨HT.V, U0⟩, ⟨D0, E0⟩, ⟨T0, I0⟩, P0⟩
      have hon : ∀ W W', ((Bk W w1.heap.size (relA r) ∧ Bk W w2.heap.size (relA q)) ∧ (Bk W (w1.heap.size + 1) (relA r) ∧ Bk W N17 (relA XU)) ∧ (Bk W N18 (relA XD) ∧ Bk W N19 (relA XE)) ∧ (Bk W N20 (relA XT) ∧ Bk W N21 (relA XI)) ∧ Bk W N22 (relA XP)) → On W W' → ((Bk W' w1.heap.size (relA r) ∧ Bk W' w2.heap.size (relA q)) ∧ (Bk W' (w1.heap.size + 1) (relA r) ∧ Bk W' N17 (relA XU)) ∧ (Bk W' N18 (relA XD) ∧ Bk W' N19 (relA XE)) ∧ (Bk W' N20 (relA XT) ∧ Bk W' N21 (relA XI)) ∧ Bk W' N22 (relA XP)) := fun W W' h k => ⟨⟨h.1.1.on k, h.1.2.on k⟩, ⟨h.2.1.1.on k, h.2.1.2.on k⟩, ⟨h.2.2.1.1.on k, h.2.2.1.2.on k⟩, ⟨h.2.2.2.1.1.on k, h.2.2.2.1.2.on k⟩, h.2.2.2.2.on k⟩
      have K0 := HO.out.drew
      refine region_fin (fun W => (Bk W w1.heap.size (relA r) ∧ Bk W w2.heap.size (relA q)) ∧ (Bk W (w1.heap.size + 1) (relA r) ∧ Bk W N17 (relA XU)) ∧ (Bk W N18 (relA XD) ∧ Bk W N19 (relA XE)) ∧ (Bk W N20 (relA XT) ∧ Bk W N21 (relA XI)) ∧ Bk W N22 (relA XP)) 99 57 (by as_aux_lemma => kernel_rfl) rfl ?_
      refine fin_take 0 (v := .agg (relA r)) rfl (by as_aux_lemma => kernel_rfl) (by as_aux_lemma => kernel_rfl) (by as_aux_lemma => kernel_rfl) (by as_aux_lemma => kernel_rfl) (fun _ _ _ h => h) rfl (fun W hW => exec_ld rfl rfl (hW.1.1)) F0 ?_
      simp only [Act.put, List.setIfInBounds_toArray, List.set_cons_zero, List.set_cons_succ]
      refine fin_take 1 (v := .agg (relA q)) rfl (by as_aux_lemma => kernel_rfl) (by as_aux_lemma => kernel_rfl) (by as_aux_lemma => kernel_rfl) (by as_aux_lemma => kernel_rfl) (fun _ _ _ h => h) rfl (fun W hW => exec_ld rfl rfl (hW.1.2)) F0 ?_
      simp only [Act.put, List.setIfInBounds_toArray, List.set_cons_zero, List.set_cons_succ]
      refine fin_take 3 (v := .agg (relA XU)) rfl (by as_aux_lemma => kernel_rfl) (by as_aux_lemma => kernel_rfl) (by as_aux_lemma => kernel_rfl) (by as_aux_lemma => kernel_rfl) (fun _ _ _ h => h) rfl (fun W hW => exec_ldw rfl rfl (hW.2.1.2)) F0 ?_
      simp only [Act.put, List.setIfInBounds_toArray, List.set_cons_zero, List.set_cons_succ]
      refine fin_one 2 rfl rfl (by as_aux_lemma => kernel_rfl) (fun K hK => ?_)
      go_simp
      refine (x1 _).mono ?_
      rintro _ v1 ⟨rfl, kv1⟩
      have Sv1 := hon _ _ F0 kv1
      have Kv1 := K0.trans kv1
      refine hK.out _ _ (fun _ => Sv1) ?_
      clear hK
      refine fin_one 4 rfl rfl (by as_aux_lemma => kernel_rfl) (fun K hK => ?_)
      go_simp
      refine (x2 _).mono ?_
      rintro _ v2 ⟨rfl, kv2⟩
      have Sv2 := hon _ _ Sv1 kv2
      have Kv2 := Kv1.trans kv2
      refine hK.out _ _ (fun _ => Sv2) ?_
      clear hK
      refine fin_take 5 (v := ?_) rfl (by as_aux_lemma => kernel_rfl) (by as_aux_lemma => kernel_rfl) (by as_aux_lemma => kernel_rfl) (by as_aux_lemma => kernel_rfl) (fun _ _ _ h => h) rfl ?_ Sv2 ?_
      rotate_left
      · intro W hW
        go_simp
        (try with_reducible rfl)
      simp only [Act.put, List.setIfInBounds_toArray, List.set_cons_zero, List.set_cons_succ]
      refine fin_takeG 6 (v := .agg (relA r)) rfl (by as_aux_lemma => kernel_rfl) (by as_aux_lemma => kernel_rfl) (by as_aux_lemma => kernel_rfl) (by as_aux_lemma => kernel_rfl) (fun _ _ _ h => h) (by rfl) (fun W hW => exec_ld rfl rfl (hW.1.1)) Sv2 ?_
      simp only [Act.put, List.setIfInBounds_toArray, List.set_cons_zero, List.set_cons_succ]
      refine fin_takeG 7 (v := .agg (relA q)) rfl (by as_aux_lemma => kernel_rfl) (by as_aux_lemma => kernel_rfl) (by as_aux_lemma => kernel_rfl) (by as_aux_lemma => kernel_rfl) (fun _ _ _ h => h) (by rfl) (fun W hW => exec_ld rfl rfl (hW.1.2)) Sv2 ?_
      simp only [Act.put, List.setIfInBounds_toArray, List.set_cons_zero, List.set_cons_succ]
      refine fin_takeG 9 (v := .agg (relA XD)) rfl (by as_aux_lemma => kernel_rfl) (by as_aux_lemma => kernel_rfl) (by as_aux_lemma => kernel_rfl) (by as_aux_lemma => kernel_rfl) (fun _ _ _ h => h) (by rfl) (fun W hW => exec_ldw rfl rfl (hW.2.2.1.1)) Sv2 ?_
      simp only [Act.put, List.setIfInBounds_toArray, List.set_cons_zero, List.set_cons_succ]
      refine fin_oneG 8 rfl (by rfl) (by as_aux_lemma => kernel_rfl) (fun K hK => ?_)
      go_simp
      refine (x3 _).mono ?_
      rintro _ v3 ⟨rfl, kv3⟩
      have Sv3 := hon _ _ Sv2 kv3
      have Kv3 := Kv2.trans kv3
      refine hK.out _ _ (fun _ => Sv3) ?_
      clear hK
      refine fin_oneG 10 rfl (by rfl) (by as_aux_lemma => kernel_rfl) (fun K hK => ?_)
      go_simp
      refine (x4 _).mono ?_
      rintro _ v4 ⟨rfl, kv4⟩
      have Sv4 := hon _ _ Sv3 kv4
      have Kv4 := Kv3.trans kv4
      refine hK.out _ _ (fun _ => Sv4) ?_
      clear hK
      refine fin_take 11 (v := ?_) rfl (by as_aux_lemma => kernel_rfl) (by as_aux_lemma => kernel_rfl) (by as_aux_lemma => kernel_rfl) (by as_aux_lemma => kernel_rfl) (fun _ _ _ h => h) rfl ?_ Sv4 ?_
      rotate_left
      · intro W hW
        go_simp
        (try with_reducible rfl)
      simp only [Act.put, List.setIfInBounds_toArray, List.set_cons_zero, List.set_cons_succ]
      refine fin_take 12 (v := ?_) rfl (by as_aux_lemma => kernel_rfl) (by as_aux_lemma => kernel_rfl) (by as_aux_lemma => kernel_rfl) (by as_aux_lemma => kernel_rfl) (fun _ _ _ h => h) rfl ?_ Sv4 ?_
      rotate_left
      · intro W hW
        go_simp
        (try with_reducible rfl)
      simp only [Act.put, List.setIfInBounds_toArray, List.set_cons_zero, List.set_cons_succ]
      refine fin_takeG 13 (v := .agg (relA r)) rfl (by as_aux_lemma => kernel_rfl) (by as_aux_lemma => kernel_rfl) (by as_aux_lemma => kernel_rfl) (by as_aux_lemma => kernel_rfl) (fun _ _ _ h => h) (by rfl) (fun W hW => exec_ld rfl rfl (hW.1.1)) Sv4 ?_
      simp only [Act.put, List.setIfInBounds_toArray, List.set_cons_zero, List.set_cons_succ]
      refine fin_takeG 14 (v := .agg (relA q)) rfl (by as_aux_lemma => kernel_rfl) (by as_aux_lemma => kernel_rfl) (by as_aux_lemma => kernel_rfl) (by as_aux_lemma => kernel_rfl) (fun _ _ _ h => h) (by rfl) (fun W hW => exec_ld rfl rfl (hW.1.2)) Sv4 ?_
      simp only [Act.put, List.setIfInBounds_toArray, List.set_cons_zero, List.set_cons_succ]
      refine fin_takeG 16 (v := .agg (relA XE)) rfl (by as_aux_lemma => kernel_rfl) (by as_aux_lemma => kernel_rfl) (by as_aux_lemma => kernel_rfl) (by as_aux_lemma => kernel_rfl) (fun _ _ _ h => h) (by rfl) (fun W hW => exec_ldw rfl rfl (hW.2.2.1.2)) Sv4 ?_
      simp only [Act.put, List.setIfInBounds_toArray, List.set_cons_zero, List.set_cons_succ]
      refine fin_oneG 15 rfl (by rfl) (by as_aux_lemma => kernel_rfl) (fun K hK => ?_)
      go_simp
      refine (x5 _).mono ?_
      rintro _ v5 ⟨rfl, kv5⟩
      have Sv5 := hon _ _ Sv4 kv5
      have Kv5 := Kv4.trans kv5
      refine hK.out _ _ (fun _ => Sv5) ?_
      clear hK
      refine fin_oneG 17 rfl (by rfl) (by as_aux_lemma => kernel_rfl) (fun K hK => ?_)
      go_simp
      refine (x6 _).mono ?_
      rintro _ v6 ⟨rfl, kv6⟩
      have Sv6 := hon _ _ Sv5 kv6
      have Kv6 := Kv5.trans kv6
      refine hK.out _ _ (fun _ => Sv6) ?_
      clear hK
      refine fin_take 18 (v := ?_) rfl (by as_aux_lemma => kernel_rfl) (by as_aux_lemma => kernel_rfl) (by as_aux_lemma => kernel_rfl) (by as_aux_lemma => kernel_rfl) (fun _ _ _ h => h) rfl ?_ Sv6 ?_
      rotate_left
      · intro W hW
        go_simp
        (try with_reducible rfl)
      simp only [Act.put, List.setIfInBounds_toArray, List.set_cons_zero, List.set_cons_succ]
      refine fin_take 19 (v := ?_) rfl (by as_aux_lemma => kernel_rfl) (by as_aux_lemma => kernel_rfl) (by as_aux_lemma => kernel_rfl) (by as_aux_lemma => kernel_rfl) (fun _ _ _ h => h) rfl ?_ Sv6 ?_
      rotate_left
      · intro W hW
        go_simp
        (try with_reducible rfl)
      simp only [Act.put, List.setIfInBounds_toArray, List.set_cons_zero, List.set_cons_succ]
      refine fin_takeG 20 (v := .agg (relA r)) rfl (by as_aux_lemma => kernel_rfl) (by as_aux_lemma => kernel_rfl) (by as_aux_lemma => kernel_rfl) (by as_aux_lemma => kernel_rfl) (fun _ _ _ h => h) (by rfl) (fun W hW => exec_ld rfl rfl (hW.1.1)) Sv6 ?_
      simp only [Act.put, List.setIfInBounds_toArray, List.set_cons_zero, List.set_cons_succ]
      refine fin_takeG 21 (v := .agg (relA q)) rfl (by as_aux_lemma => kernel_rfl) (by as_aux_lemma => kernel_rfl) (by as_aux_lemma => kernel_rfl) (by as_aux_lemma => kernel_rfl) (fun _ _ _ h => h) (by rfl) (fun W hW => exec_ld rfl rfl (hW.1.2)) Sv6 ?_
      simp only [Act.put, List.setIfInBounds_toArray, List.set_cons_zero, List.set_cons_succ]
      refine fin_takeG 23 (v := .agg (relA XT)) rfl (by as_aux_lemma => kernel_rfl) (by as_aux_lemma => kernel_rfl) (by as_aux_lemma => kernel_rfl) (by as_aux_lemma => kernel_rfl) (fun _ _ _ h => h) (by rfl) (fun W hW => exec_ldw rfl rfl (hW.2.2.2.1.1)) Sv6 ?_
      simp only [Act.put, List.setIfInBounds_toArray, List.set_cons_zero, List.set_cons_succ]
      refine fin_oneG 22 rfl (by rfl) (by as_aux_lemma => kernel_rfl) (fun K hK => ?_)
      go_simp
      refine (x7 _).mono ?_
      rintro _ v7 ⟨rfl, kv7⟩
      have Sv7 := hon _ _ Sv6 kv7
      have Kv7 := Kv6.trans kv7
      refine hK.out _ _ (fun _ => Sv7) ?_
      clear hK
      refine fin_oneG 24 rfl (by rfl) (by as_aux_lemma => kernel_rfl) (fun K hK => ?_)
      go_simp
      refine (x8 _).mono ?_
      rintro _ v8 ⟨rfl, kv8⟩
      have Sv8 := hon _ _ Sv7 kv8
      have Kv8 := Kv7.trans kv8
      refine hK.out _ _ (fun _ => Sv8) ?_
      clear hK
      refine fin_take 25 (v := ?_) rfl (by as_aux_lemma => kernel_rfl) (by as_aux_lemma => kernel_rfl) (by as_aux_lemma => kernel_rfl) (by as_aux_lemma => kernel_rfl) (fun _ _ _ h => h) rfl ?_ Sv8 ?_
      rotate_left
      · intro W hW
        go_simp
        (try with_reducible rfl)
      simp only [Act.put, List.setIfInBounds_toArray, List.set_cons_zero, List.set_cons_succ]
      refine fin_take 26 (v := ?_) rfl (by as_aux_lemma => kernel_rfl) (by as_aux_lemma => kernel_rfl) (by as_aux_lemma => kernel_rfl) (by as_aux_lemma => kernel_rfl) (fun _ _ _ h => h) rfl ?_ Sv8 ?_
      rotate_left
      · intro W hW
        go_simp
        (try with_reducible rfl)
      simp only [Act.put, List.setIfInBounds_toArray, List.set_cons_zero, List.set_cons_succ]
      refine fin_takeG 27 (v := .agg (relA r)) rfl (by as_aux_lemma => kernel_rfl) (by as_aux_lemma => kernel_rfl) (by as_aux_lemma => kernel_rfl) (by as_aux_lemma => kernel_rfl) (fun _ _ _ h => h) (by rfl) (fun W hW => exec_ld rfl rfl (hW.1.1)) Sv8 ?_
      simp only [Act.put, List.setIfInBounds_toArray, List.set_cons_zero, List.set_cons_succ]
      refine fin_takeG 29 (v := .agg (relA XI)) rfl (by as_aux_lemma => kernel_rfl) (by as_aux_lemma => kernel_rfl) (by as_aux_lemma => kernel_rfl) (by as_aux_lemma => kernel_rfl) (fun _ _ _ h => h) (by rfl) (fun W hW => exec_ldw rfl rfl (hW.2.2.2.1.2)) Sv8 ?_
      simp only [Act.put, List.setIfInBounds_toArray, List.set_cons_zero, List.set_cons_succ]
      refine fin_oneG 28 rfl (by rfl) (by as_aux_lemma => kernel_rfl) (fun K hK => ?_)
      go_simp
      refine (x9 _).mono ?_
      rintro _ v9 ⟨rfl, kv9⟩
      have Sv9 := hon _ _ Sv8 kv9
      have Kv9 := Kv8.trans kv9
      refine hK.out _ _ (fun _ => Sv9) ?_
      clear hK
      refine fin_oneG 30 rfl (by rfl) (by as_aux_lemma => kernel_rfl) (fun K hK => ?_)
      go_simp
      refine (x10 _).mono ?_
      rintro _ v10 ⟨rfl, kv10⟩
      have Sv10 := hon _ _ Sv9 kv10
      have Kv10 := Kv9.trans kv10
      refine hK.out _ _ (fun _ => Sv10) ?_
      clear hK
      refine fin_take 31 (v := ?_) rfl (by as_aux_lemma => kernel_rfl) (by as_aux_lemma => kernel_rfl) (by as_aux_lemma => kernel_rfl) (by as_aux_lemma => kernel_rfl) (fun _ _ _ h => h) rfl ?_ Sv10 ?_
      rotate_left
      · intro W hW
        go_simp
        (try with_reducible rfl)
      simp only [Act.put, List.setIfInBounds_toArray, List.set_cons_zero, List.set_cons_succ]
      refine fin_take 32 (v := ?_) rfl (by as_aux_lemma => kernel_rfl) (by as_aux_lemma => kernel_rfl) (by as_aux_lemma => kernel_rfl) (by as_aux_lemma => kernel_rfl) (fun _ _ _ h => h) rfl ?_ Sv10 ?_
      rotate_left
      · intro W hW
        go_simp
        (try with_reducible rfl)
      simp only [Act.put, List.setIfInBounds_toArray, List.set_cons_zero, List.set_cons_succ]
      refine fin_takeG 33 (v := .agg (relA r)) rfl (by as_aux_lemma => kernel_rfl) (by as_aux_lemma => kernel_rfl) (by as_aux_lemma => kernel_rfl) (by as_aux_lemma => kernel_rfl) (fun _ _ _ h => h) (by rfl) (fun W hW => exec_ld rfl rfl (hW.1.1)) Sv10 ?_
      simp only [Act.put, List.setIfInBounds_toArray, List.set_cons_zero, List.set_cons_succ]
      refine fin_takeG 35 (v := .agg (relA r)) rfl (by as_aux_lemma => kernel_rfl) (by as_aux_lemma => kernel_rfl) (by as_aux_lemma => kernel_rfl) (by as_aux_lemma => kernel_rfl) (fun _ _ _ h => h) (by rfl) (fun W hW => exec_ldw rfl rfl (hW.2.1.1)) Sv10 ?_
      simp only [Act.put, List.setIfInBounds_toArray, List.set_cons_zero, List.set_cons_succ]
      refine fin_oneG 34 rfl (by rfl) (by as_aux_lemma => kernel_rfl) (fun K hK => ?_)
      go_simp
      refine (x11 _).mono ?_
      rintro _ v11 ⟨rfl, kv11⟩
      have Sv11 := hon _ _ Sv10 kv11
      have Kv11 := Kv10.trans kv11
      refine hK.out _ _ (fun _ => Sv11) ?_
      clear hK
      refine fin_oneG 36 rfl (by rfl) (by as_aux_lemma => kernel_rfl) (fun K hK => ?_)
      go_simp
      refine (x12 _).mono ?_
      rintro _ v12 ⟨rfl, kv12⟩
      have Sv12 := hon _ _ Sv11 kv12
      have Kv12 := Kv11.trans kv12
      refine hK.out _ _ (fun _ => Sv12) ?_
      clear hK
      refine fin_oneG 37 rfl (by rfl) (by as_aux_lemma => kernel_rfl) (fun K hK => ?_)
      go_simp
      refine (x13 _).mono ?_
      rintro _ v13 ⟨rfl, kv13⟩
      have Sv13 := hon _ _ Sv12 kv13
      have Kv13 := Kv12.trans kv13
      refine hK.out _ _ (fun _ => Sv13) ?_
      clear hK
      refine fin_take 38 (v := ?_) rfl (by as_aux_lemma => kernel_rfl) (by as_aux_lemma => kernel_rfl) (by as_aux_lemma => kernel_rfl) (by as_aux_lemma => kernel_rfl) (fun _ _ _ h => h) rfl ?_ Sv13 ?_
      rotate_left
      · intro W hW
        go_simp
        (try with_reducible rfl)
      simp only [Act.put, List.setIfInBounds_toArray, List.set_cons_zero, List.set_cons_succ]
      refine fin_take 39 (v := ?_) rfl (by as_aux_lemma => kernel_rfl) (by as_aux_lemma => kernel_rfl) (by as_aux_lemma => kernel_rfl) (by as_aux_lemma => kernel_rfl) (fun _ _ _ h => h) rfl ?_ Sv13 ?_
      rotate_left
      · intro W hW
        go_simp
        (try with_reducible rfl)
      simp only [Act.put, List.setIfInBounds_toArray, List.set_cons_zero, List.set_cons_succ]
      refine fin_takeG 40 (v := .agg (relA r)) rfl (by as_aux_lemma => kernel_rfl) (by as_aux_lemma => kernel_rfl) (by as_aux_lemma => kernel_rfl) (by as_aux_lemma => kernel_rfl) (fun _ _ _ h => h) (by rfl) (fun W hW => exec_ld rfl rfl (hW.1.1)) Sv13 ?_
      simp only [Act.put, List.setIfInBounds_toArray, List.set_cons_zero, List.set_cons_succ]
      refine fin_takeG 41 (v := ?_) rfl (by as_aux_lemma => kernel_rfl) (by as_aux_lemma => kernel_rfl) (by as_aux_lemma => kernel_rfl) (by as_aux_lemma => kernel_rfl) (fun _ _ _ h => h) (by rfl) ?_ Sv13 ?_
      rotate_left
      · intro W hW
        go_simp
        (try with_reducible rfl)
      simp only [Act.put, List.setIfInBounds_toArray, List.set_cons_zero, List.set_cons_succ]
      refine fin_takeG 43 (v := .agg (relA XP)) rfl (by as_aux_lemma => kernel_rfl) (by as_aux_lemma => kernel_rfl) (by as_aux_lemma => kernel_rfl) (by as_aux_lemma => kernel_rfl) (fun _ _ _ h => h) (by rfl) (fun W hW => exec_ldw rfl rfl (hW.2.2.2.2)) Sv13 ?_
      simp only [Act.put, List.setIfInBounds_toArray, List.set_cons_zero, List.set_cons_succ]
      refine fin_oneG 42 rfl (by rfl) (by as_aux_lemma => kernel_rfl) (fun K hK => ?_)
      go_simp
      refine (x14 _).mono ?_
      rintro _ v14 ⟨rfl, kv14⟩
      have Sv14 := hon _ _ Sv13 kv14
      have Kv14 := Kv13.trans kv14
      refine hK.out _ _ (fun _ => Sv14) ?_
      clear hK
      refine fin_oneG 44 rfl (by rfl) (by as_aux_lemma => kernel_rfl) (fun K hK => ?_)
      go_simp
      refine (x15 _).mono ?_
      rintro _ v15 ⟨rfl, kv15⟩
      have Sv15 := hon _ _ Sv14 kv15
      have Kv15 := Kv14.trans kv15
      refine hK.out _ _ (fun _ => Sv15) ?_
      clear hK
      refine fin_take 45 (v := ?_) rfl (by as_aux_lemma => kernel_rfl) (by as_aux_lemma => kernel_rfl) (by as_aux_lemma => kernel_rfl) (by as_aux_lemma => kernel_rfl) (fun _ _ _ h => h) rfl ?_ Sv15 ?_
      rotate_left
      · intro W hW
        go_simp
        (try with_reducible rfl)
      simp only [Act.put, List.setIfInBounds_toArray, List.set_cons_zero, List.set_cons_succ]
      refine fin_take 46 (v := ?_) rfl (by as_aux_lemma => kernel_rfl) (by as_aux_lemma => kernel_rfl) (by as_aux_lemma => kernel_rfl) (by as_aux_lemma => kernel_rfl) (fun _ _ _ h => h) rfl ?_ Sv15 ?_
      rotate_left
      · intro W hW
        go_simp
        (try with_reducible rfl)
      simp only [Act.put, List.setIfInBounds_toArray, List.set_cons_zero, List.set_cons_succ]
      refine fin_takeG 47 (v := .agg (relA r)) rfl (by as_aux_lemma => kernel_rfl) (by as_aux_lemma => kernel_rfl) (by as_aux_lemma => kernel_rfl) (by as_aux_lemma => kernel_rfl) (fun _ _ _ h => h) (by rfl) (fun W hW => exec_ld rfl rfl (hW.1.1)) Sv15 ?_
      simp only [Act.put, List.setIfInBounds_toArray, List.set_cons_zero, List.set_cons_succ]
      refine fin_takeG 49 (v := .agg (relA r)) rfl (by as_aux_lemma => kernel_rfl) (by as_aux_lemma => kernel_rfl) (by as_aux_lemma => kernel_rfl) (by as_aux_lemma => kernel_rfl) (fun _ _ _ h => h) (by rfl) (fun W hW => exec_ldw rfl rfl (hW.2.1.1)) Sv15 ?_
      simp only [Act.put, List.setIfInBounds_toArray, List.set_cons_zero, List.set_cons_succ]
      refine fin_oneG 48 rfl (by rfl) (by as_aux_lemma => kernel_rfl) (fun K hK => ?_)
      go_simp
      refine (x16 _).mono ?_
      rintro _ v16 ⟨rfl, kv16⟩
      have Sv16 := hon _ _ Sv15 kv16
      have Kv16 := Kv15.trans kv16
      refine hK.out _ _ (fun _ => Sv16) ?_
      clear hK
      refine fin_oneG 50 rfl (by rfl) (by as_aux_lemma => kernel_rfl) (fun K hK => ?_)
      go_simp
      refine (x17 _).mono ?_
      rintro _ v17 ⟨rfl, kv17⟩
      have Sv17 := hon _ _ Sv16 kv17
      have Kv17 := Kv16.trans kv17
      refine hK.out _ _ (fun _ => Sv17) ?_
      clear hK
      refine fin_takeG 51 (v := ?_) rfl (by as_aux_lemma => kernel_rfl) (by as_aux_lemma => kernel_rfl) (by as_aux_lemma => kernel_rfl) (by as_aux_lemma => kernel_rfl) (fun _ _ _ h => h) (by rfl) ?_ Sv17 ?_
      rotate_left
      · intro W hW
        go_simp
        (try with_reducible rfl)
      simp only [Act.put, List.setIfInBounds_toArray, List.set_cons_zero, List.set_cons_succ]
      refine fin_take 52 (v := ?_) rfl (by as_aux_lemma => kernel_rfl) (by as_aux_lemma => kernel_rfl) (by as_aux_lemma => kernel_rfl) (by as_aux_lemma => kernel_rfl) (fun _ _ _ h => h) rfl ?_ Sv17 ?_
      rotate_left
      · intro W hW
        go_simp
        (try with_reducible rfl)
      simp only [Act.put, List.setIfInBounds_toArray, List.set_cons_zero, List.set_cons_succ]
      refine fin_take 53 (v := ?_) rfl (by as_aux_lemma => kernel_rfl) (by as_aux_lemma => kernel_rfl) (by as_aux_lemma => kernel_rfl) (by as_aux_lemma => kernel_rfl) (fun _ _ _ h => h) rfl ?_ Sv17 ?_
      rotate_left
      · intro W hW
        go_simp
        (try with_reducible rfl)
      simp only [Act.put, List.setIfInBounds_toArray, List.set_cons_zero, List.set_cons_succ]
      refine fin_oneG 54 rfl (by rfl) (by as_aux_lemma => kernel_rfl) (fun K hK => ?_)
      go_simp
      refine (xA _).mono ?_
      rintro _ v18 ⟨rfl, kv18⟩
      have Sv18 := hon _ _ Sv17 kv18
      have Kv18 := Kv17.trans kv18
      refine hK.out _ _ (fun _ => Sv18) ?_
      clear hK
      refine fin_take 55 (v := ?_) rfl (by as_aux_lemma => kernel_rfl) (by as_aux_lemma => kernel_rfl) (by as_aux_lemma => kernel_rfl) (by as_aux_lemma => kernel_rfl) (fun _ _ _ h => h) rfl ?_ Sv18 ?_
      rotate_left
      · intro W hW
        go_simp
        (try with_reducible rfl)
      simp only [Act.put, List.setIfInBounds_toArray, List.set_cons_zero, List.set_cons_succ]
      refine fin_take 56 (v := ?_) rfl (by as_aux_lemma => kernel_rfl) (by as_aux_lemma => kernel_rfl) (by as_aux_lemma => kernel_rfl) (by as_aux_lemma => kernel_rfl) (fun _ _ _ h => h) rfl ?_ Sv18 ?_
      rotate_left
      · intro W hW
        go_simp
        (try with_reducible rfl)
      simp only [Act.put, List.setIfInBounds_toArray, List.set_cons_zero, List.set_cons_succ]
      refine fin_done (by as_aux_lemma => kernel_rfl) (NoPanic.normal ?_)
      go_wp2
      go_ret
      exact ⟨rfl, Kv18⟩
end Go.Proofs.Ythbiaojefmdcmaa
