/- OrderFewer, walked. -/
import Derived.Test.YtohngifmbnlmmaaDoorOrdL
import Derived.Test.YtohngifmbnlmmaaDoorOfWf
import Derived.Test.YtohngifmbnlmmaaDoorAwake9
import Derived.Test.YtohngifmbnlmmaaDoorRegMix
namespace Go.Proofs.YtohngifmbnlmmaaDoor
open Go.RowKit

theorem mod_nat (a m : Nat) (hm : 1 ≤ m) : ∃ x : Nat, x < m ∧ (a : Int) % (m : Int) = (x : Int) ∧ (a : Int).tmod (m : Int) = (x : Int) := by
  refine ⟨a % m, Nat.mod_lt _ (by omega), by simp, ?_⟩
  rw [Int.tmod_eq_emod_of_nonneg (by omega)]
  simp
theorem fact_six : ∀ m, m ≤ 6 → factN m ≤ 720 := by
  intro m hm
  match m, hm with
  | 0, _ => decide
  | 1, _ => decide
  | 2, _ => decide
  | 3, _ => decide
  | 4, _ => decide
  | 5, _ => decide
  | 6, _ => decide
  | m + 7, h => omega
theorem ords_720 {r : RelT} (hr : Wf r) (hn : r.n ≤ 6) : (ordsR r).length ≤ 720 := Nat.le_trans (ords_le hr) (fact_six _ hn)
/-- All rows, of few numbers. -/
theorem alls_few {r : RelT} (hr : Wf r) (hn : r.n ≤ 6) (w : World) (hd : Dt w) : Calls Tryd.prog 10 #[.agg (relA r), .int .i64 1000] w fun e w' => ∃ a c, e = .returned (.slice a (ordsR r).length c) ∧ Rd2 intC 1 w' (.slice a ((ordsR r).map ints).length c) ((ordsR r).map ints) ∧ On w w' := by
  have h := alls_is r hr 1000 w hd
  have h7 := ords_720 hr hn
  have e : (ordsR r).take (boundI 1000) = ordsR r := List.take_of_length_le (by show _ ≤ 1000; omega)
  rw [e] at h
  refine h.mono ?_
  rintro e w' ⟨a, c, h1, h2, h3⟩
  refine ⟨a, c, h1, ?_, h3⟩
  rw [List.length_map]
  exact h2.rd (fun _ => rfl)
theorem count_few {r : RelT} (hr : Wf r) (hn : r.n ≤ 6) (m : Int) (hm : 1000 ≤ m) (w : World) (hd : Dt w) : Calls Tryd.prog 13 #[.agg (relA r), .int .i64 m] w fun e w' => e = .returned (.int .i64 ((ordsR r).length : Nat)) ∧ On w w' := by
  have h := count_is r hr m w hd
  have h7 := ords_720 hr hn
  have e : min (boundI m) (ordsR r).length = (ordsR r).length := by unfold boundI; omega
  rwa [e] at h
theorem keeps_few {r : RelT} (hr : Wf r) {l : List Nat} (hl : Stands r l) (v : Value) (w : World) (hv : Rd intC 1 w v (ints l)) (hd : Dt w) : Calls Tryd.prog 16 #[.agg (relA r), v] w fun e w' => e = .returned (.bool true) ∧ On w w' := by
  have h := okeeps_is r hr (ints l) v w hv hd
  have e : keepD r (ints l) = true := (keepD_iff hr _).2 ⟨l, rfl, hl⟩
  rwa [keep_same hr, e] at h
set_option maxHeartbeats 1000000 in
set_option maxRecDepth 8000 in
theorem orderFewer_walk (n : Int) (a1 : Option Addr) (L1 : List (Int × Int)) (c1 : Nat) (a b : Int) (w : World)
    (h1 : Rd pairC 2 w (.slice a1 L1.length c1) L1) (hd : Dt w) :
    Calls Tryd.prog 4 #[.int .i64 n, .slice a1 L1.length c1, .int .i64 a, .int .i64 b] w fun e w' => e = .returned (.bool true) ∧ On w w' := by
  obtain ⟨hz, _⟩ := zero_of_info rel_info
  obtain ⟨hzw, _⟩ := zero_of_info rel_infow
  obtain ⟨q8, hq8, eq8⟩ := low8 n
  obtain ⟨i8, hi8, ei8⟩ := low8 a
  obtain ⟨k8, hk8, ek8⟩ := low8 b
  obtain ⟨m, em⟩ : ∃ m : Nat, (q8 : Int) % 6 + 1 = (m : Int) := ⟨q8 % 6 + 1, by omega⟩
  have hm1 : 1 ≤ m := by omega
  have hm2 : m ≤ 6 := by omega
  obtain ⟨x, hx, ex, ex'⟩ := mod_nat i8 m hm1
  obtain ⟨y, hy, ey, ey'⟩ := mod_nat k8 m hm1
  have hm0 : ((m : Int) == 0) = false := by simp; omega
  have hmz : ¬ m = 0 := by omega
  have hO1 := fun W (k : On w W) => pairs_is m L1 _ W (h1.on k)
  have hr := of_wf m L1
  have hrn : (ofR m L1).n = m := by rw [of_n]; omega
  clear h1
  generalize ofR m L1 = r at *
  have hxr : x < r.n := by omega
  have hyr : y < r.n := by omega
  have hq := add_wf hr (x : Int) (y : Int)
  have hp := add_wf hr (y : Int) (x : Int)
  have hqn : (addR r (x : Int) (y : Int)).n ≤ 6 := by rw [add_n]; omega
  have hpn : (addR r (y : Int) (x : Int)).n ≤ 6 := by rw [add_n]; omega
  have y1 := fun W => add_is r hr.wr (x : Int) (y : Int) W
  have y2 := fun W (k : On w W) => alls_few hq hqn W (hd.on k)
  have HK : Hid (∀ l ∈ ordsR (addR r (x : Int) (y : Int)), ∀ v W, On w W → Rd intC 1 W v (ints l) → Calls Tryd.prog 16 #[.agg (relA r), v] W fun e w' => e = .returned (.bool true) ∧ On W w') := fun l hl v W k hv => keeps_few hr ((stands_add hr hxr hyr l).1 ((mem_ords hq l).1 hl)).1 v W hv (hd.on k)
  have HLN : Hid (∀ l ∈ ordsR (addR r (x : Int) (y : Int)), l.length = m) := fun l hl => by
    have := ((mem_ords hq l).1 hl).len
    rw [add_n, hrn] at this
    exact this
  have y3 := fun W (k : On w W) => count_few hq hqn 1000 (by decide) W (hd.on k)
  have y4 := fun W => add_is r hr.wr (y : Int) (x : Int) W
  have y5 := fun W (k : On w W) => count_few hp hpn 1000 (by decide) W (hd.on k)
  have y6 := fun W (k : On w W) => count_few hr (by omega) 1000 (by decide) W (hd.on k)
  have xA := fun W (k : On w W) => awake9_is W (hd.on k)
  have hle := ords_fewer hr hxr hyr
  have hsum : x ≠ y → (ordsR (addR r (x : Int) (y : Int))).length + (ordsR (addR r (y : Int) (x : Int))).length = (ordsR r).length := fun h => ords_both hr hxr hyr h
  have b1 := ords_720 hq hqn
  have b2 := ords_720 hp hpn
  generalize (ordsR (addR r (y : Int) (x : Int))).length = cp at *
  generalize (ordsR r).length = cr at *
  obtain ⟨X, hX⟩ : ∃ X, X = ordsR (addR r (x : Int) (y : Int)) := ⟨_, rfl⟩
  rw [← hX] at y2 HK HLN y3 hle hsum b1
  obtain ⟨s, hs⟩ : ∃ s : Nat, s = X.length + cp := ⟨_, rfl⟩
  have hsw : IntKind.i64.wrap ((X.length : Int) + (cp : Int)) = (s : Int) := by rw [IntKind.wrap_i64]; omega
  rw [← hs] at hsum
  have hle2 : decide (X.length ≤ cr) = true := decide_eq_true hle
  clear hX hr hq hp hqn hpn hd hxr hyr hrn hle hs
  generalize addR r (x : Int) (y : Int) = q at *
  generalize addR r (y : Int) (x : Int) = p at *
  go_enter Tryd.func4, Tryd.ntmps4
  go_wp2_with (fail)
  refine (hO1 _ (On.refl _)).mono ?_
  rintro _ w1 ⟨rfl, k1⟩
  have K1 := (On.refl w).trans k1
  have B1a := (Bk.new w1 (relA zeroR) 27).alloc (.cells (relA zeroR) 30)
  have B1b : Bk ((w1.alloc (.cells (relA zeroR) 27)).alloc (.cells (relA zeroR) 30)) (w1.heap.size + 1) (relA zeroR) := by
    have := Bk.new (w1.alloc (.cells (relA zeroR) 27)) (relA zeroR) 30
    rwa [World.size_alloc] at this
  have B1c := B1b.rowFar (N := w1.heap.size) (by omega) (relA r)
  obtain ⟨W1, hW1⟩ : ∃ W1, W1 = (((w1.alloc (.cells (relA zeroR) 27)).alloc (.cells (relA zeroR) 30)).setRow w1.heap.size (relA r)).setRow (w1.heap.size + 1) (relA r) := ⟨_, rfl⟩
  have HW1 : Hid (W1 = (((w1.alloc (.cells (relA zeroR) 27)).alloc (.cells (relA zeroR) 30)).setRow w1.heap.size (relA r)).setRow (w1.heap.size + 1) (relA r)) := hW1
  have B1r : Bk W1 w1.heap.size (relA r) := by rw [hW1]; exact (B1a.row _).rowFar (by omega) _
  have B1w : Bk W1 (w1.heap.size + 1) (relA r) := by rw [hW1]; exact B1c.row _
  have KK1 : On w W1 := by rw [hW1]; exact (((K1.alloc _).alloc _).row K1.size _).row (by have := K1.size; omega) _
  clear hW1
  go_wp2_with (first | (refine wpList_st rfl rfl rfl rfl B1a ?_) | (refine wpList_stw rfl rfl rfl rfl B1c ?_; rw [← HW1.out]; clear HW1 B1a B1b B1c))
  have S0 : Bk W1.drew w1.heap.size (relA r) := B1r
  have hon : ∀ W W', Bk W w1.heap.size (relA r) → On W W' → Bk W' w1.heap.size (relA r) := fun W W' h k => h.on k
  refine region_fz (fun W => Bk W w1.heap.size (relA r)) [] 12 (by kernel_rfl) rfl ?_
  refine fz_take 0 (v := .agg (relA r)) rfl (by kernel_rfl) (by kernel_rfl) (by kernel_rfl) (by kernel_rfl) (fun _ _ _ h => h) rfl (fun W hW => exec_ld rfl rfl (hW)) S0 ?_
  simp only [Act.put, List.setIfInBounds_toArray, List.set_cons_zero, List.set_cons_succ]
  refine fz_take 1 (v := ?_) rfl (by kernel_rfl) (by kernel_rfl) (by kernel_rfl) (by kernel_rfl) (fun _ _ _ h => h) rfl ?_ S0 ?_
  rotate_left
  · intro W hW
    go_simp
    (try with_reducible rfl)
  simp only [Act.put, List.setIfInBounds_toArray, List.set_cons_zero, List.set_cons_succ]
  refine fz_take 2 (v := ?_) rfl (by kernel_rfl) (by kernel_rfl) (by kernel_rfl) (by kernel_rfl) (fun _ _ _ h => h) rfl ?_ S0 ?_
  rotate_left
  · intro W hW
    go_simp
    (try with_reducible rfl)
  simp only [Act.put, List.setIfInBounds_toArray, List.set_cons_zero, List.set_cons_succ]
  refine fz_take 3 (v := ?_) rfl (by kernel_rfl) (by kernel_rfl) (by kernel_rfl) (by kernel_rfl) (fun _ _ _ h => h) rfl ?_ S0 ?_
  rotate_left
  · intro W hW
    go_simp
    (try with_reducible rfl)
  simp only [Act.put, List.setIfInBounds_toArray, List.set_cons_zero, List.set_cons_succ]
  refine fz_take 4 (v := ?_) rfl (by kernel_rfl) (by kernel_rfl) (by kernel_rfl) (by kernel_rfl) (fun _ _ _ h => h) rfl ?_ S0 ?_
  rotate_left
  · intro W hW
    go_simp
    (try with_reducible rfl)
  simp only [Act.put, List.setIfInBounds_toArray, List.set_cons_zero, List.set_cons_succ]
  refine fz_take 5 (v := ?_) rfl (by kernel_rfl) (by kernel_rfl) (by kernel_rfl) (by kernel_rfl) (fun _ _ _ h => h) rfl ?_ S0 ?_
  rotate_left
  · intro W hW
    go_simp
    (try with_reducible rfl)
  simp only [Act.put, List.setIfInBounds_toArray, List.set_cons_zero, List.set_cons_succ]
  refine fz_take 6 (v := ?_) rfl (by kernel_rfl) (by kernel_rfl) (by kernel_rfl) (by kernel_rfl) (fun _ _ _ h => h) rfl ?_ S0 ?_
  rotate_left
  · intro W hW
    go_simp
    (try with_reducible rfl)
  simp only [Act.put, List.setIfInBounds_toArray, List.set_cons_zero, List.set_cons_succ]
  refine fz_take 7 (v := ?_) rfl (by kernel_rfl) (by kernel_rfl) (by kernel_rfl) (by kernel_rfl) (fun _ _ _ h => h) rfl ?_ S0 ?_
  rotate_left
  · intro W hW
    go_simp
    (try with_reducible rfl)
  simp only [Act.put, List.setIfInBounds_toArray, List.set_cons_zero, List.set_cons_succ]
  refine fz_take 8 (v := ?_) rfl (by kernel_rfl) (by kernel_rfl) (by kernel_rfl) (by kernel_rfl) (fun _ _ _ h => h) rfl ?_ S0 ?_
  rotate_left
  · intro W hW
    go_simp
    (try with_reducible rfl)
  simp only [Act.put, List.setIfInBounds_toArray, List.set_cons_zero, List.set_cons_succ]
  refine fz_mix [(9, 34, some (.agg (relA q))), (10, 11, none)] #[true, true, true, true, true, true, true, true, true, true, true, false] 27 (relA zeroR) 2 1 hz (by simp) (by simp) ?_ ?_ rfl hon S0 (by kernel_rfl) (by kernel_rfl) ?_ ?_
  · intro i d hi
    simp only [List.mem_cons, Prod.mk.injEq, List.not_mem_nil, or_false, reduceCtorEq, and_false, false_or, and_true] at hi
    rcases hi with ⟨rfl, rfl⟩ <;> exact ⟨_, rfl, rfl, rfl, rfl⟩
  · intro x hx
    simp only [List.mem_cons, List.not_mem_nil, or_false] at hx
    rcases hx with rfl | rfl <;> rfl
  · intro i d v hi
    simp only [List.mem_cons, Prod.mk.injEq, List.not_mem_nil, or_false, reduceCtorEq, and_false, Option.some.injEq] at hi
    rcases hi with ⟨rfl, rfl, rfl⟩
    · refine ⟨_, rfl, rfl, fun p W' K hS hO hK => ?_⟩
      simp only [putsA, List.foldl_cons, List.foldl_nil, Act.put, List.setIfInBounds_toArray, List.set_cons_zero, List.set_cons_succ]
      go_simp
      refine (y1 _).mono ?_
      rintro _ W'' ⟨rfl, kk⟩
      exact hK W'' kk
  intro p WE hm hSE
  obtain ⟨u9, hu9⟩ := Option.isSome_iff_exists.1 (hm.done (9, 34, some (.agg (relA q))) (by simp) rfl)
  obtain rfl := hm.val 9 34 (.agg (relA q)) u9 (by simp) hu9
  obtain ⟨u10, hu10⟩ := Option.isSome_iff_exists.1 (hm.done (10, 11, none) (by simp) rfl)
  obtain ⟨N11, rfl, b11, g11⟩ := hm.blk 10 11 u10 (by simp) hu10
  have kM := hm.on
  simp only [putsA, List.foldl_cons, List.foldl_nil, hu9, hu10, Option.getD_some, Act.put, List.setIfInBounds_toArray, List.set_cons_zero, List.set_cons_succ]
  clear hm hu9 hu10
  have hb1 := B1r.lt
  have g11' : W1.heap.size ≤ N11 := g11
  refine fz_one 11 rfl rfl (by kernel_rfl) (fun K hK => ?_)
  refine wp_st rfl rfl rfl b11 ?_
  refine hK.out _ _ (fun _ => hSE.rowFar (by omega) _) ?_
  clear hK
  refine fz_done (by kernel_rfl) (NoPanic.normal ?_)
  obtain ⟨W2, hW2⟩ : ∃ W2, W2 = WE.setRow N11 (relA q) := ⟨_, rfl⟩
  have R2 : Bk W2 w1.heap.size (relA r) := by rw [hW2]; exact (B1r.drew.on kM).rowFar (by omega) _
  have Q2 : Bk W2 N11 (relA q) := by rw [hW2]; exact b11.row _
  have K2 : On w W2 := by rw [hW2]; exact (KK1.drew.trans kM).row (by have := KK1.size; omega) _
  rw [← hW2]
  clear hW2 hSE b11 kM S0 hon y1 B1r B1w KK1 g11 hO1
  go_wp2_with (refine wpList_ld rfl rfl rfl Q2 ?_)
  refine (y2 _ K2).mono ?_
  rintro _ w4 ⟨la, lc, rfl, hrr, k4⟩
  have K4 := K2.trans k4
  have HRR : Hid (Rd2 intC 1 w4 (.slice la (X.map ints).length lc) (X.map ints)) := hrr
  have S4 : Bk w4 w1.heap.size (relA r) ∧ Bk w4 N11 (relA q) := ⟨R2.on k4, Q2.on k4⟩
  have hX9 : X.length ≤ 9223372036854775807 := by omega
  clear hrr y2 R2 Q2 K2 k4
  go_wp2
  go_loopg [13] X.length (fun gg s13 wr => ∃ i : Nat, i ≤ X.length ∧ gg = X.length - i ∧ s13 = .int .i64 i ∧ Hid (On w4 wr) ∧ (Bk wr w1.heap.size (relA r) ∧ Bk wr N11 (relA q)))
  case atStart => exact ⟨0, Nat.zero_le _, rfl, rfl, On.refl _, S4⟩
  case round =>
    clear S4
    obtain ⟨i, hi, hk, rfl, HO, SI⟩ := hrel
    rcases Nat.lt_or_ge i X.length with hlt | hge
    · obtain ⟨l, hl⟩ : ∃ l, X[i]? = some l := ⟨_, List.getElem?_eq_getElem hlt⟩
      have hlm := List.mem_of_getElem? hl
      obtain ⟨g, off, hla, hg, ax, cx, hcx, _, hrx⟩ := (HRR.out.on HO.out).row (i := i) (L := ints l) (by rw [List.getElem?_map, hl]; rfl)
      subst hla
      have hln : (ints l).length = m := by rw [ints_len]; exact HLN.out l hlm
      rw [hln] at hcx hrx
      have hkp := fun W (k : On wr W) => HK.out l hlm _ W (K4.trans (HO.out.trans k)) (hrx.on k)
      have T0 : (Bk wr.drew w1.heap.size (relA r) ∧ Bk wr.drew N11 (relA q)) ∧ wr.drew.cell? ⟨g, off + i, none⟩ = some (.slice ax m cx) ∧ g < wr.drew.heap.size := ⟨SI, hcx, hg⟩
      have hon : ∀ W W', (Bk W w1.heap.size (relA r) ∧ Bk W N11 (relA q)) ∧ W.cell? ⟨g, off + i, none⟩ = some (.slice ax m cx) ∧ g < W.heap.size → On W W' → (Bk W' w1.heap.size (relA r) ∧ Bk W' N11 (relA q)) ∧ W'.cell? ⟨g, off + i, none⟩ = some (.slice ax m cx) ∧ g < W'.heap.size := fun W W' h k => ⟨⟨h.1.1.on k, h.1.2.on k⟩, (k.cell (p := ⟨g, off + i, none⟩) h.2.2).trans h.2.1, Nat.lt_of_lt_of_le h.2.2 k.size⟩
      have K0 := (On.refl wr).drew
      clear hcx hl hlm hln hrx y3 y4 y5 y6 xA SI
      go_wp2
      refine region_fin (fun W => (Bk W w1.heap.size (relA r) ∧ Bk W N11 (relA q)) ∧ W.cell? ⟨g, off + i, none⟩ = some (.slice ax m cx) ∧ g < W.heap.size) 99 7 (by kernel_rfl) rfl ?_
      refine fin_take 0 (v := .agg (relA r)) rfl (by kernel_rfl) (by kernel_rfl) (by kernel_rfl) (by kernel_rfl) (fun _ _ _ h => h) rfl (fun W hW => exec_ld rfl rfl (hW.1.1)) T0 ?_
      simp only [Act.put, List.setIfInBounds_toArray, List.set_cons_zero, List.set_cons_succ]
      refine fin_take 1 (v := ?_) rfl (by kernel_rfl) (by kernel_rfl) (by kernel_rfl) (by kernel_rfl) (fun _ _ _ h => h) rfl ?_ T0 ?_
      rotate_left
      · intro W hW
        go_simp
        (try with_reducible rfl)
      simp only [Act.put, List.setIfInBounds_toArray, List.set_cons_zero, List.set_cons_succ]
      refine fin_take 2 (v := ?_) rfl (by kernel_rfl) (by kernel_rfl) (by kernel_rfl) (by kernel_rfl) (fun _ _ _ h => h) rfl ?_ T0 ?_
      rotate_left
      · intro W hW
        go_simp
        (try with_reducible rfl)
      simp only [Act.put, List.setIfInBounds_toArray, List.set_cons_zero, List.set_cons_succ]
      refine fin_take 3 (v := ?_) rfl (by kernel_rfl) (by kernel_rfl) (by kernel_rfl) (by kernel_rfl) (fun _ _ _ h => h) rfl ?_ T0 ?_
      rotate_left
      · intro W hW
        go_simp
        (try with_reducible rfl)
      simp only [Act.put, List.setIfInBounds_toArray, List.set_cons_zero, List.set_cons_succ]
      refine fin_take 4 (v := ?_) rfl (by kernel_rfl) (by kernel_rfl) (by kernel_rfl) (by kernel_rfl) (fun _ _ _ h => h) rfl ?_ T0 ?_
      rotate_left
      · intro W hW
        have hcl := hW.2.1
        have hll := hW.2.2
        go_simp
        (try with_reducible rfl)
      simp only [Act.put, List.setIfInBounds_toArray, List.set_cons_zero, List.set_cons_succ]
      refine fin_one 5 rfl rfl (by kernel_rfl) (fun K hK => ?_)
      go_simp
      refine (hkp _ K0).mono ?_
      rintro _ v1 ⟨rfl, kv1⟩
      have Sv1 := hon _ _ T0 kv1
      have Kv1 := K0.trans kv1
      refine hK.out _ _ (fun _ => Sv1) ?_
      clear hK
      refine fin_take 6 (v := ?_) rfl (by kernel_rfl) (by kernel_rfl) (by kernel_rfl) (by kernel_rfl) (fun _ _ _ h => h) rfl ?_ Sv1 ?_
      rotate_left
      · intro W hW
        go_simp
        (try with_reducible rfl)
      simp only [Act.put, List.setIfInBounds_toArray, List.set_cons_zero, List.set_cons_succ]
      refine fin_done (by kernel_rfl) (NoPanic.normal ?_)
      have HO2 : Hid (On w4 _) := HO.out.trans Kv1
      have SI := Sv1.1
      clear hon T0 K0 Sv1 Kv1 kv1 HO hkp
      go_wp2
      go_roundg (X.length - (i + 1))
      case measure => omega
      case rel => exact ⟨i + 1, hlt, rfl, by congr 1, HO2, SI⟩
    · obtain rfl : X.length = i := by omega
      have T0 : Bk wr.drew w1.heap.size (relA r) ∧ Bk wr.drew N11 (relA q) := SI
      have hon : ∀ W W', Bk W w1.heap.size (relA r) ∧ Bk W N11 (relA q) → On W W' → Bk W' w1.heap.size (relA r) ∧ Bk W' N11 (relA q) := fun W W' h k => ⟨h.1.on k, h.2.on k⟩
      have K0 := (K4.trans HO.out).drew
      clear HK HLN HRR
      go_wp2
      refine region_fin (fun W => Bk W w1.heap.size (relA r) ∧ Bk W N11 (relA q)) 99 15 (by kernel_rfl) rfl ?_
      refine fin_take 0 (v := .agg (relA q)) rfl (by kernel_rfl) (by kernel_rfl) (by kernel_rfl) (by kernel_rfl) (fun _ _ _ h => h) rfl (fun W hW => exec_ld rfl rfl (hW.2)) T0 ?_
      simp only [Act.put, List.setIfInBounds_toArray, List.set_cons_zero, List.set_cons_succ]
      refine fin_take 2 (v := .agg (relA r)) rfl (by kernel_rfl) (by kernel_rfl) (by kernel_rfl) (by kernel_rfl) (fun _ _ _ h => h) rfl (fun W hW => exec_ld rfl rfl (hW.1)) T0 ?_
      simp only [Act.put, List.setIfInBounds_toArray, List.set_cons_zero, List.set_cons_succ]
      refine fin_take 3 (v := ?_) rfl (by kernel_rfl) (by kernel_rfl) (by kernel_rfl) (by kernel_rfl) (fun _ _ _ h => h) rfl ?_ T0 ?_
      rotate_left
      · intro W hW
        go_simp
        (try with_reducible rfl)
      simp only [Act.put, List.setIfInBounds_toArray, List.set_cons_zero, List.set_cons_succ]
      refine fin_take 4 (v := ?_) rfl (by kernel_rfl) (by kernel_rfl) (by kernel_rfl) (by kernel_rfl) (fun _ _ _ h => h) rfl ?_ T0 ?_
      rotate_left
      · intro W hW
        go_simp
        (try with_reducible rfl)
      simp only [Act.put, List.setIfInBounds_toArray, List.set_cons_zero, List.set_cons_succ]
      refine fin_take 5 (v := ?_) rfl (by kernel_rfl) (by kernel_rfl) (by kernel_rfl) (by kernel_rfl) (fun _ _ _ h => h) rfl ?_ T0 ?_
      rotate_left
      · intro W hW
        go_simp
        (try with_reducible rfl)
      simp only [Act.put, List.setIfInBounds_toArray, List.set_cons_zero, List.set_cons_succ]
      refine fin_take 6 (v := ?_) rfl (by kernel_rfl) (by kernel_rfl) (by kernel_rfl) (by kernel_rfl) (fun _ _ _ h => h) rfl ?_ T0 ?_
      rotate_left
      · intro W hW
        go_simp
        (try with_reducible rfl)
      simp only [Act.put, List.setIfInBounds_toArray, List.set_cons_zero, List.set_cons_succ]
      refine fin_take 7 (v := ?_) rfl (by kernel_rfl) (by kernel_rfl) (by kernel_rfl) (by kernel_rfl) (fun _ _ _ h => h) rfl ?_ T0 ?_
      rotate_left
      · intro W hW
        go_simp
        (try with_reducible rfl)
      simp only [Act.put, List.setIfInBounds_toArray, List.set_cons_zero, List.set_cons_succ]
      refine fin_take 8 (v := ?_) rfl (by kernel_rfl) (by kernel_rfl) (by kernel_rfl) (by kernel_rfl) (fun _ _ _ h => h) rfl ?_ T0 ?_
      rotate_left
      · intro W hW
        go_simp
        (try with_reducible rfl)
      simp only [Act.put, List.setIfInBounds_toArray, List.set_cons_zero, List.set_cons_succ]
      refine fin_take 9 (v := ?_) rfl (by kernel_rfl) (by kernel_rfl) (by kernel_rfl) (by kernel_rfl) (fun _ _ _ h => h) rfl ?_ T0 ?_
      rotate_left
      · intro W hW
        go_simp
        (try with_reducible rfl)
      simp only [Act.put, List.setIfInBounds_toArray, List.set_cons_zero, List.set_cons_succ]
      refine fin_take 10 (v := ?_) rfl (by kernel_rfl) (by kernel_rfl) (by kernel_rfl) (by kernel_rfl) (fun _ _ _ h => h) rfl ?_ T0 ?_
      rotate_left
      · intro W hW
        go_simp
        (try with_reducible rfl)
      simp only [Act.put, List.setIfInBounds_toArray, List.set_cons_zero, List.set_cons_succ]
      refine fin_one 1 rfl rfl (by kernel_rfl) (fun K hK => ?_)
      go_simp
      refine (y3 _ K0).mono ?_
      rintro _ v1 ⟨rfl, kv1⟩
      have Sv1 := hon _ _ T0 kv1
      have Kv1 := K0.trans kv1
      refine hK.out _ _ (fun _ => Sv1) ?_
      clear hK
      refine fin_one 11 rfl rfl (by kernel_rfl) (fun K hK => ?_)
      go_simp
      refine (y4 _).mono ?_
      rintro _ v2 ⟨rfl, kv2⟩
      have Sv2 := hon _ _ Sv1 kv2
      have Kv2 := Kv1.trans kv2
      refine hK.out _ _ (fun _ => Sv2) ?_
      clear hK
      refine fin_one 12 rfl rfl (by kernel_rfl) (fun K hK => ?_)
      go_simp
      refine (y5 _ Kv2).mono ?_
      rintro _ v3 ⟨rfl, kv3⟩
      have Sv3 := hon _ _ Sv2 kv3
      have Kv3 := Kv2.trans kv3
      refine hK.out _ _ (fun _ => Sv3) ?_
      clear hK
      refine fin_take 13 (v := ?_) rfl (by kernel_rfl) (by kernel_rfl) (by kernel_rfl) (by kernel_rfl) (fun _ _ _ h => h) rfl ?_ Sv3 ?_
      rotate_left
      · intro W hW
        go_simp
        (try with_reducible rfl)
      simp only [Act.put, List.setIfInBounds_toArray, List.set_cons_zero, List.set_cons_succ]
      refine fin_take 14 (v := ?_) rfl (by kernel_rfl) (by kernel_rfl) (by kernel_rfl) (by kernel_rfl) (fun _ _ _ h => h) rfl ?_ Sv3 ?_
      rotate_left
      · intro W hW
        go_simp
        (try with_reducible rfl)
      simp only [Act.put, List.setIfInBounds_toArray, List.set_cons_zero, List.set_cons_succ]
      refine fin_done (by kernel_rfl) (NoPanic.normal ?_)
      have SJ := Sv3
      have KJ := Kv3
      clear T0 K0 Sv3 Kv3 kv1 kv2 kv3 y3 y4 y5 SI HO
      by_cases hxy : x = y
      · subst hxy
        have T0 : Bk v3.drew w1.heap.size (relA r) ∧ Bk v3.drew N11 (relA q) := SJ
        have K0 := KJ.drew
        go_wp2
        refine region_fin (fun W => Bk W w1.heap.size (relA r) ∧ Bk W N11 (relA q)) 99 26 (by kernel_rfl) rfl ?_
        refine fin_take 0 (v := ?_) rfl (by kernel_rfl) (by kernel_rfl) (by kernel_rfl) (by kernel_rfl) (fun _ _ _ h => h) rfl ?_ T0 ?_
        rotate_left
        · intro W hW
          go_simp
          (try with_reducible rfl)
        simp only [Act.put, List.setIfInBounds_toArray, List.set_cons_zero, List.set_cons_succ]
        refine fin_take 1 (v := ?_) rfl (by kernel_rfl) (by kernel_rfl) (by kernel_rfl) (by kernel_rfl) (fun _ _ _ h => h) rfl ?_ T0 ?_
        rotate_left
        · intro W hW
          go_simp
          (try with_reducible rfl)
        simp only [Act.put, List.setIfInBounds_toArray, List.set_cons_zero, List.set_cons_succ]
        refine fin_take 2 (v := .agg (relA r)) rfl (by kernel_rfl) (by kernel_rfl) (by kernel_rfl) (by kernel_rfl) (fun _ _ _ h => h) rfl (fun W hW => exec_ld rfl rfl (hW.1)) T0 ?_
        simp only [Act.put, List.setIfInBounds_toArray, List.set_cons_zero, List.set_cons_succ]
        refine fin_one 3 rfl rfl (by kernel_rfl) (fun K hK => ?_)
        go_simp
        refine (y6 _ K0).mono ?_
        rintro _ u1 ⟨rfl, ku1⟩
        have Su1 := hon _ _ T0 ku1
        have Ku1 := K0.trans ku1
        refine hK.out _ _ (fun _ => Su1) ?_
        clear hK
        refine fin_take 4 (v := ?_) rfl (by kernel_rfl) (by kernel_rfl) (by kernel_rfl) (by kernel_rfl) (fun _ _ _ h => h) rfl ?_ Su1 ?_
        rotate_left
        · intro W hW
          go_simp
          (try with_reducible rfl)
        simp only [Act.put, List.setIfInBounds_toArray, List.set_cons_zero, List.set_cons_succ]
        refine fin_take 5 (v := ?_) rfl (by kernel_rfl) (by kernel_rfl) (by kernel_rfl) (by kernel_rfl) (fun _ _ _ h => h) rfl ?_ Su1 ?_
        rotate_left
        · intro W hW
          go_simp
          (try with_reducible rfl)
        simp only [Act.put, List.setIfInBounds_toArray, List.set_cons_zero, List.set_cons_succ]
        refine fin_takeG 6 (v := ?_) rfl (by kernel_rfl) (by kernel_rfl) (by kernel_rfl) (by kernel_rfl) (fun _ _ _ h => h) (by rfl) ?_ Su1 ?_
        rotate_left
        · intro W hW
          go_simp
          (try with_reducible rfl)
        simp only [Act.put, List.setIfInBounds_toArray, List.set_cons_zero, List.set_cons_succ]
        refine fin_takeG 7 (v := ?_) rfl (by kernel_rfl) (by kernel_rfl) (by kernel_rfl) (by kernel_rfl) (fun _ _ _ h => h) (by rfl) ?_ Su1 ?_
        rotate_left
        · intro W hW
          go_simp
          (try with_reducible rfl)
        simp only [Act.put, List.setIfInBounds_toArray, List.set_cons_zero, List.set_cons_succ]
        refine fin_takeG 8 (v := ?_) rfl (by kernel_rfl) (by kernel_rfl) (by kernel_rfl) (by kernel_rfl) (fun _ _ _ h => h) (by rfl) ?_ Su1 ?_
        rotate_left
        · intro W hW
          go_simp
          (try with_reducible rfl)
        simp only [Act.put, List.setIfInBounds_toArray, List.set_cons_zero, List.set_cons_succ]
        refine fin_takeG 9 (v := ?_) rfl (by kernel_rfl) (by kernel_rfl) (by kernel_rfl) (by kernel_rfl) (fun _ _ _ h => h) (by rfl) ?_ Su1 ?_
        rotate_left
        · intro W hW
          go_simp
          (try with_reducible rfl)
        simp only [Act.put, List.setIfInBounds_toArray, List.set_cons_zero, List.set_cons_succ]
        refine fin_takeG 10 (v := ?_) rfl (by kernel_rfl) (by kernel_rfl) (by kernel_rfl) (by kernel_rfl) (fun _ _ _ h => h) (by rfl) ?_ Su1 ?_
        rotate_left
        · intro W hW
          go_simp
          (try with_reducible rfl)
        simp only [Act.put, List.setIfInBounds_toArray, List.set_cons_zero, List.set_cons_succ]
        refine fin_takeG 11 (v := ?_) rfl (by kernel_rfl) (by kernel_rfl) (by kernel_rfl) (by kernel_rfl) (fun _ _ _ h => h) (by rfl) ?_ Su1 ?_
        rotate_left
        · intro W hW
          go_simp
          (try with_reducible rfl)
        simp only [Act.put, List.setIfInBounds_toArray, List.set_cons_zero, List.set_cons_succ]
        refine fin_takeG 12 (v := ?_) rfl (by kernel_rfl) (by kernel_rfl) (by kernel_rfl) (by kernel_rfl) (fun _ _ _ h => h) (by rfl) ?_ Su1 ?_
        rotate_left
        · intro W hW
          go_simp
          (try with_reducible rfl)
        simp only [Act.put, List.setIfInBounds_toArray, List.set_cons_zero, List.set_cons_succ]
        refine fin_takeG 13 (v := ?_) rfl (by kernel_rfl) (by kernel_rfl) (by kernel_rfl) (by kernel_rfl) (fun _ _ _ h => h) (by rfl) ?_ Su1 ?_
        rotate_left
        · intro W hW
          go_simp
          (try with_reducible rfl)
        simp only [Act.put, List.setIfInBounds_toArray, List.set_cons_zero, List.set_cons_succ]
        refine fin_takeG 14 (v := ?_) rfl (by kernel_rfl) (by kernel_rfl) (by kernel_rfl) (by kernel_rfl) (fun _ _ _ h => h) (by rfl) ?_ Su1 ?_
        rotate_left
        · intro W hW
          go_simp
          (try with_reducible rfl)
        simp only [Act.put, List.setIfInBounds_toArray, List.set_cons_zero, List.set_cons_succ]
        refine fin_takeG 15 (v := ?_) rfl (by kernel_rfl) (by kernel_rfl) (by kernel_rfl) (by kernel_rfl) (fun _ _ _ h => h) (by rfl) ?_ Su1 ?_
        rotate_left
        · intro W hW
          go_simp
          (try with_reducible rfl)
        simp only [Act.put, List.setIfInBounds_toArray, List.set_cons_zero, List.set_cons_succ]
        refine fin_takeN 16 rfl (by kernel_rfl) (by kernel_rfl) (by kernel_rfl) (by kernel_rfl) (fun _ _ _ h => h) (by rfl) Su1 ?_
        simp only [Act.put, List.setIfInBounds_toArray, List.set_cons_zero, List.set_cons_succ]
        refine fin_takeN 17 rfl (by kernel_rfl) (by kernel_rfl) (by kernel_rfl) (by kernel_rfl) (fun _ _ _ h => h) (by rfl) Su1 ?_
        simp only [Act.put, List.setIfInBounds_toArray, List.set_cons_zero, List.set_cons_succ]
        refine fin_takeN 18 rfl (by kernel_rfl) (by kernel_rfl) (by kernel_rfl) (by kernel_rfl) (fun _ _ _ h => h) (by rfl) Su1 ?_
        simp only [Act.put, List.setIfInBounds_toArray, List.set_cons_zero, List.set_cons_succ]
        refine fin_takeN 19 rfl (by kernel_rfl) (by kernel_rfl) (by kernel_rfl) (by kernel_rfl) (fun _ _ _ h => h) (by rfl) Su1 ?_
        simp only [Act.put, List.setIfInBounds_toArray, List.set_cons_zero, List.set_cons_succ]
        refine fin_takeG 20 (v := ?_) rfl (by kernel_rfl) (by kernel_rfl) (by kernel_rfl) (by kernel_rfl) (fun _ _ _ h => h) (by rfl) ?_ Su1 ?_
        rotate_left
        · intro W hW
          go_simp
          (try with_reducible rfl)
        simp only [Act.put, List.setIfInBounds_toArray, List.set_cons_zero, List.set_cons_succ]
        refine fin_take 21 (v := ?_) rfl (by kernel_rfl) (by kernel_rfl) (by kernel_rfl) (by kernel_rfl) (fun _ _ _ h => h) rfl ?_ Su1 ?_
        rotate_left
        · intro W hW
          go_simp
          (try with_reducible rfl)
        simp only [Act.put, List.setIfInBounds_toArray, List.set_cons_zero, List.set_cons_succ]
        refine fin_take 22 (v := ?_) rfl (by kernel_rfl) (by kernel_rfl) (by kernel_rfl) (by kernel_rfl) (fun _ _ _ h => h) rfl ?_ Su1 ?_
        rotate_left
        · intro W hW
          go_simp
          (try with_reducible rfl)
        simp only [Act.put, List.setIfInBounds_toArray, List.set_cons_zero, List.set_cons_succ]
        refine fin_oneG 23 rfl (by rfl) (by kernel_rfl) (fun K hK => ?_)
        go_simp
        refine (xA _ Ku1).mono ?_
        rintro _ u2 ⟨rfl, ku2⟩
        have Su2 := hon _ _ Su1 ku2
        have Ku2 := Ku1.trans ku2
        refine hK.out _ _ (fun _ => Su2) ?_
        clear hK
        refine fin_take 24 (v := ?_) rfl (by kernel_rfl) (by kernel_rfl) (by kernel_rfl) (by kernel_rfl) (fun _ _ _ h => h) rfl ?_ Su2 ?_
        rotate_left
        · intro W hW
          go_simp
          (try with_reducible rfl)
        simp only [Act.put, List.setIfInBounds_toArray, List.set_cons_zero, List.set_cons_succ]
        refine fin_take 25 (v := ?_) rfl (by kernel_rfl) (by kernel_rfl) (by kernel_rfl) (by kernel_rfl) (fun _ _ _ h => h) rfl ?_ Su2 ?_
        rotate_left
        · intro W hW
          go_simp
          (try with_reducible rfl)
        simp only [Act.put, List.setIfInBounds_toArray, List.set_cons_zero, List.set_cons_succ]
        refine fin_done (by kernel_rfl) (NoPanic.normal ?_)
        go_wp2
        go_ret
        exact ⟨rfl, Ku2⟩
      · have hs2 := hsum hxy
        subst hs2
        have hxy2 : ((x : Int) == (y : Int)) = false := by simpa using (by omega : ¬ (x : Int) = y)
        have T0 : Bk v3.drew w1.heap.size (relA r) ∧ Bk v3.drew N11 (relA q) := SJ
        have K0 := KJ.drew
        clear hsum hxy
        go_wp2
        refine region_fin (fun W => Bk W w1.heap.size (relA r) ∧ Bk W N11 (relA q)) 99 26 (by kernel_rfl) rfl ?_
        refine fin_take 0 (v := ?_) rfl (by kernel_rfl) (by kernel_rfl) (by kernel_rfl) (by kernel_rfl) (fun _ _ _ h => h) rfl ?_ T0 ?_
        rotate_left
        · intro W hW
          go_simp
          (try with_reducible rfl)
        simp only [Act.put, List.setIfInBounds_toArray, List.set_cons_zero, List.set_cons_succ]
        refine fin_take 1 (v := ?_) rfl (by kernel_rfl) (by kernel_rfl) (by kernel_rfl) (by kernel_rfl) (fun _ _ _ h => h) rfl ?_ T0 ?_
        rotate_left
        · intro W hW
          go_simp
          (try with_reducible rfl)
        simp only [Act.put, List.setIfInBounds_toArray, List.set_cons_zero, List.set_cons_succ]
        refine fin_take 2 (v := .agg (relA r)) rfl (by kernel_rfl) (by kernel_rfl) (by kernel_rfl) (by kernel_rfl) (fun _ _ _ h => h) rfl (fun W hW => exec_ld rfl rfl (hW.1)) T0 ?_
        simp only [Act.put, List.setIfInBounds_toArray, List.set_cons_zero, List.set_cons_succ]
        refine fin_one 3 rfl rfl (by kernel_rfl) (fun K hK => ?_)
        go_simp
        refine (y6 _ K0).mono ?_
        rintro _ u1 ⟨rfl, ku1⟩
        have Su1 := hon _ _ T0 ku1
        have Ku1 := K0.trans ku1
        refine hK.out _ _ (fun _ => Su1) ?_
        clear hK
        refine fin_take 4 (v := ?_) rfl (by kernel_rfl) (by kernel_rfl) (by kernel_rfl) (by kernel_rfl) (fun _ _ _ h => h) rfl ?_ Su1 ?_
        rotate_left
        · intro W hW
          go_simp
          (try with_reducible rfl)
        simp only [Act.put, List.setIfInBounds_toArray, List.set_cons_zero, List.set_cons_succ]
        refine fin_take 5 (v := ?_) rfl (by kernel_rfl) (by kernel_rfl) (by kernel_rfl) (by kernel_rfl) (fun _ _ _ h => h) rfl ?_ Su1 ?_
        rotate_left
        · intro W hW
          go_simp
          (try with_reducible rfl)
        simp only [Act.put, List.setIfInBounds_toArray, List.set_cons_zero, List.set_cons_succ]
        refine fin_takeG 6 (v := ?_) rfl (by kernel_rfl) (by kernel_rfl) (by kernel_rfl) (by kernel_rfl) (fun _ _ _ h => h) (by rfl) ?_ Su1 ?_
        rotate_left
        · intro W hW
          go_simp
          (try with_reducible rfl)
        simp only [Act.put, List.setIfInBounds_toArray, List.set_cons_zero, List.set_cons_succ]
        refine fin_takeG 7 (v := ?_) rfl (by kernel_rfl) (by kernel_rfl) (by kernel_rfl) (by kernel_rfl) (fun _ _ _ h => h) (by rfl) ?_ Su1 ?_
        rotate_left
        · intro W hW
          go_simp
          (try with_reducible rfl)
        simp only [Act.put, List.setIfInBounds_toArray, List.set_cons_zero, List.set_cons_succ]
        refine fin_takeG 8 (v := ?_) rfl (by kernel_rfl) (by kernel_rfl) (by kernel_rfl) (by kernel_rfl) (fun _ _ _ h => h) (by rfl) ?_ Su1 ?_
        rotate_left
        · intro W hW
          go_simp
          (try with_reducible rfl)
        simp only [Act.put, List.setIfInBounds_toArray, List.set_cons_zero, List.set_cons_succ]
        refine fin_takeG 9 (v := ?_) rfl (by kernel_rfl) (by kernel_rfl) (by kernel_rfl) (by kernel_rfl) (fun _ _ _ h => h) (by rfl) ?_ Su1 ?_
        rotate_left
        · intro W hW
          go_simp
          (try with_reducible rfl)
        simp only [Act.put, List.setIfInBounds_toArray, List.set_cons_zero, List.set_cons_succ]
        refine fin_takeG 10 (v := ?_) rfl (by kernel_rfl) (by kernel_rfl) (by kernel_rfl) (by kernel_rfl) (fun _ _ _ h => h) (by rfl) ?_ Su1 ?_
        rotate_left
        · intro W hW
          go_simp
          (try with_reducible rfl)
        simp only [Act.put, List.setIfInBounds_toArray, List.set_cons_zero, List.set_cons_succ]
        refine fin_takeG 11 (v := ?_) rfl (by kernel_rfl) (by kernel_rfl) (by kernel_rfl) (by kernel_rfl) (fun _ _ _ h => h) (by rfl) ?_ Su1 ?_
        rotate_left
        · intro W hW
          go_simp
          (try with_reducible rfl)
        simp only [Act.put, List.setIfInBounds_toArray, List.set_cons_zero, List.set_cons_succ]
        refine fin_takeG 12 (v := ?_) rfl (by kernel_rfl) (by kernel_rfl) (by kernel_rfl) (by kernel_rfl) (fun _ _ _ h => h) (by rfl) ?_ Su1 ?_
        rotate_left
        · intro W hW
          go_simp
          (try with_reducible rfl)
        simp only [Act.put, List.setIfInBounds_toArray, List.set_cons_zero, List.set_cons_succ]
        refine fin_takeG 13 (v := ?_) rfl (by kernel_rfl) (by kernel_rfl) (by kernel_rfl) (by kernel_rfl) (fun _ _ _ h => h) (by rfl) ?_ Su1 ?_
        rotate_left
        · intro W hW
          go_simp
          (try with_reducible rfl)
        simp only [Act.put, List.setIfInBounds_toArray, List.set_cons_zero, List.set_cons_succ]
        refine fin_takeG 14 (v := ?_) rfl (by kernel_rfl) (by kernel_rfl) (by kernel_rfl) (by kernel_rfl) (fun _ _ _ h => h) (by rfl) ?_ Su1 ?_
        rotate_left
        · intro W hW
          go_simp
          (try with_reducible rfl)
        simp only [Act.put, List.setIfInBounds_toArray, List.set_cons_zero, List.set_cons_succ]
        refine fin_takeG 15 (v := ?_) rfl (by kernel_rfl) (by kernel_rfl) (by kernel_rfl) (by kernel_rfl) (fun _ _ _ h => h) (by rfl) ?_ Su1 ?_
        rotate_left
        · intro W hW
          go_simp
          (try with_reducible rfl)
        simp only [Act.put, List.setIfInBounds_toArray, List.set_cons_zero, List.set_cons_succ]
        refine fin_takeG 16 (v := ?_) rfl (by kernel_rfl) (by kernel_rfl) (by kernel_rfl) (by kernel_rfl) (fun _ _ _ h => h) (by rfl) ?_ Su1 ?_
        rotate_left
        · intro W hW
          go_simp
          (try with_reducible rfl)
        simp only [Act.put, List.setIfInBounds_toArray, List.set_cons_zero, List.set_cons_succ]
        refine fin_takeG 17 (v := .agg (relA r)) rfl (by kernel_rfl) (by kernel_rfl) (by kernel_rfl) (by kernel_rfl) (fun _ _ _ h => h) (by rfl) (fun W hW => exec_ld rfl rfl (hW.1)) Su1 ?_
        simp only [Act.put, List.setIfInBounds_toArray, List.set_cons_zero, List.set_cons_succ]
        refine fin_oneG 18 rfl (by rfl) (by kernel_rfl) (fun K hK => ?_)
        go_simp
        refine (y6 _ Ku1).mono ?_
        rintro _ u2 ⟨rfl, ku2⟩
        have Su2 := hon _ _ Su1 ku2
        have Ku2 := Ku1.trans ku2
        refine hK.out _ _ (fun _ => Su2) ?_
        clear hK
        refine fin_takeG 19 (v := ?_) rfl (by kernel_rfl) (by kernel_rfl) (by kernel_rfl) (by kernel_rfl) (fun _ _ _ h => h) (by rfl) ?_ Su2 ?_
        rotate_left
        · intro W hW
          go_simp
          (try with_reducible rfl)
        simp only [Act.put, List.setIfInBounds_toArray, List.set_cons_zero, List.set_cons_succ]
        refine fin_takeG 20 (v := ?_) rfl (by kernel_rfl) (by kernel_rfl) (by kernel_rfl) (by kernel_rfl) (fun _ _ _ h => h) (by rfl) ?_ Su2 ?_
        rotate_left
        · intro W hW
          go_simp
          (try with_reducible rfl)
        simp only [Act.put, List.setIfInBounds_toArray, List.set_cons_zero, List.set_cons_succ]
        refine fin_take 21 (v := ?_) rfl (by kernel_rfl) (by kernel_rfl) (by kernel_rfl) (by kernel_rfl) (fun _ _ _ h => h) rfl ?_ Su2 ?_
        rotate_left
        · intro W hW
          go_simp
          (try with_reducible rfl)
        simp only [Act.put, List.setIfInBounds_toArray, List.set_cons_zero, List.set_cons_succ]
        refine fin_take 22 (v := ?_) rfl (by kernel_rfl) (by kernel_rfl) (by kernel_rfl) (by kernel_rfl) (fun _ _ _ h => h) rfl ?_ Su2 ?_
        rotate_left
        · intro W hW
          go_simp
          (try with_reducible rfl)
        simp only [Act.put, List.setIfInBounds_toArray, List.set_cons_zero, List.set_cons_succ]
        refine fin_oneG 23 rfl (by rfl) (by kernel_rfl) (fun K hK => ?_)
        go_simp
        refine (xA _ Ku2).mono ?_
        rintro _ u3 ⟨rfl, ku3⟩
        have Su3 := hon _ _ Su2 ku3
        have Ku3 := Ku2.trans ku3
        refine hK.out _ _ (fun _ => Su3) ?_
        clear hK
        refine fin_take 24 (v := ?_) rfl (by kernel_rfl) (by kernel_rfl) (by kernel_rfl) (by kernel_rfl) (fun _ _ _ h => h) rfl ?_ Su3 ?_
        rotate_left
        · intro W hW
          go_simp
          (try with_reducible rfl)
        simp only [Act.put, List.setIfInBounds_toArray, List.set_cons_zero, List.set_cons_succ]
        refine fin_take 25 (v := ?_) rfl (by kernel_rfl) (by kernel_rfl) (by kernel_rfl) (by kernel_rfl) (fun _ _ _ h => h) rfl ?_ Su3 ?_
        rotate_left
        · intro W hW
          go_simp
          (try with_reducible rfl)
        simp only [Act.put, List.setIfInBounds_toArray, List.set_cons_zero, List.set_cons_succ]
        refine fin_done (by kernel_rfl) (NoPanic.normal ?_)
        go_wp2
        go_ret
        exact ⟨rfl, Ku3⟩
end Go.Proofs.YtohngifmbnlmmaaDoor
