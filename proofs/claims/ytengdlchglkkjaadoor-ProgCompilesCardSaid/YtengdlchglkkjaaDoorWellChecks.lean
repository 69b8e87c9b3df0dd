/- WellChecks: the law's walk. -/
import Derived.Test.YtengdlchglkkjaaDoorRChkP
import Derived.Test.YtengdlchglkkjaaDoorFewAwake
import Derived.Test.YtengdlchglkkjaaDoorSmallBH
import Derived.Test.YtengdlchglkkjaaDoorRegFin2
import Derived.Lib.BufferRead
import Derived.Laws.IdiomStrings
namespace Go.Proofs.YtengdlchglkkjaaDoor
open Go.RowKit

theorem TOwn.read {w : World} {base : Nat} {v : Value} {t : TestT} (h : TOwn w base v t) (hn : t.name.size ≤ 9223372036854775807) : TestRd w v t := by
  obtain ⟨a1, c1, a2, c2, a3, c3, rfl, hI, hT, hA⟩ := h
  exact ⟨a1, c1, a2, c2, a3, c3, rfl, hn, Rd.own (fun _ => rfl) hI, hT.rd (fun _ => rfl), hA.rd (fun _ => rfl)⟩
theorem conv_own {w : World} {base : Nat} {e : TypeId} {a : Option Addr} {c : Nat} {l : List UInt8} (h : w.ownsRow base e 1 (.slice a l.length c) l.length (l.map byteV)) :
    (convert 35 9 (.slice a l.length c)).run Tryd.prog w = .ok (.string ⟨l.toArray⟩) w := by
  rcases h.2 with ⟨hv, h0⟩ | ⟨g, cap, cur, hv, _⟩
  · have hl : l = [] := List.eq_nil_of_length_eq_zero h0
    subst hl
    simp only [Value.slice.injEq] at hv
    obtain ⟨rfl, _, rfl⟩ := hv
    exact Lib.run_convert_nil_bytes w _ _ 5 0 Tryd.underlying35 Tryd.underlying5 Tryd.underlying9
  · simp only [Value.slice.injEq] at hv
    obtain ⟨rfl, _, rfl⟩ := hv
    refine run_convert_bytes_back (P := Tryd.prog) w _ _ 5 _ c l Tryd.underlying35 Tryd.underlying5 Tryd.underlying9 (fun j hj => ?_)
    obtain ⟨ad, had, hcell⟩ := byte_cells h (by omega)
    obtain rfl := Option.some.inj had
    exact hcell j hj
set_option maxHeartbeats 16000000 in
set_option maxRecDepth 8000 in
theorem wellChecks_go (t : TestT) (v : Value) (ao : Option Addr) (zs : List Int) (cap : Nat) (w : World) (ht : TestRd w v t) (hw : Lw w ∧ Db w)
    (hS : ∀ W, On w W → Calls Tryd.prog 8 #[.slice ao zs.length cap, .int .i64 8] W fun e w' => ∃ v, e = .returned v ∧ TOwn w' W.heap.size v (smallP zs 8) ∧ On W w') :
    Calls Tryd.prog 3 #[v, .slice ao zs.length cap] w fun e w' => e = .returned (.bool true) ∧ On w w' := by
  obtain ⟨lw, hd⟩ := hw
  have hA := fun W (k : On w W) => awake5_is W (lw.on k) (hd.on k)
  have hF := fun W (k : On w W) => few_is t v W (ht.on k)
  have hC1 := fun W (k : On w W) => check_is t v W (lw.on k) (ht.on k)
  have hC2 := fun W (k : On w W) => rcheck_is t v W (ht.on k)
  have hO2 := fun W (k : On w W) => rtestOk_is t v W (ht.on k)
  have hL1 := fun W (k : On w W) => locs_is t v W (hd.on k) (ht.on k)
  have hL2 := fun W (k : On w W) (h : testOk t = true) => rlocs_ok t v W (ht.on k) h
  have hSn : (smallP zs 8).name.size ≤ 9223372036854775807 := by show (ByteArray.mk #[116]).size ≤ _; decide
  have hSc := small_check (l := zs) (most := 8)
  have hSo := small_ok (l := zs) (most := 8)
  have hD1 := fun (u : Value) W (k : On w W) (h : TestRd W u (smallP zs 8)) => check_is (smallP zs 8) u W (lw.on k) h
  have hE1 := fun (u : Value) W (k : On w W) (h : TestRd W u (smallP zs 8)) => locs_is (smallP zs 8) u W (hd.on k) h
  have hE2 := fun (u : Value) W (h : TestRd W u (smallP zs 8)) => rlocs_ok (smallP zs 8) u W h hSo
  simp only [hSc] at hD1
  obtain ⟨a1, c1, a2, c2, a3, c3, rfl, hnm, r1, r2, r3⟩ := ht.ex
  clear r1 r2 r3 hnm ht lw hd hSc hSo
  generalize t.name = nm at *
  generalize t.ini.length = n1 at *
  generalize t.thr.length = n2 at *
  generalize t.cond.any.length = n3 at *
  generalize t.cond.k = kk at *
  go_enter Tryd.func3, Tryd.ntmps3
  obtain ⟨T, hT⟩ : ∃ T : Value, T = .agg #[.string nm, .slice a1 n1 c1, .slice a2 n2 c2, .int .i64 kk, .slice a3 n3 c3] := ⟨_, rfl⟩
  have bt : ∀ W, On (w.alloc (.cells #[.string nm, .slice a1 n1 c1, .slice a2 n2 c2, .int .i64 kk, .slice a3 n3 c3] 28)) W → Bk W w.heap.size #[.string nm, .slice a1 n1 c1, .slice a2 n2 c2, .int .i64 kk, .slice a3 n3 c3] := fun W k => (Bk.new w _ _).on k
  have k0 : On w (w.alloc (.cells #[.string nm, .slice a1 n1 c1, .slice a2 n2 c2, .int .i64 kk, .slice a3 n3 c3] 28)) := (On.refl w).alloc _
  go_wp2_with fail
  refine (hF _ k0).mono ?_
  rintro _ w1 ⟨b, rfl, k1⟩
  have K1 : Hid (On w w1) := k0.trans k1
  cases b
  · go_wp2_with fail
    refine (hA _ K1.out).mono ?_
    rintro _ w2 ⟨rfl, k2⟩
    go_wp2
    go_ret
    exact ⟨rfl, K1.out.trans k2⟩
  · go_wp2_with fail
    refine (hS _ K1.out).mono ?_
    rintro _ w2 ⟨u, rfl, hu, k2⟩
    have K2 : Hid (On w w2) := K1.out.trans k2
    have hur := hu.read hSn
    obtain ⟨d1, e1, d2, e2, d3, e3, rfl, _, _, _⟩ := hu
    generalize (smallP zs 8).name = sn at *
    generalize (smallP zs 8).ini.length = s1 at *
    generalize (smallP zs 8).thr.length = s2 at *
    generalize (smallP zs 8).cond.any.length = s3 at *
    generalize (smallP zs 8).cond.k = sk at *
    have bs : ∀ W, On (w2.alloc (.cells #[.string sn, .slice d1 s1 e1, .slice d2 s2 e2, .int .i64 sk, .slice d3 s3 e3] 28)) W → W.cell? ⟨w2.heap.size, 0, none⟩ = some (.string sn) ∧ W.cell? ⟨w2.heap.size, 1, none⟩ = some (.slice d1 s1 e1) ∧ W.cell? ⟨w2.heap.size, 2, none⟩ = some (.slice d2 s2 e2) ∧ W.cell? ⟨w2.heap.size, 3, none⟩ = some (.int .i64 sk) ∧ W.cell? ⟨w2.heap.size, 4, none⟩ = some (.slice d3 s3 e3) := fun W k => by
      have B := (Bk.new w2 #[.string sn, .slice d1 s1 e1, .slice d2 s2 e2, .int .i64 sk, .slice d3 s3 e3] 28).on k
      exact ⟨B.at (i := 0) rfl, B.at (i := 1) rfl, B.at (i := 2) rfl, B.at (i := 3) rfl, B.at (i := 4) rfl⟩
    have bq : ∀ W, On w1 W → W.cell? ⟨w.heap.size, 0, none⟩ = some (.string nm) ∧ W.cell? ⟨w.heap.size, 1, none⟩ = some (.slice a1 n1 c1) ∧ W.cell? ⟨w.heap.size, 2, none⟩ = some (.slice a2 n2 c2) ∧ W.cell? ⟨w.heap.size, 3, none⟩ = some (.int .i64 kk) ∧ W.cell? ⟨w.heap.size, 4, none⟩ = some (.slice a3 n3 c3) := fun W k => by
      have B := bt W (k1.trans k)
      exact ⟨B.at (i := 0) rfl, B.at (i := 1) rfl, B.at (i := 2) rfl, B.at (i := 3) rfl, B.at (i := 4) rfl⟩
    obtain ⟨W3, hW3⟩ : ∃ W3, W3 = w2.alloc (.cells #[.string sn, .slice d1 s1 e1, .slice d2 s2 e2, .int .i64 sk, .slice d3 s3 e3] 28) := ⟨_, rfl⟩
    have K3 : On w2 W3 := by rw [hW3]; exact (On.refl w2).alloc _
    rw [← hW3] at bs
    have qS := bs _ (On.refl W3).drew
    obtain ⟨LT, hLT⟩ : ∃ LT, LT = lettersN (locsN (smallP zs 8)) := ⟨_, rfl⟩
    rw [← hLT] at hE1 hE2
    clear hLT
    go_wp2_with fail
    rw [← hW3]
    clear hW3
    refine region_fin (fun W => W.cell? ⟨w2.heap.size, 0, none⟩ = some (.string sn) ∧ W.cell? ⟨w2.heap.size, 1, none⟩ = some (.slice d1 s1 e1) ∧ W.cell? ⟨w2.heap.size, 2, none⟩ = some (.slice d2 s2 e2) ∧ W.cell? ⟨w2.heap.size, 3, none⟩ = some (.int .i64 sk) ∧ W.cell? ⟨w2.heap.size, 4, none⟩ = some (.slice d3 s3 e3)) 99 12 (by kernel_rfl) rfl ?_
    refine fin_take 0 (v := ?_) rfl (by kernel_rfl) (by kernel_rfl) (by kernel_rfl) (by kernel_rfl) (fun _ _ _ h => h) rfl ?_ qS ?_
    rotate_left
    · intro W hW
      go_simp
      (try with_reducible rfl)
    simp only [Act.put, List.setIfInBounds_toArray, List.set_cons_zero, List.set_cons_succ]
    refine fin_one 1 rfl rfl (by kernel_rfl) (fun K hK => ?_)
    go_simp
    refine (hD1 _ _ (K2.out.trans K3.drew) (hur.on K3.drew)).mono ?_
    rintro _ w4 ⟨rfl, k4⟩
    have K4 : On W3 w4 := (On.refl W3).drew.trans k4
    have q4 := bs _ K4
    refine hK.out _ _ (fun _ => q4) ?_
    clear hK
    refine fin_take 2 (v := ?_) rfl (by kernel_rfl) (by kernel_rfl) (by kernel_rfl) (by kernel_rfl) (fun _ _ _ h => h) rfl ?_ q4 ?_
    rotate_left
    · intro W hW
      go_simp
      (try with_reducible rfl)
    simp only [Act.put, List.setIfInBounds_toArray, List.set_cons_zero, List.set_cons_succ]
    refine fin_take 3 (v := ?_) rfl (by kernel_rfl) (by kernel_rfl) (by kernel_rfl) (by kernel_rfl) (fun _ _ _ h => h) rfl ?_ q4 ?_
    rotate_left
    · intro W hW
      go_simp
      (try with_reducible rfl)
    simp only [Act.put, List.setIfInBounds_toArray, List.set_cons_zero, List.set_cons_succ]
    refine fin_takeG 4 (v := ?_) rfl (by kernel_rfl) (by kernel_rfl) (by kernel_rfl) (by kernel_rfl) (fun _ _ _ h => h) (by rfl) ?_ q4 ?_
    rotate_left
    · intro W hW
      go_simp
      (try with_reducible rfl)
    simp only [Act.put, List.setIfInBounds_toArray, List.set_cons_zero, List.set_cons_succ]
    refine fin_takeG 7 (v := ?_) rfl (by kernel_rfl) (by kernel_rfl) (by kernel_rfl) (by kernel_rfl) (fun _ _ _ h => h) (by rfl) ?_ q4 ?_
    rotate_left
    · intro W hW
      go_simp
      (try with_reducible rfl)
    simp only [Act.put, List.setIfInBounds_toArray, List.set_cons_zero, List.set_cons_succ]
    refine fin_oneG 5 rfl (by rfl) (by kernel_rfl) (fun K hK => ?_)
    go_simp
    refine (hE1 _ _ (K2.out.trans (K3.trans K4)) (hur.on (K3.trans K4))).mono ?_
    rintro _ w5 ⟨x5, y5, rfl, ho5, k5⟩
    have K5 : On W3 w5 := K4.trans k5
    have q5 := bs _ K5
    refine hK.out _ _ (fun _ => q5) ?_
    clear hK
    have q5' := And.intro (conv_own ho5) q5
    refine fin_mono (S' := fun W => (convert 35 9 (.slice x5 LT.length y5)).run Tryd.prog W = .ok (.string ⟨LT.toArray⟩) W ∧ W.cell? ⟨w2.heap.size, 0, none⟩ = some (.string sn) ∧ W.cell? ⟨w2.heap.size, 1, none⟩ = some (.slice d1 s1 e1) ∧ W.cell? ⟨w2.heap.size, 2, none⟩ = some (.slice d2 s2 e2) ∧ W.cell? ⟨w2.heap.size, 3, none⟩ = some (.int .i64 sk) ∧ W.cell? ⟨w2.heap.size, 4, none⟩ = some (.slice d3 s3 e3)) (fun _ h => h.2) ?_
    refine fin_takeG 6 (v := ?_) rfl (by kernel_rfl) (by kernel_rfl) (by kernel_rfl) (by kernel_rfl) (fun _ _ _ h => h) (by rfl) ?_ q5' ?_
    rotate_left
    · intro W hW
      go_simp
      (try with_reducible rfl)
    simp only [Act.put, List.setIfInBounds_toArray, List.set_cons_zero, List.set_cons_succ]
    refine fin_oneG 8 rfl (by rfl) (by kernel_rfl) (fun K hK => ?_)
    go_simp
    refine (hE2 _ _ (hur.on (K3.trans K5))).mono ?_
    rintro _ w6 ⟨x6, y6, rfl, ho6, k6⟩
    have K6 : On W3 w6 := K5.trans k6
    have q6 := bs _ K6
    refine hK.out _ _ (fun _ => ⟨conv_own (own_on ho5 k6), q6⟩) ?_
    clear hK
    have q6' := And.intro (conv_own ho6) q6
    refine fin_mono (S' := fun W => (convert 35 9 (.slice x6 LT.length y6)).run Tryd.prog W = .ok (.string ⟨LT.toArray⟩) W ∧ (convert 35 9 (.slice x5 LT.length y5)).run Tryd.prog W = .ok (.string ⟨LT.toArray⟩) W ∧ W.cell? ⟨w2.heap.size, 0, none⟩ = some (.string sn) ∧ W.cell? ⟨w2.heap.size, 1, none⟩ = some (.slice d1 s1 e1) ∧ W.cell? ⟨w2.heap.size, 2, none⟩ = some (.slice d2 s2 e2) ∧ W.cell? ⟨w2.heap.size, 3, none⟩ = some (.int .i64 sk) ∧ W.cell? ⟨w2.heap.size, 4, none⟩ = some (.slice d3 s3 e3)) (fun _ h => h.2) ?_
    have q6' := And.intro (conv_own ho6) (And.intro (conv_own (own_on ho5 k6)) q6)
    refine fin_takeG 9 (v := ?_) rfl (by kernel_rfl) (by kernel_rfl) (by kernel_rfl) (by kernel_rfl) (fun _ _ _ h => h) (by rfl) ?_ q6' ?_
    rotate_left
    · intro W hW
      go_simp
      (try with_reducible rfl)
    simp only [Act.put, List.setIfInBounds_toArray, List.set_cons_zero, List.set_cons_succ]
    refine fin_takeG 10 (v := ?_) rfl (by kernel_rfl) (by kernel_rfl) (by kernel_rfl) (by kernel_rfl) (fun _ _ _ h => h) (by rfl) ?_ q6' ?_
    rotate_left
    · intro W hW
      go_simp
      (try with_reducible rfl)
    simp only [Act.put, List.setIfInBounds_toArray, List.set_cons_zero, List.set_cons_succ]
    refine fin_take 11 (v := ?_) rfl (by kernel_rfl) (by kernel_rfl) (by kernel_rfl) (by kernel_rfl) (fun _ _ _ h => h) rfl ?_ q6' ?_
    rotate_left
    · intro W hW
      go_simp
      (try with_reducible rfl)
    simp only [Act.put, List.setIfInBounds_toArray, List.set_cons_zero, List.set_cons_succ]
    refine fin_done (by kernel_rfl) (NoPanic.normal ?_)
    have K7 : On w w6 := K2.out.trans (K3.trans K6)
    have T7 : On w1 w6 := k2.trans (K3.trans K6)
    clear qS q4 q5 q5' q6 q6' bs ho5 ho6 hur hD1 hE1 hE2 K3 K4 K5 K6 k4 k5 k6
    obtain ⟨MT, hMT⟩ : ∃ MT, MT = lettersN (locsN t) := ⟨_, rfl⟩
    rw [← hMT] at hL1 hL2
    clear hMT
    have qT := bq _ T7.drew
    generalize checkT t = ct at *
    cases hto : testOk t
    · rw [hto] at hO2
      go_wp2
      refine region_fin (fun W => W.cell? ⟨w.heap.size, 0, none⟩ = some (.string nm) ∧ W.cell? ⟨w.heap.size, 1, none⟩ = some (.slice a1 n1 c1) ∧ W.cell? ⟨w.heap.size, 2, none⟩ = some (.slice a2 n2 c2) ∧ W.cell? ⟨w.heap.size, 3, none⟩ = some (.int .i64 kk) ∧ W.cell? ⟨w.heap.size, 4, none⟩ = some (.slice a3 n3 c3)) 99 23 (by kernel_rfl) rfl ?_
      refine fin_take 0 (v := ?_) rfl (by kernel_rfl) (by kernel_rfl) (by kernel_rfl) (by kernel_rfl) (fun _ _ _ h => h) rfl ?_ qT ?_
      rotate_left
      · intro W hW
        go_simp
        (try with_reducible rfl)
      simp only [Act.put, List.setIfInBounds_toArray, List.set_cons_zero, List.set_cons_succ]
      refine fin_take 2 (v := ?_) rfl (by kernel_rfl) (by kernel_rfl) (by kernel_rfl) (by kernel_rfl) (fun _ _ _ h => h) rfl ?_ qT ?_
      rotate_left
      · intro W hW
        go_simp
        (try with_reducible rfl)
      simp only [Act.put, List.setIfInBounds_toArray, List.set_cons_zero, List.set_cons_succ]
      refine fin_one 1 rfl rfl (by kernel_rfl) (fun K hK => ?_)
      go_simp
      refine (hC1 _ K7.drew).mono ?_
      rintro _ w8 ⟨rfl, k8⟩
      have K8 : On w6 w8 := (On.refl w6).drew.trans k8
      have q8 := bq _ (T7.trans K8)
      refine hK.out _ _ (fun _ => q8) ?_
      clear hK
      refine fin_one 3 rfl rfl (by kernel_rfl) (fun K hK => ?_)
      go_simp
      refine (hC2 _ (K7.trans K8)).mono ?_
      rintro _ w9 ⟨rfl, k9⟩
      have K9 : On w6 w9 := K8.trans k9
      have q9 := bq _ (T7.trans K9)
      refine hK.out _ _ (fun _ => q9) ?_
      clear hK
      refine fin_take 4 (v := ?_) rfl (by kernel_rfl) (by kernel_rfl) (by kernel_rfl) (by kernel_rfl) (fun _ _ _ h => h) rfl ?_ q9 ?_
      rotate_left
      · intro W hW
        go_simp
        (try with_reducible rfl)
      simp only [Act.put, List.setIfInBounds_toArray, List.set_cons_zero, List.set_cons_succ]
      refine fin_take 5 (v := ?_) rfl (by kernel_rfl) (by kernel_rfl) (by kernel_rfl) (by kernel_rfl) (fun _ _ _ h => h) rfl ?_ q9 ?_
      rotate_left
      · intro W hW
        go_simp
        (try with_reducible rfl)
      simp only [Act.put, List.setIfInBounds_toArray, List.set_cons_zero, List.set_cons_succ]
      refine fin_takeG 6 (v := ?_) rfl (by kernel_rfl) (by kernel_rfl) (by kernel_rfl) (by kernel_rfl) (fun _ _ _ h => h) (by rfl) ?_ q9 ?_
      rotate_left
      · intro W hW
        go_simp
        (try with_reducible rfl)
      simp only [Act.put, List.setIfInBounds_toArray, List.set_cons_zero, List.set_cons_succ]
      refine fin_oneG 7 rfl (by rfl) (by kernel_rfl) (fun K hK => ?_)
      go_simp
      refine (hO2 _ (K7.trans K9)).mono ?_
      rintro _ w10 ⟨rfl, k10⟩
      have K10 : On w6 w10 := K9.trans k10
      have q10 := bq _ (T7.trans K10)
      refine hK.out _ _ (fun _ => q10) ?_
      clear hK
      refine fin_takeG 8 (v := ?_) rfl (by kernel_rfl) (by kernel_rfl) (by kernel_rfl) (by kernel_rfl) (fun _ _ _ h => h) (by rfl) ?_ q10 ?_
      rotate_left
      · intro W hW
        go_simp
        (try with_reducible rfl)
      simp only [Act.put, List.setIfInBounds_toArray, List.set_cons_zero, List.set_cons_succ]
      refine fin_takeG 9 (v := ?_) rfl (by kernel_rfl) (by kernel_rfl) (by kernel_rfl) (by kernel_rfl) (fun _ _ _ h => h) (by rfl) ?_ q10 ?_
      rotate_left
      · intro W hW
        go_simp
        (try with_reducible rfl)
      simp only [Act.put, List.setIfInBounds_toArray, List.set_cons_zero, List.set_cons_succ]
      refine fin_takeN 10 rfl (by kernel_rfl) (by kernel_rfl) (by kernel_rfl) (by kernel_rfl) (fun _ _ _ h => h) (by rfl) q10 ?_
      simp only [Act.put, List.setIfInBounds_toArray, List.set_cons_zero, List.set_cons_succ]
      refine fin_takeN 11 rfl (by kernel_rfl) (by kernel_rfl) (by kernel_rfl) (by kernel_rfl) (fun _ _ _ h => h) (by rfl) q10 ?_
      simp only [Act.put, List.setIfInBounds_toArray, List.set_cons_zero, List.set_cons_succ]
      refine fin_takeN 12 rfl (by kernel_rfl) (by kernel_rfl) (by kernel_rfl) (by kernel_rfl) (fun _ _ _ h => h) (by rfl) q10 ?_
      simp only [Act.put, List.setIfInBounds_toArray, List.set_cons_zero, List.set_cons_succ]
      refine fin_takeN 13 rfl (by kernel_rfl) (by kernel_rfl) (by kernel_rfl) (by kernel_rfl) (fun _ _ _ h => h) (by rfl) q10 ?_
      simp only [Act.put, List.setIfInBounds_toArray, List.set_cons_zero, List.set_cons_succ]
      refine fin_takeN 14 rfl (by kernel_rfl) (by kernel_rfl) (by kernel_rfl) (by kernel_rfl) (fun _ _ _ h => h) (by rfl) q10 ?_
      simp only [Act.put, List.setIfInBounds_toArray, List.set_cons_zero, List.set_cons_succ]
      refine fin_takeN 15 rfl (by kernel_rfl) (by kernel_rfl) (by kernel_rfl) (by kernel_rfl) (fun _ _ _ h => h) (by rfl) q10 ?_
      simp only [Act.put, List.setIfInBounds_toArray, List.set_cons_zero, List.set_cons_succ]
      refine fin_takeN 16 rfl (by kernel_rfl) (by kernel_rfl) (by kernel_rfl) (by kernel_rfl) (fun _ _ _ h => h) (by rfl) q10 ?_
      simp only [Act.put, List.setIfInBounds_toArray, List.set_cons_zero, List.set_cons_succ]
      refine fin_takeG 17 (v := ?_) rfl (by kernel_rfl) (by kernel_rfl) (by kernel_rfl) (by kernel_rfl) (fun _ _ _ h => h) (by rfl) ?_ q10 ?_
      rotate_left
      · intro W hW
        go_simp
        (try with_reducible rfl)
      simp only [Act.put, List.setIfInBounds_toArray, List.set_cons_zero, List.set_cons_succ]
      refine fin_take 18 (v := ?_) rfl (by kernel_rfl) (by kernel_rfl) (by kernel_rfl) (by kernel_rfl) (fun _ _ _ h => h) rfl ?_ q10 ?_
      rotate_left
      · intro W hW
        go_simp
        (try with_reducible rfl)
      simp only [Act.put, List.setIfInBounds_toArray, List.set_cons_zero, List.set_cons_succ]
      refine fin_take 19 (v := ?_) rfl (by kernel_rfl) (by kernel_rfl) (by kernel_rfl) (by kernel_rfl) (fun _ _ _ h => h) rfl ?_ q10 ?_
      rotate_left
      · intro W hW
        go_simp
        (try with_reducible rfl)
      simp only [Act.put, List.setIfInBounds_toArray, List.set_cons_zero, List.set_cons_succ]
      refine fin_oneG 20 rfl (by rfl) (by kernel_rfl) (fun K hK => ?_)
      go_simp
      refine (hA _ (K7.trans K10)).mono ?_
      rintro _ w13 ⟨rfl, k13⟩
      refine hK.out _ _ (fun _ => bq _ (T7.trans (K10.trans k13))) ?_
      clear hK
      have q13 := bq _ (T7.trans (K10.trans k13))
      refine fin_take 21 (v := ?_) rfl (by kernel_rfl) (by kernel_rfl) (by kernel_rfl) (by kernel_rfl) (fun _ _ _ h => h) rfl ?_ q13 ?_
      rotate_left
      · intro W hW
        go_simp
        (try with_reducible rfl)
      simp only [Act.put, List.setIfInBounds_toArray, List.set_cons_zero, List.set_cons_succ]
      refine fin_take 22 (v := ?_) rfl (by kernel_rfl) (by kernel_rfl) (by kernel_rfl) (by kernel_rfl) (fun _ _ _ h => h) rfl ?_ q13 ?_
      rotate_left
      · intro W hW
        go_simp
        (try with_reducible rfl)
      simp only [Act.put, List.setIfInBounds_toArray, List.set_cons_zero, List.set_cons_succ]
      refine fin_done (by kernel_rfl) (NoPanic.normal ?_)
      go_wp2
      go_ret
      exact ⟨rfl, (K7.trans K10).trans k13⟩
    · rw [hto] at hO2
      have hL3 := fun W k => hL2 W k hto
      go_wp2
      refine region_fin (fun W => W.cell? ⟨w.heap.size, 0, none⟩ = some (.string nm) ∧ W.cell? ⟨w.heap.size, 1, none⟩ = some (.slice a1 n1 c1) ∧ W.cell? ⟨w.heap.size, 2, none⟩ = some (.slice a2 n2 c2) ∧ W.cell? ⟨w.heap.size, 3, none⟩ = some (.int .i64 kk) ∧ W.cell? ⟨w.heap.size, 4, none⟩ = some (.slice a3 n3 c3)) 99 23 (by kernel_rfl) rfl ?_
      refine fin_take 0 (v := ?_) rfl (by kernel_rfl) (by kernel_rfl) (by kernel_rfl) (by kernel_rfl) (fun _ _ _ h => h) rfl ?_ qT ?_
      rotate_left
      · intro W hW
        go_simp
        (try with_reducible rfl)
      simp only [Act.put, List.setIfInBounds_toArray, List.set_cons_zero, List.set_cons_succ]
      refine fin_take 2 (v := ?_) rfl (by kernel_rfl) (by kernel_rfl) (by kernel_rfl) (by kernel_rfl) (fun _ _ _ h => h) rfl ?_ qT ?_
      rotate_left
      · intro W hW
        go_simp
        (try with_reducible rfl)
      simp only [Act.put, List.setIfInBounds_toArray, List.set_cons_zero, List.set_cons_succ]
      refine fin_one 1 rfl rfl (by kernel_rfl) (fun K hK => ?_)
      go_simp
      refine (hC1 _ K7.drew).mono ?_
      rintro _ w8 ⟨rfl, k8⟩
      have K8 : On w6 w8 := (On.refl w6).drew.trans k8
      have q8 := bq _ (T7.trans K8)
      refine hK.out _ _ (fun _ => q8) ?_
      clear hK
      refine fin_one 3 rfl rfl (by kernel_rfl) (fun K hK => ?_)
      go_simp
      refine (hC2 _ (K7.trans K8)).mono ?_
      rintro _ w9 ⟨rfl, k9⟩
      have K9 : On w6 w9 := K8.trans k9
      have q9 := bq _ (T7.trans K9)
      refine hK.out _ _ (fun _ => q9) ?_
      clear hK
      refine fin_take 4 (v := ?_) rfl (by kernel_rfl) (by kernel_rfl) (by kernel_rfl) (by kernel_rfl) (fun _ _ _ h => h) rfl ?_ q9 ?_
      rotate_left
      · intro W hW
        go_simp
        (try with_reducible rfl)
      simp only [Act.put, List.setIfInBounds_toArray, List.set_cons_zero, List.set_cons_succ]
      refine fin_take 5 (v := ?_) rfl (by kernel_rfl) (by kernel_rfl) (by kernel_rfl) (by kernel_rfl) (fun _ _ _ h => h) rfl ?_ q9 ?_
      rotate_left
      · intro W hW
        go_simp
        (try with_reducible rfl)
      simp only [Act.put, List.setIfInBounds_toArray, List.set_cons_zero, List.set_cons_succ]
      refine fin_takeG 6 (v := ?_) rfl (by kernel_rfl) (by kernel_rfl) (by kernel_rfl) (by kernel_rfl) (fun _ _ _ h => h) (by rfl) ?_ q9 ?_
      rotate_left
      · intro W hW
        go_simp
        (try with_reducible rfl)
      simp only [Act.put, List.setIfInBounds_toArray, List.set_cons_zero, List.set_cons_succ]
      refine fin_oneG 7 rfl (by rfl) (by kernel_rfl) (fun K hK => ?_)
      go_simp
      refine (hO2 _ (K7.trans K9)).mono ?_
      rintro _ w10 ⟨rfl, k10⟩
      have K10 : On w6 w10 := K9.trans k10
      have q10 := bq _ (T7.trans K10)
      refine hK.out _ _ (fun _ => q10) ?_
      clear hK
      refine fin_takeG 8 (v := ?_) rfl (by kernel_rfl) (by kernel_rfl) (by kernel_rfl) (by kernel_rfl) (fun _ _ _ h => h) (by rfl) ?_ q10 ?_
      rotate_left
      · intro W hW
        go_simp
        (try with_reducible rfl)
      simp only [Act.put, List.setIfInBounds_toArray, List.set_cons_zero, List.set_cons_succ]
      refine fin_takeG 9 (v := ?_) rfl (by kernel_rfl) (by kernel_rfl) (by kernel_rfl) (by kernel_rfl) (fun _ _ _ h => h) (by rfl) ?_ q10 ?_
      rotate_left
      · intro W hW
        go_simp
        (try with_reducible rfl)
      simp only [Act.put, List.setIfInBounds_toArray, List.set_cons_zero, List.set_cons_succ]
      refine fin_takeG 10 (v := ?_) rfl (by kernel_rfl) (by kernel_rfl) (by kernel_rfl) (by kernel_rfl) (fun _ _ _ h => h) (by rfl) ?_ q10 ?_
      rotate_left
      · intro W hW
        go_simp
        (try with_reducible rfl)
      simp only [Act.put, List.setIfInBounds_toArray, List.set_cons_zero, List.set_cons_succ]
      refine fin_takeG 13 (v := ?_) rfl (by kernel_rfl) (by kernel_rfl) (by kernel_rfl) (by kernel_rfl) (fun _ _ _ h => h) (by rfl) ?_ q10 ?_
      rotate_left
      · intro W hW
        go_simp
        (try with_reducible rfl)
      simp only [Act.put, List.setIfInBounds_toArray, List.set_cons_zero, List.set_cons_succ]
      refine fin_oneG 11 rfl (by rfl) (by kernel_rfl) (fun K hK => ?_)
      go_simp
      refine (hL1 _ (K7.trans K10)).mono ?_
      rintro _ w11 ⟨x11, y11, rfl, ho11, k11⟩
      have K11 : On w6 w11 := K10.trans k11
      have q11 := bq _ (T7.trans K11)
      refine hK.out _ _ (fun _ => q11) ?_
      clear hK
      have q11' := And.intro (conv_own ho11) q11
      refine fin_mono (S' := fun W => (convert 35 9 (.slice x11 MT.length y11)).run Tryd.prog W = .ok (.string ⟨MT.toArray⟩) W ∧ W.cell? ⟨w.heap.size, 0, none⟩ = some (.string nm) ∧ W.cell? ⟨w.heap.size, 1, none⟩ = some (.slice a1 n1 c1) ∧ W.cell? ⟨w.heap.size, 2, none⟩ = some (.slice a2 n2 c2) ∧ W.cell? ⟨w.heap.size, 3, none⟩ = some (.int .i64 kk) ∧ W.cell? ⟨w.heap.size, 4, none⟩ = some (.slice a3 n3 c3)) (fun _ h => h.2) ?_
      refine fin_takeG 12 (v := ?_) rfl (by kernel_rfl) (by kernel_rfl) (by kernel_rfl) (by kernel_rfl) (fun _ _ _ h => h) (by rfl) ?_ q11' ?_
      rotate_left
      · intro W hW
        go_simp
        (try with_reducible rfl)
      simp only [Act.put, List.setIfInBounds_toArray, List.set_cons_zero, List.set_cons_succ]
      refine fin_oneG 14 rfl (by rfl) (by kernel_rfl) (fun K hK => ?_)
      go_simp
      refine (hL3 _ (K7.trans K11)).mono ?_
      rintro _ w12 ⟨x12, y12, rfl, ho12, k12⟩
      have K12 : On w6 w12 := K11.trans k12
      have q12 := bq _ (T7.trans K12)
      refine hK.out _ _ (fun _ => ⟨conv_own (own_on ho11 k12), q12⟩) ?_
      clear hK
      refine fin_mono (S' := fun W => (convert 35 9 (.slice x12 MT.length y12)).run Tryd.prog W = .ok (.string ⟨MT.toArray⟩) W ∧ (convert 35 9 (.slice x11 MT.length y11)).run Tryd.prog W = .ok (.string ⟨MT.toArray⟩) W ∧ W.cell? ⟨w.heap.size, 0, none⟩ = some (.string nm) ∧ W.cell? ⟨w.heap.size, 1, none⟩ = some (.slice a1 n1 c1) ∧ W.cell? ⟨w.heap.size, 2, none⟩ = some (.slice a2 n2 c2) ∧ W.cell? ⟨w.heap.size, 3, none⟩ = some (.int .i64 kk) ∧ W.cell? ⟨w.heap.size, 4, none⟩ = some (.slice a3 n3 c3)) (fun _ h => h.2) ?_
      have q12' := And.intro (conv_own ho12) (And.intro (conv_own (own_on ho11 k12)) q12)
      refine fin_takeG 15 (v := ?_) rfl (by kernel_rfl) (by kernel_rfl) (by kernel_rfl) (by kernel_rfl) (fun _ _ _ h => h) (by rfl) ?_ q12' ?_
      rotate_left
      · intro W hW
        go_simp
        (try with_reducible rfl)
      simp only [Act.put, List.setIfInBounds_toArray, List.set_cons_zero, List.set_cons_succ]
      refine fin_takeG 16 (v := ?_) rfl (by kernel_rfl) (by kernel_rfl) (by kernel_rfl) (by kernel_rfl) (fun _ _ _ h => h) (by rfl) ?_ q12' ?_
      rotate_left
      · intro W hW
        go_simp
        (try with_reducible rfl)
      simp only [Act.put, List.setIfInBounds_toArray, List.set_cons_zero, List.set_cons_succ]
      refine fin_takeG 17 (v := ?_) rfl (by kernel_rfl) (by kernel_rfl) (by kernel_rfl) (by kernel_rfl) (fun _ _ _ h => h) (by rfl) ?_ q12' ?_
      rotate_left
      · intro W hW
        go_simp
        (try with_reducible rfl)
      simp only [Act.put, List.setIfInBounds_toArray, List.set_cons_zero, List.set_cons_succ]
      refine fin_take 18 (v := ?_) rfl (by kernel_rfl) (by kernel_rfl) (by kernel_rfl) (by kernel_rfl) (fun _ _ _ h => h) rfl ?_ q12' ?_
      rotate_left
      · intro W hW
        go_simp
        (try with_reducible rfl)
      simp only [Act.put, List.setIfInBounds_toArray, List.set_cons_zero, List.set_cons_succ]
      refine fin_take 19 (v := ?_) rfl (by kernel_rfl) (by kernel_rfl) (by kernel_rfl) (by kernel_rfl) (fun _ _ _ h => h) rfl ?_ q12' ?_
      rotate_left
      · intro W hW
        go_simp
        (try with_reducible rfl)
      simp only [Act.put, List.setIfInBounds_toArray, List.set_cons_zero, List.set_cons_succ]
      refine fin_oneG 20 rfl (by rfl) (by kernel_rfl) (fun K hK => ?_)
      go_simp
      refine (hA _ (K7.trans K12)).mono ?_
      rintro _ w13 ⟨rfl, k13⟩
      refine hK.out _ _ (fun _ => ⟨conv_own (own_on ho12 k13), conv_own (own_on (own_on ho11 k12) k13), bq _ (T7.trans (K12.trans k13))⟩) ?_
      clear hK
      have q13 := And.intro (conv_own (own_on ho12 k13)) (And.intro (conv_own (own_on (own_on ho11 k12) k13)) (bq _ (T7.trans (K12.trans k13))))
      refine fin_take 21 (v := ?_) rfl (by kernel_rfl) (by kernel_rfl) (by kernel_rfl) (by kernel_rfl) (fun _ _ _ h => h) rfl ?_ q13 ?_
      rotate_left
      · intro W hW
        go_simp
        (try with_reducible rfl)
      simp only [Act.put, List.setIfInBounds_toArray, List.set_cons_zero, List.set_cons_succ]
      refine fin_take 22 (v := ?_) rfl (by kernel_rfl) (by kernel_rfl) (by kernel_rfl) (by kernel_rfl) (fun _ _ _ h => h) rfl ?_ q13 ?_
      rotate_left
      · intro W hW
        go_simp
        (try with_reducible rfl)
      simp only [Act.put, List.setIfInBounds_toArray, List.set_cons_zero, List.set_cons_succ]
      refine fin_done (by kernel_rfl) (NoPanic.normal ?_)
      go_wp2
      go_ret
      exact ⟨rfl, (K7.trans K12).trans k13⟩
end Go.Proofs.YtengdlchglkkjaaDoor
