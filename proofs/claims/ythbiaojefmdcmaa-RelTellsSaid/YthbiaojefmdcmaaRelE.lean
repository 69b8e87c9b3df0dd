/- Relations: two over the lesser N. -/
import Derived.Test.YthbiaojefmdcmaaRelD
namespace Go.Proofs.Ythbiaojefmdcmaa
open Go.RowKit

def belowR (r : RelT) (n : Nat) : RelT := ⟨n, (keepR r (uptoI n)).f⟩
theorem upto_lt (n : Int) : uptoI n < 18446744073709551616 := by
  unfold uptoI
  split
  · decide
  · split
    · decide
    · have : 2 ^ n.toNat ≤ 2 ^ 63 := Nat.pow_le_pow_right (by decide) (by omega)
      have e : (2 : Nat) ^ 63 = 9223372036854775808 := by decide
      omega
set_option maxHeartbeats 2000000 in
theorem below_is (r : RelT) (hr : Wr r) (n : Nat) (w : World) : Calls Try.prog 36 #[.agg (relA r), .int .i64 n] w fun e w' => e = .returned (.agg (relA (belowR r n))) ∧ On w w' := by
  obtain ⟨hz, _⟩ := zero_of_info rel_info
  have h1 : Bk ((w.alloc (.cells (relA r) 27)).alloc (.cells (relA zeroR) 27)) w.heap.size (relA r) := (Bk.new w (relA r) 27).alloc _
  have h2 : Bk ((w.alloc (.cells (relA r) 27)).alloc (.cells (relA zeroR) 27)) (w.heap.size + 1) (relA zeroR) := by
    have := Bk.new (w.alloc (.cells (relA r) 27)) (relA zeroR) 27
    rwa [World.size_alloc] at this
  have k0 := ((On.refl w).alloc (.cells (relA r) 27)).alloc (.cells (relA zeroR) 27)
  obtain ⟨W0, hW0⟩ : ∃ W0, W0 = (w.alloc (.cells (relA r) 27)).alloc (.cells (relA zeroR) 27) := ⟨_, rfl⟩
  have hup := fun W => upto_is n W
  have hkp := fun W => keep_is r hr (uptoI n) (upto_lt n) W
  obtain ⟨A, hA⟩ : ∃ A, A = belowR r n := ⟨_, rfl⟩
  rw [← hA]
  have HA : Hid (A = ⟨n, (keepR r (uptoI n)).f⟩) := hA
  clear hA
  generalize keepR r (uptoI n) = B at *
  generalize uptoI n = u at *
  go_enter Try.func36, Try.ntmps36
  go_wp2
  rw [← hW0]
  rw [← hW0] at h1 h2 k0
  clear hW0
  have q0 : Bk W0.drew w.heap.size (relA r) ∧ Bk W0.drew (w.heap.size + 1) (relA zeroR) := ⟨h1, h2⟩
  refine region_fin (fun W => Bk W w.heap.size (relA r) ∧ Bk W (w.heap.size + 1) (relA zeroR)) 4 5 (by kernel_rfl) rfl ?_
  refine fin_take 0 (v := .agg (relA r)) rfl (by kernel_rfl) (by kernel_rfl) (by kernel_rfl) (by kernel_rfl) (fun _ _ _ h => h) rfl (fun W hW => exec_ld rfl rfl (hW.1)) q0 ?_
  simp only [Act.put, List.setIfInBounds_toArray, List.set_cons_zero, List.set_cons_succ]
  refine fin_take 1 (v := ?_) rfl (by kernel_rfl) (by kernel_rfl) (by kernel_rfl) (by kernel_rfl) (fun _ _ _ h => h) rfl ?_ q0 ?_
  rotate_left
  · intro W hW
    go_simp
    (try with_reducible rfl)
  simp only [Act.put, List.setIfInBounds_toArray, List.set_cons_zero, List.set_cons_succ]
  refine fin_one 2 rfl rfl (by kernel_rfl) (fun K hK => ?_)
  go_simp
  refine (hup _).mono ?_
  rintro _ w1 ⟨rfl, hw1⟩
  subst w1
  refine hK.out _ _ (fun _ => q0) ?_
  clear hK
  refine fin_one 3 rfl rfl (by kernel_rfl) (fun K hK => ?_)
  go_simp
  refine (hkp _).mono ?_
  rintro _ w2 ⟨rfl, k2⟩
  have B1 := q0.1.on k2
  have B2 := q0.2.on k2
  refine hK.out _ _ (fun _ => ⟨B1, B2⟩) ?_
  clear hK
  refine fin_one 4 rfl rfl (by kernel_rfl) (fun K hK => ?_)
  refine wp_st rfl rfl rfl B1 ?_
  refine hK.out _ _ (fun h => absurd rfl h) ?_
  clear hK
  refine fin_done (by kernel_rfl) (NoPanic.normal ?_)
  have C1 := B1.row (relA B)
  have C2 := B2.rowFar (N := w.heap.size) (by omega) (relA B)
  have K2 : On w (w2.setRow w.heap.size (relA B)) := ((k0.drew).trans k2).row (Nat.le_refl _) _
  generalize w2.setRow w.heap.size (relA B) = W2 at *
  have hc := C1.at (relA_zero _)
  have hf := C1.fr 0
  have hl := C1.lt
  have D1 := C1.set0 n
  have D2 := C2.far (N := w.heap.size) (by omega) 0 (.int .i64 n)
  rw [← HA.out] at D1
  have K3 := K2.setNew (Nat.le_refl _) (i := 0) (.int .i64 n)
  go_wp2_with (first | refine wpList_ld rfl rfl rfl D1 ?_ | refine wpList_st rfl rfl rfl rfl D2 ?_)
  refine bodyPost_ret (v := .agg (relA A)) ?_ rfl ⟨rfl, K3.row (by omega) _⟩
  exact ret65 rfl rfl (D2.row _)
theorem two65 {fn : Func} {q p : Tmp} {tmps : Array Value} {w : World} {N M : Nat} {r o : RelT} (hf : fn.results = #[.cell q 27, .cell p 27]) (hp : tmps.getD q undef = .pointer (some ⟨N, 0, none⟩)) (hq : tmps.getD p undef = .pointer (some ⟨M, 0, none⟩)) (h : Bk w N (relA r)) (k : Bk w M (relA o)) :
    (results fn tmps).run Try.prog w = .ok (.tuple #[.agg (relA r), .agg (relA o)]) w := by
  obtain ⟨T, e⟩ := h
  obtain ⟨T', e'⟩ := k
  obtain ⟨_, hi⟩ := zero_of_info rel_info
  have l1 := run_loadVar_row (P := Try.prog) w N T 27 (relA r) (0, 0) _ e Try.underlying27 rfl (by rw [hi, relA_size])
  have l2 := run_loadVar_row (P := Try.prog) w M T' 27 (relA o) (0, 0) _ e' Try.underlying27 rfl (by rw [hi, relA_size])
  have hp' : tmps[q]?.getD undef = .pointer (some ⟨N, 0, none⟩) := by simpa using hp
  have hq' : tmps[p]?.getD undef = .pointer (some ⟨M, 0, none⟩) := by simpa using hq
  simp [results, hf, hp', hq', asAddr, l1, l2]
set_option maxHeartbeats 2000000 in
theorem alike_is (r o : RelT) (hr : Wr r) (ho : Wr o) (w : World) : Calls Try.prog 29 #[.agg (relA r), .agg (relA o)] w fun e w' => e = .returned (.tuple #[.agg (relA (belowR r (min r.n o.n))), .agg (relA (belowR o (min r.n o.n)))]) ∧ On w w' := by
  obtain ⟨hz, _⟩ := zero_of_info rel_info
  obtain ⟨W0, hW0⟩ : ∃ W0, W0 = (((w.alloc (.cells (relA r) 27)).alloc (.cells (relA o) 27)).alloc (.cells (relA zeroR) 27)).alloc (.cells (relA zeroR) 27) := ⟨_, rfl⟩
  have h1 : Bk W0 w.heap.size (relA r) := by rw [hW0]; exact (((Bk.new w (relA r) 27).alloc _).alloc _).alloc _
  have h2 : Bk W0 (w.heap.size + 1) (relA o) := by
    have := ((Bk.new (w.alloc (.cells (relA r) 27)) (relA o) 27).alloc (.cells (relA zeroR) 27)).alloc (.cells (relA zeroR) 27)
    rw [World.size_alloc] at this
    rwa [hW0]
  have h3 : Bk W0 (w.heap.size + 1 + 1) (relA zeroR) := by
    have := (Bk.new ((w.alloc (.cells (relA r) 27)).alloc (.cells (relA o) 27)) (relA zeroR) 27).alloc (.cells (relA zeroR) 27)
    rw [size2] at this
    rwa [hW0]
  have h4 : Bk W0 (w.heap.size + 1 + 1 + 1) (relA zeroR) := by
    have := Bk.new (((w.alloc (.cells (relA r) 27)).alloc (.cells (relA o) 27)).alloc (.cells (relA zeroR) 27)) (relA zeroR) 27
    rw [World.size_alloc, size2] at this
    rwa [hW0]
  have k0 : On w W0 := by rw [hW0]; exact ((((On.refl w).alloc _).alloc _).alloc _).alloc _
  have hc1 := h1.at (relA_zero r)
  have hc2 := h2.at (relA_zero o)
  have hl1 := h1.lt
  have hl2 := h2.lt
  rw [hW0] at hc1 hc2 hl1 hl2
  by_cases hno : o.n < r.n
  · have hm : min r.n o.n = o.n := by omega
    rw [hm]
    have hbr := fun W => below_is r hr o.n W
    have hbo := fun W => below_is o ho o.n W
    generalize belowR r o.n = RB at *
    generalize belowR o o.n = OB at *
    clear hm
    go_enter Try.func29, Try.ntmps29
    go_wp2
    rw [← hW0]
    clear hW0 hc1 hc2 hl1 hl2
    have q0 : (Bk W0.drew w.heap.size (relA r) ∧ Bk W0.drew (w.heap.size + 1) (relA o)) ∧ (∃ q, Bk W0.drew (w.heap.size + 1 + 1) (relA q)) ∧ (∃ q, Bk W0.drew (w.heap.size + 1 + 1 + 1) (relA q)) := ⟨⟨h1, h2⟩, ⟨_, h3⟩, ⟨_, h4⟩⟩
    refine region_fin (fun W => (Bk W w.heap.size (relA r) ∧ Bk W (w.heap.size + 1) (relA o)) ∧ (∃ q, Bk W (w.heap.size + 1 + 1) (relA q)) ∧ (∃ q, Bk W (w.heap.size + 1 + 1 + 1) (relA q))) 99 8 (by kernel_rfl) rfl ?_
    refine fin_take 0 (v := .agg (relA r)) rfl (by kernel_rfl) (by kernel_rfl) (by kernel_rfl) (by kernel_rfl) (fun _ _ _ h => h) rfl (fun W hW => exec_ld rfl rfl (hW.1.1)) q0 ?_
    simp only [Act.put, List.setIfInBounds_toArray, List.set_cons_zero, List.set_cons_succ]
    refine fin_take 1 (v := ?_) rfl (by kernel_rfl) (by kernel_rfl) (by kernel_rfl) (by kernel_rfl) (fun _ _ _ h => h) rfl ?_ q0 ?_
    rotate_left
    · intro W hW
      go_simp
      (try with_reducible rfl)
    simp only [Act.put, List.setIfInBounds_toArray, List.set_cons_zero, List.set_cons_succ]
    refine fin_take 3 (v := .agg (relA o)) rfl (by kernel_rfl) (by kernel_rfl) (by kernel_rfl) (by kernel_rfl) (fun _ _ _ h => h) rfl (fun W hW => exec_ld rfl rfl (hW.1.2)) q0 ?_
    simp only [Act.put, List.setIfInBounds_toArray, List.set_cons_zero, List.set_cons_succ]
    refine fin_take 4 (v := ?_) rfl (by kernel_rfl) (by kernel_rfl) (by kernel_rfl) (by kernel_rfl) (fun _ _ _ h => h) rfl ?_ q0 ?_
    rotate_left
    · intro W hW
      go_simp
      (try with_reducible rfl)
    simp only [Act.put, List.setIfInBounds_toArray, List.set_cons_zero, List.set_cons_succ]
    refine fin_one 2 rfl rfl (by kernel_rfl) (fun K hK => ?_)
    go_simp
    refine (hbr _).mono ?_
    rintro _ w1 ⟨rfl, k1⟩
    have q1 : (Bk w1 w.heap.size (relA r) ∧ Bk w1 (w.heap.size + 1) (relA o)) ∧ (∃ q, Bk w1 (w.heap.size + 1 + 1) (relA q)) ∧ (∃ q, Bk w1 (w.heap.size + 1 + 1 + 1) (relA q)) := ⟨⟨q0.1.1.on k1, q0.1.2.on k1⟩, ⟨_, h3.drew.on k1⟩, ⟨_, h4.drew.on k1⟩⟩
    refine hK.out _ _ (fun _ => q1) ?_
    clear hK
    refine fin_one 5 rfl rfl (by kernel_rfl) (fun K hK => ?_)
    go_simp
    refine (hbo _).mono ?_
    rintro _ w2 ⟨rfl, k2⟩
    have B3 := (h3.drew.on k1).on k2
    have B4 := (h4.drew.on k1).on k2
    have q2 : (Bk w2 w.heap.size (relA r) ∧ Bk w2 (w.heap.size + 1) (relA o)) ∧ (∃ q, Bk w2 (w.heap.size + 1 + 1) (relA q)) ∧ (∃ q, Bk w2 (w.heap.size + 1 + 1 + 1) (relA q)) := ⟨⟨q1.1.1.on k2, q1.1.2.on k2⟩, ⟨_, B3⟩, ⟨_, B4⟩⟩
    have K2 := (k0.drew.trans k1).trans k2
    refine hK.out _ _ (fun _ => q2) ?_
    clear hK
    refine fin_one 6 rfl rfl (by kernel_rfl) (fun K hK => ?_)
    refine wp_st rfl rfl rfl B3 ?_
    refine hK.out _ _ (fun _ => ⟨⟨q2.1.1.rowFar (by omega) _, q2.1.2.rowFar (by omega) _⟩, ⟨_, B3.row _⟩, ⟨_, B4.rowFar (by omega) _⟩⟩) ?_
    clear hK
    refine fin_one 7 rfl rfl (by kernel_rfl) (fun K hK => ?_)
    refine wp_st rfl rfl rfl (B4.rowFar (N := w.heap.size + 1 + 1) (by omega) _) ?_
    refine hK.out _ _ (fun _ => ⟨⟨(q2.1.1.rowFar (by omega) _).rowFar (by omega) _, (q2.1.2.rowFar (by omega) _).rowFar (by omega) _⟩, ⟨_, (B3.row _).rowFar (by omega) _⟩, ⟨_, (B4.rowFar (N := w.heap.size + 1 + 1) (by omega) _).row _⟩⟩) ?_
    clear hK
    refine fin_done (by kernel_rfl) (NoPanic.normal ?_)
    go_wp2
    refine bodyPost_ret (v := .tuple #[.agg (relA RB), .agg (relA OB)]) ?_ rfl ⟨rfl, (K2.row (by omega) _).row (by omega) _⟩
    exact two65 rfl rfl rfl ((B3.row _).rowFar (by omega) _) ((B4.rowFar (N := w.heap.size + 1 + 1) (by omega) _).row _)
  · have hm : min r.n o.n = r.n := by omega
    rw [hm]
    have hbr := fun W => below_is r hr r.n W
    have hbo := fun W => below_is o ho r.n W
    generalize belowR r r.n = RB at *
    generalize belowR o r.n = OB at *
    clear hm
    go_enter Try.func29, Try.ntmps29
    go_wp2
    rw [← hW0]
    clear hW0 hc1 hc2 hl1 hl2
    have q0 : (Bk W0.drew w.heap.size (relA r) ∧ Bk W0.drew (w.heap.size + 1) (relA o)) ∧ (∃ q, Bk W0.drew (w.heap.size + 1 + 1) (relA q)) ∧ (∃ q, Bk W0.drew (w.heap.size + 1 + 1 + 1) (relA q)) := ⟨⟨h1, h2⟩, ⟨_, h3⟩, ⟨_, h4⟩⟩
    refine region_fin (fun W => (Bk W w.heap.size (relA r) ∧ Bk W (w.heap.size + 1) (relA o)) ∧ (∃ q, Bk W (w.heap.size + 1 + 1) (relA q)) ∧ (∃ q, Bk W (w.heap.size + 1 + 1 + 1) (relA q))) 99 8 (by kernel_rfl) rfl ?_
    refine fin_take 0 (v := .agg (relA r)) rfl (by kernel_rfl) (by kernel_rfl) (by kernel_rfl) (by kernel_rfl) (fun _ _ _ h => h) rfl (fun W hW => exec_ld rfl rfl (hW.1.1)) q0 ?_
    simp only [Act.put, List.setIfInBounds_toArray, List.set_cons_zero, List.set_cons_succ]
    refine fin_take 1 (v := ?_) rfl (by kernel_rfl) (by kernel_rfl) (by kernel_rfl) (by kernel_rfl) (fun _ _ _ h => h) rfl ?_ q0 ?_
    rotate_left
    · intro W hW
      go_simp
      (try with_reducible rfl)
    simp only [Act.put, List.setIfInBounds_toArray, List.set_cons_zero, List.set_cons_succ]
    refine fin_take 3 (v := .agg (relA o)) rfl (by kernel_rfl) (by kernel_rfl) (by kernel_rfl) (by kernel_rfl) (fun _ _ _ h => h) rfl (fun W hW => exec_ld rfl rfl (hW.1.2)) q0 ?_
    simp only [Act.put, List.setIfInBounds_toArray, List.set_cons_zero, List.set_cons_succ]
    refine fin_take 4 (v := ?_) rfl (by kernel_rfl) (by kernel_rfl) (by kernel_rfl) (by kernel_rfl) (fun _ _ _ h => h) rfl ?_ q0 ?_
    rotate_left
    · intro W hW
      go_simp
      (try with_reducible rfl)
    simp only [Act.put, List.setIfInBounds_toArray, List.set_cons_zero, List.set_cons_succ]
    refine fin_one 2 rfl rfl (by kernel_rfl) (fun K hK => ?_)
    go_simp
    refine (hbr _).mono ?_
    rintro _ w1 ⟨rfl, k1⟩
    have q1 : (Bk w1 w.heap.size (relA r) ∧ Bk w1 (w.heap.size + 1) (relA o)) ∧ (∃ q, Bk w1 (w.heap.size + 1 + 1) (relA q)) ∧ (∃ q, Bk w1 (w.heap.size + 1 + 1 + 1) (relA q)) := ⟨⟨q0.1.1.on k1, q0.1.2.on k1⟩, ⟨_, h3.drew.on k1⟩, ⟨_, h4.drew.on k1⟩⟩
    refine hK.out _ _ (fun _ => q1) ?_
    clear hK
    refine fin_one 5 rfl rfl (by kernel_rfl) (fun K hK => ?_)
    go_simp
    refine (hbo _).mono ?_
    rintro _ w2 ⟨rfl, k2⟩
    have B3 := (h3.drew.on k1).on k2
    have B4 := (h4.drew.on k1).on k2
    have q2 : (Bk w2 w.heap.size (relA r) ∧ Bk w2 (w.heap.size + 1) (relA o)) ∧ (∃ q, Bk w2 (w.heap.size + 1 + 1) (relA q)) ∧ (∃ q, Bk w2 (w.heap.size + 1 + 1 + 1) (relA q)) := ⟨⟨q1.1.1.on k2, q1.1.2.on k2⟩, ⟨_, B3⟩, ⟨_, B4⟩⟩
    have K2 := (k0.drew.trans k1).trans k2
    refine hK.out _ _ (fun _ => q2) ?_
    clear hK
    refine fin_one 6 rfl rfl (by kernel_rfl) (fun K hK => ?_)
    refine wp_st rfl rfl rfl B3 ?_
    refine hK.out _ _ (fun _ => ⟨⟨q2.1.1.rowFar (by omega) _, q2.1.2.rowFar (by omega) _⟩, ⟨_, B3.row _⟩, ⟨_, B4.rowFar (by omega) _⟩⟩) ?_
    clear hK
    refine fin_one 7 rfl rfl (by kernel_rfl) (fun K hK => ?_)
    refine wp_st rfl rfl rfl (B4.rowFar (N := w.heap.size + 1 + 1) (by omega) _) ?_
    refine hK.out _ _ (fun _ => ⟨⟨(q2.1.1.rowFar (by omega) _).rowFar (by omega) _, (q2.1.2.rowFar (by omega) _).rowFar (by omega) _⟩, ⟨_, (B3.row _).rowFar (by omega) _⟩, ⟨_, (B4.rowFar (N := w.heap.size + 1 + 1) (by omega) _).row _⟩⟩) ?_
    clear hK
    refine fin_done (by kernel_rfl) (NoPanic.normal ?_)
    go_wp2
    refine bodyPost_ret (v := .tuple #[.agg (relA RB), .agg (relA OB)]) ?_ rfl ⟨rfl, (K2.row (by omega) _).row (by omega) _⟩
    exact two65 rfl rfl rfl ((B3.row _).rowFar (by omega) _) ((B4.rowFar (N := w.heap.size + 1 + 1) (by omega) _).row _)
end Go.Proofs.Ythbiaojefmdcmaa
