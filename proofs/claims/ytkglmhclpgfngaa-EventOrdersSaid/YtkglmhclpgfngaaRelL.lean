/- The document's Closure and Acyclic; a relation held against the document's; the document's over fewer. -/
import Derived.Test.YtkglmhclpgfngaaJ49RelP
import Derived.Test.YtkglmhclpgfngaaOfWf
namespace Go.Proofs.Ytkglmhclpgfngaa
open Go.RowKit

set_option maxHeartbeats 2000000 in
theorem same_is (r : RelT) (hr : Wf r) (w : World) : Calls Try.prog 24 #[.agg (relA r), .agg (relA r)] w fun e w' => e = .returned (.bool true) ∧ On w w' := by
  obtain ⟨W0, hW0⟩ : ∃ W0, W0 = (w.alloc (.cells (relA r) 54)).alloc (.cells (relA r) 60) := ⟨_, rfl⟩
  have h1 : Bk W0 w.heap.size (relA r) := by rw [hW0]; exact (Bk.new w (relA r) 54).alloc _
  have h2 : Bk W0 (w.heap.size + 1) (relA r) := by
    have := Bk.new (w.alloc (.cells (relA r) 54)) (relA r) 60
    rw [World.size_alloc] at this
    rwa [hW0]
  have k0 : On w W0 := by rw [hW0]; exact ((On.refl w).alloc _).alloc _
  have x1 := fun W => n_is r W
  have x2 : ∀ (a : Nat) W, Calls Try.prog 41 #[.agg (relA r), .int .i64 a] W fun e w' => e = .returned (.int .u64 (r.f a)) ∧ On W w' := fun a W => by
    have := row_is r hr.wr a W
    rwa [row_nat hr] at this
  clear hr
  have hzero : Hid ((relA r)[0]? = some (.int .i64 r.n)) := relA_zero r
  have hats : Hid (∀ i, i < 64 → (relA r)[1 + i]? = some (.int .u64 (r.f i))) := fun i hi => relA_at r hi
  have hon : ∀ W W', Bk W w.heap.size (relA r) ∧ Bk W (w.heap.size + 1) (relA r) → On W W' → Bk W' w.heap.size (relA r) ∧ Bk W' (w.heap.size + 1) (relA r) := fun W W' h k => ⟨h.1.on k, h.2.on k⟩
  generalize r.n = n at *
  generalize r.f = f at *
  go_enter Try.func24, Try.ntmps24
  go_wp2
  rw [← hW0]
  clear hW0
  have T0 : Bk W0.drew w.heap.size (relA r) ∧ Bk W0.drew (w.heap.size + 1) (relA r) := ⟨h1, h2⟩
  have K0 := k0.drew
  refine region_fin (fun W => Bk W w.heap.size (relA r) ∧ Bk W (w.heap.size + 1) (relA r)) 99 5 (by kernel_rfl) rfl ?_
  refine fin_take 0 (v := .agg (relA r)) rfl (by kernel_rfl) (by kernel_rfl) (by kernel_rfl) (by kernel_rfl) (fun _ _ _ h => h) rfl (fun W hW => exec_ld rfl rfl (hW.1)) T0 ?_
  simp only [Act.put, List.setIfInBounds_toArray, List.set_cons_zero, List.set_cons_succ]
  refine fin_take 2 (v := ?_) rfl (by kernel_rfl) (by kernel_rfl) (by kernel_rfl) (by kernel_rfl) (fun _ _ _ h => h) rfl ?_ T0 ?_
  rotate_left
  · intro W hW
    go_simp
    (try with_reducible rfl)
  simp only [Act.put, List.setIfInBounds_toArray, List.set_cons_zero, List.set_cons_succ]
  refine fin_take 3 (v := ?_) rfl (by kernel_rfl) (by kernel_rfl) (by kernel_rfl) (by kernel_rfl) (fun _ _ _ h => h) rfl ?_ T0 ?_
  rotate_left
  · intro W hW
    have hcl := hW.2.at hzero.out
    have hll := hW.2.lt
    go_simp
    (try with_reducible rfl)
  simp only [Act.put, List.setIfInBounds_toArray, List.set_cons_zero, List.set_cons_succ]
  refine fin_one 1 rfl rfl (by kernel_rfl) (fun K hK => ?_)
  go_simp
  refine (x1 _).mono ?_
  rintro _ v1 ⟨rfl, kv1⟩
  have Sv1 := hon _ _ T0 kv1
  have Kv1 := K0.trans kv1
  refine hK.out _ _ (fun _ => Sv1) ?_
  clear hK
  refine fin_take 4 (v := ?_) rfl (by kernel_rfl) (by kernel_rfl) (by kernel_rfl) (by kernel_rfl) (fun _ _ _ h => h) rfl ?_ Sv1 ?_
  rotate_left
  · intro W hW
    go_simp
    (try with_reducible rfl)
  simp only [Act.put, List.setIfInBounds_toArray, List.set_cons_zero, List.set_cons_succ]
  refine fin_done (by kernel_rfl) (NoPanic.normal ?_)
  go_wp2
  go_loopg [5] 64 (fun gg s5 wr => ∃ a : Nat, a ≤ 64 ∧ gg = 64 - a ∧ s5 = .int .i64 a ∧ Hid (On w wr) ∧ (Bk wr w.heap.size (relA r) ∧ Bk wr (w.heap.size + 1) (relA r)))
  case atStart => exact ⟨0, Nat.zero_le _, rfl, rfl, Kv1, Sv1⟩
  case round =>
    obtain ⟨a, hi, hk, rfl, HO, SI⟩ := hrel
    rcases Nat.lt_or_ge a 64 with hlt | hge
    · have ha7 : (a : Int) < 64 := by omega
      have x2a := fun W => x2 a W
      have hata := hats.out a hlt
      have HATA : Hid ((relA r)[1 + a]? = some (.int .u64 (f a))) := hata
      clear x1 x2 hata
      generalize f a = fa at *
      go_wp2
      have T0 : Bk wr.drew w.heap.size (relA r) ∧ Bk wr.drew (w.heap.size + 1) (relA r) := SI
      have K0 := HO.out.drew
      refine region_fin (fun W => Bk W w.heap.size (relA r) ∧ Bk W (w.heap.size + 1) (relA r)) 99 8 (by kernel_rfl) rfl ?_
      refine fin_take 0 (v := .agg (relA r)) rfl (by kernel_rfl) (by kernel_rfl) (by kernel_rfl) (by kernel_rfl) (fun _ _ _ h => h) rfl (fun W hW => exec_ld rfl rfl (hW.1)) T0 ?_
      simp only [Act.put, List.setIfInBounds_toArray, List.set_cons_zero, List.set_cons_succ]
      refine fin_take 1 (v := ?_) rfl (by kernel_rfl) (by kernel_rfl) (by kernel_rfl) (by kernel_rfl) (fun _ _ _ h => h) rfl ?_ T0 ?_
      rotate_left
      · intro W hW
        go_simp
        (try with_reducible rfl)
      simp only [Act.put, List.setIfInBounds_toArray, List.set_cons_zero, List.set_cons_succ]
      refine fin_take 3 (v := ?_) rfl (by kernel_rfl) (by kernel_rfl) (by kernel_rfl) (by kernel_rfl) (fun _ _ _ h => h) rfl ?_ T0 ?_
      rotate_left
      · intro W hW
        go_simp
        (try with_reducible rfl)
      simp only [Act.put, List.setIfInBounds_toArray, List.set_cons_zero, List.set_cons_succ]
      refine fin_take 4 (v := ?_) rfl (by kernel_rfl) (by kernel_rfl) (by kernel_rfl) (by kernel_rfl) (fun _ _ _ h => h) rfl ?_ T0 ?_
      rotate_left
      · intro W hW
        go_simp
        (try with_reducible rfl)
      simp only [Act.put, List.setIfInBounds_toArray, List.set_cons_zero, List.set_cons_succ]
      refine fin_take 5 (v := ?_) rfl (by kernel_rfl) (by kernel_rfl) (by kernel_rfl) (by kernel_rfl) (fun _ _ _ h => h) rfl ?_ T0 ?_
      rotate_left
      · intro W hW
        go_simp
        (try with_reducible rfl)
      simp only [Act.put, List.setIfInBounds_toArray, List.set_cons_zero, List.set_cons_succ]
      refine fin_take 6 (v := ?_) rfl (by kernel_rfl) (by kernel_rfl) (by kernel_rfl) (by kernel_rfl) (fun _ _ _ h => h) rfl ?_ T0 ?_
      rotate_left
      · intro W hW
        have hcl := hW.2.at HATA.out
        have hll := hW.2.lt
        go_simp
        (try with_reducible rfl)
      simp only [Act.put, List.setIfInBounds_toArray, List.set_cons_zero, List.set_cons_succ]
      refine fin_one 2 rfl rfl (by kernel_rfl) (fun K hK => ?_)
      go_simp
      refine (x2a _).mono ?_
      rintro _ v1 ⟨rfl, kv1⟩
      have Sv1 := hon _ _ T0 kv1
      have Kv1 := K0.trans kv1
      refine hK.out _ _ (fun _ => Sv1) ?_
      clear hK
      refine fin_take 7 (v := ?_) rfl (by kernel_rfl) (by kernel_rfl) (by kernel_rfl) (by kernel_rfl) (fun _ _ _ h => h) rfl ?_ Sv1 ?_
      rotate_left
      · intro W hW
        go_simp
        (try with_reducible rfl)
      simp only [Act.put, List.setIfInBounds_toArray, List.set_cons_zero, List.set_cons_succ]
      refine fin_done (by kernel_rfl) (NoPanic.normal ?_)
      go_wp2
      go_roundg (64 - (a + 1))
      case measure => omega
      case rel => exact ⟨a + 1, hlt, rfl, by congr 1, Kv1, Sv1⟩
    · obtain rfl : a = 64 := by omega
      go_wp2
      go_ret
      exact ⟨rfl, HO.out⟩
end Go.Proofs.Ytkglmhclpgfngaa
