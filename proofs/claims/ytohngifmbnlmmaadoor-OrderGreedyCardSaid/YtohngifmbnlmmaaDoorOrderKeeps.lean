/- OrderKeeps, walked. -/
import Derived.Test.YtohngifmbnlmmaaDoorOrdK
import Derived.Test.YtohngifmbnlmmaaDoorOfWf
import Derived.Test.YtohngifmbnlmmaaDoorAwake9
namespace Go.Proofs.YtohngifmbnlmmaaDoor
open Go.RowKit

theorem clamp_nat (n : Int) : ∃ m : Nat, (if 64 < (if n < 0 then (0 : Int) else n) then (64 : Int) else (if n < 0 then (0 : Int) else n)) = (m : Int) ∧ m ≤ 64 := by
  by_cases h0 : n < 0
  · exact ⟨0, by simp [h0], by decide⟩
  · by_cases h1 : 64 < n
    · exact ⟨64, by simp [h0, h1], by decide⟩
    · exact ⟨n.toNat, by simp only [h0, h1, if_false]; omega, by omega⟩
set_option maxHeartbeats 4000000 in
set_option maxRecDepth 8000 in
theorem okeeps_core (n p : Int) (m : Nat) (hp : (if n < 0 then (0 : Int) else n) = p) (hpc : (if 64 < p then (64 : Int) else p) = (m : Int)) (a1 : Option Addr) (L1 : List (Int × Int)) (c1 : Nat) (a2 : Option Addr) (zs : List Int) (c2 : Nat) (w : World)
    (h1 : Rd pairC 2 w (.slice a1 L1.length c1) L1) (hzm : zs.length ≤ 9223372036854775807) (h2 : Rd intC 1 w (.slice a2 zs.length c2) zs) (hd : Dt w) :
    Calls Tryd.prog 7 #[.int .i64 n, .slice a1 L1.length c1, .slice a2 zs.length c2] w fun e w' => e = .returned (.bool true) ∧ On w w' := by
  obtain ⟨hz, _⟩ := zero_of_info rel_info
  obtain ⟨hzw, _⟩ := zero_of_info rel_infow
  have hO1 := fun W (k : On w W) => pairs_is m L1 _ W (h1.on k)
  have hr := of_wf m L1
  have xA := fun W (k : On w W) => awake9_is W (hd.on k)
  clear h1
  generalize ofR m L1 = r at *
  have x1 := fun W (k : On w W) => okeeps_is r hr zs _ W (h2.on k) (hd.on k)
  have x2 := fun W (k : On w W) => jkeeps_is r hr zs _ W (h2.on k)
  rw [keep_same hr] at x1
  generalize keepD r zs = T at *
  clear h2 hd hr
  generalize zs.length = len at *
  by_cases hl : 100 < len
  · have hd1 : decide (100 < len) = true := decide_eq_true hl
    go_enter Tryd.func7, Tryd.ntmps7
    go_wp2_with fail
    refine (xA _ (On.refl _)).mono ?_
    rintro _ w1 ⟨rfl, k1⟩
    go_wp2
    go_ret
    exact ⟨rfl, k1⟩
  · have hd1 : decide (100 < len) = false := decide_eq_false hl
    go_enter Tryd.func7, Tryd.ntmps7
    go_wp2_with (fail)
    refine (hO1 _ (On.refl _)).mono ?_
    rintro _ w1 ⟨rfl, k1⟩
    have K1 := (On.refl w).trans k1
    have B1a := (Bk.new w1 (relA zeroR) 27).alloc (.cells (relA zeroR) 30)
    have B1b : Bk ((w1.alloc (.cells (relA zeroR) 27)).alloc (.cells (relA zeroR) 30)) (w1.heap.size + 1) (relA zeroR) := by
      have := Bk.new (w1.alloc (.cells (relA zeroR) 27)) (relA zeroR) 30
      rwa [World.size_alloc] at this
    have B1c := B1b.rowFar (N := w1.heap.size) (by omega) (relA r)
    obtain ⟨W1, hW1⟩ : ∃ W1, W1 = (((w1.alloc (.cells (relA zeroR) 27)).alloc (.cells (relA zeroR) 30)).setRow w1.heap.size (relA r)).setRow (w1.heap.size + 1) (relA r) := ⟨_, rfl⟩
    have HW1 : Hid (W1 = (((w1.alloc (.cells (relA zeroR) 27)).alloc (.cells (relA zeroR) 30)).setRow w1.heap.size (relA r)).setRow (w1.heap.size + 1) (relA r)) := hW1
    have B1r : Bk W1 w1.heap.size (relA r) := by rw [hW1]; exact (B1a.row _).rowFar (by omega) _
    have B1w : Bk W1 (w1.heap.size + 1) (relA r) := by rw [hW1]; exact B1c.row _
    have KK1 : On w W1 := by rw [hW1]; exact (((K1.alloc _).alloc _).row K1.size _).row (by have := K1.size; omega) _
    clear hW1
    go_wp2_with (first | (refine wpList_st rfl rfl rfl rfl B1a ?_) | (refine wpList_stw rfl rfl rfl rfl B1c ?_; rw [← HW1.out]; clear HW1 B1a B1b B1c))
    have T0 : Bk W1.drew w1.heap.size (relA r) := B1r
    have hon : ∀ W W', Bk W w1.heap.size (relA r) → On W W' → Bk W' w1.heap.size (relA r) := fun W W' h k => h.on k
    have K0 := KK1.drew
    cases T with
    | true =>
      refine region_fin (fun W => Bk W w1.heap.size (relA r)) 99 11 (by kernel_rfl) rfl ?_
      refine fin_take 0 (v := .agg (relA r)) rfl (by kernel_rfl) (by kernel_rfl) (by kernel_rfl) (by kernel_rfl) (fun _ _ _ h => h) rfl (fun W hW => exec_ld rfl rfl (hW)) T0 ?_
      simp only [Act.put, List.setIfInBounds_toArray, List.set_cons_zero, List.set_cons_succ]
      refine fin_take 1 (v := ?_) rfl (by kernel_rfl) (by kernel_rfl) (by kernel_rfl) (by kernel_rfl) (fun _ _ _ h => h) rfl ?_ T0 ?_
      rotate_left
      · intro W hW
        go_simp
        (try with_reducible rfl)
      simp only [Act.put, List.setIfInBounds_toArray, List.set_cons_zero, List.set_cons_succ]
      refine fin_take 3 (v := .agg (relA r)) rfl (by kernel_rfl) (by kernel_rfl) (by kernel_rfl) (by kernel_rfl) (fun _ _ _ h => h) rfl (fun W hW => exec_ld rfl rfl (hW)) T0 ?_
      simp only [Act.put, List.setIfInBounds_toArray, List.set_cons_zero, List.set_cons_succ]
      refine fin_take 4 (v := ?_) rfl (by kernel_rfl) (by kernel_rfl) (by kernel_rfl) (by kernel_rfl) (fun _ _ _ h => h) rfl ?_ T0 ?_
      rotate_left
      · intro W hW
        go_simp
        (try with_reducible rfl)
      simp only [Act.put, List.setIfInBounds_toArray, List.set_cons_zero, List.set_cons_succ]
      refine fin_one 2 rfl rfl (by kernel_rfl) (fun K hK => ?_)
      go_simp
      refine (x1 _ K0).mono ?_
      rintro _ v1 ⟨rfl, kv1⟩
      have Sv1 := hon _ _ T0 kv1
      have Kv1 := K0.trans kv1
      refine hK.out _ _ (fun _ => Sv1) ?_
      clear hK
      refine fin_one 5 rfl rfl (by kernel_rfl) (fun K hK => ?_)
      go_simp
      refine (x2 _ Kv1).mono ?_
      rintro _ v2 ⟨rfl, kv2⟩
      have Sv2 := hon _ _ Sv1 kv2
      have Kv2 := Kv1.trans kv2
      refine hK.out _ _ (fun _ => Sv2) ?_
      clear hK
      refine fin_take 6 (v := ?_) rfl (by kernel_rfl) (by kernel_rfl) (by kernel_rfl) (by kernel_rfl) (fun _ _ _ h => h) rfl ?_ Sv2 ?_
      rotate_left
      · intro W hW
        go_simp
        (try with_reducible rfl)
      simp only [Act.put, List.setIfInBounds_toArray, List.set_cons_zero, List.set_cons_succ]
      refine fin_take 7 (v := ?_) rfl (by kernel_rfl) (by kernel_rfl) (by kernel_rfl) (by kernel_rfl) (fun _ _ _ h => h) rfl ?_ Sv2 ?_
      rotate_left
      · intro W hW
        go_simp
        (try with_reducible rfl)
      simp only [Act.put, List.setIfInBounds_toArray, List.set_cons_zero, List.set_cons_succ]
      refine fin_oneG 8 rfl (by rfl) (by kernel_rfl) (fun K hK => ?_)
      go_simp
      refine (xA _ Kv2).mono ?_
      rintro _ v3 ⟨rfl, kv3⟩
      have Sv3 := hon _ _ Sv2 kv3
      have Kv3 := Kv2.trans kv3
      refine hK.out _ _ (fun _ => Sv3) ?_
      clear hK
      refine fin_take 9 (v := ?_) rfl (by kernel_rfl) (by kernel_rfl) (by kernel_rfl) (by kernel_rfl) (fun _ _ _ h => h) rfl ?_ Sv3 ?_
      rotate_left
      · intro W hW
        go_simp
        (try with_reducible rfl)
      simp only [Act.put, List.setIfInBounds_toArray, List.set_cons_zero, List.set_cons_succ]
      refine fin_take 10 (v := ?_) rfl (by kernel_rfl) (by kernel_rfl) (by kernel_rfl) (by kernel_rfl) (fun _ _ _ h => h) rfl ?_ Sv3 ?_
      rotate_left
      · intro W hW
        go_simp
        (try with_reducible rfl)
      simp only [Act.put, List.setIfInBounds_toArray, List.set_cons_zero, List.set_cons_succ]
      refine fin_done (by kernel_rfl) (NoPanic.normal ?_)
      go_wp2
      go_ret
      exact ⟨rfl, Kv3⟩
    | false =>
      refine region_fin (fun W => Bk W w1.heap.size (relA r)) 99 11 (by kernel_rfl) rfl ?_
      refine fin_take 0 (v := .agg (relA r)) rfl (by kernel_rfl) (by kernel_rfl) (by kernel_rfl) (by kernel_rfl) (fun _ _ _ h => h) rfl (fun W hW => exec_ld rfl rfl (hW)) T0 ?_
      simp only [Act.put, List.setIfInBounds_toArray, List.set_cons_zero, List.set_cons_succ]
      refine fin_take 1 (v := ?_) rfl (by kernel_rfl) (by kernel_rfl) (by kernel_rfl) (by kernel_rfl) (fun _ _ _ h => h) rfl ?_ T0 ?_
      rotate_left
      · intro W hW
        go_simp
        (try with_reducible rfl)
      simp only [Act.put, List.setIfInBounds_toArray, List.set_cons_zero, List.set_cons_succ]
      refine fin_take 3 (v := .agg (relA r)) rfl (by kernel_rfl) (by kernel_rfl) (by kernel_rfl) (by kernel_rfl) (fun _ _ _ h => h) rfl (fun W hW => exec_ld rfl rfl (hW)) T0 ?_
      simp only [Act.put, List.setIfInBounds_toArray, List.set_cons_zero, List.set_cons_succ]
      refine fin_take 4 (v := ?_) rfl (by kernel_rfl) (by kernel_rfl) (by kernel_rfl) (by kernel_rfl) (fun _ _ _ h => h) rfl ?_ T0 ?_
      rotate_left
      · intro W hW
        go_simp
        (try with_reducible rfl)
      simp only [Act.put, List.setIfInBounds_toArray, List.set_cons_zero, List.set_cons_succ]
      refine fin_one 2 rfl rfl (by kernel_rfl) (fun K hK => ?_)
      go_simp
      refine (x1 _ K0).mono ?_
      rintro _ v1 ⟨rfl, kv1⟩
      have Sv1 := hon _ _ T0 kv1
      have Kv1 := K0.trans kv1
      refine hK.out _ _ (fun _ => Sv1) ?_
      clear hK
      refine fin_one 5 rfl rfl (by kernel_rfl) (fun K hK => ?_)
      go_simp
      refine (x2 _ Kv1).mono ?_
      rintro _ v2 ⟨rfl, kv2⟩
      have Sv2 := hon _ _ Sv1 kv2
      have Kv2 := Kv1.trans kv2
      refine hK.out _ _ (fun _ => Sv2) ?_
      clear hK
      refine fin_take 6 (v := ?_) rfl (by kernel_rfl) (by kernel_rfl) (by kernel_rfl) (by kernel_rfl) (fun _ _ _ h => h) rfl ?_ Sv2 ?_
      rotate_left
      · intro W hW
        go_simp
        (try with_reducible rfl)
      simp only [Act.put, List.setIfInBounds_toArray, List.set_cons_zero, List.set_cons_succ]
      refine fin_take 7 (v := ?_) rfl (by kernel_rfl) (by kernel_rfl) (by kernel_rfl) (by kernel_rfl) (fun _ _ _ h => h) rfl ?_ Sv2 ?_
      rotate_left
      · intro W hW
        go_simp
        (try with_reducible rfl)
      simp only [Act.put, List.setIfInBounds_toArray, List.set_cons_zero, List.set_cons_succ]
      refine fin_oneG 8 rfl (by rfl) (by kernel_rfl) (fun K hK => ?_)
      go_simp
      refine (xA _ Kv2).mono ?_
      rintro _ v3 ⟨rfl, kv3⟩
      have Sv3 := hon _ _ Sv2 kv3
      have Kv3 := Kv2.trans kv3
      refine hK.out _ _ (fun _ => Sv3) ?_
      clear hK
      refine fin_take 9 (v := ?_) rfl (by kernel_rfl) (by kernel_rfl) (by kernel_rfl) (by kernel_rfl) (fun _ _ _ h => h) rfl ?_ Sv3 ?_
      rotate_left
      · intro W hW
        go_simp
        (try with_reducible rfl)
      simp only [Act.put, List.setIfInBounds_toArray, List.set_cons_zero, List.set_cons_succ]
      refine fin_take 10 (v := ?_) rfl (by kernel_rfl) (by kernel_rfl) (by kernel_rfl) (by kernel_rfl) (fun _ _ _ h => h) rfl ?_ Sv3 ?_
      rotate_left
      · intro W hW
        go_simp
        (try with_reducible rfl)
      simp only [Act.put, List.setIfInBounds_toArray, List.set_cons_zero, List.set_cons_succ]
      refine fin_done (by kernel_rfl) (NoPanic.normal ?_)
      go_wp2
      go_ret
      exact ⟨rfl, Kv3⟩
theorem orderKeeps_walk (n : Int) (a1 : Option Addr) (L1 : List (Int × Int)) (c1 : Nat) (a2 : Option Addr) (zs : List Int) (c2 : Nat) (w : World)
    (h1 : Rd pairC 2 w (.slice a1 L1.length c1) L1) (hzm : zs.length ≤ 9223372036854775807) (h2 : Rd intC 1 w (.slice a2 zs.length c2) zs) (hd : Dt w) :
    Calls Tryd.prog 7 #[.int .i64 n, .slice a1 L1.length c1, .slice a2 zs.length c2] w fun e w' => e = .returned (.bool true) ∧ On w w' := by
  obtain ⟨m, hm, _⟩ := clamp_nat n
  exact okeeps_core n _ m rfl hm a1 L1 c1 a2 zs c2 w h1 hzm h2 hd
end Go.Proofs.YtohngifmbnlmmaaDoor
