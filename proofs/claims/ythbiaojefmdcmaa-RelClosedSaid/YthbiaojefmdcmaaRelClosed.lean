/- RelClosed, walked. -/
import Derived.Test.YthbiaojefmdcmaaClosedP
import Derived.Test.YthbiaojefmdcmaaQueue
import Derived.Test.YthbiaojefmdcmaaRelQ
import Derived.Test.YthbiaojefmdcmaaAwake8
import Derived.Test.YthbiaojefmdcmaaOfWf
namespace Go.Proofs.Ythbiaojefmdcmaa
open Go.RowKit

theorem zero_marks8 : marksA 0 = #[.bool false, .bool false, .bool false, .bool false, .bool false, .bool false, .bool false, .bool false, .bool false, .bool false, .bool false, .bool false, .bool false, .bool false, .bool false, .bool false, .bool false, .bool false, .bool false, .bool false, .bool false, .bool false, .bool false, .bool false, .bool false, .bool false, .bool false, .bool false, .bool false, .bool false, .bool false, .bool false, .bool false, .bool false, .bool false, .bool false, .bool false, .bool false, .bool false, .bool false, .bool false, .bool false, .bool false, .bool false, .bool false, .bool false, .bool false, .bool false, .bool false, .bool false, .bool false, .bool false, .bool false, .bool false, .bool false, .bool false, .bool false, .bool false, .bool false, .bool false, .bool false, .bool false, .bool false, .bool false] := by kernel_rfl
theorem marks_new8 (w : World) (T : TypeId) : Bk (w.alloc (.cells #[.bool false, .bool false, .bool false, .bool false, .bool false, .bool false, .bool false, .bool false, .bool false, .bool false, .bool false, .bool false, .bool false, .bool false, .bool false, .bool false, .bool false, .bool false, .bool false, .bool false, .bool false, .bool false, .bool false, .bool false, .bool false, .bool false, .bool false, .bool false, .bool false, .bool false, .bool false, .bool false, .bool false, .bool false, .bool false, .bool false, .bool false, .bool false, .bool false, .bool false, .bool false, .bool false, .bool false, .bool false, .bool false, .bool false, .bool false, .bool false, .bool false, .bool false, .bool false, .bool false, .bool false, .bool false, .bool false, .bool false, .bool false, .bool false, .bool false, .bool false, .bool false, .bool false, .bool false, .bool false] T)) w.heap.size (marksA 0) := by rw [zero_marks8]; exact Bk.new w _ T
theorem infoInt8 : (Try.prog.info? 3).map (fun i => (i.zero, i.size, i.bytes)) = some (some (.int .i64 0), 1, 8) := by kernel_rfl
theorem Bk.below {w w' : World} {B N : Nat} {cs : Array Value} (h : Bk w N cs) (k : Below B w w') (hN : N < B) : Bk w' N cs := by
  obtain ⟨T, e⟩ := h
  exact ⟨T, (k.block N hN).trans e⟩
theorem On.below {x w w' : World} {B : Nat} (h : On x w) (k : Below B w w') (hB : x.heap.size ≤ B) : On x w' := Below.trans h (Below.mono k hB)
set_option maxHeartbeats 8000000 in
set_option maxRecDepth 8000 in
theorem relClosed_walk (n : Int) (a1 : Option Addr) (L1 : List (Int × Int)) (c1 : Nat) (from0 : Int) (w : World)
    (h1 : Rd pairC 2 w (.slice a1 L1.length c1) L1) :
    Calls Try.prog 4 #[.int .i64 n, .slice a1 L1.length c1, .int .i64 from0] w fun e w' => e = .returned (.bool true) ∧ On w w' := by
  obtain ⟨hz, _⟩ := zero_of_info rel_info
  obtain ⟨hzw, _⟩ := zero_of_info rel_infow
  obtain ⟨i0, hi0, hz0, hz1, hz2⟩ := info_parts infoInt8
  obtain ⟨q8, hq8, eq8⟩ := low8 n
  obtain ⟨f8, hf8, ef8⟩ := low8 from0
  obtain ⟨m, em⟩ : ∃ m : Nat, (q8 : Int) % 40 + 1 = (m : Int) := ⟨q8 % 40 + 1, by omega⟩
  have hm1 : 1 ≤ m := by omega
  have hm2 : m ≤ 40 := by omega
  obtain ⟨F, eF⟩ : ∃ F : Nat, (f8 : Int) % (m : Int) = (F : Int) := ⟨f8 % m, by simp⟩
  have hF : F < m := by have : (f8 : Int) % (m : Int) < m := Int.emod_lt_of_pos _ (by omega); omega
  have hm0 : ((m : Int) == 0) = false := by simp; omega
  have hO1 := fun W (k : On w W) => pairs_is m L1 _ W (h1.on k)
  have hr := of_wf m L1
  have hrn : (ofR m L1).n = m := by rw [of_n]; omega
  clear h1
  generalize ofR m L1 = r at *
  have hc := close_wf hr
  have x0 := fun W => close_is r hr.wr W
  have hH1 : ∀ (a b : Nat) W, Calls Try.prog 8 #[.agg (relA r), .int .i64 a, .int .i64 b] W fun e w' => e = .returned (.bool (H r a b)) ∧ On W w' := fun a b W => by
    have := rhas_is r hr.wr a b W
    rwa [has_nat2 hr] at this
  have hH2 : ∀ (b : Nat) W, Calls Try.prog 8 #[.agg (relA (closeR r)), .int .i64 F, .int .i64 b] W fun e w' => e = .returned (.bool (H (closeR r) F b)) ∧ On W w' := fun b W => by
    have := rhas_is (closeR r) hc.wr F b W
    rwa [has_nat2 hc] at this
  have hR2 : ∀ W, Calls Try.prog 13 #[.agg (relA (closeR r)), .int .i64 F] W fun e w' => e = .returned (.int .u64 ((closeR r).f F)) ∧ On W w' := fun W => by
    have := row_is (closeR r) hc.wr F W
    rwa [row_nat hc] at this
  have hS2 : ∀ (b : Nat) (hb : b < 64) W, Calls Try.prog 14 #[.int .u64 ((closeR r).f F), .int .i64 b] W fun e w' => e = .returned (.bool (H (closeR r) F b)) ∧ w' = W := fun b hb W => by
    have := has_is ((closeR r).f F) b (hc.wr.w F) W
    rwa [hasI_nat _ _ hb] at this
  have hLn := fun W => len_is ((closeR r).f F) (hc.wr.w F) W
  have hLe : cnt64 ((closeR r).f F) ≤ m := by have := cnt_row hc F; rw [close_n, hrn] at this; exact this
  have xA := fun W => awake8_is W
  have B0 : Hid (Bfs0 r F m [F] 0) := Bfs0.start r F m hF hm2
  have hpush := fun (a k : Nat) (xs : List Nat) (S : Nat) (h : Bfs r F m a k xs S) => Bfs.push hr h hm2
  have hshut := fun (a : Nat) (xs : List Nat) (S : Nat) (h : Bfs r F m a m xs S) => Bfs.shut hr hrn h
  have hall := fun (S : Nat) (h : Bfs0 r F m [] S) => Bfs0.all hr h
  have HP : Hid (∀ (a k : Nat) (xs : List Nat) (S : Nat), Bfs r F m a k xs S → k < m → H r a k = true → S.testBit k = false → Bfs r F m a (k + 1) (xs ++ [k]) (withI S k)) := hpush
  have HSH : Hid (∀ (a : Nat) (xs : List Nat) (S : Nat), Bfs r F m a m xs S → Bfs0 r F m xs S) := hshut
  have HAL : Hid (∀ (S : Nat), Bfs0 r F m [] S → ∀ b, S.testBit b = H (closeR r) F b) := hall
  clear hr hrn hc hpush hshut hall
  go_enter Try.func4, Try.ntmps4
  go_wp2_with (fail)
  refine (hO1 _ (On.refl _)).mono ?_
  rintro _ w1 ⟨rfl, k1⟩
  have K1 := (On.refl w).trans k1
  have B1a := (Bk.new w1 (relA zeroR) 27).alloc (.cells (relA zeroR) 30)
  have B1b : Bk ((w1.alloc (.cells (relA zeroR) 27)).alloc (.cells (relA zeroR) 30)) (w1.heap.size + 1) (relA zeroR) := by
    have := Bk.new (w1.alloc (.cells (relA zeroR) 27)) (relA zeroR) 30
    rwa [World.size_alloc] at this
  have B1c := B1b.rowFar (N := w1.heap.size) (by omega) (relA r)
  obtain ⟨W1, hW1⟩ : ∃ W1, W1 = (((w1.alloc (.cells (relA zeroR) 27)).alloc (.cells (relA zeroR) 30)).setRow w1.heap.size (relA r)).setRow (w1.heap.size + 1) (relA r) := ⟨_, rfl⟩
  have HW1 : Hid (W1 = (((w1.alloc (.cells (relA zeroR) 27)).alloc (.cells (relA zeroR) 30)).setRow w1.heap.size (relA r)).setRow (w1.heap.size + 1) (relA r)) := hW1
  have B1r : Bk W1 w1.heap.size (relA r) := by rw [hW1]; exact (B1a.row _).rowFar (by omega) _
  have B1w : Bk W1 (w1.heap.size + 1) (relA r) := by rw [hW1]; exact B1c.row _
  have KK1 : On w W1 := by rw [hW1]; exact (((K1.alloc _).alloc _).row K1.size _).row (by have := K1.size; omega) _
  clear hW1
  obtain ⟨W4, hW4⟩ : ∃ W4, W4 = W1.alloc (.cells #[.bool false, .bool false, .bool false, .bool false, .bool false, .bool false, .bool false, .bool false, .bool false, .bool false, .bool false, .bool false, .bool false, .bool false, .bool false, .bool false, .bool false, .bool false, .bool false, .bool false, .bool false, .bool false, .bool false, .bool false, .bool false, .bool false, .bool false, .bool false, .bool false, .bool false, .bool false, .bool false, .bool false, .bool false, .bool false, .bool false, .bool false, .bool false, .bool false, .bool false, .bool false, .bool false, .bool false, .bool false, .bool false, .bool false, .bool false, .bool false, .bool false, .bool false, .bool false, .bool false, .bool false, .bool false, .bool false, .bool false, .bool false, .bool false, .bool false, .bool false, .bool false, .bool false, .bool false, .bool false] 37) := ⟨_, rfl⟩
  have M4 : Bk W4 W1.heap.size (marksA 0) := by rw [hW4]; exact marks_new8 W1 _
  have R4 : Bk W4 w1.heap.size (relA r) := by rw [hW4]; exact B1r.alloc _
  have KK4 : On w W4 := by rw [hW4]; exact KK1.alloc _
  have hs4 : W4.heap.size = W1.heap.size + 1 := by rw [hW4, World.size_alloc]
  have hr1 : w1.heap.size < W1.heap.size := B1r.lt
  obtain ⟨W5, hW5⟩ : ∃ W5, W5 = W4.alloc (.cells #[.int .i64 F] 3) := ⟨_, rfl⟩
  have Q5 : Qu W5 (W1.heap.size + 1) (.slice (some ⟨W1.heap.size + 1, 0, none⟩) 1 1) [F] := by
    have := Qu.one W4 F 3 (W1.heap.size + 1) (by omega)
    rw [hs4] at this
    rw [hW5]; exact this
  have M5 : Bk W5 W1.heap.size (marksA 0) := by rw [hW5]; exact M4.alloc _
  have R5 : Bk W5 w1.heap.size (relA r) := by rw [hW5]; exact R4.alloc _
  have KK5 : On w W5 := by rw [hW5]; exact KK4.alloc _
  have hs5 : W1.heap.size + 1 ≤ W5.heap.size := by rw [hW5, World.size_alloc]; omega
  have hb0 : w.heap.size ≤ W1.heap.size := KK1.size
  have HH4 : Hid (W4 = W1.alloc (.cells #[.bool false, .bool false, .bool false, .bool false, .bool false, .bool false, .bool false, .bool false, .bool false, .bool false, .bool false, .bool false, .bool false, .bool false, .bool false, .bool false, .bool false, .bool false, .bool false, .bool false, .bool false, .bool false, .bool false, .bool false, .bool false, .bool false, .bool false, .bool false, .bool false, .bool false, .bool false, .bool false, .bool false, .bool false, .bool false, .bool false, .bool false, .bool false, .bool false, .bool false, .bool false, .bool false, .bool false, .bool false, .bool false, .bool false, .bool false, .bool false, .bool false, .bool false, .bool false, .bool false, .bool false, .bool false, .bool false, .bool false, .bool false, .bool false, .bool false, .bool false, .bool false, .bool false, .bool false, .bool false] 37)) := hW4
  have HH5 : Hid (W5 = W4.alloc (.cells #[.int .i64 F] 3)) := hW5
  clear hW4 hW5
  go_wp2_with (first | (refine wpList_st rfl rfl rfl rfl B1a ?_) | (refine wpList_stw rfl rfl rfl rfl B1c ?_; rw [← HW1.out]; clear HW1 B1a B1b B1c))
  rw [← HH4.out, ← HH5.out]
  clear HH4 HH5
  go_loopg [10] (1 + unN 0 m) (fun gg s10 wr => ∃ (xs : List Nat) (S : Nat), gg = xs.length + unN S m ∧ Qu wr (W1.heap.size + 1) s10 xs ∧ Hid (On w wr) ∧ Bk wr w1.heap.size (relA r) ∧ Bk wr W1.heap.size (marksA S) ∧ W1.heap.size + 1 ≤ wr.heap.size ∧ Hid (Bfs0 r F m xs S))
  case atStart => exact ⟨[F], 0, by simp, Q5, KK5, R5, M5, hs5, B0⟩
  case round =>
    clear Q5 KK5 R5 M5 hs5 B0 KK4 M4 R4 hs4 hO1 KK1 B1r B1w
    obtain ⟨xs, S, hg, HQ, HO, HR, HM, hsz, HB⟩ := hrel
    cases xs with
    | nil =>
      obtain ⟨g, off, cap, cur, T, rfl, hgb, hgh, hlc, hoc, hcm, _⟩ := HQ
      have hgl := lt_of_block hgh
      unfold maxLen at hcm
      have HALL : Hid (∀ b, S.testBit b = H (closeR r) F b) := HAL.out S HB.out
      clear HB hgh hoc HAL HSH HP hH1 hg
      generalize closeR r = C at *
      go_wp2_with (refine wpList_ldG (by rfl) rfl rfl HR ?_)
      refine (x0 _).mono ?_
      rintro _ w3 ⟨rfl, k3⟩
      have K3 := HO.out.trans k3
      have B3a := Bk.new w3 (relA zeroR) 27
      have hm3 := (HM.on k3).lt
      obtain ⟨W3, hW3⟩ : ∃ W3, W3 = (w3.alloc (.cells (relA zeroR) 27)).setRow w3.heap.size (relA C) := ⟨_, rfl⟩
      have HW3 : Hid (W3 = (w3.alloc (.cells (relA zeroR) 27)).setRow w3.heap.size (relA C)) := hW3
      have C3 : Bk W3 w3.heap.size (relA C) := by rw [hW3]; exact B3a.row _
      have M3 : Bk W3 W1.heap.size (marksA S) := by rw [hW3]; exact ((HM.on k3).alloc _).rowFar (by omega) _
      have KK3 : On w W3 := by rw [hW3]; exact (K3.alloc _).row K3.size _
      clear hW3 HR HM
      go_wp2_with (first | (refine wpList_st rfl rfl rfl rfl B3a ?_; rw [← HW3.out]; clear HW3 B3a))
      have hon : ∀ W W', Bk W w3.heap.size (relA C) ∧ Bk W W1.heap.size (marksA S) → On W W' → Bk W' w3.heap.size (relA C) ∧ Bk W' W1.heap.size (marksA S) := fun W W' h k => ⟨h.1.on k, h.2.on k⟩
      go_loopg [14] m (fun gi s14 wi => ∃ b : Nat, b ≤ m ∧ gi = m - b ∧ s14 = .int .i64 b ∧ Hid (On w wi) ∧ (Bk wi w3.heap.size (relA C) ∧ Bk wi W1.heap.size (marksA S)))
      case atStart => exact ⟨0, Nat.zero_le _, rfl, rfl, KK3, C3, M3⟩
      case round =>
        clear C3 M3 KK3
        obtain ⟨b, hbm, hbk, rfl, HO2, SB⟩ := hrel
        rcases Nat.lt_or_ge b m with hbl | hbg
        · have hb6 : b < 64 := by omega
          have hb7 : (b : Int) < 64 := by omega
          have y1 := fun W => hH2 b W
          have y2 : ∀ W, Calls Try.prog 14 #[.int .u64 (C.f F), .int .i64 b] W fun e w' => e = .returned (.bool (H C F b)) ∧ On W w' := fun W => (hS2 b hb6 W).mono fun e w' h => ⟨h.1, h.2 ▸ On.refl _⟩
          have cell := fun W (h : Bk W W1.heap.size (marksA S)) => h.at (marks_at S hb6)
          rw [HALL.out b] at cell
          clear hS2 hH2 hLn xA x0
          obtain ⟨B, hB⟩ : ∃ B, B = H C F b := ⟨_, rfl⟩
          rw [← hB] at y1 y2 cell
          clear hB
          generalize C.f F = cf at *
          go_wp2
          have T0 : Bk wr.drew w3.heap.size (relA C) ∧ Bk wr.drew W1.heap.size (marksA S) := SB
          have K0 := HO2.out.drew
          refine region_fin (fun W => Bk W w3.heap.size (relA C) ∧ Bk W W1.heap.size (marksA S)) 99 19 (by kernel_rfl) rfl ?_
          refine fin_take 0 (v := .agg (relA C)) rfl (by kernel_rfl) (by kernel_rfl) (by kernel_rfl) (by kernel_rfl) (fun _ _ _ h => h) rfl (fun W hW => exec_ld rfl rfl (hW.1)) T0 ?_
          simp only [Act.put, List.setIfInBounds_toArray, List.set_cons_zero, List.set_cons_succ]
          refine fin_take 1 (v := ?_) rfl (by kernel_rfl) (by kernel_rfl) (by kernel_rfl) (by kernel_rfl) (fun _ _ _ h => h) rfl ?_ T0 ?_
          rotate_left
          · intro W hW
            go_simp
            (try with_reducible rfl)
          simp only [Act.put, List.setIfInBounds_toArray, List.set_cons_zero, List.set_cons_succ]
          refine fin_take 2 (v := ?_) rfl (by kernel_rfl) (by kernel_rfl) (by kernel_rfl) (by kernel_rfl) (fun _ _ _ h => h) rfl ?_ T0 ?_
          rotate_left
          · intro W hW
            go_simp
            (try with_reducible rfl)
          simp only [Act.put, List.setIfInBounds_toArray, List.set_cons_zero, List.set_cons_succ]
          refine fin_take 4 (v := ?_) rfl (by kernel_rfl) (by kernel_rfl) (by kernel_rfl) (by kernel_rfl) (fun _ _ _ h => h) rfl ?_ T0 ?_
          rotate_left
          · intro W hW
            go_simp
            (try with_reducible rfl)
          simp only [Act.put, List.setIfInBounds_toArray, List.set_cons_zero, List.set_cons_succ]
          refine fin_take 5 (v := ?_) rfl (by kernel_rfl) (by kernel_rfl) (by kernel_rfl) (by kernel_rfl) (fun _ _ _ h => h) rfl ?_ T0 ?_
          rotate_left
          · intro W hW
            go_simp
            (try with_reducible rfl)
          simp only [Act.put, List.setIfInBounds_toArray, List.set_cons_zero, List.set_cons_succ]
          refine fin_take 6 (v := ?_) rfl (by kernel_rfl) (by kernel_rfl) (by kernel_rfl) (by kernel_rfl) (fun _ _ _ h => h) rfl ?_ T0 ?_
          rotate_left
          · intro W hW
            have hcl := cell W hW.2
            have hll := hW.2.lt
            go_simp
            (try with_reducible rfl)
          simp only [Act.put, List.setIfInBounds_toArray, List.set_cons_zero, List.set_cons_succ]
          refine fin_one 3 rfl rfl (by kernel_rfl) (fun K hK => ?_)
          go_simp
          refine (y1 _).mono ?_
          rintro _ v1 ⟨rfl, kv1⟩
          have Sv1 := hon _ _ T0 kv1
          have Kv1 := K0.trans kv1
          refine hK.out _ _ (fun _ => Sv1) ?_
          clear hK
          refine fin_take 7 (v := ?_) rfl (by kernel_rfl) (by kernel_rfl) (by kernel_rfl) (by kernel_rfl) (fun _ _ _ h => h) rfl ?_ Sv1 ?_
          rotate_left
          · intro W hW
            go_simp
            (try with_reducible rfl)
          simp only [Act.put, List.setIfInBounds_toArray, List.set_cons_zero, List.set_cons_succ]
          refine fin_take 8 (v := ?_) rfl (by kernel_rfl) (by kernel_rfl) (by kernel_rfl) (by kernel_rfl) (fun _ _ _ h => h) rfl ?_ Sv1 ?_
          rotate_left
          · intro W hW
            go_simp
            (try with_reducible rfl)
          simp only [Act.put, List.setIfInBounds_toArray, List.set_cons_zero, List.set_cons_succ]
          refine fin_takeG 9 (v := .agg (relA C)) rfl (by kernel_rfl) (by kernel_rfl) (by kernel_rfl) (by kernel_rfl) (fun _ _ _ h => h) (by rfl) (fun W hW => exec_ld rfl rfl (hW.1)) Sv1 ?_
          simp only [Act.put, List.setIfInBounds_toArray, List.set_cons_zero, List.set_cons_succ]
          refine fin_takeG 10 (v := ?_) rfl (by kernel_rfl) (by kernel_rfl) (by kernel_rfl) (by kernel_rfl) (fun _ _ _ h => h) (by rfl) ?_ Sv1 ?_
          rotate_left
          · intro W hW
            go_simp
            (try with_reducible rfl)
          simp only [Act.put, List.setIfInBounds_toArray, List.set_cons_zero, List.set_cons_succ]
          refine fin_takeG 12 (v := ?_) rfl (by kernel_rfl) (by kernel_rfl) (by kernel_rfl) (by kernel_rfl) (fun _ _ _ h => h) (by rfl) ?_ Sv1 ?_
          rotate_left
          · intro W hW
            go_simp
            (try with_reducible rfl)
          simp only [Act.put, List.setIfInBounds_toArray, List.set_cons_zero, List.set_cons_succ]
          refine fin_takeG 14 (v := ?_) rfl (by kernel_rfl) (by kernel_rfl) (by kernel_rfl) (by kernel_rfl) (fun _ _ _ h => h) (by rfl) ?_ Sv1 ?_
          rotate_left
          · intro W hW
            go_simp
            (try with_reducible rfl)
          simp only [Act.put, List.setIfInBounds_toArray, List.set_cons_zero, List.set_cons_succ]
          refine fin_takeG 15 (v := ?_) rfl (by kernel_rfl) (by kernel_rfl) (by kernel_rfl) (by kernel_rfl) (fun _ _ _ h => h) (by rfl) ?_ Sv1 ?_
          rotate_left
          · intro W hW
            go_simp
            (try with_reducible rfl)
          simp only [Act.put, List.setIfInBounds_toArray, List.set_cons_zero, List.set_cons_succ]
          refine fin_takeG 16 (v := ?_) rfl (by kernel_rfl) (by kernel_rfl) (by kernel_rfl) (by kernel_rfl) (fun _ _ _ h => h) (by rfl) ?_ Sv1 ?_
          rotate_left
          · intro W hW
            have hcl := cell W hW.2
            have hll := hW.2.lt
            go_simp
            (try with_reducible rfl)
          simp only [Act.put, List.setIfInBounds_toArray, List.set_cons_zero, List.set_cons_succ]
          refine fin_oneG 11 rfl (by rfl) (by kernel_rfl) (fun K hK => ?_)
          go_simp
          refine (hR2 _).mono ?_
          rintro _ v2 ⟨rfl, kv2⟩
          have Sv2 := hon _ _ Sv1 kv2
          have Kv2 := Kv1.trans kv2
          refine hK.out _ _ (fun _ => Sv2) ?_
          clear hK
          refine fin_oneG 13 rfl (by rfl) (by kernel_rfl) (fun K hK => ?_)
          go_simp
          refine (y2 _).mono ?_
          rintro _ v3 ⟨rfl, kv3⟩
          have Sv3 := hon _ _ Sv2 kv3
          have Kv3 := Kv2.trans kv3
          refine hK.out _ _ (fun _ => Sv3) ?_
          clear hK
          refine fin_takeG 17 (v := ?_) rfl (by kernel_rfl) (by kernel_rfl) (by kernel_rfl) (by kernel_rfl) (fun _ _ _ h => h) (by rfl) ?_ Sv3 ?_
          rotate_left
          · intro W hW
            go_simp
            (try with_reducible rfl)
          simp only [Act.put, List.setIfInBounds_toArray, List.set_cons_zero, List.set_cons_succ]
          refine fin_take 18 (v := ?_) rfl (by kernel_rfl) (by kernel_rfl) (by kernel_rfl) (by kernel_rfl) (fun _ _ _ h => h) rfl ?_ Sv3 ?_
          rotate_left
          · intro W hW
            go_simp
            (try with_reducible rfl)
          simp only [Act.put, List.setIfInBounds_toArray, List.set_cons_zero, List.set_cons_succ]
          refine fin_done (by kernel_rfl) (NoPanic.normal ?_)
          go_wp2
          go_roundg (m - (b + 1))
          case measure => omega
          case rel => exact ⟨b + 1, hbl, rfl, by congr 1, Kv3, Sv3⟩
        · obtain rfl : b = m := by omega
          clear hH2 hS2
          generalize C.f F = cf at *
          have hle : ((cnt64 cf : Nat) : Int) ≤ (b : Int) := by omega
          go_wp2_with (refine wpList_ldG (by rfl) rfl rfl SB.1 ?_)
          refine (hR2 _).mono ?_
          rintro _ w4 ⟨rfl, k4⟩
          go_wp2_with fail
          refine (hLn _).mono ?_
          rintro _ w5 ⟨rfl, hw5⟩
          subst w5
          go_wp2_with fail
          refine (xA _).mono ?_
          rintro _ w6 ⟨rfl, k6⟩
          go_wp2
          go_ret
          exact ⟨rfl, (HO2.out.trans k4).trans k6⟩
    | cons a xs =>
      obtain ⟨g, off, cap, rfl, hxc, hcm, hgl, hcell, hq0, hq1⟩ := HQ.parts
      have hal : a < m := HB.out.lt a (by simp)
      have HB2 : Hid (Bfs r F m a 0 xs S) := HB.out.pop
      have hg2 : xs.length + unN S m + 1 = gk := by rw [hg]; simp; omega
      have hxl : xs.length ≤ 41 := by have := HB.out.sz; simp at this; omega
      unfold maxLen at hcm
      clear HB hg HQ
      obtain ⟨v, hv, HQ⟩ : ∃ v : Value, v = (if cap = 0 then .slice (some ⟨g, off, none⟩) xs.length 0 else .slice (some ⟨g, off + 1, none⟩) xs.length cap) ∧ Qu wr (W1.heap.size + 1) v xs := by
        by_cases h0 : cap = 0
        · exact ⟨_, rfl, by rw [if_pos h0]; exact hq0 h0⟩
        · exact ⟨_, rfl, by rw [if_neg h0]; exact hq1 h0⟩
      by_cases h0 : cap = 0
      · rw [if_pos h0] at hv
        subst hv
        subst h0
        obtain rfl : xs = [] := List.eq_nil_of_length_eq_zero (by omega)
        replace HQ : Qu wr (W1.heap.size + 1) (.slice (some ⟨g, off, none⟩) 0 0) [] := HQ
        clear hq0 hq1
        go_wp2
        go_loopg [10, 12] m (fun gi s10 s12 wi => ∃ (b : Nat) (ys : List Nat) (S2 : Nat), b ≤ m ∧ gi = m - b ∧ s12 = .int .i64 b ∧ Qu wi (W1.heap.size + 1) s10 ys ∧ Hid (On w wi) ∧ Bk wi w1.heap.size (relA r) ∧ Bk wi W1.heap.size (marksA S2) ∧ W1.heap.size + 1 ≤ wi.heap.size ∧ Hid (Bfs r F m a b ys S2) ∧ ys.length + unN S2 m + 1 = gk)
        case atStart => exact ⟨0, [], S, Nat.zero_le _, rfl, rfl, HQ, HO, HR, HM, hsz, HB2, hg2⟩
        case round =>
          clear HQ HO HR HM hsz HB2 hg2 hcell hgl hcm hxc hxl
          obtain ⟨b, ys, S2, hbm, hbk, rfl, HQ, HO, HR, HM, hsz, HB, hgk⟩ := hrel
          rcases Nat.lt_or_ge b m with hbl | hbg
          · have hb6 : b < 64 := by omega
            have hH := fun W => hH1 a b W
            have hcs := marks_at S2 hb6
            have hyl : ys.length ≤ 41 := by have := HB.out.sz; omega
            cases hab : H r a b with
            | false =>
              rw [hab] at hH
              have HB3 : Hid (Bfs r F m a (b + 1) ys S2) := HB.out.skip (fun h => by rw [hab] at h; cases h)
              clear hab hcs
              go_wp2_with (refine wpList_ldG (by rfl) rfl rfl HR ?_)
              refine (hH _).mono ?_
              rintro _ w5 ⟨rfl, k5⟩
              go_wp2
              go_roundg (m - (b + 1))
              case measure => omega
              case rel => exact ⟨b + 1, ys, S2, hbl, rfl, by congr 1, HQ.on k5, HO.out.trans k5, HR.on k5, HM.on k5, Nat.le_trans hsz k5.size, HB3, hgk⟩
            | true =>
              rw [hab] at hH
              cases hsb : S2.testBit b with
              | true =>
                rw [hsb] at hcs
                have HB3 : Hid (Bfs r F m a (b + 1) ys S2) := HB.out.skip (fun _ => hsb)
                have HCS : Hid ((marksA S2)[b]? = some (.bool true)) := hcs
                clear hab hcs hsb
                go_wp2_with (refine wpList_ldG (by rfl) rfl rfl HR ?_)
                refine (hH _).mono ?_
                rintro _ w5 ⟨rfl, k5⟩
                have hce := (HM.on k5).at HCS.out
                have hcl := (HM.on k5).lt
                go_wp2
                go_roundg (m - (b + 1))
                case measure => omega
                case rel => exact ⟨b + 1, ys, S2, hbl, rfl, by congr 1, HQ.on k5, HO.out.trans k5, HR.on k5, HM.on k5, Nat.le_trans hsz k5.size, HB3, hgk⟩
              | false =>
                rw [hsb] at hcs
                have HB3 : Hid (Bfs r F m a (b + 1) (ys ++ [b]) (withI S2 b)) := HP.out a b ys S2 HB.out hbl hab hsb
                have hun := un_with S2 b hb6 hsb m hbl (by omega)
                have HCS : Hid ((marksA S2)[b]? = some (.bool false)) := hcs
                clear hab hcs hsb
                go_wp2_with (refine wpList_ldG (by rfl) rfl rfl HR ?_)
                refine (hH _).mono ?_
                rintro _ w5 ⟨rfl, k5⟩
                have hce := (HM.on k5).at HCS.out
                have hfr := (HM.on k5).fr b
                have hcl := (HM.on k5).lt
                have M6 := (marks_with (HM.on k5) hb6).alloc (.cells #[.int .i64 b] 3)
                have R6 := ((HR.on k5).far (N := W1.heap.size) (by omega) b (.bool true)).alloc (.cells #[.int .i64 b] 3)
                have Q6 := ((HQ.on k5).far (N := W1.heap.size) (i := b) (u := .bool true) (by omega)).on ((On.refl _).alloc (.cells #[.int .i64 b] 3))
                have K6 := ((HO.out.trans k5).setNew (N := W1.heap.size) (i := b) (by omega) (.bool true)).alloc (.cells #[.int .i64 b] 3)
                have hs6 : W1.heap.size + 1 ≤ ((w5.setCell ⟨W1.heap.size, b, none⟩ (.bool true)).alloc (.cells #[.int .i64 b] 3)).heap.size := by rw [World.size_alloc, size_set]; have := k5.size; omega
                go_wp2_with (at_builtin; refine wpList_append_q _ rfl _ _ 38 rfl 3 i0 (.int .i64 0) Try.underlying38 hi0 hz0 hz1 hz2 rfl rfl Q6 hs6 (by omega) ⟨w5.heap.size, 0, none⟩ 1 b ?c1 ?c2 ?_)
                case c1 => rfl
                case c2 =>
                  have := new_cell (w5.setCell ⟨W1.heap.size, b, none⟩ (.bool true)) #[.int .i64 b] 3 0
                  rw [size_set] at this
                  rw [this]
                  rfl
                intro v' w7 hQ7 hB7
                go_wp2
                go_roundg (m - (b + 1))
                case measure => omega
                case rel => exact ⟨b + 1, ys ++ [b], withI S2 b, hbl, rfl, by congr 1, hQ7, K6.below hB7 (by omega), R6.below hB7 (by omega), M6.below hB7 (by omega), Nat.le_trans hs6 hB7.size, HB3, by simp; omega⟩
          · obtain rfl : b = m := by omega
            go_wp2
            go_roundg (ys.length + unN S2 b)
            case measure => omega
            case rel => exact ⟨ys, S2, rfl, HQ, HO, HR, HM, hsz, HSH.out a ys S2 HB.out⟩
      · rw [if_neg h0] at hv
        subst hv
        clear hq0 hq1
        go_wp2
        go_loopg [10, 12] m (fun gi s10 s12 wi => ∃ (b : Nat) (ys : List Nat) (S2 : Nat), b ≤ m ∧ gi = m - b ∧ s12 = .int .i64 b ∧ Qu wi (W1.heap.size + 1) s10 ys ∧ Hid (On w wi) ∧ Bk wi w1.heap.size (relA r) ∧ Bk wi W1.heap.size (marksA S2) ∧ W1.heap.size + 1 ≤ wi.heap.size ∧ Hid (Bfs r F m a b ys S2) ∧ ys.length + unN S2 m + 1 = gk)
        case atStart => exact ⟨0, xs, S, Nat.zero_le _, rfl, rfl, HQ, HO, HR, HM, hsz, HB2, hg2⟩
        case round =>
          clear HQ HO HR HM hsz HB2 hg2 hcell hgl hcm hxc hxl
          obtain ⟨b, ys, S2, hbm, hbk, rfl, HQ, HO, HR, HM, hsz, HB, hgk⟩ := hrel
          rcases Nat.lt_or_ge b m with hbl | hbg
          · have hb6 : b < 64 := by omega
            have hH := fun W => hH1 a b W
            have hcs := marks_at S2 hb6
            have hyl : ys.length ≤ 41 := by have := HB.out.sz; omega
            cases hab : H r a b with
            | false =>
              rw [hab] at hH
              have HB3 : Hid (Bfs r F m a (b + 1) ys S2) := HB.out.skip (fun h => by rw [hab] at h; cases h)
              clear hab hcs
              go_wp2_with (refine wpList_ldG (by rfl) rfl rfl HR ?_)
              refine (hH _).mono ?_
              rintro _ w5 ⟨rfl, k5⟩
              go_wp2
              go_roundg (m - (b + 1))
              case measure => omega
              case rel => exact ⟨b + 1, ys, S2, hbl, rfl, by congr 1, HQ.on k5, HO.out.trans k5, HR.on k5, HM.on k5, Nat.le_trans hsz k5.size, HB3, hgk⟩
            | true =>
              rw [hab] at hH
              cases hsb : S2.testBit b with
              | true =>
                rw [hsb] at hcs
                have HB3 : Hid (Bfs r F m a (b + 1) ys S2) := HB.out.skip (fun _ => hsb)
                have HCS : Hid ((marksA S2)[b]? = some (.bool true)) := hcs
                clear hab hcs hsb
                go_wp2_with (refine wpList_ldG (by rfl) rfl rfl HR ?_)
                refine (hH _).mono ?_
                rintro _ w5 ⟨rfl, k5⟩
                have hce := (HM.on k5).at HCS.out
                have hcl := (HM.on k5).lt
                go_wp2
                go_roundg (m - (b + 1))
                case measure => omega
                case rel => exact ⟨b + 1, ys, S2, hbl, rfl, by congr 1, HQ.on k5, HO.out.trans k5, HR.on k5, HM.on k5, Nat.le_trans hsz k5.size, HB3, hgk⟩
              | false =>
                rw [hsb] at hcs
                have HB3 : Hid (Bfs r F m a (b + 1) (ys ++ [b]) (withI S2 b)) := HP.out a b ys S2 HB.out hbl hab hsb
                have hun := un_with S2 b hb6 hsb m hbl (by omega)
                have HCS : Hid ((marksA S2)[b]? = some (.bool false)) := hcs
                clear hab hcs hsb
                go_wp2_with (refine wpList_ldG (by rfl) rfl rfl HR ?_)
                refine (hH _).mono ?_
                rintro _ w5 ⟨rfl, k5⟩
                have hce := (HM.on k5).at HCS.out
                have hfr := (HM.on k5).fr b
                have hcl := (HM.on k5).lt
                have M6 := (marks_with (HM.on k5) hb6).alloc (.cells #[.int .i64 b] 3)
                have R6 := ((HR.on k5).far (N := W1.heap.size) (by omega) b (.bool true)).alloc (.cells #[.int .i64 b] 3)
                have Q6 := ((HQ.on k5).far (N := W1.heap.size) (i := b) (u := .bool true) (by omega)).on ((On.refl _).alloc (.cells #[.int .i64 b] 3))
                have K6 := ((HO.out.trans k5).setNew (N := W1.heap.size) (i := b) (by omega) (.bool true)).alloc (.cells #[.int .i64 b] 3)
                have hs6 : W1.heap.size + 1 ≤ ((w5.setCell ⟨W1.heap.size, b, none⟩ (.bool true)).alloc (.cells #[.int .i64 b] 3)).heap.size := by rw [World.size_alloc, size_set]; have := k5.size; omega
                go_wp2_with (at_builtin; refine wpList_append_q _ rfl _ _ 38 rfl 3 i0 (.int .i64 0) Try.underlying38 hi0 hz0 hz1 hz2 rfl rfl Q6 hs6 (by omega) ⟨w5.heap.size, 0, none⟩ 1 b ?c1 ?c2 ?_)
                case c1 => rfl
                case c2 =>
                  have := new_cell (w5.setCell ⟨W1.heap.size, b, none⟩ (.bool true)) #[.int .i64 b] 3 0
                  rw [size_set] at this
                  rw [this]
                  rfl
                intro v' w7 hQ7 hB7
                go_wp2
                go_roundg (m - (b + 1))
                case measure => omega
                case rel => exact ⟨b + 1, ys ++ [b], withI S2 b, hbl, rfl, by congr 1, hQ7, K6.below hB7 (by omega), R6.below hB7 (by omega), M6.below hB7 (by omega), Nat.le_trans hs6 hB7.size, HB3, by simp; omega⟩
          · obtain rfl : b = m := by omega
            go_wp2
            go_roundg (ys.length + unN S2 b)
            case measure => omega
            case rel => exact ⟨ys, S2, rfl, HQ, HO, HR, HM, hsz, HSH.out a ys S2 HB.out⟩
end Go.Proofs.Ythbiaojefmdcmaa
