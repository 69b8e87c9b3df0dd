/- SetAlgebra, walked. -/
import Derived.Test.YtpfhfabhjnmlfaaDoorAlgP
import Derived.Test.YtpfhfabhjnmlfaaDoorAwake7
import Derived.Test.YtpfhfabhjnmlfaaDoorRegFin2
namespace Go.Proofs.YtpfhfabhjnmlfaaDoor
open Go.RowKit

set_option maxHeartbeats 1000000 in
theorem in_is (i : Int) (w : World) :
    Calls Tryd.prog 12 #[.int .i64 i] w fun e w' => e = .returned (.int .i64 (inI i)) ∧ w' = w := by
  by_cases h0 : i < 0
  · have e : inI i = 0 := by unfold inI; rw [if_neg (by omega)]
    rw [e]
    go_enter Tryd.func12, Tryd.ntmps12
    go_wp2
    go_ret
    exact ⟨rfl, rfl⟩
  · by_cases h1 : 64 ≤ i
    · have e : inI i = 0 := by unfold inI; rw [if_neg (by omega)]
      rw [e]
      go_enter Tryd.func12, Tryd.ntmps12
      go_wp2
      go_ret
      exact ⟨rfl, rfl⟩
    · have e : inI i = 1 := by unfold inI; rw [if_pos (by omega)]
      rw [e]
      go_enter Tryd.func12, Tryd.ntmps12
      go_wp2
      go_ret
      exact ⟨rfl, rfl⟩
theorem flat_nat : ∀ L : List Nat, (L.flatMap fun i : Nat => [intV i]) = L.map intV
  | [] => rfl
  | i :: L => by rw [List.flatMap_cons, flat_nat L]; rfl
theorem drop_atN {L : List Nat} {n : Nat} (h : n < L.length) : ∃ x, L[n]? = some x ∧ L.take (n + 1) = L.take n ++ [x] :=
  ⟨L[n], List.getElem?_eq_getElem h, by rw [List.take_add_one, List.getElem?_eq_getElem h]; rfl⟩
theorem drew_cell (w : World) (a : Addr) : w.drew.cell? a = w.cell? a := rfl
set_option maxHeartbeats 4000000 in
set_option maxRecDepth 8000 in
theorem setAlgebra_walk (a b : Nat) (i : Int) (ha : a < 18446744073709551616) (hb : b < 18446744073709551616) (w : World) (hd : Dt w) :
    Calls Tryd.prog 3 #[.int .u64 a, .int .u64 b, .int .i64 i] w fun e w' => e = .returned (.bool true) ∧ On w w' := by
  have hA := fun W (k : On w W) => awake7_is W (hd.on k)
  have hI := fun W (k : On w W) => list_is a ha W (hd.on k)
  have hx := fun (i : Nat) W => has_is a i ha W
  have hy := fun (i : Nat) W => has_is b i hb W
  have hin : ∀ i, i ∈ bits64 a → i < 64 ∧ hasI a i = true := fun i h => by
    have := (mem64 a i).1 h
    exact ⟨this.1, (has_nat a i this.1).trans this.2⟩
  have hrise := rising a
  have hcnt := cnt_met a b
  have hl64 : (bits64 a).length ≤ 64 := cnt_le a
  obtain ⟨L, hL⟩ : ∃ L, L = bits64 a := ⟨_, rfl⟩
  rw [← hL] at hI hin hrise hcnt hl64
  have HIN : Hid (∀ i, i ∈ L → i < 64 ∧ hasI a i = true) := hin
  have HRI : Hid (L.Pairwise (· < ·)) := hrise
  have HCN : Hid (L.countP (fun i => b.testBit i) = cnt64 (a &&& b)) := hcnt
  clear hL hin hrise hcnt
  go_enter Tryd.func3, Tryd.ntmps3
  go_wp2_with fail
  refine (hI _ (On.refl _)).mono ?_
  rintro e w1 ⟨ad, c, rfl, ho, k1⟩
  have hr := Rd.own (C := fun i : Nat => [intV i]) (fun _ => rfl) (show w1.ownsRow w.heap.size 3 1 (.slice ad L.length c) L.length (L.flatMap fun i : Nat => [intV i]) by rw [flat_nat]; exact ho)
  clear ho hI
  go_wp2
  go_loopg [9, 11] L.length (fun gg s9 s11 wr => ∃ n : Nat, n ≤ L.length ∧ gg = L.length - n ∧ s11 = .int .i64 n ∧ s9 = .int .i64 ((L.take n).countP (fun i => b.testBit i)) ∧ Hid (On w1 wr))
  case atStart => exact ⟨0, Nat.zero_le _, rfl, rfl, rfl, On.refl _⟩
  case round =>
    obtain ⟨n, hn, hk, rfl, rfl, HO⟩ := hrel
    have hnc : (L.take n).countP (fun i => b.testBit i) ≤ 64 := Nat.le_trans List.countP_le_length (by rw [List.length_take]; omega)
    obtain ⟨m, hm⟩ : ∃ m, m = (L.take n).countP (fun i => b.testBit i) := ⟨_, rfl⟩
    rw [← hm] at hnc ⊢
    have HM : Hid (m = (L.take n).countP (fun i => b.testBit i)) := hm
    clear hm
    rcases Nat.lt_or_ge n L.length with hlt | hge
    · obtain ⟨x, hx0, htk⟩ := drop_atN hlt
      obtain ⟨g, off, rfl, hg, u0⟩ := (hr.on HO.out).at hx0
      obtain ⟨hx64, hxa⟩ := HIN.out x (List.mem_of_getElem? hx0)
      have hc0 : wr.cell? ⟨g, off + n, none⟩ = some (.int .i64 x) := by have := u0 0 _ rfl; rw [Nat.mul_one, Nat.add_zero] at this; exact this
      have hX := fun W => hx x W
      have hY := fun W => hy x W
      rw [hxa] at hX
      rw [has_nat b x hx64] at hY
      have HM2 : Hid ((L.take (n + 1)).countP (fun i => b.testBit i) = m + if b.testBit x then 1 else 0) := by
        show _ = _
        rw [htk, List.countP_append, ← HM.out]
        simp [List.countP_cons]
      obtain rfl | ⟨k, hnk⟩ : n = 0 ∨ ∃ k, n = k + 1 := by
        rcases n with _ | k
        · exact Or.inl rfl
        · exact Or.inr ⟨k, rfl⟩
      · rw [Nat.add_zero] at hc0
        have qS : wr.drew.cell? ⟨g, off, none⟩ = some (.int .i64 x) := hc0
        clear hx hy hxa hx64 hx0 htk u0 HM
        cases hbx : b.testBit x
        · rw [hbx] at hY HM2
          clear hbx
          go_wp2
          refine region_fin (fun W => W.cell? ⟨g, off, none⟩ = some (.int .i64 x)) 99 23 (by kernel_rfl) rfl ?_
          refine fin_take 0 (v := ?_) rfl (by kernel_rfl) (by kernel_rfl) (by kernel_rfl) (by kernel_rfl) (fun _ _ _ h => h) rfl ?_ qS ?_
          rotate_left
          · intro W hW
            go_simp
            (try with_reducible rfl)
          simp only [Act.put, List.setIfInBounds_toArray, List.set_cons_zero, List.set_cons_succ]
          refine fin_take 1 (v := ?_) rfl (by kernel_rfl) (by kernel_rfl) (by kernel_rfl) (by kernel_rfl) (fun _ _ _ h => h) rfl ?_ qS ?_
          rotate_left
          · intro W hW
            go_simp
            (try with_reducible rfl)
          simp only [Act.put, List.setIfInBounds_toArray, List.set_cons_zero, List.set_cons_succ]
          refine fin_take 2 (v := ?_) rfl (by kernel_rfl) (by kernel_rfl) (by kernel_rfl) (by kernel_rfl) (fun _ _ _ h => h) rfl ?_ qS ?_
          rotate_left
          · intro W hW
            go_simp
            (try with_reducible rfl)
          simp only [Act.put, List.setIfInBounds_toArray, List.set_cons_zero, List.set_cons_succ]
          refine fin_takeN 3 rfl (by kernel_rfl) (by kernel_rfl) (by kernel_rfl) (by kernel_rfl) (fun _ _ _ h => h) (by rfl) qS ?_
          simp only [Act.put, List.setIfInBounds_toArray, List.set_cons_zero, List.set_cons_succ]
          refine fin_takeN 4 rfl (by kernel_rfl) (by kernel_rfl) (by kernel_rfl) (by kernel_rfl) (fun _ _ _ h => h) (by rfl) qS ?_
          simp only [Act.put, List.setIfInBounds_toArray, List.set_cons_zero, List.set_cons_succ]
          refine fin_takeN 5 rfl (by kernel_rfl) (by kernel_rfl) (by kernel_rfl) (by kernel_rfl) (fun _ _ _ h => h) (by rfl) qS ?_
          simp only [Act.put, List.setIfInBounds_toArray, List.set_cons_zero, List.set_cons_succ]
          refine fin_takeN 6 rfl (by kernel_rfl) (by kernel_rfl) (by kernel_rfl) (by kernel_rfl) (fun _ _ _ h => h) (by rfl) qS ?_
          simp only [Act.put, List.setIfInBounds_toArray, List.set_cons_zero, List.set_cons_succ]
          refine fin_takeN 7 rfl (by kernel_rfl) (by kernel_rfl) (by kernel_rfl) (by kernel_rfl) (fun _ _ _ h => h) (by rfl) qS ?_
          simp only [Act.put, List.setIfInBounds_toArray, List.set_cons_zero, List.set_cons_succ]
          refine fin_takeN 8 rfl (by kernel_rfl) (by kernel_rfl) (by kernel_rfl) (by kernel_rfl) (fun _ _ _ h => h) (by rfl) qS ?_
          simp only [Act.put, List.setIfInBounds_toArray, List.set_cons_zero, List.set_cons_succ]
          refine fin_takeN 9 rfl (by kernel_rfl) (by kernel_rfl) (by kernel_rfl) (by kernel_rfl) (fun _ _ _ h => h) (by rfl) qS ?_
          simp only [Act.put, List.setIfInBounds_toArray, List.set_cons_zero, List.set_cons_succ]
          refine fin_takeN 10 rfl (by kernel_rfl) (by kernel_rfl) (by kernel_rfl) (by kernel_rfl) (fun _ _ _ h => h) (by rfl) qS ?_
          simp only [Act.put, List.setIfInBounds_toArray, List.set_cons_zero, List.set_cons_succ]
          refine fin_takeN 11 rfl (by kernel_rfl) (by kernel_rfl) (by kernel_rfl) (by kernel_rfl) (fun _ _ _ h => h) (by rfl) qS ?_
          simp only [Act.put, List.setIfInBounds_toArray, List.set_cons_zero, List.set_cons_succ]
          refine fin_takeN 12 rfl (by kernel_rfl) (by kernel_rfl) (by kernel_rfl) (by kernel_rfl) (fun _ _ _ h => h) (by rfl) qS ?_
          simp only [Act.put, List.setIfInBounds_toArray, List.set_cons_zero, List.set_cons_succ]
          refine fin_take 13 (v := ?_) rfl (by kernel_rfl) (by kernel_rfl) (by kernel_rfl) (by kernel_rfl) (fun _ _ _ h => h) rfl ?_ qS ?_
          rotate_left
          · intro W hW
            go_simp
            (try with_reducible rfl)
          simp only [Act.put, List.setIfInBounds_toArray, List.set_cons_zero, List.set_cons_succ]
          refine fin_take 14 (v := ?_) rfl (by kernel_rfl) (by kernel_rfl) (by kernel_rfl) (by kernel_rfl) (fun _ _ _ h => h) rfl ?_ qS ?_
          rotate_left
          · intro W hW
            go_simp
            (try with_reducible rfl)
          simp only [Act.put, List.setIfInBounds_toArray, List.set_cons_zero, List.set_cons_succ]
          refine fin_takeG 15 (v := ?_) rfl (by kernel_rfl) (by kernel_rfl) (by kernel_rfl) (by kernel_rfl) (fun _ _ _ h => h) (by rfl) ?_ qS ?_
          rotate_left
          · intro W hW
            go_simp
            (try with_reducible rfl)
          simp only [Act.put, List.setIfInBounds_toArray, List.set_cons_zero, List.set_cons_succ]
          refine fin_takeG 16 (v := ?_) rfl (by kernel_rfl) (by kernel_rfl) (by kernel_rfl) (by kernel_rfl) (fun _ _ _ h => h) (by rfl) ?_ qS ?_
          rotate_left
          · intro W hW
            go_simp
            (try with_reducible rfl)
          simp only [Act.put, List.setIfInBounds_toArray, List.set_cons_zero, List.set_cons_succ]
          refine fin_takeG 17 (v := ?_) rfl (by kernel_rfl) (by kernel_rfl) (by kernel_rfl) (by kernel_rfl) (fun _ _ _ h => h) (by rfl) ?_ qS ?_
          rotate_left
          · intro W hW
            go_simp
            (try with_reducible rfl)
          simp only [Act.put, List.setIfInBounds_toArray, List.set_cons_zero, List.set_cons_succ]
          refine fin_takeG 18 (v := ?_) rfl (by kernel_rfl) (by kernel_rfl) (by kernel_rfl) (by kernel_rfl) (fun _ _ _ h => h) (by rfl) ?_ qS ?_
          rotate_left
          · intro W hW
            go_simp
            (try with_reducible rfl)
          simp only [Act.put, List.setIfInBounds_toArray, List.set_cons_zero, List.set_cons_succ]
          refine fin_takeG 19 (v := ?_) rfl (by kernel_rfl) (by kernel_rfl) (by kernel_rfl) (by kernel_rfl) (fun _ _ _ h => h) (by rfl) ?_ qS ?_
          rotate_left
          · intro W hW
            go_simp
            (try with_reducible rfl)
          simp only [Act.put, List.setIfInBounds_toArray, List.set_cons_zero, List.set_cons_succ]
          refine fin_oneG 20 rfl (by rfl) (by kernel_rfl) (fun K hK => ?_)
          go_simp
          refine (hX _).mono ?_
          rintro e w2 ⟨rfl, rfl⟩
          refine hK.out _ _ (fun _ => qS) ?_
          clear hK
          refine fin_takeG 21 (v := ?_) rfl (by kernel_rfl) (by kernel_rfl) (by kernel_rfl) (by kernel_rfl) (fun _ _ _ h => h) (by rfl) ?_ qS ?_
          rotate_left
          · intro W hW
            go_simp
            (try with_reducible rfl)
          simp only [Act.put, List.setIfInBounds_toArray, List.set_cons_zero, List.set_cons_succ]
          refine fin_take 22 (v := ?_) rfl (by kernel_rfl) (by kernel_rfl) (by kernel_rfl) (by kernel_rfl) (fun _ _ _ h => h) rfl ?_ qS ?_
          rotate_left
          · intro W hW
            go_simp
            (try with_reducible rfl)
          simp only [Act.put, List.setIfInBounds_toArray, List.set_cons_zero, List.set_cons_succ]
          refine fin_done (by kernel_rfl) (NoPanic.normal ?_)
          go_wp2_with fail
          refine (hY _).mono ?_
          rintro e w3 ⟨rfl, rfl⟩
          go_wp2
          go_roundg (L.length - (0 + 1))
          case measure => omega
          case rel => exact ⟨0 + 1, hlt, rfl, by congr 1, by rw [HM2.out]; rfl, HO.out.drew⟩
        · rw [hbx] at hY HM2
          clear hbx
          go_wp2
          refine region_fin (fun W => W.cell? ⟨g, off, none⟩ = some (.int .i64 x)) 99 23 (by kernel_rfl) rfl ?_
          refine fin_take 0 (v := ?_) rfl (by kernel_rfl) (by kernel_rfl) (by kernel_rfl) (by kernel_rfl) (fun _ _ _ h => h) rfl ?_ qS ?_
          rotate_left
          · intro W hW
            go_simp
            (try with_reducible rfl)
          simp only [Act.put, List.setIfInBounds_toArray, List.set_cons_zero, List.set_cons_succ]
          refine fin_take 1 (v := ?_) rfl (by kernel_rfl) (by kernel_rfl) (by kernel_rfl) (by kernel_rfl) (fun _ _ _ h => h) rfl ?_ qS ?_
          rotate_left
          · intro W hW
            go_simp
            (try with_reducible rfl)
          simp only [Act.put, List.setIfInBounds_toArray, List.set_cons_zero, List.set_cons_succ]
          refine fin_take 2 (v := ?_) rfl (by kernel_rfl) (by kernel_rfl) (by kernel_rfl) (by kernel_rfl) (fun _ _ _ h => h) rfl ?_ qS ?_
          rotate_left
          · intro W hW
            go_simp
            (try with_reducible rfl)
          simp only [Act.put, List.setIfInBounds_toArray, List.set_cons_zero, List.set_cons_succ]
          refine fin_takeN 3 rfl (by kernel_rfl) (by kernel_rfl) (by kernel_rfl) (by kernel_rfl) (fun _ _ _ h => h) (by rfl) qS ?_
          simp only [Act.put, List.setIfInBounds_toArray, List.set_cons_zero, List.set_cons_succ]
          refine fin_takeN 4 rfl (by kernel_rfl) (by kernel_rfl) (by kernel_rfl) (by kernel_rfl) (fun _ _ _ h => h) (by rfl) qS ?_
          simp only [Act.put, List.setIfInBounds_toArray, List.set_cons_zero, List.set_cons_succ]
          refine fin_takeN 5 rfl (by kernel_rfl) (by kernel_rfl) (by kernel_rfl) (by kernel_rfl) (fun _ _ _ h => h) (by rfl) qS ?_
          simp only [Act.put, List.setIfInBounds_toArray, List.set_cons_zero, List.set_cons_succ]
          refine fin_takeN 6 rfl (by kernel_rfl) (by kernel_rfl) (by kernel_rfl) (by kernel_rfl) (fun _ _ _ h => h) (by rfl) qS ?_
          simp only [Act.put, List.setIfInBounds_toArray, List.set_cons_zero, List.set_cons_succ]
          refine fin_takeN 7 rfl (by kernel_rfl) (by kernel_rfl) (by kernel_rfl) (by kernel_rfl) (fun _ _ _ h => h) (by rfl) qS ?_
          simp only [Act.put, List.setIfInBounds_toArray, List.set_cons_zero, List.set_cons_succ]
          refine fin_takeN 8 rfl (by kernel_rfl) (by kernel_rfl) (by kernel_rfl) (by kernel_rfl) (fun _ _ _ h => h) (by rfl) qS ?_
          simp only [Act.put, List.setIfInBounds_toArray, List.set_cons_zero, List.set_cons_succ]
          refine fin_takeN 9 rfl (by kernel_rfl) (by kernel_rfl) (by kernel_rfl) (by kernel_rfl) (fun _ _ _ h => h) (by rfl) qS ?_
          simp only [Act.put, List.setIfInBounds_toArray, List.set_cons_zero, List.set_cons_succ]
          refine fin_takeN 10 rfl (by kernel_rfl) (by kernel_rfl) (by kernel_rfl) (by kernel_rfl) (fun _ _ _ h => h) (by rfl) qS ?_
          simp only [Act.put, List.setIfInBounds_toArray, List.set_cons_zero, List.set_cons_succ]
          refine fin_takeN 11 rfl (by kernel_rfl) (by kernel_rfl) (by kernel_rfl) (by kernel_rfl) (fun _ _ _ h => h) (by rfl) qS ?_
          simp only [Act.put, List.setIfInBounds_toArray, List.set_cons_zero, List.set_cons_succ]
          refine fin_takeN 12 rfl (by kernel_rfl) (by kernel_rfl) (by kernel_rfl) (by kernel_rfl) (fun _ _ _ h => h) (by rfl) qS ?_
          simp only [Act.put, List.setIfInBounds_toArray, List.set_cons_zero, List.set_cons_succ]
          refine fin_take 13 (v := ?_) rfl (by kernel_rfl) (by kernel_rfl) (by kernel_rfl) (by kernel_rfl) (fun _ _ _ h => h) rfl ?_ qS ?_
          rotate_left
          · intro W hW
            go_simp
            (try with_reducible rfl)
          simp only [Act.put, List.setIfInBounds_toArray, List.set_cons_zero, List.set_cons_succ]
          refine fin_take 14 (v := ?_) rfl (by kernel_rfl) (by kernel_rfl) (by kernel_rfl) (by kernel_rfl) (fun _ _ _ h => h) rfl ?_ qS ?_
          rotate_left
          · intro W hW
            go_simp
            (try with_reducible rfl)
          simp only [Act.put, List.setIfInBounds_toArray, List.set_cons_zero, List.set_cons_succ]
          refine fin_takeG 15 (v := ?_) rfl (by kernel_rfl) (by kernel_rfl) (by kernel_rfl) (by kernel_rfl) (fun _ _ _ h => h) (by rfl) ?_ qS ?_
          rotate_left
          · intro W hW
            go_simp
            (try with_reducible rfl)
          simp only [Act.put, List.setIfInBounds_toArray, List.set_cons_zero, List.set_cons_succ]
          refine fin_takeG 16 (v := ?_) rfl (by kernel_rfl) (by kernel_rfl) (by kernel_rfl) (by kernel_rfl) (fun _ _ _ h => h) (by rfl) ?_ qS ?_
          rotate_left
          · intro W hW
            go_simp
            (try with_reducible rfl)
          simp only [Act.put, List.setIfInBounds_toArray, List.set_cons_zero, List.set_cons_succ]
          refine fin_takeG 17 (v := ?_) rfl (by kernel_rfl) (by kernel_rfl) (by kernel_rfl) (by kernel_rfl) (fun _ _ _ h => h) (by rfl) ?_ qS ?_
          rotate_left
          · intro W hW
            go_simp
            (try with_reducible rfl)
          simp only [Act.put, List.setIfInBounds_toArray, List.set_cons_zero, List.set_cons_succ]
          refine fin_takeG 18 (v := ?_) rfl (by kernel_rfl) (by kernel_rfl) (by kernel_rfl) (by kernel_rfl) (fun _ _ _ h => h) (by rfl) ?_ qS ?_
          rotate_left
          · intro W hW
            go_simp
            (try with_reducible rfl)
          simp only [Act.put, List.setIfInBounds_toArray, List.set_cons_zero, List.set_cons_succ]
          refine fin_takeG 19 (v := ?_) rfl (by kernel_rfl) (by kernel_rfl) (by kernel_rfl) (by kernel_rfl) (fun _ _ _ h => h) (by rfl) ?_ qS ?_
          rotate_left
          · intro W hW
            go_simp
            (try with_reducible rfl)
          simp only [Act.put, List.setIfInBounds_toArray, List.set_cons_zero, List.set_cons_succ]
          refine fin_oneG 20 rfl (by rfl) (by kernel_rfl) (fun K hK => ?_)
          go_simp
          refine (hX _).mono ?_
          rintro e w2 ⟨rfl, rfl⟩
          refine hK.out _ _ (fun _ => qS) ?_
          clear hK
          refine fin_takeG 21 (v := ?_) rfl (by kernel_rfl) (by kernel_rfl) (by kernel_rfl) (by kernel_rfl) (fun _ _ _ h => h) (by rfl) ?_ qS ?_
          rotate_left
          · intro W hW
            go_simp
            (try with_reducible rfl)
          simp only [Act.put, List.setIfInBounds_toArray, List.set_cons_zero, List.set_cons_succ]
          refine fin_take 22 (v := ?_) rfl (by kernel_rfl) (by kernel_rfl) (by kernel_rfl) (by kernel_rfl) (fun _ _ _ h => h) rfl ?_ qS ?_
          rotate_left
          · intro W hW
            go_simp
            (try with_reducible rfl)
          simp only [Act.put, List.setIfInBounds_toArray, List.set_cons_zero, List.set_cons_succ]
          refine fin_done (by kernel_rfl) (NoPanic.normal ?_)
          go_wp2_with fail
          refine (hY _).mono ?_
          rintro e w3 ⟨rfl, rfl⟩
          go_wp2
          go_roundg (L.length - (0 + 1))
          case measure => omega
          case rel => exact ⟨0 + 1, hlt, rfl, by congr 1, by rw [HM2.out]; rfl, HO.out.drew⟩
      · obtain ⟨y, hy0, _⟩ := drop_atN (show k < L.length by omega)
        have hc1 : wr.cell? ⟨g, off + k, none⟩ = some (.int .i64 y) := by
          obtain ⟨g', off', he, _, u1⟩ := (hr.on HO.out).at hy0
          simp only [Option.some.injEq, Addr.mk.injEq] at he
          obtain ⟨rfl, rfl, _⟩ := he
          have := u1 0 _ rfl
          rw [Nat.mul_one, Nat.add_zero] at this
          exact this
        have hyx : y < x := by
          obtain ⟨h1, e1⟩ := List.getElem?_eq_some_iff.1 hy0
          obtain ⟨h2, e2⟩ := List.getElem?_eq_some_iff.1 hx0
          have := List.pairwise_iff_getElem.1 HRI.out k n h1 h2 (by omega)
          rw [e1, e2] at this
          exact this
        have hle : decide ((x : Int) ≤ (y : Int)) = false := by simp; omega
        have qS : wr.drew.cell? ⟨g, off + n, none⟩ = some (.int .i64 x) ∧ wr.drew.cell? ⟨g, off + k, none⟩ = some (.int .i64 y) := ⟨hc0, hc1⟩
        have hkk : (n : Int) - 1 = (k : Int) := by omega
        have hkw : IntKind.i64.wrap (k : Int) = (k : Int) := by rw [IntKind.wrap_i64]; omega
        have hgt : decide ((n : Int) > 0) = true := by simp; omega
        have hg2 : (0 : Int) < n := by omega
        have hg3 : 0 < n := by omega
        have hle3 : ¬ x ≤ y := by omega
        have hkl : k < L.length := by omega
        have HNK : Hid (n = k + 1) := hnk
        clear hnk
        clear hx hy hxa hx64 hx0 htk u0 HM hy0
        cases hbx : b.testBit x
        · rw [hbx] at hY HM2
          clear hbx
          go_wp2
          refine region_fin (fun W => W.cell? ⟨g, off + n, none⟩ = some (.int .i64 x) ∧ W.cell? ⟨g, off + k, none⟩ = some (.int .i64 y)) 99 23 (by kernel_rfl) rfl ?_
          refine fin_take 0 (v := ?_) rfl (by kernel_rfl) (by kernel_rfl) (by kernel_rfl) (by kernel_rfl) (fun _ _ _ h => h) rfl ?_ qS ?_
          rotate_left
          · intro W hW
            go_simp
            (try with_reducible rfl)
          simp only [Act.put, List.setIfInBounds_toArray, List.set_cons_zero, List.set_cons_succ]
          refine fin_take 1 (v := ?_) rfl (by kernel_rfl) (by kernel_rfl) (by kernel_rfl) (by kernel_rfl) (fun _ _ _ h => h) rfl ?_ qS ?_
          rotate_left
          · intro W hW
            go_simp
            (try with_reducible rfl)
          simp only [Act.put, List.setIfInBounds_toArray, List.set_cons_zero, List.set_cons_succ]
          refine fin_take 2 (v := ?_) rfl (by kernel_rfl) (by kernel_rfl) (by kernel_rfl) (by kernel_rfl) (fun _ _ _ h => h) rfl ?_ qS ?_
          rotate_left
          · intro W hW
            go_simp
            (try with_reducible rfl)
          simp only [Act.put, List.setIfInBounds_toArray, List.set_cons_zero, List.set_cons_succ]
          refine fin_takeG 3 (v := ?_) rfl (by kernel_rfl) (by kernel_rfl) (by kernel_rfl) (by kernel_rfl) (fun _ _ _ h => h) (by rfl) ?_ qS ?_
          rotate_left
          · intro W hW
            go_simp
            (try with_reducible rfl)
          simp only [Act.put, List.setIfInBounds_toArray, List.set_cons_zero, List.set_cons_succ]
          refine fin_takeG 4 (v := ?_) rfl (by kernel_rfl) (by kernel_rfl) (by kernel_rfl) (by kernel_rfl) (fun _ _ _ h => h) (by rfl) ?_ qS ?_
          rotate_left
          · intro W hW
            go_simp
            (try with_reducible rfl)
          simp only [Act.put, List.setIfInBounds_toArray, List.set_cons_zero, List.set_cons_succ]
          refine fin_takeG 5 (v := ?_) rfl (by kernel_rfl) (by kernel_rfl) (by kernel_rfl) (by kernel_rfl) (fun _ _ _ h => h) (by rfl) ?_ qS ?_
          rotate_left
          · intro W hW
            go_simp
            (try with_reducible rfl)
          simp only [Act.put, List.setIfInBounds_toArray, List.set_cons_zero, List.set_cons_succ]
          refine fin_takeG 6 (v := ?_) rfl (by kernel_rfl) (by kernel_rfl) (by kernel_rfl) (by kernel_rfl) (fun _ _ _ h => h) (by rfl) ?_ qS ?_
          rotate_left
          · intro W hW
            go_simp
            (try with_reducible rfl)
          simp only [Act.put, List.setIfInBounds_toArray, List.set_cons_zero, List.set_cons_succ]
          refine fin_takeG 7 (v := ?_) rfl (by kernel_rfl) (by kernel_rfl) (by kernel_rfl) (by kernel_rfl) (fun _ _ _ h => h) (by rfl) ?_ qS ?_
          rotate_left
          · intro W hW
            go_simp
            (try with_reducible rfl)
          simp only [Act.put, List.setIfInBounds_toArray, List.set_cons_zero, List.set_cons_succ]
          refine fin_takeG 8 (v := ?_) rfl (by kernel_rfl) (by kernel_rfl) (by kernel_rfl) (by kernel_rfl) (fun _ _ _ h => h) (by rfl) ?_ qS ?_
          rotate_left
          · intro W hW
            go_simp
            (try with_reducible rfl)
          simp only [Act.put, List.setIfInBounds_toArray, List.set_cons_zero, List.set_cons_succ]
          refine fin_takeG 9 (v := ?_) rfl (by kernel_rfl) (by kernel_rfl) (by kernel_rfl) (by kernel_rfl) (fun _ _ _ h => h) (by rfl) ?_ qS ?_
          rotate_left
          · intro W hW
            go_simp
            (try with_reducible rfl)
          simp only [Act.put, List.setIfInBounds_toArray, List.set_cons_zero, List.set_cons_succ]
          refine fin_takeG 10 (v := ?_) rfl (by kernel_rfl) (by kernel_rfl) (by kernel_rfl) (by kernel_rfl) (fun _ _ _ h => h) (by rfl) ?_ qS ?_
          rotate_left
          · intro W hW
            go_simp
            (try with_reducible rfl)
          simp only [Act.put, List.setIfInBounds_toArray, List.set_cons_zero, List.set_cons_succ]
          refine fin_takeG 11 (v := ?_) rfl (by kernel_rfl) (by kernel_rfl) (by kernel_rfl) (by kernel_rfl) (fun _ _ _ h => h) (by rfl) ?_ qS ?_
          rotate_left
          · intro W hW
            go_simp
            (try with_reducible rfl)
          simp only [Act.put, List.setIfInBounds_toArray, List.set_cons_zero, List.set_cons_succ]
          refine fin_takeG 12 (v := ?_) rfl (by kernel_rfl) (by kernel_rfl) (by kernel_rfl) (by kernel_rfl) (fun _ _ _ h => h) (by rfl) ?_ qS ?_
          rotate_left
          · intro W hW
            go_simp
            (try with_reducible rfl)
          simp only [Act.put, List.setIfInBounds_toArray, List.set_cons_zero, List.set_cons_succ]
          refine fin_take 13 (v := ?_) rfl (by kernel_rfl) (by kernel_rfl) (by kernel_rfl) (by kernel_rfl) (fun _ _ _ h => h) rfl ?_ qS ?_
          rotate_left
          · intro W hW
            go_simp
            (try with_reducible rfl)
          simp only [Act.put, List.setIfInBounds_toArray, List.set_cons_zero, List.set_cons_succ]
          refine fin_take 14 (v := ?_) rfl (by kernel_rfl) (by kernel_rfl) (by kernel_rfl) (by kernel_rfl) (fun _ _ _ h => h) rfl ?_ qS ?_
          rotate_left
          · intro W hW
            go_simp
            (try with_reducible rfl)
          simp only [Act.put, List.setIfInBounds_toArray, List.set_cons_zero, List.set_cons_succ]
          refine fin_takeG 15 (v := ?_) rfl (by kernel_rfl) (by kernel_rfl) (by kernel_rfl) (by kernel_rfl) (fun _ _ _ h => h) (by rfl) ?_ qS ?_
          rotate_left
          · intro W hW
            go_simp
            (try with_reducible rfl)
          simp only [Act.put, List.setIfInBounds_toArray, List.set_cons_zero, List.set_cons_succ]
          refine fin_takeG 16 (v := ?_) rfl (by kernel_rfl) (by kernel_rfl) (by kernel_rfl) (by kernel_rfl) (fun _ _ _ h => h) (by rfl) ?_ qS ?_
          rotate_left
          · intro W hW
            go_simp
            (try with_reducible rfl)
          simp only [Act.put, List.setIfInBounds_toArray, List.set_cons_zero, List.set_cons_succ]
          refine fin_takeG 17 (v := ?_) rfl (by kernel_rfl) (by kernel_rfl) (by kernel_rfl) (by kernel_rfl) (fun _ _ _ h => h) (by rfl) ?_ qS ?_
          rotate_left
          · intro W hW
            go_simp
            (try with_reducible rfl)
          simp only [Act.put, List.setIfInBounds_toArray, List.set_cons_zero, List.set_cons_succ]
          refine fin_takeG 18 (v := ?_) rfl (by kernel_rfl) (by kernel_rfl) (by kernel_rfl) (by kernel_rfl) (fun _ _ _ h => h) (by rfl) ?_ qS ?_
          rotate_left
          · intro W hW
            go_simp
            (try with_reducible rfl)
          simp only [Act.put, List.setIfInBounds_toArray, List.set_cons_zero, List.set_cons_succ]
          refine fin_takeG 19 (v := ?_) rfl (by kernel_rfl) (by kernel_rfl) (by kernel_rfl) (by kernel_rfl) (fun _ _ _ h => h) (by rfl) ?_ qS ?_
          rotate_left
          · intro W hW
            go_simp
            (try with_reducible rfl)
          simp only [Act.put, List.setIfInBounds_toArray, List.set_cons_zero, List.set_cons_succ]
          refine fin_oneG 20 rfl (by rfl) (by kernel_rfl) (fun K hK => ?_)
          go_simp
          refine (hX _).mono ?_
          rintro e w2 ⟨rfl, rfl⟩
          refine hK.out _ _ (fun _ => qS) ?_
          clear hK
          refine fin_takeG 21 (v := ?_) rfl (by kernel_rfl) (by kernel_rfl) (by kernel_rfl) (by kernel_rfl) (fun _ _ _ h => h) (by rfl) ?_ qS ?_
          rotate_left
          · intro W hW
            go_simp
            (try with_reducible rfl)
          simp only [Act.put, List.setIfInBounds_toArray, List.set_cons_zero, List.set_cons_succ]
          refine fin_take 22 (v := ?_) rfl (by kernel_rfl) (by kernel_rfl) (by kernel_rfl) (by kernel_rfl) (fun _ _ _ h => h) rfl ?_ qS ?_
          rotate_left
          · intro W hW
            go_simp
            (try with_reducible rfl)
          simp only [Act.put, List.setIfInBounds_toArray, List.set_cons_zero, List.set_cons_succ]
          refine fin_done (by kernel_rfl) (NoPanic.normal ?_)
          go_wp2_with fail
          refine (hY _).mono ?_
          rintro e w3 ⟨rfl, rfl⟩
          go_wp2
          go_roundg (L.length - (n + 1))
          case measure => omega
          case rel => exact ⟨n + 1, hlt, rfl, by congr 1, by rw [HM2.out]; rfl, HO.out.drew⟩
        · rw [hbx] at hY HM2
          clear hbx
          go_wp2
          refine region_fin (fun W => W.cell? ⟨g, off + n, none⟩ = some (.int .i64 x) ∧ W.cell? ⟨g, off + k, none⟩ = some (.int .i64 y)) 99 23 (by kernel_rfl) rfl ?_
          refine fin_take 0 (v := ?_) rfl (by kernel_rfl) (by kernel_rfl) (by kernel_rfl) (by kernel_rfl) (fun _ _ _ h => h) rfl ?_ qS ?_
          rotate_left
          · intro W hW
            go_simp
            (try with_reducible rfl)
          simp only [Act.put, List.setIfInBounds_toArray, List.set_cons_zero, List.set_cons_succ]
          refine fin_take 1 (v := ?_) rfl (by kernel_rfl) (by kernel_rfl) (by kernel_rfl) (by kernel_rfl) (fun _ _ _ h => h) rfl ?_ qS ?_
          rotate_left
          · intro W hW
            go_simp
            (try with_reducible rfl)
          simp only [Act.put, List.setIfInBounds_toArray, List.set_cons_zero, List.set_cons_succ]
          refine fin_take 2 (v := ?_) rfl (by kernel_rfl) (by kernel_rfl) (by kernel_rfl) (by kernel_rfl) (fun _ _ _ h => h) rfl ?_ qS ?_
          rotate_left
          · intro W hW
            go_simp
            (try with_reducible rfl)
          simp only [Act.put, List.setIfInBounds_toArray, List.set_cons_zero, List.set_cons_succ]
          refine fin_takeG 3 (v := ?_) rfl (by kernel_rfl) (by kernel_rfl) (by kernel_rfl) (by kernel_rfl) (fun _ _ _ h => h) (by rfl) ?_ qS ?_
          rotate_left
          · intro W hW
            go_simp
            (try with_reducible rfl)
          simp only [Act.put, List.setIfInBounds_toArray, List.set_cons_zero, List.set_cons_succ]
          refine fin_takeG 4 (v := ?_) rfl (by kernel_rfl) (by kernel_rfl) (by kernel_rfl) (by kernel_rfl) (fun _ _ _ h => h) (by rfl) ?_ qS ?_
          rotate_left
          · intro W hW
            go_simp
            (try with_reducible rfl)
          simp only [Act.put, List.setIfInBounds_toArray, List.set_cons_zero, List.set_cons_succ]
          refine fin_takeG 5 (v := ?_) rfl (by kernel_rfl) (by kernel_rfl) (by kernel_rfl) (by kernel_rfl) (fun _ _ _ h => h) (by rfl) ?_ qS ?_
          rotate_left
          · intro W hW
            go_simp
            (try with_reducible rfl)
          simp only [Act.put, List.setIfInBounds_toArray, List.set_cons_zero, List.set_cons_succ]
          refine fin_takeG 6 (v := ?_) rfl (by kernel_rfl) (by kernel_rfl) (by kernel_rfl) (by kernel_rfl) (fun _ _ _ h => h) (by rfl) ?_ qS ?_
          rotate_left
          · intro W hW
            go_simp
            (try with_reducible rfl)
          simp only [Act.put, List.setIfInBounds_toArray, List.set_cons_zero, List.set_cons_succ]
          refine fin_takeG 7 (v := ?_) rfl (by kernel_rfl) (by kernel_rfl) (by kernel_rfl) (by kernel_rfl) (fun _ _ _ h => h) (by rfl) ?_ qS ?_
          rotate_left
          · intro W hW
            go_simp
            (try with_reducible rfl)
          simp only [Act.put, List.setIfInBounds_toArray, List.set_cons_zero, List.set_cons_succ]
          refine fin_takeG 8 (v := ?_) rfl (by kernel_rfl) (by kernel_rfl) (by kernel_rfl) (by kernel_rfl) (fun _ _ _ h => h) (by rfl) ?_ qS ?_
          rotate_left
          · intro W hW
            go_simp
            (try with_reducible rfl)
          simp only [Act.put, List.setIfInBounds_toArray, List.set_cons_zero, List.set_cons_succ]
          refine fin_takeG 9 (v := ?_) rfl (by kernel_rfl) (by kernel_rfl) (by kernel_rfl) (by kernel_rfl) (fun _ _ _ h => h) (by rfl) ?_ qS ?_
          rotate_left
          · intro W hW
            go_simp
            (try with_reducible rfl)
          simp only [Act.put, List.setIfInBounds_toArray, List.set_cons_zero, List.set_cons_succ]
          refine fin_takeG 10 (v := ?_) rfl (by kernel_rfl) (by kernel_rfl) (by kernel_rfl) (by kernel_rfl) (fun _ _ _ h => h) (by rfl) ?_ qS ?_
          rotate_left
          · intro W hW
            go_simp
            (try with_reducible rfl)
          simp only [Act.put, List.setIfInBounds_toArray, List.set_cons_zero, List.set_cons_succ]
          refine fin_takeG 11 (v := ?_) rfl (by kernel_rfl) (by kernel_rfl) (by kernel_rfl) (by kernel_rfl) (fun _ _ _ h => h) (by rfl) ?_ qS ?_
          rotate_left
          · intro W hW
            go_simp
            (try with_reducible rfl)
          simp only [Act.put, List.setIfInBounds_toArray, List.set_cons_zero, List.set_cons_succ]
          refine fin_takeG 12 (v := ?_) rfl (by kernel_rfl) (by kernel_rfl) (by kernel_rfl) (by kernel_rfl) (fun _ _ _ h => h) (by rfl) ?_ qS ?_
          rotate_left
          · intro W hW
            go_simp
            (try with_reducible rfl)
          simp only [Act.put, List.setIfInBounds_toArray, List.set_cons_zero, List.set_cons_succ]
          refine fin_take 13 (v := ?_) rfl (by kernel_rfl) (by kernel_rfl) (by kernel_rfl) (by kernel_rfl) (fun _ _ _ h => h) rfl ?_ qS ?_
          rotate_left
          · intro W hW
            go_simp
            (try with_reducible rfl)
          simp only [Act.put, List.setIfInBounds_toArray, List.set_cons_zero, List.set_cons_succ]
          refine fin_take 14 (v := ?_) rfl (by kernel_rfl) (by kernel_rfl) (by kernel_rfl) (by kernel_rfl) (fun _ _ _ h => h) rfl ?_ qS ?_
          rotate_left
          · intro W hW
            go_simp
            (try with_reducible rfl)
          simp only [Act.put, List.setIfInBounds_toArray, List.set_cons_zero, List.set_cons_succ]
          refine fin_takeG 15 (v := ?_) rfl (by kernel_rfl) (by kernel_rfl) (by kernel_rfl) (by kernel_rfl) (fun _ _ _ h => h) (by rfl) ?_ qS ?_
          rotate_left
          · intro W hW
            go_simp
            (try with_reducible rfl)
          simp only [Act.put, List.setIfInBounds_toArray, List.set_cons_zero, List.set_cons_succ]
          refine fin_takeG 16 (v := ?_) rfl (by kernel_rfl) (by kernel_rfl) (by kernel_rfl) (by kernel_rfl) (fun _ _ _ h => h) (by rfl) ?_ qS ?_
          rotate_left
          · intro W hW
            go_simp
            (try with_reducible rfl)
          simp only [Act.put, List.setIfInBounds_toArray, List.set_cons_zero, List.set_cons_succ]
          refine fin_takeG 17 (v := ?_) rfl (by kernel_rfl) (by kernel_rfl) (by kernel_rfl) (by kernel_rfl) (fun _ _ _ h => h) (by rfl) ?_ qS ?_
          rotate_left
          · intro W hW
            go_simp
            (try with_reducible rfl)
          simp only [Act.put, List.setIfInBounds_toArray, List.set_cons_zero, List.set_cons_succ]
          refine fin_takeG 18 (v := ?_) rfl (by kernel_rfl) (by kernel_rfl) (by kernel_rfl) (by kernel_rfl) (fun _ _ _ h => h) (by rfl) ?_ qS ?_
          rotate_left
          · intro W hW
            go_simp
            (try with_reducible rfl)
          simp only [Act.put, List.setIfInBounds_toArray, List.set_cons_zero, List.set_cons_succ]
          refine fin_takeG 19 (v := ?_) rfl (by kernel_rfl) (by kernel_rfl) (by kernel_rfl) (by kernel_rfl) (fun _ _ _ h => h) (by rfl) ?_ qS ?_
          rotate_left
          · intro W hW
            go_simp
            (try with_reducible rfl)
          simp only [Act.put, List.setIfInBounds_toArray, List.set_cons_zero, List.set_cons_succ]
          refine fin_oneG 20 rfl (by rfl) (by kernel_rfl) (fun K hK => ?_)
          go_simp
          refine (hX _).mono ?_
          rintro e w2 ⟨rfl, rfl⟩
          refine hK.out _ _ (fun _ => qS) ?_
          clear hK
          refine fin_takeG 21 (v := ?_) rfl (by kernel_rfl) (by kernel_rfl) (by kernel_rfl) (by kernel_rfl) (fun _ _ _ h => h) (by rfl) ?_ qS ?_
          rotate_left
          · intro W hW
            go_simp
            (try with_reducible rfl)
          simp only [Act.put, List.setIfInBounds_toArray, List.set_cons_zero, List.set_cons_succ]
          refine fin_take 22 (v := ?_) rfl (by kernel_rfl) (by kernel_rfl) (by kernel_rfl) (by kernel_rfl) (fun _ _ _ h => h) rfl ?_ qS ?_
          rotate_left
          · intro W hW
            go_simp
            (try with_reducible rfl)
          simp only [Act.put, List.setIfInBounds_toArray, List.set_cons_zero, List.set_cons_succ]
          refine fin_done (by kernel_rfl) (NoPanic.normal ?_)
          go_wp2_with fail
          refine (hY _).mono ?_
          rintro e w3 ⟨rfl, rfl⟩
          go_wp2
          go_roundg (L.length - (n + 1))
          case measure => omega
          case rel => exact ⟨n + 1, hlt, rfl, by congr 1, by rw [HM2.out]; rfl, HO.out.drew⟩
    · obtain rfl : n = L.length := by omega
      have hm : m = cnt64 (a &&& b) := by rw [HM.out, List.take_length]; exact HCN.out
      have f1 := cnt_or a b
      have f2 := cnt_not a b hb
      have f3 := with_less a i
      have hor := u64_or_nat a b ha hb
      have han := u64_and_nat a b ha hb
      have hno := u64_andNot_nat a b ha hb
      have l1 : a ||| b < 18446744073709551616 := Nat.or_lt_two_pow (n := 64) ha hb
      have l2 : a &&& b < 18446744073709551616 := Nat.lt_of_le_of_lt Nat.and_le_left ha
      have l3 : a &&& (18446744073709551615 - b) < 18446744073709551616 := Nat.lt_of_le_of_lt Nat.and_le_left ha
      have c1 := fun W => len_is _ l1 W
      have c2 := fun W => len_is _ l2 W
      have c3 := fun W => len_is _ l3 W
      have c4 := fun W => len_is a ha W
      have c5 := fun W => len_is b hb W
      have c6 := fun W => with_is a i ha W
      have c7 := fun W => less_is a i ha W
      have c8 := fun W => len_is _ (with_lt a i ha) W
      have c9 := fun W => len_is _ (less_lt a i ha) W
      have c10 := fun W => in_is i W
      have g1 := cnt_le (a ||| b)
      have g2 := cnt_le a
      have g3 := cnt_le b
      have g4 := cnt_le (lessI a i)
      have g5 : inI i ≤ 1 := by unfold inI; split <;> omega
      have g6 : cnt64 (lessI a i) + inI i ≤ 65 := by omega
      rw [f3] at c8
      rw [← hm] at c2 f1 f2
      clear hm HM HCN HIN HRI hx hy f3
      generalize cnt64 (a ||| b) = n1 at *
      generalize cnt64 (a &&& (18446744073709551615 - b)) = n3 at *
      generalize a ||| b = ab at *
      generalize a &&& (18446744073709551615 - b) = an at *
      generalize a &&& b = aa at *
      generalize cnt64 a = n4 at *
      generalize cnt64 b = n5 at *
      generalize cnt64 (lessI a i) = n6 at *
      generalize withI a i = wi at *
      generalize lessI a i = li at *
      generalize inI i = ii at *
      have e1 : ((n1 : Int) == (n4 : Int) + (n5 : Int) - (m : Int)) = true := by rw [beq_iff_eq]; omega
      have e2 : ((n3 : Int) == (n4 : Int) - (m : Int)) = true := by rw [beq_iff_eq]; omega
      have e3 : (((n6 + ii : Nat) : Int) - (n6 : Int) == (ii : Int)) = true := by rw [beq_iff_eq]; omega
      clear f1 f2
      generalize n6 + ii = n7 at *
      go_wp2_with fail
      refine (c1 _).mono ?_
      rintro _ _ ⟨rfl, rfl⟩
      go_wp2_with fail
      refine (c4 _).mono ?_
      rintro _ _ ⟨rfl, rfl⟩
      go_wp2_with fail
      refine (c5 _).mono ?_
      rintro _ _ ⟨rfl, rfl⟩
      go_wp2_with fail
      refine (c2 _).mono ?_
      rintro _ _ ⟨rfl, rfl⟩
      go_wp2_with fail
      refine (c3 _).mono ?_
      rintro _ _ ⟨rfl, rfl⟩
      go_wp2_with fail
      refine (c4 _).mono ?_
      rintro _ _ ⟨rfl, rfl⟩
      go_wp2_with fail
      refine (c6 _).mono ?_
      rintro _ _ ⟨rfl, rfl⟩
      go_wp2_with fail
      refine (c8 _).mono ?_
      rintro _ _ ⟨rfl, rfl⟩
      go_wp2_with fail
      refine (c7 _).mono ?_
      rintro _ _ ⟨rfl, rfl⟩
      go_wp2_with fail
      refine (c9 _).mono ?_
      rintro _ _ ⟨rfl, rfl⟩
      go_wp2_with fail
      refine (c10 _).mono ?_
      rintro _ _ ⟨rfl, rfl⟩
      go_wp2_with fail
      refine (hA _ (k1.trans HO.out)).mono ?_
      rintro _ w5 ⟨rfl, k5⟩
      go_wp2
      go_ret
      exact ⟨rfl, (k1.trans HO.out).trans k5⟩
end Go.Proofs.YtpfhfabhjnmlfaaDoor
