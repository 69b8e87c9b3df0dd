/- OrderCounts, walked. -/
import Derived.Test.YtohngifmbnlmmabDoorOrdR
import Derived.Test.YtohngifmbnlmmabDoorAwake9
namespace Go.Proofs.YtohngifmbnlmmabDoor
open Go.RowKit

/-- The law's chain behind so many rounds. -/
def chn (m : Nat) : Nat → RelT
  | 0 => newR m
  | 1 => newR m
  | i + 2 => addR (chn m (i + 1)) (i : Int) ((i + 1 : Nat) : Int)
theorem chn_wf (m : Nat) : ∀ i, Wf (chn m i)
  | 0 => new_wf _
  | 1 => new_wf _
  | i + 2 => add_wf (chn_wf m (i + 1)) _ _
def chF (m : Nat) : Option (List Nat) := greedyP (needL (chn m m)).length (DL2D (needL (chn m m))) (bestN []) (needL (chn m m)).length 0
theorem ch_first : ∀ m, m < 8 → ∃ l, chF m = some l ∧ l.length = m := by
  intro m hm
  have : (chF m).map List.length = some m := by
    match m, hm with
    | 0, _ => decide +kernel
    | 1, _ => decide +kernel
    | 2, _ => decide +kernel
    | 3, _ => decide +kernel
    | 4, _ => decide +kernel
    | 5, _ => decide +kernel
    | 6, _ => decide +kernel
    | 7, _ => decide +kernel
    | m + 8, h => omega
  obtain ⟨l, h1, h2⟩ := Option.map_eq_some_iff.1 this
  exact ⟨l, h1, h2⟩
theorem ch_one : ∀ m, m < 8 → (ordsR (chn m m)).length = 1 := by
  intro m hm
  match m, hm with
  | 0, _ => decide +kernel
  | 1, _ => decide +kernel
  | 2, _ => decide +kernel
  | 3, _ => decide +kernel
  | 4, _ => decide +kernel
  | 5, _ => decide +kernel
  | 6, _ => decide +kernel
  | 7, _ => decide +kernel
  | m + 8, h => omega
def map0N (m : Nat) : Nat := if m = 0 then 1 else 0
theorem ch_self : ∀ m, m < 8 → (ordsR (addR (chn m m) 0 0)).length = map0N m := by
  intro m hm
  match m, hm with
  | 0, _ => decide +kernel
  | 1, _ => decide +kernel
  | 2, _ => decide +kernel
  | 3, _ => decide +kernel
  | 4, _ => decide +kernel
  | 5, _ => decide +kernel
  | 6, _ => decide +kernel
  | 7, _ => decide +kernel
  | m + 8, h => omega
theorem fact_le : ∀ i, i < 8 → 1 ≤ factN i ∧ factN i ≤ 5040 := by decide +kernel
theorem map0_is (m : Nat) (w : World) : Calls Tryd.prog 8 #[.int .i64 m] w fun e w' => e = .returned (.int .i64 (map0N m)) ∧ w' = w := by
  by_cases h : m = 0
  · subst h
    have e : map0N 0 = 1 := rfl
    rw [e]
    go_enter Tryd.func8, Tryd.ntmps8
    go_wp2
    go_ret
    exact ⟨rfl, rfl⟩
  · have e : map0N m = 0 := by unfold map0N; rw [if_neg h]
    rw [e]
    have hb : ((m : Int) == 0) = false := by simpa using (by omega : ¬ (m : Int) = 0)
    go_enter Tryd.func8, Tryd.ntmps8
    go_wp2
    go_ret
    exact ⟨rfl, rfl⟩
set_option maxHeartbeats 4000000 in
set_option maxRecDepth 8000 in
theorem counts_core (n : Int) (m : Nat) (hm : m < 8) (hb : bits .and .i64 n 7 = (m : Int)) (w : World) (hd : Dt w) :
    Calls Tryd.prog 3 #[.int .i64 n] w fun e w' => e = .returned (.bool true) ∧ On w w' := by
  obtain ⟨hz, _⟩ := zero_of_info rel_info
  have hN := fun W => new_is (m : Int) W
  have hw := chn_wf m
  have hA := fun (i : Nat) W => add_is (chn m (i + 1)) (hw (i + 1)).wr (i : Int) ((i + 1 : Nat) : Int) W
  obtain ⟨l, hl, hll⟩ := ch_first m hm
  have hF : ∀ W, On w W → Calls Tryd.prog 6 #[.agg (relA (chn m m))] W (GrPost (some l) W) := fun W k => by
    have := frst_is (chn m m) (hw m) W (hd.on k)
    unfold chF at hl
    rwa [hl] at this
  have hFa : ∀ W, On w W → Calls Tryd.prog 6 #[.agg (relA (chn m m))] W fun e w' => ∃ g c, e = .returned (.tuple #[.slice (some ⟨g, 0, none⟩) m c, .bool true]) ∧ On W w' := fun W k => (hF W k).mono fun e w' h => by
    obtain ⟨g, c, h1, _, _, _, h2⟩ := h
    exact ⟨g, c, by rw [h1, hll], h2⟩
  have hC1 := fun W (k : On w W) => count_is (newR (m : Int)) (new_wf _) 100000 W (hd.on k)
  have hC2 := fun W (k : On w W) => count_is (chn m m) (hw m) 10 W (hd.on k)
  have hC3 := fun W (k : On w W) => count_is (newR (m : Int)) (new_wf _) ((factN m : Nat) - 1 : Int) W (hd.on k)
  have hC4 := fun W (k : On w W) => count_is (addR (chn m m) 0 0) (add_wf (hw m) 0 0) 9 W (hd.on k)
  obtain ⟨f1, f2⟩ := fact_le m hm
  have e1 : ((min (boundI 100000) (ordsR (newR (m : Int))).length : Nat) : Int) = (factN m : Nat) := by rw [ords_new m (by omega)]; unfold boundI; omega
  have e2 : min (boundI 10) (ordsR (chn m m)).length = 1 := by rw [ch_one m hm]; decide
  have e3 : ((min (boundI ((factN m : Nat) - 1 : Int)) (ordsR (newR (m : Int))).length : Nat) : Int) = (factN m : Nat) - 1 := by rw [ords_new m (by omega)]; unfold boundI; omega
  have e4 : min (boundI 9) (ordsR (addR (chn m m) 0 0)).length = map0N m := by rw [ch_self m hm]; unfold boundI map0N; split <;> decide
  rw [e1] at hC1
  rw [e2] at hC2
  rw [e3] at hC3
  rw [e4] at hC4
  have hB := fun W => add_is (chn m m) (hw m).wr 0 0 W
  have hM := fun W => map0_is m W
  have hAw := fun W (k : On w W) => awake9_is W (hd.on k)
  have hfb : ∀ i, i < 8 → ((factN i : Nat) : Int) ≤ 5040 := fun i hi => by have := (fact_le i hi).2; omega
  have hc2 : ∀ i, chn m (i + 2) = addR (chn m (i + 1)) (i : Int) ((i + 1 : Nat) : Int) := fun _ => rfl
  have HC2 : Hid (∀ i, chn m (i + 2) = addR (chn m (i + 1)) (i : Int) ((i + 1 : Nat) : Int)) := hc2
  have HA : Hid (∀ (i : Nat) W, Calls Tryd.prog 5 #[.agg (relA (chn m (i + 1))), .int .i64 (i : Int), .int .i64 ((i + 1 : Nat) : Int)] W fun e w' => e = .returned (.agg (relA (chn m (i + 2)))) ∧ On W w') := hA
  have HFB : Hid (∀ i, i < 8 → ((factN i : Nat) : Int) ≤ 5040) := hfb
  have h01 : newR (m : Int) = chn m 0 := rfl
  have h11 : chn m 1 = chn m 0 := rfl
  have H11 : Hid (chn m 1 = chn m 0) := h11
  have HFS : Hid (∀ i, factN (i + 1) = (i + 1) * factN i) := fun _ => rfl
  clear hF hA hc2 hfb hw hl hll e1 e2 e3 e4 hd h11
  generalize addR (chn m m) 0 0 = X at *
  generalize map0N m = q at *
  rw [h01] at hN hC1 hC3
  clear h01
  generalize chn m = ch at *
  go_enter Tryd.func3, Tryd.ntmps3
  go_wp2_with fail
  refine (hN _).mono ?_
  rintro _ w1 ⟨rfl, k1⟩
  have B3 := Bk.new w1 (relA zeroR) 26
  have hs1 := k1.size
  obtain ⟨W, hW⟩ : ∃ W, W = (w1.alloc (.cells (relA zeroR) 26)).setRow w1.heap.size (relA (ch 0)) := ⟨_, rfl⟩
  have C3 : Bk W w1.heap.size (relA (ch 0)) := by rw [hW]; exact B3.row _
  have KC : On w W := by rw [hW]; exact (k1.alloc _).row hs1 _
  have HW : Hid (W = (w1.alloc (.cells (relA zeroR) 26)).setRow w1.heap.size (relA (ch 0))) := hW
  clear hW
  go_wp2_with (first | (refine wpList_st rfl rfl rfl rfl B3 ?_; rw [← HW.out]; clear B3 HW))
  go_loopg [3, 5] m (fun gg s3 s5 wr => ∃ i : Nat, i ≤ m ∧ gg = m - i ∧ s5 = .int .i64 i ∧ s3 = .int .i64 (factN i : Nat) ∧ Hid (On w wr) ∧ Hid (Bk wr w1.heap.size (relA (ch i))))
  case atStart => exact ⟨0, Nat.zero_le _, rfl, rfl, rfl, KC, C3⟩
  case round =>
    clear KC C3
    obtain ⟨i, hi, hk, rfl, rfl, HO, HB⟩ := hrel
    rcases Nat.lt_or_ge i m with hlt | hge
    · have hf := HFB.out (i + 1) (by omega)
      have hfs := HFS.out i
      have hmul : IntKind.i64.wrap (((factN i : Nat) : Int) * ((i : Int) + 1)) = ((factN (i + 1) : Nat) : Int) := by
        have e : ((factN (i + 1) : Nat) : Int) = ((factN i : Nat) : Int) * ((i : Int) + 1) := by rw [hfs]; push_cast; rw [Int.mul_comm]
        rw [← e, IntKind.wrap_i64]
        omega
      have hwi : IntKind.i64.wrap ((i : Int) + 1) = (i : Int) + 1 := by rw [IntKind.wrap_i64]; omega
      clear hfs hf
      rcases Nat.eq_zero_or_pos i with h0 | h0
      · subst h0
        have HB2 : Hid (Bk wr w1.heap.size (relA (ch (0 + 1)))) := by rw [H11.out]; exact HB
        clear HB
        have HM1 : Hid (wrap64 ((factN 0 : Nat) : Int) = ((factN (0 + 1) : Nat) : Int)) := by show _ = _; decide +kernel
        clear hmul
        generalize factN 0 = F0 at *
        go_wp2
        go_roundg (m - (0 + 1))
        case measure => omega
        case rel => exact ⟨0 + 1, hlt, rfl, by congr 1, congrArg (Value.int .i64) HM1.out, HO, HB2⟩
      · obtain ⟨j, hj⟩ : ∃ j, i = j + 1 := ⟨i - 1, by omega⟩
        subst hj
        have hAj := HA.out j
        have hgt : decide (0 < j + 1) = true := by simp
        have hw3 : IntKind.i64.wrap (((j + 1 : Nat) : Int) - 1) = (j : Int) := by rw [IntKind.wrap_i64]; omega
        have HM1 : Hid (wrap64 (((factN (j + 1) : Nat) : Int) * ((j : Int) + 1 + 1)) = ((factN (j + 1 + 1) : Nat) : Int)) := by
          have e9 : ((j + 1 : Nat) : Int) + 1 = (j : Int) + 1 + 1 := by omega
          rw [e9, IntKind.wrap_i64] at hmul
          show wrap64 _ = _
          unfold wrap64
          exact hmul
        clear hmul
        generalize factN (j + 1) = F0 at *
        have hB0 := HB.out
        go_wp2_with (refine wpList_ld rfl rfl rfl hB0 ?_)
        refine (hAj _).mono ?_
        rintro _ w2 ⟨rfl, k2⟩
        have hB2 := hB0.on k2
        have HO2 : Hid (On w (w2.setRow w1.heap.size (relA (ch (j + 2))))) := (HO.out.trans k2).row hs1 _
        have HB3 : Hid (Bk (w2.setRow w1.heap.size (relA (ch (j + 2)))) w1.heap.size (relA (ch (j + 1 + 1)))) := hB2.row _
        clear hB0 HB HO hAj
        go_wp2_with (refine wpList_st rfl rfl rfl rfl hB2 ?_)
        go_roundg (m - (j + 1 + 1))
        case measure => omega
        case rel => exact ⟨j + 1 + 1, hlt, rfl, by congr 1, congrArg (Value.int .i64) HM1.out, HO2, HB3⟩
    · obtain rfl : m = i := by omega
      have b0 := HB.out
      have hw4 : IntKind.i64.wrap (((factN m : Nat) : Int) - 1) = ((factN m : Nat) : Int) - 1 := by rw [IntKind.wrap_i64]; omega
      generalize factN m = F at *
      clear HFS HFB HC2 HA H11
      go_wp2_with (refine wpList_ld rfl rfl rfl b0 ?_)
      refine (hFa _ HO.out).mono ?_
      rintro _ w2 ⟨g, c, rfl, k2⟩
      have K2 := HO.out.trans k2
      have b2 := b0.on k2
      go_wp2_with fail
      refine (hN _).mono ?_
      rintro _ w3 ⟨rfl, k3⟩
      have K3 := K2.trans k3
      have b3 := b2.on k3
      go_wp2_with fail
      refine (hC1 _ K3).mono ?_
      rintro _ w4 ⟨rfl, k4⟩
      have K4 := K3.trans k4
      have b4 := b3.on k4
      go_wp2_with (refine wpList_ldG (by rfl) rfl rfl b4 ?_)
      refine (hC2 _ K4).mono ?_
      rintro _ w5 ⟨rfl, k5⟩
      have K5 := K4.trans k5
      have b5 := b4.on k5
      go_wp2_with fail
      refine (hN _).mono ?_
      rintro _ w6 ⟨rfl, k6⟩
      have K6 := K5.trans k6
      have b6 := b5.on k6
      go_wp2_with fail
      refine (hC3 _ K6).mono ?_
      rintro _ w7 ⟨rfl, k7⟩
      have K7 := K6.trans k7
      have b7 := b6.on k7
      go_wp2_with (refine wpList_ldG (by rfl) rfl rfl b7 ?_)
      refine (hB _).mono ?_
      rintro _ w8 ⟨rfl, k8⟩
      have K8 := K7.trans k8
      go_wp2_with fail
      refine (hC4 _ K8).mono ?_
      rintro _ w9 ⟨rfl, k9⟩
      have K9 := K8.trans k9
      go_wp2_with fail
      refine (hM _).mono ?_
      rintro _ wA ⟨rfl, hwA⟩
      subst wA
      go_wp2_with fail
      refine (hAw _ K9).mono ?_
      rintro _ wB ⟨rfl, kB⟩
      go_wp2
      go_ret
      exact ⟨rfl, K9.trans kB⟩
theorem orderCounts_walk (n : Int) (w : World) (hd : Dt w) :
    Calls Tryd.prog 3 #[.int .i64 n] w fun e w' => e = .returned (.bool true) ∧ On w w' := by
  obtain ⟨k, hk, hb, _⟩ := i64_low n 3 7 (by decide) (by decide)
  exact counts_core n k (by omega) hb w hd
end Go.Proofs.YtohngifmbnlmmabDoor
