/- RelKeeps, walked. -/
import Derived.Test.YthbiaojefmdcmaaDoorRelR
import Derived.Test.YthbiaojefmdcmaaDoorRelQ
import Derived.Test.YthbiaojefmdcmaaDoorAwake8
namespace Go.Proofs.YthbiaojefmdcmaaDoor
open Go.RowKit

theorem prs_mem (r : RelT) (p : Int × Int) (h : p ∈ prsR r) : ∃ a b : Nat, p = ((a : Int), (b : Int)) ∧ a < r.n ∧ b < 64 ∧ H r a b = true := by
  unfold prsR prsN at h
  obtain ⟨a, ha, h⟩ := List.mem_flatMap.1 h
  unfold rowP at h
  obtain ⟨b, hb, rfl⟩ := List.mem_map.1 h
  obtain ⟨h1, h2⟩ := (mem64 _ _).1 hb
  exact ⟨a, b, rfl, by simpa using ha, h1, h2⟩
section
variable {r : RelT} (hr : Wf r)
include hr
theorem keep_keep (s t : Nat) : keepR r (s &&& t) = keepR (keepR r s) t := by
  refine rel_ext (by rw [keep_n hr, keep_n (keep_wf hr s), keep_n hr]) fun a b => ?_
  rw [keep_H hr, keep_H (keep_wf hr s), keep_H hr, Nat.testBit_and, Nat.testBit_and]
  cases H r a b <;> cases s.testBit a <;> cases s.testBit b <;> cases t.testBit a <;> cases t.testBit b <;> rfl
theorem keep_upto (m : Nat) (hm : r.n = m) : keepR r (uptoI m) = r := by
  refine rel_ext (keep_n hr _) fun a b => ?_
  have := hr.n
  rw [keep_H hr, upto_bit _ _ (by omega), upto_bit _ _ (by omega)]
  cases h : H r a b with
  | false => rfl
  | true =>
    have := hr.b a b h
    have h1 : a < m := by omega
    have h2 : b < m := by omega
    simp [h1, h2]
theorem union_keep (s : Nat) : unionR (keepR r s) r = r := by
  refine rel_ext (by rw [union_n, keep_n hr]; omega) fun a b => ?_
  rw [union_H (keep_wf hr s) hr, keep_H hr, keep_n hr]
  cases h : H r a b with
  | false => simp
  | true =>
    have := hr.b a b h
    have h1 : a < min r.n r.n := by omega
    have h2 : b < min r.n r.n := by omega
    rw [decide_eq_true h1, decide_eq_true h2]
    simp
theorem keep_none (m : Nat) (hm : r.n = m) : keepR r 0 = newR m := by
  have := hr.n
  refine rel_ext (by rw [keep_n hr, new_n]; omega) fun a b => ?_
  rw [keep_H hr, new_H, Nat.zero_testBit]
  simp
end
theorem bit_zero (x b : Nat) (hx : x < 18446744073709551616) (h : x.testBit b = true) : (bits .and .u64 ((x : Int) / 2 ^ b) 1 == 0) = false := by
  have e : (x : Int) / 2 ^ b = ((x / 2 ^ b : Nat) : Int) := by simp
  have h1 : bits .and .u64 ((x / 2 ^ b : Nat) : Int) ((1 : Nat) : Int) = _ := u64_and_nat (x / 2 ^ b) 1 (Nat.lt_of_le_of_lt (Nat.div_le_self _ _) hx) (by decide)
  have h2 : (((1 : Nat) : Int)) = 1 := rfl
  rw [h2] at h1
  rw [Nat.testBit_eq_decide_div_mod_eq, decide_eq_true_eq] at h
  rw [e, h1, Nat.and_one_is_mod, h]
  rfl
set_option maxHeartbeats 8000000 in
set_option maxRecDepth 8000 in
theorem relKeeps_core (n p : Int) (m : Nat) (hp : (if n < 0 then (0 : Int) else n) = p) (hpc : (if 64 < p then (64 : Int) else p) = (m : Int)) (hm6 : m ≤ 64) (a1 : Option Addr) (L1 : List (Int × Int)) (c1 : Nat) (s t : Nat) (w : World)
    (h1 : Rd pairC 2 w (.slice a1 L1.length c1) L1) (hs : s < 18446744073709551616) (ht : t < 18446744073709551616) (hd : Dt w) :
    Calls Tryd.prog 3 #[.int .i64 n, .slice a1 L1.length c1, .int .u64 s, .int .u64 t] w fun e w' => e = .returned (.bool true) ∧ On w w' := by
  obtain ⟨hz, _⟩ := zero_of_info rel_info
  obtain ⟨hzw, _⟩ := zero_of_info rel_infow
  have hO1 := fun W (k : On w W) => pairs_is m L1 _ W (h1.on k)
  have hr := of_wf m L1
  have hrn : (ofR m L1).n = m := by rw [of_n]; omega
  clear h1
  generalize ofR m L1 = r at *
  have hst : bits .and .u64 (s : Int) (t : Int) = ((s &&& t : Nat) : Int) := u64_and_nat s t hs ht
  have hk := keep_wf hr s
  have x1 := fun W => keep_is r hr.wr s hs W
  have x2 := fun W (kk : On w W) => prs_is (keepR r s) hk.wr W (hd.on kk)
  have x3 := fun W => keep_is (keepR r s) hk.wr t ht W
  have x4 := fun W => keep_is r hr.wr (s &&& t) (and_lt64 _ hs) W
  have x5 : ∀ W, Calls Tryd.prog 9 #[.int .i64 m] W fun e w' => e = .returned (.int .u64 (uptoI m)) ∧ On W w' := fun W => (upto_is m W).mono fun e w' h => ⟨h.1, h.2 ▸ On.refl _⟩
  have x6 := fun W => keep_is r hr.wr (uptoI m) (upto_lt _) W
  have x7 := fun W => union_is (keepR r s) r hk.wr hr.wr W
  have x8 := fun W => new_is m W
  have x9 := fun W => keep_is r hr.wr 0 (by decide) W
  rw [keep_keep hr] at x4
  rw [keep_upto hr m hrn] at x6
  rw [union_keep hr] at x7
  rw [keep_none hr m hrn] at x9
  have HM : Hid (∀ q ∈ prsR (keepR r s), ∃ a b : Nat, q = ((a : Int), (b : Int)) ∧ a < 64 ∧ b < 64 ∧ s.testBit a = true ∧ s.testBit b = true ∧ hasR r a b = true) := fun q hq => by
    obtain ⟨a, b, rfl, h1, h2, h3⟩ := prs_mem _ q hq
    rw [keep_H hr] at h3
    simp only [Bool.and_eq_true] at h3
    rw [keep_n hr] at h1
    exact ⟨a, b, rfl, by omega, h2, h3.1.2, h3.2, by rw [has_nat2 hr]; exact h3.1.1⟩
  have hH := fun (a b : Nat) W => rhas_is r hr.wr a b W
  have xA := fun W => awake8_is W
  have heq := fun (X : RelT) W => eqRel_same W X
  have hPl : (prsR (keepR r s)).length ≤ 9223372036854775807 := by have := prs_len (keepR r s) (keepR r s).n; have := hk.n; unfold prsR; omega
  clear hr hrn hk hd
  generalize prsR (keepR r s) = P at *
  generalize keepR (keepR r s) t = KT at *
  generalize keepR r s = KS at *
  generalize newR m = Z at *
  generalize uptoI m = u at *
  generalize (s &&& t) = st at *
  go_enter Tryd.func3, Tryd.ntmps3
  go_wp2_with (fail)
  refine (hO1 _ (On.refl _)).mono ?_
  rintro _ w1 ⟨rfl, k1⟩
  have K1 := (On.refl w).trans k1
  have B1a := (Bk.new w1 (relA zeroR) 27).alloc (.cells (relA zeroR) 30)
  have B1b : Bk ((w1.alloc (.cells (relA zeroR) 27)).alloc (.cells (relA zeroR) 30)) (w1.heap.size + 1) (relA zeroR) := by
    have := Bk.new (w1.alloc (.cells (relA zeroR) 27)) (relA zeroR) 30
    rwa [World.size_alloc] at this
  have B1c := B1b.rowFar (N := w1.heap.size) (by omega) (relA r)
  obtain ⟨W1, hW1⟩ : ∃ W1, W1 = (((w1.alloc (.cells (relA zeroR) 27)).alloc (.cells (relA zeroR) 30)).setRow w1.heap.size (relA r)).setRow (w1.heap.size + 1) (relA r) := ⟨_, rfl⟩
  have HW1 : Hid (W1 = (((w1.alloc (.cells (relA zeroR) 27)).alloc (.cells (relA zeroR) 30)).setRow w1.heap.size (relA r)).setRow (w1.heap.size + 1) (relA r)) := hW1
  have B1r : Bk W1 w1.heap.size (relA r) := by rw [hW1]; exact (B1a.row _).rowFar (by omega) _
  have B1w : Bk W1 (w1.heap.size + 1) (relA r) := by rw [hW1]; exact B1c.row _
  have KK1 : On w W1 := by rw [hW1]; exact (((K1.alloc _).alloc _).row K1.size _).row (by have := K1.size; omega) _
  clear hW1
  go_wp2_with (first | (refine wpList_st rfl rfl rfl rfl B1a ?_) | (refine wpList_stw rfl rfl rfl rfl B1c ?_; rw [← HW1.out]; clear HW1 B1a B1b B1c) | refine wpList_ldG (by rfl) rfl rfl B1r ?_)
  refine (x1 _).mono ?_
  rintro _ w3 ⟨rfl, k3⟩
  have K3 := KK1.trans k3
  have B3a := Bk.new w3 (relA zeroR) 27
  have hs3 := (B1r.on k3).lt
  obtain ⟨W3, hW3⟩ : ∃ W3, W3 = (w3.alloc (.cells (relA zeroR) 27)).setRow w3.heap.size (relA KS) := ⟨_, rfl⟩
  have HW3 : Hid (W3 = (w3.alloc (.cells (relA zeroR) 27)).setRow w3.heap.size (relA KS)) := hW3
  have R3 : Bk W3 w1.heap.size (relA r) := by rw [hW3]; exact ((B1r.on k3).alloc _).rowFar (by omega) _
  have C3 : Bk W3 w3.heap.size (relA KS) := by rw [hW3]; exact B3a.row _
  have KK3 : On w W3 := by rw [hW3]; exact (K3.alloc _).row K3.size _
  clear hW3
  go_wp2_with (first | (refine wpList_st rfl rfl rfl rfl B3a ?_; rw [← HW3.out]; clear HW3 B3a) | refine wpList_ldG (by rfl) rfl rfl C3 ?_)
  refine (x2 _ KK3).mono ?_
  rintro _ w4 ⟨pa, pc, rfl, hown, k4⟩
  have HRP : Hid (Rd pairC 2 w4 (.slice pa P.length pc) P) := Rd.own (fun _ => rfl) hown
  have S4 : Bk w4 w1.heap.size (relA r) ∧ Bk w4 w3.heap.size (relA KS) := ⟨R3.on k4, C3.on k4⟩
  have K4 := KK3.trans k4
  clear hown x1 x2 hO1
  go_wp2
  go_loopg [13] P.length (fun gg s13 wr => ∃ i : Nat, i ≤ P.length ∧ gg = P.length - i ∧ s13 = .int .i64 i ∧ Hid (On w wr) ∧ Hid (On w4 wr) ∧ (Bk wr w1.heap.size (relA r) ∧ Bk wr w3.heap.size (relA KS)))
  case atStart => exact ⟨0, Nat.zero_le _, rfl, rfl, K4, On.refl _, S4⟩
  case round =>
    clear S4 K4
    obtain ⟨i, hi, hk, rfl, HO, HO4, SI⟩ := hrel
    rcases Nat.lt_or_ge i P.length with hlt | hge
    · obtain ⟨q, hq⟩ : ∃ q, P[i]? = some q := ⟨_, List.getElem?_eq_getElem hlt⟩
      obtain ⟨a, b, rfl, ha, hb, hsa, hsb, hab⟩ := HM.out q (List.mem_of_getElem? hq)
      obtain ⟨g, off, rfl, hg, u0⟩ := (HRP.out.on HO4.out).at hq
      have hc0 := u0 0 _ rfl
      have hc1 := u0 1 _ rfl
      simp only [Nat.add_zero] at hc0
      have hHab := fun W => hH a b W
      rw [hab] at hHab
      have e1 := bit_zero s a hs hsa
      have e2 := bit_zero s b hs hsb
      clear u0 hq x3 x4 x5 x6 x7 x8 x9 xA heq hH hab hsa hsb
      go_wp2
      have T0 : (Bk wr.drew w1.heap.size (relA r) ∧ Bk wr.drew w3.heap.size (relA KS)) ∧ (wr.drew.cell? ⟨g, off + i * 2, none⟩ = some (.int .i64 a) ∧ wr.drew.cell? ⟨g, off + i * 2 + 1, none⟩ = some (.int .i64 b) ∧ g < wr.drew.heap.size) := ⟨SI, hc0, hc1, hg⟩
      have hon : ∀ W W', (Bk W w1.heap.size (relA r) ∧ Bk W w3.heap.size (relA KS)) ∧ (W.cell? ⟨g, off + i * 2, none⟩ = some (.int .i64 a) ∧ W.cell? ⟨g, off + i * 2 + 1, none⟩ = some (.int .i64 b) ∧ g < W.heap.size) → On W W' → (Bk W' w1.heap.size (relA r) ∧ Bk W' w3.heap.size (relA KS)) ∧ (W'.cell? ⟨g, off + i * 2, none⟩ = some (.int .i64 a) ∧ W'.cell? ⟨g, off + i * 2 + 1, none⟩ = some (.int .i64 b) ∧ g < W'.heap.size) := fun W W' h k => ⟨⟨h.1.1.on k, h.1.2.on k⟩, (k.cell (p := ⟨g, off + i * 2, none⟩) h.2.2.2).trans h.2.1, (k.cell (p := ⟨g, off + i * 2 + 1, none⟩) h.2.2.2).trans h.2.2.1, Nat.lt_of_lt_of_le h.2.2.2 k.size⟩
      have K0 := HO.out.drew
      have KX := HO4.out.drew
      clear hc0 hc1
      refine region_fin (fun W => (Bk W w1.heap.size (relA r) ∧ Bk W w3.heap.size (relA KS)) ∧ (W.cell? ⟨g, off + i * 2, none⟩ = some (.int .i64 a) ∧ W.cell? ⟨g, off + i * 2 + 1, none⟩ = some (.int .i64 b) ∧ g < W.heap.size)) 99 35 (by kernel_rfl) rfl ?_
      refine fin_take 0 (v := ?_) rfl (by kernel_rfl) (by kernel_rfl) (by kernel_rfl) (by kernel_rfl) (fun _ _ _ h => h) rfl ?_ T0 ?_
      rotate_left
      · intro W hW
        go_simp
        (try with_reducible rfl)
      simp only [Act.put, List.setIfInBounds_toArray, List.set_cons_zero, List.set_cons_succ]
      refine fin_take 1 (v := ?_) rfl (by kernel_rfl) (by kernel_rfl) (by kernel_rfl) (by kernel_rfl) (fun _ _ _ h => h) rfl ?_ T0 ?_
      rotate_left
      · intro W hW
        go_simp
        (try with_reducible rfl)
      simp only [Act.put, List.setIfInBounds_toArray, List.set_cons_zero, List.set_cons_succ]
      refine fin_take 2 (v := ?_) rfl (by kernel_rfl) (by kernel_rfl) (by kernel_rfl) (by kernel_rfl) (fun _ _ _ h => h) rfl ?_ T0 ?_
      rotate_left
      · intro W hW
        go_simp
        (try with_reducible rfl)
      simp only [Act.put, List.setIfInBounds_toArray, List.set_cons_zero, List.set_cons_succ]
      refine fin_take 3 (v := ?_) rfl (by kernel_rfl) (by kernel_rfl) (by kernel_rfl) (by kernel_rfl) (fun _ _ _ h => h) rfl ?_ T0 ?_
      rotate_left
      · intro W hW
        go_simp
        (try with_reducible rfl)
      simp only [Act.put, List.setIfInBounds_toArray, List.set_cons_zero, List.set_cons_succ]
      refine fin_take 4 (v := ?_) rfl (by kernel_rfl) (by kernel_rfl) (by kernel_rfl) (by kernel_rfl) (fun _ _ _ h => h) rfl ?_ T0 ?_
      rotate_left
      · intro W hW
        go_simp
        (try with_reducible rfl)
      simp only [Act.put, List.setIfInBounds_toArray, List.set_cons_zero, List.set_cons_succ]
      refine fin_take 5 (v := ?_) rfl (by kernel_rfl) (by kernel_rfl) (by kernel_rfl) (by kernel_rfl) (fun _ _ _ h => h) rfl ?_ T0 ?_
      rotate_left
      · intro W hW
        have hcl := hW.2.1
        have hcl2 := hW.2.2.1
        have hll := hW.2.2.2
        go_simp
        (try with_reducible rfl)
      simp only [Act.put, List.setIfInBounds_toArray, List.set_cons_zero, List.set_cons_succ]
      refine fin_take 6 (v := ?_) rfl (by kernel_rfl) (by kernel_rfl) (by kernel_rfl) (by kernel_rfl) (fun _ _ _ h => h) rfl ?_ T0 ?_
      rotate_left
      · intro W hW
        go_simp
        (try with_reducible rfl)
      simp only [Act.put, List.setIfInBounds_toArray, List.set_cons_zero, List.set_cons_succ]
      refine fin_take 7 (v := ?_) rfl (by kernel_rfl) (by kernel_rfl) (by kernel_rfl) (by kernel_rfl) (fun _ _ _ h => h) rfl ?_ T0 ?_
      rotate_left
      · intro W hW
        go_simp
        (try with_reducible rfl)
      simp only [Act.put, List.setIfInBounds_toArray, List.set_cons_zero, List.set_cons_succ]
      refine fin_take 8 (v := ?_) rfl (by kernel_rfl) (by kernel_rfl) (by kernel_rfl) (by kernel_rfl) (fun _ _ _ h => h) rfl ?_ T0 ?_
      rotate_left
      · intro W hW
        go_simp
        (try with_reducible rfl)
      simp only [Act.put, List.setIfInBounds_toArray, List.set_cons_zero, List.set_cons_succ]
      refine fin_take 9 (v := ?_) rfl (by kernel_rfl) (by kernel_rfl) (by kernel_rfl) (by kernel_rfl) (fun _ _ _ h => h) rfl ?_ T0 ?_
      rotate_left
      · intro W hW
        go_simp
        (try with_reducible rfl)
      simp only [Act.put, List.setIfInBounds_toArray, List.set_cons_zero, List.set_cons_succ]
      refine fin_takeG 10 (v := ?_) rfl (by kernel_rfl) (by kernel_rfl) (by kernel_rfl) (by kernel_rfl) (fun _ _ _ h => h) (by rfl) ?_ T0 ?_
      rotate_left
      · intro W hW
        go_simp
        (try with_reducible rfl)
      simp only [Act.put, List.setIfInBounds_toArray, List.set_cons_zero, List.set_cons_succ]
      refine fin_takeG 11 (v := ?_) rfl (by kernel_rfl) (by kernel_rfl) (by kernel_rfl) (by kernel_rfl) (fun _ _ _ h => h) (by rfl) ?_ T0 ?_
      rotate_left
      · intro W hW
        go_simp
        (try with_reducible rfl)
      simp only [Act.put, List.setIfInBounds_toArray, List.set_cons_zero, List.set_cons_succ]
      refine fin_takeG 12 (v := ?_) rfl (by kernel_rfl) (by kernel_rfl) (by kernel_rfl) (by kernel_rfl) (fun _ _ _ h => h) (by rfl) ?_ T0 ?_
      rotate_left
      · intro W hW
        go_simp
        (try with_reducible rfl)
      simp only [Act.put, List.setIfInBounds_toArray, List.set_cons_zero, List.set_cons_succ]
      refine fin_takeG 13 (v := ?_) rfl (by kernel_rfl) (by kernel_rfl) (by kernel_rfl) (by kernel_rfl) (fun _ _ _ h => h) (by rfl) ?_ T0 ?_
      rotate_left
      · intro W hW
        go_simp
        (try with_reducible rfl)
      simp only [Act.put, List.setIfInBounds_toArray, List.set_cons_zero, List.set_cons_succ]
      refine fin_takeG 14 (v := ?_) rfl (by kernel_rfl) (by kernel_rfl) (by kernel_rfl) (by kernel_rfl) (fun _ _ _ h => h) (by rfl) ?_ T0 ?_
      rotate_left
      · intro W hW
        go_simp
        (try with_reducible rfl)
      simp only [Act.put, List.setIfInBounds_toArray, List.set_cons_zero, List.set_cons_succ]
      refine fin_takeG 15 (v := ?_) rfl (by kernel_rfl) (by kernel_rfl) (by kernel_rfl) (by kernel_rfl) (fun _ _ _ h => h) (by rfl) ?_ T0 ?_
      rotate_left
      · intro W hW
        have hcl := hW.2.1
        have hcl2 := hW.2.2.1
        have hll := hW.2.2.2
        go_simp
        (try with_reducible rfl)
      simp only [Act.put, List.setIfInBounds_toArray, List.set_cons_zero, List.set_cons_succ]
      refine fin_takeG 16 (v := ?_) rfl (by kernel_rfl) (by kernel_rfl) (by kernel_rfl) (by kernel_rfl) (fun _ _ _ h => h) (by rfl) ?_ T0 ?_
      rotate_left
      · intro W hW
        go_simp
        (try with_reducible rfl)
      simp only [Act.put, List.setIfInBounds_toArray, List.set_cons_zero, List.set_cons_succ]
      refine fin_takeG 17 (v := ?_) rfl (by kernel_rfl) (by kernel_rfl) (by kernel_rfl) (by kernel_rfl) (fun _ _ _ h => h) (by rfl) ?_ T0 ?_
      rotate_left
      · intro W hW
        go_simp
        (try with_reducible rfl)
      simp only [Act.put, List.setIfInBounds_toArray, List.set_cons_zero, List.set_cons_succ]
      refine fin_takeG 18 (v := ?_) rfl (by kernel_rfl) (by kernel_rfl) (by kernel_rfl) (by kernel_rfl) (fun _ _ _ h => h) (by rfl) ?_ T0 ?_
      rotate_left
      · intro W hW
        go_simp
        (try with_reducible rfl)
      simp only [Act.put, List.setIfInBounds_toArray, List.set_cons_zero, List.set_cons_succ]
      refine fin_take 19 (v := ?_) rfl (by kernel_rfl) (by kernel_rfl) (by kernel_rfl) (by kernel_rfl) (fun _ _ _ h => h) rfl ?_ T0 ?_
      rotate_left
      · intro W hW
        go_simp
        (try with_reducible rfl)
      simp only [Act.put, List.setIfInBounds_toArray, List.set_cons_zero, List.set_cons_succ]
      refine fin_take 20 (v := ?_) rfl (by kernel_rfl) (by kernel_rfl) (by kernel_rfl) (by kernel_rfl) (fun _ _ _ h => h) rfl ?_ T0 ?_
      rotate_left
      · intro W hW
        go_simp
        (try with_reducible rfl)
      simp only [Act.put, List.setIfInBounds_toArray, List.set_cons_zero, List.set_cons_succ]
      refine fin_takeG 21 (v := .agg (relA r)) rfl (by kernel_rfl) (by kernel_rfl) (by kernel_rfl) (by kernel_rfl) (fun _ _ _ h => h) (by rfl) (fun W hW => exec_ld rfl rfl (hW.1.1)) T0 ?_
      simp only [Act.put, List.setIfInBounds_toArray, List.set_cons_zero, List.set_cons_succ]
      refine fin_takeG 22 (v := ?_) rfl (by kernel_rfl) (by kernel_rfl) (by kernel_rfl) (by kernel_rfl) (fun _ _ _ h => h) (by rfl) ?_ T0 ?_
      rotate_left
      · intro W hW
        go_simp
        (try with_reducible rfl)
      simp only [Act.put, List.setIfInBounds_toArray, List.set_cons_zero, List.set_cons_succ]
      refine fin_takeG 23 (v := ?_) rfl (by kernel_rfl) (by kernel_rfl) (by kernel_rfl) (by kernel_rfl) (fun _ _ _ h => h) (by rfl) ?_ T0 ?_
      rotate_left
      · intro W hW
        go_simp
        (try with_reducible rfl)
      simp only [Act.put, List.setIfInBounds_toArray, List.set_cons_zero, List.set_cons_succ]
      refine fin_takeG 24 (v := ?_) rfl (by kernel_rfl) (by kernel_rfl) (by kernel_rfl) (by kernel_rfl) (fun _ _ _ h => h) (by rfl) ?_ T0 ?_
      rotate_left
      · intro W hW
        go_simp
        (try with_reducible rfl)
      simp only [Act.put, List.setIfInBounds_toArray, List.set_cons_zero, List.set_cons_succ]
      refine fin_takeG 25 (v := ?_) rfl (by kernel_rfl) (by kernel_rfl) (by kernel_rfl) (by kernel_rfl) (fun _ _ _ h => h) (by rfl) ?_ T0 ?_
      rotate_left
      · intro W hW
        go_simp
        (try with_reducible rfl)
      simp only [Act.put, List.setIfInBounds_toArray, List.set_cons_zero, List.set_cons_succ]
      refine fin_takeG 26 (v := ?_) rfl (by kernel_rfl) (by kernel_rfl) (by kernel_rfl) (by kernel_rfl) (fun _ _ _ h => h) (by rfl) ?_ T0 ?_
      rotate_left
      · intro W hW
        have hcl := hW.2.1
        have hcl2 := hW.2.2.1
        have hll := hW.2.2.2
        go_simp
        (try with_reducible rfl)
      simp only [Act.put, List.setIfInBounds_toArray, List.set_cons_zero, List.set_cons_succ]
      refine fin_takeG 27 (v := ?_) rfl (by kernel_rfl) (by kernel_rfl) (by kernel_rfl) (by kernel_rfl) (fun _ _ _ h => h) (by rfl) ?_ T0 ?_
      rotate_left
      · intro W hW
        go_simp
        (try with_reducible rfl)
      simp only [Act.put, List.setIfInBounds_toArray, List.set_cons_zero, List.set_cons_succ]
      refine fin_takeG 28 (v := ?_) rfl (by kernel_rfl) (by kernel_rfl) (by kernel_rfl) (by kernel_rfl) (fun _ _ _ h => h) (by rfl) ?_ T0 ?_
      rotate_left
      · intro W hW
        go_simp
        (try with_reducible rfl)
      simp only [Act.put, List.setIfInBounds_toArray, List.set_cons_zero, List.set_cons_succ]
      refine fin_takeG 29 (v := ?_) rfl (by kernel_rfl) (by kernel_rfl) (by kernel_rfl) (by kernel_rfl) (fun _ _ _ h => h) (by rfl) ?_ T0 ?_
      rotate_left
      · intro W hW
        go_simp
        (try with_reducible rfl)
      simp only [Act.put, List.setIfInBounds_toArray, List.set_cons_zero, List.set_cons_succ]
      refine fin_takeG 30 (v := ?_) rfl (by kernel_rfl) (by kernel_rfl) (by kernel_rfl) (by kernel_rfl) (fun _ _ _ h => h) (by rfl) ?_ T0 ?_
      rotate_left
      · intro W hW
        go_simp
        (try with_reducible rfl)
      simp only [Act.put, List.setIfInBounds_toArray, List.set_cons_zero, List.set_cons_succ]
      refine fin_takeG 31 (v := ?_) rfl (by kernel_rfl) (by kernel_rfl) (by kernel_rfl) (by kernel_rfl) (fun _ _ _ h => h) (by rfl) ?_ T0 ?_
      rotate_left
      · intro W hW
        have hcl := hW.2.1
        have hcl2 := hW.2.2.1
        have hll := hW.2.2.2
        go_simp
        (try with_reducible rfl)
      simp only [Act.put, List.setIfInBounds_toArray, List.set_cons_zero, List.set_cons_succ]
      refine fin_oneG 32 rfl (by rfl) (by kernel_rfl) (fun K hK => ?_)
      go_simp
      refine (hHab _).mono ?_
      rintro _ v1 ⟨rfl, kv1⟩
      have Sv1 := hon _ _ T0 kv1
      have Kv1 := K0.trans kv1
      refine hK.out _ _ (fun _ => Sv1) ?_
      clear hK
      refine fin_takeG 33 (v := ?_) rfl (by kernel_rfl) (by kernel_rfl) (by kernel_rfl) (by kernel_rfl) (fun _ _ _ h => h) (by rfl) ?_ Sv1 ?_
      rotate_left
      · intro W hW
        go_simp
        (try with_reducible rfl)
      simp only [Act.put, List.setIfInBounds_toArray, List.set_cons_zero, List.set_cons_succ]
      refine fin_take 34 (v := ?_) rfl (by kernel_rfl) (by kernel_rfl) (by kernel_rfl) (by kernel_rfl) (fun _ _ _ h => h) rfl ?_ Sv1 ?_
      rotate_left
      · intro W hW
        go_simp
        (try with_reducible rfl)
      simp only [Act.put, List.setIfInBounds_toArray, List.set_cons_zero, List.set_cons_succ]
      refine fin_done (by kernel_rfl) (NoPanic.normal ?_)
      go_wp2
      go_roundg (P.length - (i + 1))
      case measure => omega
      case rel => exact ⟨i + 1, hlt, rfl, by congr 1, Kv1, KX.trans kv1, Sv1.1⟩
    · obtain rfl : i = P.length := by omega
      clear hH HM HRP HO4
      go_wp2
      have T0 : Bk wr.drew w1.heap.size (relA r) ∧ Bk wr.drew w3.heap.size (relA KS) := SI
      have hon : ∀ W W', Bk W w1.heap.size (relA r) ∧ Bk W w3.heap.size (relA KS) → On W W' → Bk W' w1.heap.size (relA r) ∧ Bk W' w3.heap.size (relA KS) := fun W W' h k => ⟨h.1.on k, h.2.on k⟩
      have K0 := HO.out.drew
      refine region_fin (fun W => Bk W w1.heap.size (relA r) ∧ Bk W w3.heap.size (relA KS)) 99 35 (by kernel_rfl) rfl ?_
      refine fin_take 0 (v := .agg (relA KS)) rfl (by kernel_rfl) (by kernel_rfl) (by kernel_rfl) (by kernel_rfl) (fun _ _ _ h => h) rfl (fun W hW => exec_ld rfl rfl (hW.2)) T0 ?_
      simp only [Act.put, List.setIfInBounds_toArray, List.set_cons_zero, List.set_cons_succ]
      refine fin_take 1 (v := ?_) rfl (by kernel_rfl) (by kernel_rfl) (by kernel_rfl) (by kernel_rfl) (fun _ _ _ h => h) rfl ?_ T0 ?_
      rotate_left
      · intro W hW
        go_simp
        (try with_reducible rfl)
      simp only [Act.put, List.setIfInBounds_toArray, List.set_cons_zero, List.set_cons_succ]
      refine fin_take 3 (v := .agg (relA r)) rfl (by kernel_rfl) (by kernel_rfl) (by kernel_rfl) (by kernel_rfl) (fun _ _ _ h => h) rfl (fun W hW => exec_ld rfl rfl (hW.1)) T0 ?_
      simp only [Act.put, List.setIfInBounds_toArray, List.set_cons_zero, List.set_cons_succ]
      refine fin_take 4 (v := ?_) rfl (by kernel_rfl) (by kernel_rfl) (by kernel_rfl) (by kernel_rfl) (fun _ _ _ h => h) rfl ?_ T0 ?_
      rotate_left
      · intro W hW
        go_simp
        (try with_reducible rfl)
      simp only [Act.put, List.setIfInBounds_toArray, List.set_cons_zero, List.set_cons_succ]
      refine fin_take 5 (v := ?_) rfl (by kernel_rfl) (by kernel_rfl) (by kernel_rfl) (by kernel_rfl) (fun _ _ _ h => h) rfl ?_ T0 ?_
      rotate_left
      · intro W hW
        go_simp
        (try with_reducible rfl)
      simp only [Act.put, List.setIfInBounds_toArray, List.set_cons_zero, List.set_cons_succ]
      refine fin_take 6 (v := ?_) rfl (by kernel_rfl) (by kernel_rfl) (by kernel_rfl) (by kernel_rfl) (fun _ _ _ h => h) rfl ?_ T0 ?_
      rotate_left
      · intro W hW
        go_simp
        (try with_reducible rfl)
      simp only [Act.put, List.setIfInBounds_toArray, List.set_cons_zero, List.set_cons_succ]
      refine fin_one 2 rfl rfl (by kernel_rfl) (fun K hK => ?_)
      go_simp
      refine (x3 _).mono ?_
      rintro _ v1 ⟨rfl, kv1⟩
      have Sv1 := hon _ _ T0 kv1
      have Kv1 := K0.trans kv1
      refine hK.out _ _ (fun _ => Sv1) ?_
      clear hK
      refine fin_one 7 rfl rfl (by kernel_rfl) (fun K hK => ?_)
      go_simp
      refine (x4 _).mono ?_
      rintro _ v2 ⟨rfl, kv2⟩
      have Sv2 := hon _ _ Sv1 kv2
      have Kv2 := Kv1.trans kv2
      refine hK.out _ _ (fun _ => Sv2) ?_
      clear hK
      refine fin_take 8 (v := ?_) rfl (by kernel_rfl) (by kernel_rfl) (by kernel_rfl) (by kernel_rfl) (fun _ _ _ h => h) rfl ?_ Sv2 ?_
      rotate_left
      · intro W hW
        go_simp
        (try with_reducible rfl)
      simp only [Act.put, List.setIfInBounds_toArray, List.set_cons_zero, List.set_cons_succ]
      refine fin_take 9 (v := ?_) rfl (by kernel_rfl) (by kernel_rfl) (by kernel_rfl) (by kernel_rfl) (fun _ _ _ h => h) rfl ?_ Sv2 ?_
      rotate_left
      · intro W hW
        go_simp
        (try with_reducible rfl)
      simp only [Act.put, List.setIfInBounds_toArray, List.set_cons_zero, List.set_cons_succ]
      refine fin_takeG 10 (v := .agg (relA r)) rfl (by kernel_rfl) (by kernel_rfl) (by kernel_rfl) (by kernel_rfl) (fun _ _ _ h => h) (by rfl) (fun W hW => exec_ld rfl rfl (hW.1)) Sv2 ?_
      simp only [Act.put, List.setIfInBounds_toArray, List.set_cons_zero, List.set_cons_succ]
      refine fin_takeG 11 (v := ?_) rfl (by kernel_rfl) (by kernel_rfl) (by kernel_rfl) (by kernel_rfl) (fun _ _ _ h => h) (by rfl) ?_ Sv2 ?_
      rotate_left
      · intro W hW
        go_simp
        (try with_reducible rfl)
      simp only [Act.put, List.setIfInBounds_toArray, List.set_cons_zero, List.set_cons_succ]
      refine fin_takeG 14 (v := .agg (relA r)) rfl (by kernel_rfl) (by kernel_rfl) (by kernel_rfl) (by kernel_rfl) (fun _ _ _ h => h) (by rfl) (fun W hW => exec_ld rfl rfl (hW.1)) Sv2 ?_
      simp only [Act.put, List.setIfInBounds_toArray, List.set_cons_zero, List.set_cons_succ]
      refine fin_oneG 12 rfl (by rfl) (by kernel_rfl) (fun K hK => ?_)
      go_simp
      refine (x5 _).mono ?_
      rintro _ v3 ⟨rfl, kv3⟩
      have Sv3 := hon _ _ Sv2 kv3
      have Kv3 := Kv2.trans kv3
      refine hK.out _ _ (fun _ => Sv3) ?_
      clear hK
      refine fin_oneG 13 rfl (by rfl) (by kernel_rfl) (fun K hK => ?_)
      go_simp
      refine (x6 _).mono ?_
      rintro _ v4 ⟨rfl, kv4⟩
      have Sv4 := hon _ _ Sv3 kv4
      have Kv4 := Kv3.trans kv4
      refine hK.out _ _ (fun _ => Sv4) ?_
      clear hK
      refine fin_takeG 15 (v := ?_) rfl (by kernel_rfl) (by kernel_rfl) (by kernel_rfl) (by kernel_rfl) (fun _ _ _ h => h) (by rfl) ?_ Sv4 ?_
      rotate_left
      · intro W hW
        go_simp
        (try with_reducible rfl)
      simp only [Act.put, List.setIfInBounds_toArray, List.set_cons_zero, List.set_cons_succ]
      refine fin_take 16 (v := ?_) rfl (by kernel_rfl) (by kernel_rfl) (by kernel_rfl) (by kernel_rfl) (fun _ _ _ h => h) rfl ?_ Sv4 ?_
      rotate_left
      · intro W hW
        go_simp
        (try with_reducible rfl)
      simp only [Act.put, List.setIfInBounds_toArray, List.set_cons_zero, List.set_cons_succ]
      refine fin_take 17 (v := ?_) rfl (by kernel_rfl) (by kernel_rfl) (by kernel_rfl) (by kernel_rfl) (fun _ _ _ h => h) rfl ?_ Sv4 ?_
      rotate_left
      · intro W hW
        go_simp
        (try with_reducible rfl)
      simp only [Act.put, List.setIfInBounds_toArray, List.set_cons_zero, List.set_cons_succ]
      refine fin_takeG 18 (v := .agg (relA KS)) rfl (by kernel_rfl) (by kernel_rfl) (by kernel_rfl) (by kernel_rfl) (fun _ _ _ h => h) (by rfl) (fun W hW => exec_ld rfl rfl (hW.2)) Sv4 ?_
      simp only [Act.put, List.setIfInBounds_toArray, List.set_cons_zero, List.set_cons_succ]
      refine fin_takeG 19 (v := .agg (relA r)) rfl (by kernel_rfl) (by kernel_rfl) (by kernel_rfl) (by kernel_rfl) (fun _ _ _ h => h) (by rfl) (fun W hW => exec_ld rfl rfl (hW.1)) Sv4 ?_
      simp only [Act.put, List.setIfInBounds_toArray, List.set_cons_zero, List.set_cons_succ]
      refine fin_takeG 21 (v := .agg (relA r)) rfl (by kernel_rfl) (by kernel_rfl) (by kernel_rfl) (by kernel_rfl) (fun _ _ _ h => h) (by rfl) (fun W hW => exec_ld rfl rfl (hW.1)) Sv4 ?_
      simp only [Act.put, List.setIfInBounds_toArray, List.set_cons_zero, List.set_cons_succ]
      refine fin_oneG 20 rfl (by rfl) (by kernel_rfl) (fun K hK => ?_)
      go_simp
      refine (x7 _).mono ?_
      rintro _ v5 ⟨rfl, kv5⟩
      have Sv5 := hon _ _ Sv4 kv5
      have Kv5 := Kv4.trans kv5
      refine hK.out _ _ (fun _ => Sv5) ?_
      clear hK
      refine fin_takeG 22 (v := ?_) rfl (by kernel_rfl) (by kernel_rfl) (by kernel_rfl) (by kernel_rfl) (fun _ _ _ h => h) (by rfl) ?_ Sv5 ?_
      rotate_left
      · intro W hW
        go_simp
        (try with_reducible rfl)
      simp only [Act.put, List.setIfInBounds_toArray, List.set_cons_zero, List.set_cons_succ]
      refine fin_take 23 (v := ?_) rfl (by kernel_rfl) (by kernel_rfl) (by kernel_rfl) (by kernel_rfl) (fun _ _ _ h => h) rfl ?_ Sv5 ?_
      rotate_left
      · intro W hW
        go_simp
        (try with_reducible rfl)
      simp only [Act.put, List.setIfInBounds_toArray, List.set_cons_zero, List.set_cons_succ]
      refine fin_take 24 (v := ?_) rfl (by kernel_rfl) (by kernel_rfl) (by kernel_rfl) (by kernel_rfl) (fun _ _ _ h => h) rfl ?_ Sv5 ?_
      rotate_left
      · intro W hW
        go_simp
        (try with_reducible rfl)
      simp only [Act.put, List.setIfInBounds_toArray, List.set_cons_zero, List.set_cons_succ]
      refine fin_takeG 25 (v := ?_) rfl (by kernel_rfl) (by kernel_rfl) (by kernel_rfl) (by kernel_rfl) (fun _ _ _ h => h) (by rfl) ?_ Sv5 ?_
      rotate_left
      · intro W hW
        go_simp
        (try with_reducible rfl)
      simp only [Act.put, List.setIfInBounds_toArray, List.set_cons_zero, List.set_cons_succ]
      refine fin_takeG 27 (v := .agg (relA r)) rfl (by kernel_rfl) (by kernel_rfl) (by kernel_rfl) (by kernel_rfl) (fun _ _ _ h => h) (by rfl) (fun W hW => exec_ld rfl rfl (hW.1)) Sv5 ?_
      simp only [Act.put, List.setIfInBounds_toArray, List.set_cons_zero, List.set_cons_succ]
      refine fin_oneG 26 rfl (by rfl) (by kernel_rfl) (fun K hK => ?_)
      go_simp
      refine (x8 _).mono ?_
      rintro _ v6 ⟨rfl, kv6⟩
      have Sv6 := hon _ _ Sv5 kv6
      have Kv6 := Kv5.trans kv6
      refine hK.out _ _ (fun _ => Sv6) ?_
      clear hK
      refine fin_oneG 28 rfl (by rfl) (by kernel_rfl) (fun K hK => ?_)
      go_simp
      refine (x9 _).mono ?_
      rintro _ v7 ⟨rfl, kv7⟩
      have Sv7 := hon _ _ Sv6 kv7
      have Kv7 := Kv6.trans kv7
      refine hK.out _ _ (fun _ => Sv7) ?_
      clear hK
      refine fin_takeG 29 (v := ?_) rfl (by kernel_rfl) (by kernel_rfl) (by kernel_rfl) (by kernel_rfl) (fun _ _ _ h => h) (by rfl) ?_ Sv7 ?_
      rotate_left
      · intro W hW
        go_simp
        (try with_reducible rfl)
      simp only [Act.put, List.setIfInBounds_toArray, List.set_cons_zero, List.set_cons_succ]
      refine fin_take 30 (v := ?_) rfl (by kernel_rfl) (by kernel_rfl) (by kernel_rfl) (by kernel_rfl) (fun _ _ _ h => h) rfl ?_ Sv7 ?_
      rotate_left
      · intro W hW
        go_simp
        (try with_reducible rfl)
      simp only [Act.put, List.setIfInBounds_toArray, List.set_cons_zero, List.set_cons_succ]
      refine fin_take 31 (v := ?_) rfl (by kernel_rfl) (by kernel_rfl) (by kernel_rfl) (by kernel_rfl) (fun _ _ _ h => h) rfl ?_ Sv7 ?_
      rotate_left
      · intro W hW
        go_simp
        (try with_reducible rfl)
      simp only [Act.put, List.setIfInBounds_toArray, List.set_cons_zero, List.set_cons_succ]
      refine fin_oneG 32 rfl (by rfl) (by kernel_rfl) (fun K hK => ?_)
      go_simp
      refine (xA _).mono ?_
      rintro _ v8 ⟨rfl, kv8⟩
      have Sv8 := hon _ _ Sv7 kv8
      have Kv8 := Kv7.trans kv8
      refine hK.out _ _ (fun _ => Sv8) ?_
      clear hK
      refine fin_take 33 (v := ?_) rfl (by kernel_rfl) (by kernel_rfl) (by kernel_rfl) (by kernel_rfl) (fun _ _ _ h => h) rfl ?_ Sv8 ?_
      rotate_left
      · intro W hW
        go_simp
        (try with_reducible rfl)
      simp only [Act.put, List.setIfInBounds_toArray, List.set_cons_zero, List.set_cons_succ]
      refine fin_take 34 (v := ?_) rfl (by kernel_rfl) (by kernel_rfl) (by kernel_rfl) (by kernel_rfl) (fun _ _ _ h => h) rfl ?_ Sv8 ?_
      rotate_left
      · intro W hW
        go_simp
        (try with_reducible rfl)
      simp only [Act.put, List.setIfInBounds_toArray, List.set_cons_zero, List.set_cons_succ]
      refine fin_done (by kernel_rfl) (NoPanic.normal ?_)
      go_wp2
      go_ret
      exact ⟨rfl, Kv8⟩
theorem clamp_nat (n : Int) : ∃ m : Nat, (if 64 < (if n < 0 then (0 : Int) else n) then (64 : Int) else (if n < 0 then (0 : Int) else n)) = (m : Int) ∧ m ≤ 64 := by
  by_cases h0 : n < 0
  · exact ⟨0, by simp [h0], by decide⟩
  · by_cases h1 : 64 < n
    · exact ⟨64, by simp [h0, h1], by decide⟩
    · exact ⟨n.toNat, by simp only [h0, h1, if_false]; omega, by omega⟩
theorem relKeeps_walk (n : Int) (a1 : Option Addr) (L1 : List (Int × Int)) (c1 : Nat) (s t : Nat) (w : World)
    (h1 : Rd pairC 2 w (.slice a1 L1.length c1) L1) (hs : s < 18446744073709551616) (ht : t < 18446744073709551616) (hd : Dt w) :
    Calls Tryd.prog 3 #[.int .i64 n, .slice a1 L1.length c1, .int .u64 s, .int .u64 t] w fun e w' => e = .returned (.bool true) ∧ On w w' := by
  obtain ⟨m, hm, hm6⟩ := clamp_nat n
  exact relKeeps_core n _ m rfl hm hm6 a1 L1 c1 s t w h1 hs ht hd
end Go.Proofs.YthbiaojefmdcmaaDoor
