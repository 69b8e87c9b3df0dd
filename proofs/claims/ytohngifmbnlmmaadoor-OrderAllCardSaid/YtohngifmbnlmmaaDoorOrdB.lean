/- The program's package order: needsOf, slices.Clone. -/
import Derived.Test.YtohngifmbnlmmaaDoorOrdA
import Derived.Laws.OwnMore
namespace Go.Proofs.YtohngifmbnlmmaaDoor
open Go.RowKit

theorem upto_lt2 (n : Nat) (hn : n ≤ 64) : uptoI n < 18446744073709551616 := by
  have : uptoI n < 2 ^ 64 := Nat.lt_pow_two_of_testBit _ fun i hi => by
    rw [upto_bit n i hn]
    simp; omega
  simpa using this
theorem infoSet : (Tryd.prog.info? 24).map (fun i => (i.zero, i.size, i.bytes)) = some (some (.int .u64 0), 1, 8) := by kernel_rfl
def ndL (f : Nat → Nat) (n a : Nat) : List Value := (List.range n).map (fun j => .int .u64 (if j < a then f j else 0 : Nat))
theorem nd_zero (f : Nat → Nat) (n : Nat) : ndL f n 0 = List.replicate n (.int .u64 0) := by
  apply List.ext_getElem?
  intro j
  unfold ndL
  rw [List.getElem?_map, List.getElem?_replicate]
  by_cases h : j < n
  · rw [List.getElem?_range h, if_pos h]; rfl
  · rw [if_neg h, List.getElem?_eq_none (by simpa using h)]; rfl
theorem nd_at (f : Nat → Nat) (n a j : Nat) (h : j < n) : (ndL f n a)[j]? = some (.int .u64 (if j < a then f j else 0 : Nat)) := by
  unfold ndL
  rw [List.getElem?_map, List.getElem?_range h]
  rfl
theorem nd_step (f : Nat → Nat) (n a : Nat) (h : a < n) : (ndL f n a).set a (.int .u64 (f a)) = ndL f n (a + 1) := by
  apply List.ext_getElem?
  intro j
  rw [List.getElem?_set]
  by_cases hj : j < n
  · rw [nd_at f n a j hj, nd_at f n (a + 1) j hj]
    by_cases ha : a = j
    · subst ha
      have : a < (ndL f n a).length := by simpa [ndL] using h
      simp [this]
    · rw [if_neg ha]
      by_cases hlt : j < a
      · have : j < a + 1 := by omega
        simp [hlt, this]
      · have : ¬ j < a + 1 := by omega
        simp [hlt, this]
  · have l1 : (ndL f n a).length = n := by simp [ndL]
    have l2 : (ndL f n (a + 1)).length = n := by simp [ndL]
    rw [if_neg (by omega), List.getElem?_eq_none (by omega), List.getElem?_eq_none (by omega)]
theorem nd_rd {w : World} {G : Nat} {r : RelT} (h : Bk w G (ndL (invR r).f r.n r.n).toArray) (hn : r.n ≤ 64) : Rd wordC 1 w (.slice (some ⟨G, 0, none⟩) (needL r).length r.n) (needL r) := by
  refine ⟨_, _, rfl, by rw [need_len]; exact Nat.le_refl _, by rw [need_len]; omega, fun _ => ⟨G, 0, rfl, h.lt, fun i x j u hi hj => ?_⟩⟩
  have hin : i < r.n := by have := (List.getElem?_eq_some_iff.1 hi).1; rwa [need_len] at this
  match j, hj with
  | 0, hj =>
    simp only [wordC, List.getElem?_cons_zero, Option.some.injEq] at hj
    subst hj
    refine h.at ?_
    simp only [Nat.zero_add, Nat.mul_one, Nat.add_zero, List.getElem?_toArray]
    rw [nd_at _ _ _ _ hin, if_pos hin]
    unfold needL at hi
    rw [List.getElem?_map, List.getElem?_range hin] at hi
    simp only [Option.map_some, Option.some.injEq] at hi
    rw [hi]
  | j + 1, hj => simp [wordC] at hj
set_option maxHeartbeats 4000000 in
set_option maxRecDepth 8000 in
theorem needs_is (r : RelT) (hr : Wf r) (w : World) : Calls Tryd.prog 25 #[.agg (relA r)] w fun e w' => ∃ a c, e = .returned (.slice a (needL r).length c) ∧ Rd wordC 1 w' (.slice a (needL r).length c) (needL r) ∧ On w w' := by
  obtain ⟨i0, hi, hz0, hz1, hz2⟩ := info_parts infoSet
  obtain ⟨hz, _⟩ := zero_of_info rel_info
  have h1 := Bk.new w (relA r) 27
  have k0 := (On.refl w).alloc (.cells (relA r) 27)
  have hI := fun W => inv_is r hr.wr W
  have hIw := inv_wf hr
  have hn := hr.n
  have hN := fun W => n_is r W
  have hrow : ∀ (a : Nat) W, Calls Tryd.prog 35 #[.agg (relA (invR r)), .int .i64 a] W fun e w' => e = .returned (.int .u64 ((invR r).f a)) ∧ On W w' := fun a W => by
    have := row_is (invR r) hIw.wr a W
    rwa [row_nat hIw] at this
  have HE : Hid (∀ W (G : Nat), Bk W G (ndL (invR r).f r.n r.n).toArray → Rd wordC 1 W (.slice (some ⟨G, 0, none⟩) (needL r).length r.n) (needL r)) := fun W G h => nd_rd h hn
  have hl := need_len r
  generalize needL r = DL at *
  generalize r.n = n at *
  have HDL : Hid (DL.length = n) := hl
  clear hl hIw hr
  generalize invR r = I at *
  go_enter Tryd.func25, Tryd.ntmps25
  go_wp2_with (refine wpList_ld rfl rfl rfl h1 ?_)
  refine (hI _).mono ?_
  rintro _ w1 ⟨rfl, k1⟩
  have K1 := k0.trans k1
  have B1 := h1.on k1
  have B3 := Bk.new w1 (relA zeroR) 27
  have hs1 := B1.lt
  obtain ⟨W, hW⟩ : ∃ W, W = (w1.alloc (.cells (relA zeroR) 27)).setRow w1.heap.size (relA I) := ⟨_, rfl⟩
  have C1 : Bk W w.heap.size (relA r) := by rw [hW]; exact (B1.alloc _).rowFar (by omega) _
  have C3 : Bk W w1.heap.size (relA I) := by rw [hW]; exact B3.row _
  have KC : On w W := by rw [hW]; exact (K1.alloc _).row (by omega) _
  have HW : Hid (W = (w1.alloc (.cells (relA zeroR) 27)).setRow w1.heap.size (relA I)) := hW
  clear hW B1 h1 k0 k1 K1
  go_wp2_with (first | (refine wpList_st rfl rfl rfl rfl B3 ?_; rw [← HW.out]; clear B3 HW) | refine wpList_ld rfl rfl rfl C1 ?_)
  refine (hN _).mono ?_
  rintro _ w3 ⟨rfl, k3⟩
  have D3 := C3.on k3
  have K3 := KC.trans k3
  have hs3 := D3.lt
  have hmk := run_make (P := Tryd.prog) w3 56 24 i0 (.int .u64 0) Tryd.underlying56 hi hz0 .i64 .i64 n n (by omega) (by omega) (by rw [hz2]; omega) (by omega)
  simp only [Int.toNat_natCast] at hmk
  obtain ⟨W4, hW4⟩ : ∃ W4, W4 = w3.alloc (.cells (madeCells (Value.int .u64 0).cells (n * i0.size)) 24) := ⟨_, rfl⟩
  have E3 : Bk W4 w1.heap.size (relA I) := by rw [hW4]; exact D3.alloc _
  have EG : Bk W4 w3.heap.size (ndL I.f n 0).toArray := by
    rw [hW4]
    have e : madeCells (Value.int .u64 0).cells (n * i0.size) = (ndL I.f n 0).toArray := by
      apply Array.ext'
      rw [hz1, Nat.mul_one, nd_zero, show (Value.int .u64 0).cells = #[Value.int .u64 0] from rfl, toList_madeCells_one]
    rw [e]
    exact Bk.new w3 _ _
  have K4 : On w W4 := by rw [hW4]; exact K3.alloc _
  rw [← hW4] at hmk
  clear hW4 C1 C3 KC D3 hI hN
  go_wp2
  clear hmk
  go_loopg [13] n (fun gg s13 wr => ∃ a : Nat, a ≤ n ∧ gg = n - a ∧ s13 = .int .i64 a ∧ Hid (On w wr) ∧ Bk wr w1.heap.size (relA I) ∧ Bk wr w3.heap.size (ndL I.f n a).toArray)
  case atStart => exact ⟨0, Nat.zero_le _, rfl, rfl, K4, E3, EG⟩
  case round =>
    clear E3 EG K4
    obtain ⟨a, ha, hk, rfl, HO, F3, FG⟩ := hrel
    rcases Nat.lt_or_ge a n with hlt | hge
    · have hra := fun W => hrow a W
      go_wp2_with (refine wpList_ld rfl rfl rfl F3 ?_)
      refine (hra _).mono ?_
      rintro _ w5 ⟨rfl, k5⟩
      have G3 := F3.on k5
      have GG := FG.on k5
      have hc := GG.at (by rw [List.getElem?_toArray]; exact nd_at I.f n a a hlt)
      have hcf := GG.fr a
      have hgl := GG.lt
      have GG2 := GG.put a (.int .u64 (I.f a))
      rw [nd_step I.f n a hlt] at GG2
      have G32 := G3.far (N := w3.heap.size) (by omega) a (.int .u64 (I.f a))
      have hs : w.heap.size ≤ w3.heap.size := K3.size
      have HO2 : Hid (On w _) := (HO.out.trans k5).setNew (N := w3.heap.size) (i := a) hs (.int .u64 (I.f a))
      clear F3 FG G3 GG hrow hra HO
      generalize I.f a = x at *
      go_wp2
      go_roundg (n - (a + 1))
      case measure => omega
      case rel => exact ⟨a + 1, hlt, rfl, by congr 1, HO2, G32, GG2⟩
    · obtain rfl : a = n := by omega
      go_wp2
      go_ret
      refine ⟨some ⟨w3.heap.size, 0, none⟩, a, by rw [HDL.out]; rfl, ?_, HO.out⟩
      exact HE.out _ _ FG
theorem eql_nil (w : World) (a : Option Addr) (n c n' c' : Nat) : (binOp .eql 36 (.slice a n c) (.slice none n' c')).run Tryd.prog w = .ok (.bool a.isNone) w := Lib.run_eql_slice_nil w _ _ a n c n' c' Tryd.underlying36
set_option maxHeartbeats 2000000 in
set_option maxRecDepth 8000 in
theorem clone_is (L : List Int) (g c : Nat) (w : World) (h : Rd intC 1 w (.slice (some ⟨g, 0, none⟩) L.length c) L) (hl : L.length ≤ 1000) :
    Calls Tryd.prog 27 #[.slice (some ⟨g, 0, none⟩) L.length c] w fun e w' => ∃ a c', e = .returned (.slice a L.length c') ∧ w'.ownsRow w.heap.size 3 1 (.slice a L.length c') L.length (L.map (Value.int .i64)) ∧ On w w' := by
  obtain ⟨i0, hi, hz0, hz1, hz2⟩ := info_parts infoInt
  have hcell : ∀ j u, (L.map (Value.int .i64))[j]? = some u → w.cell? ⟨g, j, none⟩ = some u := fun j u hj => by
    rw [List.getElem?_map] at hj
    obtain ⟨x, hx, rfl⟩ := Option.map_eq_some_iff.1 hj
    obtain ⟨g', off, e, _, u0⟩ := h.at hx
    have := u0 0 _ rfl
    simp only [Option.some.injEq, Addr.mk.injEq] at e
    obtain ⟨rfl, rfl, _⟩ := e
    simpa using this
  have HC : Hid (∀ j u, (L.map (Value.int .i64))[j]? = some u → w.cell? ⟨g, j, none⟩ = some u) := hcell
  have he := eql_nil
  clear h hcell
  obtain ⟨len, hlen⟩ : ∃ len, len = L.length := ⟨_, rfl⟩
  rw [← hlen] at hl ⊢
  have HL : Hid (L.length = len) := hlen.symm
  clear hlen
  go_enter Tryd.func27, Tryd.ntmps27
  go_wp2_with (at_builtin; refine wpList_append_own _ rfl _ _ 36 rfl w.heap.size 3 i0 (.int .i64 0) 1 8 Tryd.underlying36 hi hz0 hz1 hz2 rfl (by decide) _ _ _ rfl (World.ownsRow_made w #[] 0 (Nat.le_refl _) (Nat.zero_le _) rfl) ⟨g, 0, none⟩ len c (L.map (Value.int .i64)) rfl ?qc1 ?qc2 ?qc3 ?qc4 ?qc5 ?qc6 ?_)
  case qc1 => rw [List.length_map, HL.out]; omega
  case qc2 =>
    intro j u hj
    rw [Addr.add_lit, Nat.zero_add]
    exact Lib.cell?_alloc_some _ (HC.out j u hj)
  case qc3 => intro u hu; obtain ⟨x, _, rfl⟩ := List.mem_map.1 hu; rfl
  case qc4 => unfold maxLen; omega
  case qc5 => omega
  case qc6 => simp
  intro v' w1 hown hgrow hnil
  obtain ⟨a, c', rfl⟩ := own_slice hown
  have K1 : On w w1 := ((On.refl w).alloc _).grown hgrow (by intro k hk; simp [Value.ownBlock] at hk; omega)
  go_wp2
  go_ret
  exact ⟨a, c', rfl, hown, K1⟩
end Go.Proofs.YtohngifmbnlmmaaDoor
