/- Relations: Keep, and two over the lesser N. -/
import Derived.Test.YthbiaojefmdcmaaRelC
import Derived.Deep.LoopGhost
namespace Go.Proofs.Ythbiaojefmdcmaa
open Go.RowKit

def keepG (r : RelT) (s : Nat) (j : Nat) : Nat := if hasI s j then r.f j &&& s else 0
def keepR (r : RelT) (s : Nat) : RelT := uptoR (newR r.n) (keepG r s) r.n
theorem size2 (w : World) (A B : Obj) : ((w.alloc A).alloc B).heap.size = w.heap.size + 2 := by rw [World.size_alloc, World.size_alloc]
set_option maxHeartbeats 2000000 in
theorem keep_is (r : RelT) (hr : Wr r) (s : Nat) (hs : s < 18446744073709551616) (w : World) : Calls Try.prog 24 #[.agg (relA r), .int .u64 s] w fun e w' => e = .returned (.agg (relA (keepR r s))) ∧ On w w' := by
  obtain ⟨hz, _⟩ := zero_of_info rel_info
  have h1 : Bk ((w.alloc (.cells (relA r) 27)).alloc (.cells (relA zeroR) 27)) w.heap.size (relA r) := (Bk.new w (relA r) 27).alloc _
  have h2 : Bk ((w.alloc (.cells (relA r) 27)).alloc (.cells (relA zeroR) 27)) (w.heap.size + 1) (relA zeroR) := by
    have := Bk.new (w.alloc (.cells (relA r) 27)) (relA zeroR) 27
    rwa [World.size_alloc] at this
  have k0 := ((On.refl w).alloc (.cells (relA r) 27)).alloc (.cells (relA zeroR) 27)
  have hc0 := h1.at (relA_zero r)
  have hsz := size2 w (.cells (relA r) 27) (.cells (relA zeroR) 27)
  have hnew := fun W => new_is r.n W
  have hn := hr.n
  obtain ⟨K, hK⟩ : ∃ K, K = keepR r s := ⟨_, rfl⟩
  rw [← hK]
  have HK : Hid (K = uptoR (newR r.n) (keepG r s) r.n) := hK
  have HH := fun (i : Int) W => has_is s i hs W
  clear hK
  obtain ⟨n, hnn⟩ : ∃ n, n = r.n := ⟨_, rfl⟩
  rw [← hnn] at hc0 hn hnew HK
  obtain ⟨Z, hZ⟩ : ∃ Z, Z = newR n := ⟨_, rfl⟩
  rw [← hZ] at hnew HK
  have HZ : Hid (Z = newR n) := hZ
  have HN : Hid (n = r.n) := hnn
  clear hZ hnn
  go_enter Try.func24, Try.ntmps24
  go_wp2_with fail
  refine (hnew _).mono ?_
  rintro _ w1 ⟨rfl, k1⟩
  have B1 := (h1.on k1).alloc (.cells (relA zeroR) 27)
  have B2 := (h2.on k1).alloc (.cells (relA zeroR) 27)
  have B3 := Bk.new w1 (relA zeroR) 27
  have hs1 : w.heap.size + 2 ≤ w1.heap.size := by have := k1.size; omega
  have C1 := B1.rowFar (N := w1.heap.size) (by omega) (relA Z)
  have C2 := B2.rowFar (N := w1.heap.size) (by omega) (relA Z)
  have C3 := B3.row (relA Z)
  have KC := ((k0.trans k1).alloc (.cells (relA zeroR) 27)).row (N := w1.heap.size) (by omega) (relA Z)
  obtain ⟨W, hW⟩ : ∃ W, W = (w1.alloc (.cells (relA zeroR) 27)).setRow w1.heap.size (relA Z) := ⟨_, rfl⟩
  rw [← hW] at C1 C2 C3 KC
  have hc := C1.at (relA_zero r)
  rw [← HN.out] at hc
  have hcl := C1.lt
  clear hc0 hsz B1 B2 h1 h2 k0
  go_wp2_with (first | (refine wpList_st rfl rfl rfl rfl B3 ?_; rw [← hW]; clear B3 hW))
  go_loopg [12] n (fun gg s12 wr => ∃ i : Nat, i ≤ n ∧ gg = n - i ∧ s12 = .int .i64 i ∧ Hid (On w wr) ∧ Bk wr w.heap.size (relA r) ∧ Bk wr (w.heap.size + 1) (relA zeroR) ∧ Bk wr w1.heap.size (relA (uptoR Z (keepG r s) i)))
  case atStart => exact ⟨0, Nat.zero_le _, rfl, rfl, KC, C1, C2, by rw [uptoR_zero]; exact C3⟩
  case round =>
    clear C1 C2 C3 KC hc hcl
    obtain ⟨i, hi, hk, rfl, HO, D1, D2, D3⟩ := hrel
    rcases Nat.lt_or_ge i n with hlt | hge
    · have hi6 : i < 64 := by omega
      have HHi := fun W => HH i W
      have st := uptoR_step Z (keepG r s) i
      cases hb : hasI s i with
      | true =>
        rw [hb] at HHi
        have e : bits .and .u64 ((r.f i : Nat) : Int) (s : Int) = ((keepG r s i : Nat) : Int) := by
          rw [u64_and_nat _ _ (hr.w i) hs]
          unfold keepG
          rw [hb]
          rfl
        have hca := D1.at (relA_at r hi6)
        have hcb := D3.at (relA_at _ hi6)
        have hcf := D3.fr (1 + i)
        have hl1 := D1.lt
        have hl3 := D3.lt
        have D3' := D3.set1 hi6 (keepG r s i)
        rw [st] at D3'
        have D1' := D1.far (N := w1.heap.size) (by omega) (1 + i) (.int .u64 (keepG r s i))
        have D2' := D2.far (N := w1.heap.size) (by omega) (1 + i) (.int .u64 (keepG r s i))
        have HO' : Hid (On w _) := HO.out.setNew (N := w1.heap.size) (i := 1 + i) (by omega) (.int .u64 (keepG r s i))
        clear hb D1 D2 D3 HO
        generalize keepG r s i = y at *
        generalize (uptoR Z (keepG r s) i).f i = y0 at *
        go_wp2_with fail
        refine (HHi _).mono ?_
        rintro _ w2 ⟨rfl, hw2⟩
        subst w2
        go_wp2
        go_roundg (n - (i + 1))
        case measure => omega
        case rel => exact ⟨i + 1, hlt, rfl, by congr 1, HO', D1', D2', D3'⟩
      | false =>
        rw [hb] at HHi
        have sk := uptoR_skip Z (keepG r s) i (by unfold keepG; rw [hb, HZ.out]; rfl)
        go_wp2_with fail
        refine (HHi _).mono ?_
        rintro _ w2 ⟨rfl, hw2⟩
        subst w2
        go_wp2
        go_roundg (n - (i + 1))
        case measure => omega
        case rel => exact ⟨i + 1, hlt, rfl, by congr 1, HO, D1, D2, by rw [sk]; exact D3⟩
    · obtain rfl : i = n := by omega
      rw [← HK.out] at D3
      go_wp2_with (first | refine wpList_ld rfl rfl rfl D3 ?_ | refine wpList_st rfl rfl rfl rfl D2 ?_)
      refine bodyPost_ret (v := .agg (relA K)) ?_ rfl ⟨rfl, HO.out.row (by omega) _⟩
      exact ret65 rfl rfl (D2.row _)
end Go.Proofs.Ythbiaojefmdcmaa
