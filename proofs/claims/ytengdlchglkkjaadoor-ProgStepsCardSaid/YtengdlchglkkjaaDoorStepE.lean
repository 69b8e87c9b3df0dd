/- prog.hasLoc, place, beginnings (of no init), placed. -/
import Derived.Test.YtengdlchglkkjaaDoorStepD
import Derived.Test.YtengdlchglkkjaaDoorRiseAB
import Derived.Test.YtengdlchglkkjaaDoorRowRd
import Derived.Laws.OwnMore
import Derived.Lib.BytesEntry
import Derived.Shelf.Lays
namespace Go.Proofs.YtengdlchglkkjaaDoor
open Go.RowKit

def hasLocB (k : Int) : Bool := k == 1 || k == 2 || k == 4
theorem hasLoc_is (k : Int) (w : World) : Calls Tryd.prog 64 #[.int .i64 k] w fun e w' => e = .returned (.bool (hasLocB k)) ∧ w' = w := by
  unfold hasLocB
  cases h1 : (k == 1) with
  | true =>
    go_enter Tryd.func64, Tryd.ntmps64
    go_wp2
    go_ret
    exact ⟨rfl, rfl⟩
  | false =>
    cases h2 : (k == 2) with
    | true =>
      go_enter Tryd.func64, Tryd.ntmps64
      go_wp2
      go_ret
      exact ⟨rfl, rfl⟩
    | false =>
      cases h4 : (k == 4)
      all_goals
        go_enter Tryd.func64, Tryd.ntmps64
        go_wp2
        go_ret
        exact ⟨rfl, rfl⟩
def byteC (b : UInt8) : List Value := [.int .u8 b.toNat]
/-- Where a letter stands. -/
def plc (LT : List UInt8) (l : Int) : Int := Lib.indexByte LT (IntKind.u8.wrap l).toNat.toUInt8
theorem bytes_back : ∀ LT : List UInt8, Lib.bytesOf (LT.map (fun b => (b.toNat : Int))) = LT
  | [] => rfl
  | b :: LT => by
    have := bytes_back LT
    simp only [Lib.bytesOf, List.map_cons] at this ⊢
    rw [this]
    congr 1
    simp
set_option maxHeartbeats 1000000 in
set_option maxRecDepth 100000 in
theorem indexByte_is (LT : List UInt8) (cv : Int) (a : Option Addr) (c : Nat) (w : World) (h : Rd byteC 1 w (.slice a LT.length c) LT) (h0 : 0 < LT.length) :
    Calls Tryd.prog 79 #[.slice a LT.length c, .int .u8 cv] w fun e w' => e = .returned (.int .i64 (Lib.indexByte LT cv.toNat.toUInt8)) ∧ w' = w := by
  obtain ⟨a', c', hv, hc, hm, hr⟩ := h
  simp only [Value.slice.injEq] at hv
  obtain ⟨rfl, _, rfl⟩ := hv
  obtain ⟨g, off, rfl, hg, hcell⟩ := hr h0
  have hx : ∀ i, i < LT.length → w.cell? ⟨g, off + i, none⟩ = some (.int .u8 ((LT.map (fun b => (b.toNat : Int))).getD i 0)) := by
    intro i hi
    have := hcell i LT[i] 0 _ (List.getElem?_eq_getElem hi) rfl
    rw [Nat.mul_one, Nat.add_zero] at this
    rw [this, List.getD_eq_getElem?_getD, List.getElem?_map, List.getElem?_eq_getElem hi]
    rfl
  have hrun := Lib.run_indexByteSlice (P := Tryd.prog) w g off LT.length c (LT.map (fun b => (b.toNat : Int))) (by simp) hx cv
  rw [bytes_back] at hrun
  generalize Lib.indexByte LT cv.toNat.toUInt8 = R at *
  generalize LT.length = m at *
  clear hx hcell hr
  go_enter Tryd.func79, Tryd.ntmps79
  go_wp2
  rw [run_callFunc_extern Tryd.func92 (by kernel_rfl) (by kernel_rfl) (by kernel_rfl) (e := Extern.BytealgIndexByte.indexByte) (by kernel_rfl), hrun]
  simp only [Result.andThen]
  rw [Oper.upon_value]
  go_wp2
  go_ret
  exact ⟨rfl, rfl⟩
theorem place_is (LT : List UInt8) (l : Int) (a : Option Addr) (c : Nat) (w : World) (h : Rd byteC 1 w (.slice a LT.length c) LT) (h0 : 0 < LT.length) :
    Calls Tryd.prog 63 #[.int .i64 l, .slice a LT.length c] w fun e w' => e = .returned (.int .i64 (plc LT l)) ∧ w' = w := by
  have hI := fun cv => indexByte_is LT cv a c w h h0
  unfold plc
  obtain ⟨cv, hcv⟩ : ∃ cv, IntKind.u8.wrap l = cv := ⟨_, rfl⟩
  rw [hcv]
  have hI1 := hI cv
  clear hI h
  generalize Lib.indexByte LT cv.toNat.toUInt8 = R at *
  generalize LT.length = m at *
  go_enter Tryd.func63, Tryd.ntmps63
  go_wp2_with fail
  refine hI1.mono ?_
  rintro e w1 ⟨rfl, rfl⟩
  go_wp2
  go_ret
  exact ⟨rfl, rfl⟩
theorem infoI64 : (Tryd.prog.info? 2).map (fun i => (i.zero, i.size, i.bytes)) = some (some (.int .i64 0), 1, 8) := by kernel_rfl
set_option maxHeartbeats 1000000 in
theorem beg0_is (m : Nat) (a ai : Option Addr) (c ci : Nat) (w : World) (hm : m ≤ 26) :
    Calls Tryd.prog 38 #[.slice ai 0 ci, .slice a m c] w fun e w' => ∃ a2 m2 c2, e = .returned (.slice a2 m2 c2) ∧ On w w' := by
  obtain ⟨i0, hi, hz0, hz1, hz2⟩ := info_parts infoI64
  obtain ⟨w2, hmk, hown, hgr⟩ := run_make_full (P := Tryd.prog) w w.heap.size 38 2 i0 (.int .i64 0) 1 Tryd.underlying38 hi hz0 hz1 .i64 .i64 m (by rw [hz2]; omega) (by unfold maxLen; omega) (Nat.le_refl _)
  have K2 : Hid (On w w2) := (On.refl w).grownNone hgr
  clear hown hgr
  go_enter Tryd.func38, Tryd.ntmps38
  go_wp2
  go_loopg [13] 1 (fun gg s13 wq => gg = 1 ∧ s13 = .int .i64 0 ∧ Hid (On w wq))
  case atStart => exact ⟨rfl, rfl, K2⟩
  case round =>
    obtain ⟨_, rfl, HO⟩ := hrel
    go_wp2
    go_ret
    exact ⟨_, _, _, rfl, HO.out⟩
def placeIns (LT : List UInt8) (x : InsT) : InsT := if hasLocB x.k then ⟨x.k, x.r, plc LT x.l, x.a, x.o, x.b, x.n⟩ else x
def placedP (LT : List UInt8) (L : List InsT) : List InsT := L.map (placeIns LT)
def insZ : InsT := ⟨0, 0, 0, ⟨0, 0⟩, 0, ⟨0, 0⟩, 0⟩
theorem infoInsE : (Tryd.prog.info? 53).map (fun i => (i.zero, i.size, i.bytes)) = some (some (insV insZ), 9, 72) := by kernel_rfl
theorem made_ins (n : Nat) : (madeCells (insV insZ).cells (n * 9)).toList = (List.replicate n insZ).flatMap insC := by
  apply List.ext_getElem?
  intro j
  have hl : ((List.replicate n insZ).flatMap insC).length = n * 9 := by simp [List.length_flatMap, insC]
  by_cases hj : j < n * 9
  · have h1 : (List.replicate n insZ)[j / 9]? = some insZ := by rw [List.getElem?_replicate]; simp; omega
    have h2 := flat_at insC 9 (fun _ => rfl) (List.replicate n insZ) (j / 9) (j % 9) insZ h1 (Nat.mod_lt _ (by decide))
    rw [show j / 9 * 9 + j % 9 = j by omega] at h2
    rw [h2]
    have h3 : (madeCells (insV insZ).cells (n * 9)).toList[j]? = some ((insV insZ).cells[j % (insV insZ).cells.size]!) := by simp [madeCells, hj]
    rw [h3]
    have h4 : ∀ k, k < 9 → some ((insV insZ).cells[k]!) = (insC insZ)[k]? := fun k hk => by
      match k, hk with
      | 0, _ => rfl
      | 1, _ => rfl
      | 2, _ => rfl
      | 3, _ => rfl
      | 4, _ => rfl
      | 5, _ => rfl
      | 6, _ => rfl
      | 7, _ => rfl
      | 8, _ => rfl
    exact h4 (j % 9) (Nat.mod_lt _ (by decide))
  · have h5 : (madeCells (insV insZ).cells (n * 9)).toList[j]? = none := List.getElem?_eq_none (by simp [madeCells]; omega)
    rw [h5, List.getElem?_eq_none (by rw [hl]; omega)]
end Go.Proofs.YtengdlchglkkjaaDoor
