/- A row's block can be read. -/
import Derived.Test.YtplihlmejnohnaaGreatDoorJ02OwnR
import Derived.Test.YtplihlmejnohnaaGreatDoorJ07OkLeaf
import Derived.Test.YtplihlmejnohnaaGreatDoorJ12RiseW
import Derived.Test.YtplihlmejnohnaaGreatDoorJ15RowPut
import Derived.Laws.OwnMore
import Derived.Lib.BytesEntry
import Derived.Shelf.Lays
namespace Go.Proofs.YtplihlmejnohnaaGreatDoor
open Go.RowKit

theorem Rd.bk {α : Type} {C : α → List Value} {k : Nat} (hC : ∀ x, (C x).length = k) {w : World} {N : Nat} {L : List α} (h : Bk w N (L.flatMap C).toArray) (c : Nat) (hc : L.length ≤ c) (hm : L.length ≤ 9223372036854775807) : Rd C k w (.slice (some ⟨N, 0, none⟩) L.length c) L := by
  refine ⟨_, c, rfl, hc, hm, fun _ => ⟨N, 0, rfl, h.lt, fun i x j u hi hj => h.at ?_⟩⟩
  have hj' : j < k := by have := (List.getElem?_eq_some_iff.1 hj).1; rwa [hC] at this
  rw [Nat.zero_add, List.getElem?_toArray, flat_at C k hC L i j x hi hj', hj]
theorem Rd2.one {α : Type} {C : α → List Value} {k n : Nat} {w : World} {N : Nat} {L : List α} {a : Option Addr} {c : Nat} (hn : L.length = n) (h : Bk w N #[.slice a n c]) (hr : Rd C k w (.slice a L.length c) L) : Rd2 C k w (.slice (some ⟨N, 0, none⟩) 1 1) [L] := by
  subst hn
  refine ⟨[.slice a L.length c], rfl, Rd.bk (C := oneC) (fun _ => rfl) (L := [.slice a L.length c]) h 1 (Nat.le_refl _) (by simp), fun i u M hi hM => ?_⟩
  match i, hi, hM with
  | 0, hi, hM =>
    simp only [List.getElem?_cons_zero, Option.some.injEq] at hi hM
    subst hi; subst hM
    exact hr
  | i + 1, hi, _ => simp at hi
end Go.Proofs.YtplihlmejnohnaaGreatDoor

namespace Go.Proofs.YtplihlmejnohnaaGreatDoor
open Go.RowKit

def hasLocB (k : Int) : Bool := k == 1 || k == 2 || k == 4
theorem hasLoc_is (k : Int) (w : World) : Calls Tryz.prog 100 #[.int .i64 k] w fun e w' => e = .returned (.bool (hasLocB k)) ∧ w' = w := by
  unfold hasLocB
  cases h1 : (k == 1) with
  | true =>
    go_enter Tryz.func100, Tryz.ntmps100
    go_wp2
    go_ret
    exact ⟨rfl, rfl⟩
  | false =>
    cases h2 : (k == 2) with
    | true =>
      go_enter Tryz.func100, Tryz.ntmps100
      go_wp2
      go_ret
      exact ⟨rfl, rfl⟩
    | false =>
      cases h4 : (k == 4)
      all_goals
        go_enter Tryz.func100, Tryz.ntmps100
        go_wp2
        go_ret
        exact ⟨rfl, rfl⟩
/-- Where a letter stands. -/
def plc (LT : List UInt8) (l : Int) : Int := Lib.indexByte LT (IntKind.u8.wrap l).toNat.toUInt8
theorem bytes_back : ∀ LT : List UInt8, Lib.bytesOf (LT.map (fun b => (b.toNat : Int))) = LT
  | [] => rfl
  | b :: LT => by
    have := bytes_back LT
    simp only [Lib.bytesOf, List.map_cons] at this ⊢
    rw [this]
    congr 1
    simp
set_option maxHeartbeats 1000000 in
set_option maxRecDepth 100000 in
theorem indexByte_is (LT : List UInt8) (cv : Int) (a : Option Addr) (c : Nat) (w : World) (h : Rd byteC 1 w (.slice a LT.length c) LT) (h0 : 0 < LT.length) :
    Calls Tryz.prog 119 #[.slice a LT.length c, .int .u8 cv] w fun e w' => e = .returned (.int .i64 (Lib.indexByte LT cv.toNat.toUInt8)) ∧ w' = w := by
  obtain ⟨a', c', hv, hc, hm, hr⟩ := h
  simp only [Value.slice.injEq] at hv
  obtain ⟨rfl, _, rfl⟩ := hv
  obtain ⟨g, off, rfl, hg, hcell⟩ := hr h0
  have hx : ∀ i, i < LT.length → w.cell? ⟨g, off + i, none⟩ = some (.int .u8 ((LT.map (fun b => (b.toNat : Int))).getD i 0)) := by
    intro i hi
    have := hcell i LT[i] 0 _ (List.getElem?_eq_getElem hi) rfl
    rw [Nat.mul_one, Nat.add_zero] at this
    rw [this, List.getD_eq_getElem?_getD, List.getElem?_map, List.getElem?_eq_getElem hi]
    rfl
  have hrun := Lib.run_indexByteSlice (P := Tryz.prog) w g off LT.length c (LT.map (fun b => (b.toNat : Int))) (by simp) hx cv
  rw [bytes_back] at hrun
  generalize Lib.indexByte LT cv.toNat.toUInt8 = R at *
  generalize LT.length = m at *
  clear hx hcell hr
  go_enter Tryz.func119, Tryz.ntmps119
  go_wp2
  rw [run_callFunc_extern Tryz.func136 (by kernel_rfl) (by kernel_rfl) (by kernel_rfl) (e := Extern.BytealgIndexByte.indexByte) (by kernel_rfl), hrun]
  simp only [Result.andThen]
  rw [Oper.upon_value]
  go_wp2
  go_ret
  exact ⟨rfl, rfl⟩
theorem place_is (LT : List UInt8) (l : Int) (a : Option Addr) (c : Nat) (w : World) (h : Rd byteC 1 w (.slice a LT.length c) LT) (h0 : 0 < LT.length) :
    Calls Tryz.prog 99 #[.int .i64 l, .slice a LT.length c] w fun e w' => e = .returned (.int .i64 (plc LT l)) ∧ w' = w := by
  have hI := fun cv => indexByte_is LT cv a c w h h0
  unfold plc
  obtain ⟨cv, hcv⟩ : ∃ cv, IntKind.u8.wrap l = cv := ⟨_, rfl⟩
  rw [hcv]
  have hI1 := hI cv
  clear hI h
  generalize Lib.indexByte LT cv.toNat.toUInt8 = R at *
  generalize LT.length = m at *
  go_enter Tryz.func99, Tryz.ntmps99
  go_wp2_with fail
  refine hI1.mono ?_
  rintro e w1 ⟨rfl, rfl⟩
  go_wp2
  go_ret
  exact ⟨rfl, rfl⟩
set_option maxHeartbeats 1000000 in
theorem beg0_is (m : Nat) (a ai : Option Addr) (c ci : Nat) (w : World) (hm : m ≤ 26) :
    Calls Tryz.prog 78 #[.slice ai 0 ci, .slice a m c] w fun e w' => ∃ a2 m2 c2, e = .returned (.slice a2 m2 c2) ∧ On w w' := by
  obtain ⟨i0, hi, hz0, hz1, hz2⟩ := info_parts infoI64
  obtain ⟨w2, hmk, hown, hgr⟩ := run_make_full (P := Tryz.prog) w w.heap.size 24 2 i0 (.int .i64 0) 1 Tryz.underlying24 hi hz0 hz1 .i64 .i64 m (by rw [hz2]; omega) (by unfold maxLen; omega) (Nat.le_refl _)
  have K2 : Hid (On w w2) := (On.refl w).grownNone hgr
  clear hown hgr
  go_enter Tryz.func78, Tryz.ntmps78
  go_wp2
  go_loopg [13] 1 (fun gg s13 wq => gg = 1 ∧ s13 = .int .i64 0 ∧ Hid (On w wq))
  case atStart => exact ⟨rfl, rfl, K2⟩
  case round =>
    obtain ⟨_, rfl, HO⟩ := hrel
    go_wp2
    go_ret
    exact ⟨_, _, _, rfl, HO.out⟩
def placeIns (LT : List UInt8) (x : InsT) : InsT := if hasLocB x.k then ⟨x.k, x.r, plc LT x.l, x.a, x.o, x.b, x.n⟩ else x
def placedP (LT : List UInt8) (L : List InsT) : List InsT := L.map (placeIns LT)
end Go.Proofs.YtplihlmejnohnaaGreatDoor

namespace Go.Proofs.YtplihlmejnohnaaGreatDoor
open Go.RowKit

/-- The row as far as it is filled. -/
def rowTo (LT : List UInt8) (L : List InsT) (n : Nat) : List InsT := placedP LT (L.take n) ++ List.replicate (L.length - n) insZ
theorem rowTo_len (LT : List UInt8) (L : List InsT) {n : Nat} (h : n ≤ L.length) : (rowTo LT L n).length = L.length := by
  unfold rowTo placedP
  simp
  omega
theorem rowTo_step (LT : List UInt8) (L : List InsT) {n : Nat} {x : InsT} (hx : L[n]? = some x) : (rowTo LT L n).set n (placeIns LT x) = rowTo LT L (n + 1) := by
  have hlt : n < L.length := (List.getElem?_eq_some_iff.1 hx).1
  unfold rowTo
  have e : (placedP LT (L.take n)).length = n := by unfold placedP; simp; omega
  rw [show L.length - n = (L.length - (n + 1)) + 1 by omega, rep_succ]
  have := set_split (placedP LT (L.take n)) (List.replicate (L.length - (n + 1)) insZ) insZ (placeIns LT x)
  rw [e] at this
  rw [this, List.take_add_one, hx]
  unfold placedP
  simp
theorem rowTo_all (LT : List UInt8) (L : List InsT) : rowTo LT L L.length = placedP LT L := by
  unfold rowTo
  simp
theorem rowTo_zero (LT : List UInt8) (L : List InsT) : rowTo LT L 0 = List.replicate L.length insZ := by
  unfold rowTo placedP
  simp
theorem rowTo_at (LT : List UInt8) (L : List InsT) {n : Nat} (h : n < L.length) : (rowTo LT L n)[n]? = some insZ := by
  unfold rowTo
  have e : (placedP LT (L.take n)).length = n := by unfold placedP; simp; omega
  rw [List.getElem?_append_right (by omega), e, Nat.sub_self, List.getElem?_replicate, if_pos (by omega)]
set_option maxHeartbeats 4000000 in
set_option maxRecDepth 8000 in
theorem placed_is (LT : List UInt8) (L : List InsT) (a : Option Addr) (c : Nat) (al : Option Addr) (cl : Nat) (w : World) (h : Rd insC 9 w (.slice a L.length c) L) (hl : Rd byteC 1 w (.slice al LT.length cl) LT)
    (h10 : L.length ≤ 1000000) (hT : ∀ x ∈ L, hasLocB x.k = true → 0 < LT.length) :
    Calls Tryz.prog 79 #[.slice a L.length c, .slice al LT.length cl] w fun e w' => ∃ a2 c2, e = .returned (.slice a2 L.length c2) ∧ w'.ownsRow w.heap.size 107 9 (.slice a2 L.length c2) L.length ((placedP LT L).flatMap insC) ∧ On w w' := by
  obtain ⟨i0, hi, hz0, hz1, hz2⟩ := info_parts infoInsE
  obtain ⟨w2, hmk, hown, hgr⟩ := run_make_full (P := Tryz.prog) w w.heap.size 117 107 i0 (insV insZ) 9 Tryz.underlying117 hi hz0 hz1 .i64 .i64 L.length (by rw [hz2]; omega) (by unfold maxLen; omega) (Nat.le_refl _)
  rw [made_ins, ← rowTo_zero LT L] at hown
  have K2 : Hid (On w w2) := (On.refl w).grownNone hgr
  have HR : Hid (Rd insC 9 w (.slice a L.length c) L) := h
  have HL : Hid (Rd byteC 1 w (.slice al LT.length cl) LT) := hl
  have HT : Hid (∀ x ∈ L, hasLocB x.k = true → 0 < LT.length) := hT
  have HW : Hid (w2.ownsRow w.heap.size 107 9 (.slice (some ⟨w.heap.size, 0, none⟩) L.length L.length) L.length ((rowTo LT L 0).flatMap insC)) := hown
  have hsz2 : w.heap.size < w2.heap.size := own_lt hown
  clear hown hgr h hl hT
  go_enter Tryz.func79, Tryz.ntmps79
  go_wp2
  clear hmk
  go_loopg [13] L.length (fun gg s13 wq => ∃ n : Nat, n ≤ L.length ∧ gg = L.length - n ∧ s13 = .int .i64 n ∧ w.heap.size < wq.heap.size ∧ Hid (On w wq) ∧ Hid (wq.ownsRow w.heap.size 107 9 (.slice (some ⟨w.heap.size, 0, none⟩) L.length L.length) L.length ((rowTo LT L n).flatMap insC)))
  case atStart => exact ⟨0, Nat.zero_le _, rfl, rfl, hsz2, K2, HW⟩
  case round =>
    clear HW K2 hsz2
    obtain ⟨n, hn, hk, rfl, hsz, HO, HW⟩ := hrel
    rcases Nat.lt_or_ge n L.length with hlt | hge
    · obtain ⟨x, hx⟩ : ∃ x, L[n]? = some x := ⟨_, List.getElem?_eq_getElem hlt⟩
      obtain ⟨g, off, rfl, hg, hcell⟩ := (HR.out.on HO.out).at hx
      have q0 : wr.cell? ⟨g, off + n * 9, none⟩ = _ := hcell 0 _ rfl
      have q1 : wr.cell? ⟨g, off + n * 9 + 1, none⟩ = _ := hcell 1 _ rfl
      have q2 : wr.cell? ⟨g, off + n * 9 + 2, none⟩ = _ := hcell 2 _ rfl
      have q3 : wr.cell? ⟨g, off + n * 9 + 3, none⟩ = _ := hcell 3 _ rfl
      have q4 : wr.cell? ⟨g, off + n * 9 + 4, none⟩ = _ := hcell 4 _ rfl
      have q5 : wr.cell? ⟨g, off + n * 9 + 5, none⟩ = _ := hcell 5 _ rfl
      have q6 : wr.cell? ⟨g, off + n * 9 + 6, none⟩ = _ := hcell 6 _ rfl
      have q7 : wr.cell? ⟨g, off + n * 9 + 7, none⟩ = _ := hcell 7 _ rfl
      have q8 : wr.cell? ⟨g, off + n * 9 + 8, none⟩ = _ := hcell 8 _ rfl
      clear hcell
      have hH := fun W => hasLoc_is x.k W
      have hP := fun W (k : On w W) (h0 : 0 < LT.length) => place_is LT x.l al cl W (HL.out.on k) h0
      have HX : Hid ((rowTo LT L n).set n (placeIns LT x) = rowTo LT L (n + 1)) := rowTo_step LT L hx
      have hLT := HT.out x (List.mem_of_getElem? hx)
      have OW : ∀ T, (wr.alloc T).ownsRow w.heap.size 107 9 (.slice (some ⟨w.heap.size, 0, none⟩) L.length L.length) L.length ((rowTo LT L n).flatMap insC) := fun T => own_on HW.out ((On.refl wr).alloc T)
      have kO : ∀ T, On w (wr.alloc T) := fun T => HO.out.alloc T
      have zc : ∀ j, j < 9 → wr.cell? ⟨w.heap.size, n * 9 + j, none⟩ = some (.int .i64 0) := fun j hj => by
        rw [HW.out.cellAt _ (by omega), flat_at insC 9 (fun _ => rfl) _ _ _ _ (rowTo_at LT L hlt) hj]
        match j, hj with
        | 0, _ => rfl
        | 1, _ => rfl
        | 2, _ => rfl
        | 3, _ => rfl
        | 4, _ => rfl
        | 5, _ => rfl
        | 6, _ => rfl
        | 7, _ => rfl
        | 8, _ => rfl
      have zf := fun j => HW.out.frozenAt j
      have z0 : wr.cell? ⟨w.heap.size, n * 9, none⟩ = _ := zc 0 (by decide)
      have z1 := zc 1 (by decide)
      have z2 := zc 2 (by decide)
      have z3 := zc 3 (by decide)
      have z4 := zc 4 (by decide)
      have z5 := zc 5 (by decide)
      have z6 := zc 6 (by decide)
      have z7 := zc 7 (by decide)
      have z8 := zc 8 (by decide)
      have rl : (rowTo LT L n).length = L.length := rowTo_len LT L (by omega)
      have hcl : (n * 9 + 9 ≤ L.length * 9) := by omega
      clear hx
      cases hb : hasLocB x.k with
      | false =>
        have e1 : placeIns LT x = x := by unfold placeIns; rw [hb]; rfl
        rw [e1] at HX
        rw [hb] at hH
        go_wp2_with (go_at_call 100; refine (hH _).mono ?_; rintro e w' ⟨rfl, rfl⟩)
        have hp := row_put (L := rowTo LT L n) (c := L.length) (k := n) (by rw [rl]; exact HW.out) (by omega) x
        rw [rl, HX.out] at hp
        go_roundg (L.length - (n + 1))
        case measure => omega
        case rel =>
          rw [puts9]
          exact ⟨n + 1, by omega, rfl, by go_num, put_lt hsz _ _ _ _, (On.puts (Nat.le_refl _) (insC x) wr (n * 9) HO.out).alloc (.cells #[.int .i64 x.k, .int .i64 x.r, .int .i64 x.l, .int .i64 x.a.r, .int .i64 x.a.v, .int .i64 x.o, .int .i64 x.b.r, .int .i64 x.b.v, .int .i64 x.n] 107), hp.alloc (.cells #[.int .i64 x.k, .int .i64 x.r, .int .i64 x.l, .int .i64 x.a.r, .int .i64 x.a.v, .int .i64 x.o, .int .i64 x.b.r, .int .i64 x.b.v, .int .i64 x.n] 107)⟩
      | true =>
        have e1 : placeIns LT x = ⟨x.k, x.r, plc LT x.l, x.a, x.o, x.b, x.n⟩ := by unfold placeIns; rw [hb]; rfl
        rw [e1] at HX
        rw [hb] at hH
        have hP1 := fun W k => hP W k (hLT hb)
        clear hP hLT
        generalize plc LT x.l = pl at *
        go_wp2_with (first | (go_at_call 100; refine (hH _).mono ?_; rintro e w' ⟨rfl, rfl⟩) | (go_at_call 99; refine (hP1 _ (kO _)).mono ?_; rintro e w' ⟨rfl, rfl⟩))
        have hp := row_put (L := rowTo LT L n) (c := L.length) (k := n) (by rw [rl]; exact HW.out) (by omega) ⟨x.k, x.r, pl, x.a, x.o, x.b, x.n⟩
        rw [rl, HX.out] at hp
        go_roundg (L.length - (n + 1))
        case measure => omega
        case rel =>
          rw [puts9]
          exact ⟨n + 1, by omega, rfl, by go_num, put_lt hsz _ _ _ _, (On.puts (Nat.le_refl _) (insC ⟨x.k, x.r, pl, x.a, x.o, x.b, x.n⟩) wr (n * 9) HO.out).alloc (.cells #[.int .i64 x.k, .int .i64 x.r, .int .i64 pl, .int .i64 x.a.r, .int .i64 x.a.v, .int .i64 x.o, .int .i64 x.b.r, .int .i64 x.b.v, .int .i64 x.n] 107), hp.alloc (.cells #[.int .i64 x.k, .int .i64 x.r, .int .i64 pl, .int .i64 x.a.r, .int .i64 x.a.v, .int .i64 x.o, .int .i64 x.b.r, .int .i64 x.b.v, .int .i64 x.n] 107)⟩
    · obtain rfl : n = L.length := by omega
      have HW2 := HW.out
      rw [rowTo_all] at HW2
      have H2 : Hid _ := HW2
      clear HW HW2
      go_wp2
      go_ret
      exact ⟨_, _, rfl, H2.out, HO.out⟩
end Go.Proofs.YtplihlmejnohnaaGreatDoor
