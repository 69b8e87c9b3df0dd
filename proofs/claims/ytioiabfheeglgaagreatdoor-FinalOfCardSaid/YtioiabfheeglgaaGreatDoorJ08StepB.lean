/- Threads step by step, in plain Lean. Of no memory. -/
import Derived.Test.YtioiabfheeglgaaGreatDoorJ00Trees
import Derived.Test.YtioiabfheeglgaaGreatDoorJ07DoW
import Derived.Test.YtioiabfheeglgaaGreatDoorJ02RegFin
import Derived.Test.YtioiabfheeglgaaGreatDoorJ01Puts
import Derived.Deep.RegionLaw
import Derived.Deep.RegionHeld3
namespace Go.Proofs.YtioiabfheeglgaaGreatDoor

/-- Where a thread is. -/
structure LocT where
 pc : Int
 r0 : Int
 r1 : Int
 r2 : Int
 r3 : Int
def regAt (l : LocT) (r : Int) : Int := if r = 0 then l.r0 else if r = 1 then l.r1 else if r = 2 then l.r2 else l.r3
def setR (l : LocT) (r v : Int) : LocT := if r = 0 then ⟨l.pc, v, l.r1, l.r2, l.r3⟩ else if r = 1 then ⟨l.pc, l.r0, v, l.r2, l.r3⟩ else if r = 2 then ⟨l.pc, l.r0, l.r1, v, l.r3⟩ else ⟨l.pc, l.r0, l.r1, l.r2, v⟩
def pcTo (l : LocT) (n : Int) : LocT := ⟨n, l.r0, l.r1, l.r2, l.r3⟩
def valOf (o : Opd) (l : LocT) : Int := if regOk o.r then regAt l o.r else o.v
def withR (l : LocT) (r v : Int) : LocT := if regOk r then setR l r v else l
def resOf (i : InsT) (l : LocT) : Int := if i.o == 0 then valOf i.a l else doV i.o (valOf i.a l) (valOf i.b l)
def skipOf (i : InsT) (l : LocT) (left : Int) : Int := if valOf i.a l == valOf i.b l then min (max i.n 0) left else 0
theorem regOk_four {r : Int} (h : regOk r = true) : r = 0 ∨ r = 1 ∨ r = 2 ∨ r = 3 := by
 unfold regOk at h
 simp only [Bool.and_eq_true, decide_eq_true_eq] at h
 omega
/-- A thread that is made normal: as many steps as it may take. -/
def settleN : Nat → List InsT → LocT → LocT
 | 0, _, l => l
 | n + 1, L, l =>
  match L[l.pc.toNat]? with
  | none => l
  | some i =>
   if i.k == 5 then settleN n L (pcTo (withR l i.r (resOf i l)) (l.pc + 1))
   else if i.k == 6 then settleN n L (pcTo l (l.pc + skipOf i l (L.length - l.pc - 1) + 1))
   else l
def settleP (L : List InsT) (l : LocT) : LocT := settleN (L.length - l.pc.toNat) L l
theorem withR_pc (l : LocT) (r v : Int) : (withR l r v).pc = l.pc := by
 unfold withR setR
 repeat' split
 all_goals rfl
theorem skipOf_bd (i : InsT) (l : LocT) (left : Int) (h : 0 ≤ left) : 0 ≤ skipOf i l left ∧ skipOf i l left ≤ left := by
 unfold skipOf
 split <;> omega
theorem settleN_more : ∀ (n m : Nat) (L : List InsT) (l : LocT), 0 ≤ l.pc → L.length - l.pc.toNat ≤ n → n ≤ m → settleN n L l = settleN m L l
 | 0, 0, _, _, _, _, _ => rfl
 | 0, m + 1, L, l, _, h, _ => by
  have : L[l.pc.toNat]? = none := List.getElem?_eq_none (by omega)
  unfold settleN
  rw [this]
 | n + 1, 0, _, _, _, _, h => by omega
 | n + 1, m + 1, L, l, h0, h, hm => by
  unfold settleN
  rcases hi : L[l.pc.toNat]? with _ | i
  ·
   rfl
  ·
   have hlt : l.pc.toNat < L.length := (List.getElem?_eq_some_iff.1 hi).1
   have hs := skipOf_bd i l (L.length - l.pc - 1) (by omega)
   simp only
   split
   ·
    exact settleN_more n m L _ (by simp only [pcTo]; omega) (by simp only [pcTo]; omega) (by omega)
   ·
    split
    ·
     exact settleN_more n m L _ (by simp only [pcTo]; omega) (by simp only [pcTo]; omega) (by omega)
    ·
     rfl
theorem settle_end {L : List InsT} {l : LocT} (h : L.length ≤ l.pc.toNat) : settleP L l = l := by
 unfold settleP
 rw [show L.length - l.pc.toNat = 0 by omega]
 rfl
theorem settle_step {L : List InsT} {l : LocT} {i : InsT} (h0 : 0 ≤ l.pc) (hi : L[l.pc.toNat]? = some i) : settleP L l =
  if i.k == 5 then settleP L (pcTo (withR l i.r (resOf i l)) (l.pc + 1)) else if i.k == 6 then settleP L (pcTo l (l.pc + skipOf i l (L.length - l.pc - 1) + 1)) else l := by
 have hlt : l.pc.toNat < L.length := (List.getElem?_eq_some_iff.1 hi).1
 have hs := skipOf_bd i l (L.length - l.pc - 1) (by omega)
 unfold settleP
 obtain ⟨n, hn⟩ : ∃ n, L.length - l.pc.toNat = n + 1 := ⟨L.length - l.pc.toNat - 1, by omega⟩
 rw [hn]
 rw [settleN, hi]
 simp only
 split
 ·
  exact (settleN_more _ n L _ (by simp only [pcTo]; omega) (Nat.le_refl _) (by simp only [pcTo]; omega)).symm
 ·
  split
  ·
   exact (settleN_more _ n L _ (by simp only [pcTo]; omega) (Nat.le_refl _) (by simp only [pcTo]; omega)).symm
  ·
   rfl
end Go.Proofs.YtioiabfheeglgaaGreatDoor

namespace Go.Proofs.YtioiabfheeglgaaGreatDoor
open Go.RowKit

def insV (x : InsT) : Value := .agg #[.int .i64 x.k, .int .i64 x.r, .int .i64 x.l, .int .i64 x.a.r, .int .i64 x.a.v, .int .i64 x.o, .int .i64 x.b.r, .int .i64 x.b.v, .int .i64 x.n]
/-- v is a program with these threads. -/
def ProgRd (w : World) (v : Value) (LL : List (List InsT)) : Prop :=
 ∃ a1 m1 c1 a2 m2 c2 a c, v = .agg #[.slice a1 m1 c1, .slice a2 m2 c2, .slice a LL.length c] ∧ Rd2 insC 9 w (.slice a LL.length c) LL
theorem ProgRd.on {w w' : World} {v : Value} {LL : List (List InsT)} (h : ProgRd w v LL) (k : On w w') : ProgRd w' v LL := by
 obtain ⟨a1, m1, c1, a2, m2, c2, a, c, rfl, r⟩ := h
 exact ⟨a1, m1, c1, a2, m2, c2, a, c, rfl, r.on k⟩
def insZ : InsT := ⟨0, 0, 0, ⟨0, 0⟩, 0, ⟨0, 0⟩, 0⟩
theorem infoInsE : (Tryz.prog.info? 67).map (fun i => (i.zero, i.size, i.bytes)) = some (some (insV insZ), 9, 72) := by kernel_rfl
theorem made_ins (n : Nat) : (madeCells (insV insZ).cells (n * 9)).toList = (List.replicate n insZ).flatMap insC := by
 apply List.ext_getElem?
 intro j
 have hl : ((List.replicate n insZ).flatMap insC).length = n * 9 := by simp [List.length_flatMap, insC]
 by_cases hj : j < n * 9
 ·
  have h1 : (List.replicate n insZ)[j / 9]? = some insZ := by rw [List.getElem?_replicate]; simp; omega
  have h2 := flat_at insC 9 (fun _ => rfl) (List.replicate n insZ) (j / 9) (j % 9) insZ h1 (Nat.mod_lt _ (by decide))
  rw [show j / 9 * 9 + j % 9 = j by omega] at h2
  rw [h2]
  have h3 : (madeCells (insV insZ).cells (n * 9)).toList[j]? = some ((insV insZ).cells[j % (insV insZ).cells.size]!) := by simp [madeCells, hj]
  rw [h3]
  have h4 : ∀ k, k < 9 → some ((insV insZ).cells[k]!) = (insC insZ)[k]? := fun k hk => by
   match k, hk with
   | 0, _ => rfl
   | 1, _ => rfl
   | 2, _ => rfl
   | 3, _ => rfl
   | 4, _ => rfl
   | 5, _ => rfl
   | 6, _ => rfl
   | 7, _ => rfl
   | 8, _ => rfl
  exact h4 (j % 9) (Nat.mod_lt _ (by decide))
 ·
  have h5 : (madeCells (insV insZ).cells (n * 9)).toList[j]? = none := List.getElem?_eq_none (by simp [madeCells]; omega)
  rw [h5, List.getElem?_eq_none (by rw [hl]; omega)]
end Go.Proofs.YtioiabfheeglgaaGreatDoor

namespace Go.Proofs.YtioiabfheeglgaaGreatDoor
open Go.RowKit

def locV (l : LocT) : Value := .agg #[.int .i64 l.pc, .int .i64 l.r0, .int .i64 l.r1, .int .i64 l.r2, .int .i64 l.r3]
theorem pregister_is (r : Int) (w : World) : Calls Tryz.prog 73 #[.int .i64 r] w fun e w' => e = .returned (.bool (regOk r)) ∧ w' = w := by
 by_cases h : 0 ≤ r
 ·
  by_cases h3 : r ≤ 3
  ·
   have e : regOk r = true := by unfold regOk; simp; omega
   have h4 : decide (r < 4) = true := by simp; omega
   rw [e]
   go_enter Tryz.func73, Tryz.ntmps73
   go_wp2
   go_ret
   exact ⟨rfl, rfl⟩
  ·
   have e : regOk r = false := by unfold regOk; simp; omega
   have h4 : decide (r < 4) = false := by simp; omega
   rw [e]
   go_enter Tryz.func73, Tryz.ntmps73
   go_wp2
   go_ret
   exact ⟨rfl, rfl⟩
 ·
  have e : regOk r = false := by unfold regOk; simp; omega
  rw [e]
  go_enter Tryz.func73, Tryz.ntmps73
  go_wp2
  go_ret
  exact ⟨rfl, rfl⟩
set_option maxHeartbeats 1000000 in
theorem pvalue_is (o : Opd) (l : LocT) (w : World) : Calls Tryz.prog 59 #[.agg #[.int .i64 o.r, .int .i64 o.v], locV l] w fun e w' => e = .returned (.int .i64 (valOf o l)) ∧ On w w' := by
 obtain ⟨r, v⟩ := o
 obtain ⟨pc, r0, r1, r2, r3⟩ := l
 unfold valOf locV
 have hR := fun W => pregister_is r W
 cases h : regOk r with
 | false =>
  rw [h] at hR
  go_enter Tryz.func59, Tryz.ntmps59
  go_wp2_with (go_at_call 73; refine (hR _).mono ?_; rintro e w' ⟨rfl, rfl⟩)
  go_ret
  exact ⟨rfl, ((On.refl w).alloc _).alloc _⟩
 | true =>
  rw [h] at hR
  rcases regOk_four h with rfl | rfl | rfl | rfl
  all_goals
   go_enter Tryz.func59, Tryz.ntmps59
   go_wp2_with (go_at_call 73; refine (hR _).mono ?_; rintro e w' ⟨rfl, rfl⟩)
   go_ret
   exact ⟨rfl, ((On.refl w).alloc _).alloc _⟩
set_option maxHeartbeats 1000000 in
theorem pwith_is (l : LocT) (r v : Int) (w : World) : Calls Tryz.prog 61 #[locV l, .int .i64 r, .int .i64 v] w fun e w' => e = .returned (locV (withR l r v)) ∧ On w w' := by
 obtain ⟨pc, r0, r1, r2, r3⟩ := l
 unfold withR locV
 have hR := fun W => pregister_is r W
 have k0 : ∀ A B, On w ((w.alloc A).alloc B) := fun A B => ((On.refl w).alloc A).alloc B
 cases h : regOk r with
 | false =>
  rw [h] at hR
  go_enter Tryz.func61, Tryz.ntmps61
  go_wp2_with (go_at_call 73; refine (hR _).mono ?_; rintro e w' ⟨rfl, rfl⟩)
  refine bodyPost_ret (v := locV ⟨pc, r0, r1, r2, r3⟩) ?_ rfl ⟨rfl, ?_⟩
  ·
   rw [results_cell rfl]
   unfold locV
   go_simp
  ·
   repeat' (first | with_reducible refine On.setNew ?_ (by omega) _ | with_reducible exact On.refl _ | with_reducible refine On.alloc ?_ _)
 | true =>
  rw [h] at hR
  rcases regOk_four h with rfl | rfl | rfl | rfl
  all_goals
   go_enter Tryz.func61, Tryz.ntmps61
   go_wp2_with (go_at_call 73; refine (hR _).mono ?_; rintro e w' ⟨rfl, rfl⟩)
  ·
   refine bodyPost_ret (v := locV ⟨pc, v, r1, r2, r3⟩) ?_ rfl ⟨rfl, ?_⟩
   ·
    rw [results_cell rfl]
    unfold locV
    go_simp
   ·
    repeat' (first | with_reducible refine On.setNew ?_ (by omega) _ | with_reducible exact On.refl _ | with_reducible refine On.alloc ?_ _)
  ·
   refine bodyPost_ret (v := locV ⟨pc, r0, v, r2, r3⟩) ?_ rfl ⟨rfl, ?_⟩
   ·
    rw [results_cell rfl]
    unfold locV
    go_simp
   ·
    repeat' (first | with_reducible refine On.setNew ?_ (by omega) _ | with_reducible exact On.refl _ | with_reducible refine On.alloc ?_ _)
  ·
   refine bodyPost_ret (v := locV ⟨pc, r0, r1, v, r3⟩) ?_ rfl ⟨rfl, ?_⟩
   ·
    rw [results_cell rfl]
    unfold locV
    go_simp
   ·
    repeat' (first | with_reducible refine On.setNew ?_ (by omega) _ | with_reducible exact On.refl _ | with_reducible refine On.alloc ?_ _)
  ·
   refine bodyPost_ret (v := locV ⟨pc, r0, r1, r2, v⟩) ?_ rfl ⟨rfl, ?_⟩
   ·
    rw [results_cell rfl]
    unfold locV
    go_simp
   ·
    repeat' (first | with_reducible refine On.setNew ?_ (by omega) _ | with_reducible exact On.refl _ | with_reducible refine On.alloc ?_ _)
end Go.Proofs.YtioiabfheeglgaaGreatDoor

namespace Go.Proofs.YtioiabfheeglgaaGreatDoor
open Go.RowKit

set_option maxHeartbeats 2000000 in
theorem presult_is (x : InsT) (l : LocT) (w : World) : Calls Tryz.prog 71 #[insV x, locV l] w fun e w' => e = .returned (.int .i64 (resOf x l)) ∧ On w w' := by
 have hA := fun W => pvalue_is x.a l W
 have hB := fun W => pvalue_is x.b l W
 unfold resOf
 have hD := fun W => do_any x.o (valOf x.a l) (valOf x.b l) W
 obtain ⟨W0, hW0⟩ : ∃ W0, W0 = (w.alloc (.cells #[.int .i64 x.k, .int .i64 x.r, .int .i64 x.l, .int .i64 x.a.r, .int .i64 x.a.v, .int .i64 x.o, .int .i64 x.b.r, .int .i64 x.b.v, .int .i64 x.n] 67)).alloc (.cells #[.int .i64 l.pc, .int .i64 l.r0, .int .i64 l.r1, .int .i64 l.r2, .int .i64 l.r3] 73) := ⟨_, rfl⟩
 have K0 : Hid (On w W0) := by show On w W0; rw [hW0]; exact ((On.refl w).alloc _).alloc _
 have B0 : Bk W0 w.heap.size #[.int .i64 x.k, .int .i64 x.r, .int .i64 x.l, .int .i64 x.a.r, .int .i64 x.a.v, .int .i64 x.o, .int .i64 x.b.r, .int .i64 x.b.v, .int .i64 x.n] := by rw [hW0]; exact (Bk.new w _ _).alloc _
 have C0 : Bk W0 (w.heap.size + 1) #[.int .i64 l.pc, .int .i64 l.r0, .int .i64 l.r1, .int .i64 l.r2, .int .i64 l.r3] := by rw [hW0]; have := Bk.new (w.alloc (.cells #[.int .i64 x.k, .int .i64 x.r, .int .i64 x.l, .int .i64 x.a.r, .int .i64 x.a.v, .int .i64 x.o, .int .i64 x.b.r, .int .i64 x.b.v, .int .i64 x.n] 67)) #[.int .i64 l.pc, .int .i64 l.r0, .int .i64 l.r1, .int .i64 l.r2, .int .i64 l.r3] 73; rwa [World.size_alloc] at this
 generalize valOf x.a l = va at *
 generalize valOf x.b l = vb at *
 generalize doV x.o va vb = R at *
 generalize doB x.o = b at *
 unfold insV locV
 unfold locV at hA hB
 go_enter Tryz.func71, Tryz.ntmps71
 go_wp2_with fail
 rw [← hW0]
 refine (hA _).mono ?_
 rintro e w1 ⟨rfl, k1⟩
 have B1 := B0.on k1
 have C1 := C0.on k1
 have K1 : Hid (On w w1) := K0.out.trans k1
 clear hA hW0 B0 C0 K0 k1
 have y5 := B1.at (i := 5) rfl
 have yl := B1.lt
 have yl2 := C1.lt
 cases ho : (x.o == 0) with
 | true =>
  go_wp2
  go_ret
  exact ⟨rfl, K1.out⟩
 | false =>
  have y6 := B1.at (i := 6) rfl
  have y7 := B1.at (i := 7) rfl
  have z0 := C1.at (i := 0) rfl
  have z1 := C1.at (i := 1) rfl
  have z2 := C1.at (i := 2) rfl
  have z3 := C1.at (i := 3) rfl
  have z4 := C1.at (i := 4) rfl
  have hB1 := hB w1.drew
  have hk : ∀ w2, On w1.drew w2 → w2.cell? ⟨w.heap.size, 5, none⟩ = some (.int .i64 x.o) ∧ w.heap.size < w2.heap.size ∧ On w w2 := fun w2 k => ⟨(B1.on (show On w1 w2 from (On.refl w1).drew.trans k)).at (i := 5) rfl, (B1.on (show On w1 w2 from (On.refl w1).drew.trans k)).lt, K1.out.trans ((On.refl w1).drew.trans k)⟩
  clear hB B1 C1
  go_wp2
  go_region_law (first | (go_simp; refine hB1.mono ?_; rintro e w2 ⟨rfl, k2⟩; obtain ⟨y2, l2, K2⟩ := hk _ k2) | (go_simp; refine (hD _).mono ?_; rintro e w3 ⟨rfl, rfl⟩))
  all_goals (try go_wp2)
  all_goals go_ret
  all_goals exact ⟨rfl, K2⟩
set_option maxHeartbeats 4000000 in
set_option maxRecDepth 8000 in
theorem pskipped_is (x : InsT) (l : LocT) (n : Int) (w : World) : Calls Tryz.prog 72 #[insV x, locV l, .int .i64 n] w fun e w' => e = .returned (.int .i64 (skipOf x l n)) ∧ On w w' := by
 have hA := fun W => pvalue_is x.a l W
 have hB := fun W => pvalue_is x.b l W
 unfold skipOf
 obtain ⟨W0, hW0⟩ : ∃ W0, W0 = (w.alloc (.cells #[.int .i64 x.k, .int .i64 x.r, .int .i64 x.l, .int .i64 x.a.r, .int .i64 x.a.v, .int .i64 x.o, .int .i64 x.b.r, .int .i64 x.b.v, .int .i64 x.n] 67)).alloc (.cells #[.int .i64 l.pc, .int .i64 l.r0, .int .i64 l.r1, .int .i64 l.r2, .int .i64 l.r3] 73) := ⟨_, rfl⟩
 have K0 : Hid (On w W0.drew) := by show On w W0.drew; rw [hW0]; exact (((On.refl w).alloc _).alloc _).drew
 have B0 : Bk W0.drew w.heap.size #[.int .i64 x.k, .int .i64 x.r, .int .i64 x.l, .int .i64 x.a.r, .int .i64 x.a.v, .int .i64 x.o, .int .i64 x.b.r, .int .i64 x.b.v, .int .i64 x.n] := by rw [hW0]; exact (Bk.new w _ _).alloc _
 have C0 : Bk W0.drew (w.heap.size + 1) #[.int .i64 l.pc, .int .i64 l.r0, .int .i64 l.r1, .int .i64 l.r2, .int .i64 l.r3] := by rw [hW0]; have := Bk.new (w.alloc (.cells #[.int .i64 x.k, .int .i64 x.r, .int .i64 x.l, .int .i64 x.a.r, .int .i64 x.a.v, .int .i64 x.o, .int .i64 x.b.r, .int .i64 x.b.v, .int .i64 x.n] 67)) #[.int .i64 l.pc, .int .i64 l.r0, .int .i64 l.r1, .int .i64 l.r2, .int .i64 l.r3] 73; rwa [World.size_alloc] at this
 have hk : ∀ W, On W0.drew W → W.cell? ⟨w.heap.size, 3, none⟩ = some (.int .i64 x.a.r) ∧ W.cell? ⟨w.heap.size, 4, none⟩ = some (.int .i64 x.a.v) ∧ W.cell? ⟨w.heap.size, 6, none⟩ = some (.int .i64 x.b.r) ∧ W.cell? ⟨w.heap.size, 7, none⟩ = some (.int .i64 x.b.v) ∧ W.cell? ⟨w.heap.size, 8, none⟩ = some (.int .i64 x.n) ∧ W.cell? ⟨w.heap.size + 1, 0, none⟩ = some (.int .i64 l.pc) ∧ W.cell? ⟨w.heap.size + 1, 1, none⟩ = some (.int .i64 l.r0) ∧ W.cell? ⟨w.heap.size + 1, 2, none⟩ = some (.int .i64 l.r1) ∧ W.cell? ⟨w.heap.size + 1, 3, none⟩ = some (.int .i64 l.r2) ∧ W.cell? ⟨w.heap.size + 1, 4, none⟩ = some (.int .i64 l.r3) := fun W k => ⟨(B0.on k).at (i := 3) rfl, (B0.on k).at (i := 4) rfl, (B0.on k).at (i := 6) rfl, (B0.on k).at (i := 7) rfl, (B0.on k).at (i := 8) rfl, (C0.on k).at (i := 0) rfl, (C0.on k).at (i := 1) rfl, (C0.on k).at (i := 2) rfl, (C0.on k).at (i := 3) rfl, (C0.on k).at (i := 4) rfl⟩
 have hk0 : ∀ W, W = W0 → W.cell? ⟨w.heap.size, 3, none⟩ = some (.int .i64 x.a.r) ∧ W.cell? ⟨w.heap.size, 4, none⟩ = some (.int .i64 x.a.v) ∧ W.cell? ⟨w.heap.size, 6, none⟩ = some (.int .i64 x.b.r) ∧ W.cell? ⟨w.heap.size, 7, none⟩ = some (.int .i64 x.b.v) ∧ W.cell? ⟨w.heap.size, 8, none⟩ = some (.int .i64 x.n) ∧ W.cell? ⟨w.heap.size + 1, 0, none⟩ = some (.int .i64 l.pc) ∧ W.cell? ⟨w.heap.size + 1, 1, none⟩ = some (.int .i64 l.r0) ∧ W.cell? ⟨w.heap.size + 1, 2, none⟩ = some (.int .i64 l.r1) ∧ W.cell? ⟨w.heap.size + 1, 3, none⟩ = some (.int .i64 l.r2) ∧ W.cell? ⟨w.heap.size + 1, 4, none⟩ = some (.int .i64 l.r3) := by rintro W rfl; exact hk W.drew (On.refl _)
 obtain ⟨y0, y1, y2, y3, y4, y5, y6, y7, y8, y9⟩ := hk0 W0 rfl
 have yl : w.heap.size < W0.heap.size := B0.lt
 have yl2 : w.heap.size + 1 < W0.heap.size := C0.lt
 generalize valOf x.a l = va at *
 generalize valOf x.b l = vb at *
 clear B0 C0 hk0
 unfold insV locV
 unfold locV at hA hB
 cases hv : (va == vb)
 ·
  have hv' : (va != vb) = true := by simp [bne, hv]
  clear hv
  go_enter Tryz.func72, Tryz.ntmps72
  go_wp2
  rw [← hW0]
  clear hW0
  go_region_held3 (fun W => W.cell? ⟨w.heap.size, 3, none⟩ = some (.int .i64 x.a.r) ∧ W.cell? ⟨w.heap.size, 4, none⟩ = some (.int .i64 x.a.v) ∧ W.cell? ⟨w.heap.size, 6, none⟩ = some (.int .i64 x.b.r) ∧ W.cell? ⟨w.heap.size, 7, none⟩ = some (.int .i64 x.b.v) ∧ W.cell? ⟨w.heap.size, 8, none⟩ = some (.int .i64 x.n) ∧ W.cell? ⟨w.heap.size + 1, 0, none⟩ = some (.int .i64 l.pc) ∧ W.cell? ⟨w.heap.size + 1, 1, none⟩ = some (.int .i64 l.r0) ∧ W.cell? ⟨w.heap.size + 1, 2, none⟩ = some (.int .i64 l.r1) ∧ W.cell? ⟨w.heap.size + 1, 3, none⟩ = some (.int .i64 l.r2) ∧ W.cell? ⟨w.heap.size + 1, 4, none⟩ = some (.int .i64 l.r3)) (go_keep) (first | (go_at_call_of 59 (Value.agg #[.int .i64 x.a.r, .int .i64 x.a.v]); refine (hA _).mono ?_; rintro e w1 ⟨rfl, k1⟩; have K1 := On.trans K0.out k1; have S1 := hk _ k1) | (go_at_call_of 59 (Value.agg #[.int .i64 x.b.r, .int .i64 x.b.v]); refine (hB _).mono ?_; rintro e w2 ⟨rfl, k2⟩; have K2 := On.trans K1 k2; have S2 := hk _ (On.trans k1 k2)))
  all_goals (try go_wp2)
  all_goals go_ret
  all_goals exact ⟨rfl, K2⟩
 ·
  have hv' : (va != vb) = false := by simp [bne, hv]
  clear hv
  go_enter Tryz.func72, Tryz.ntmps72
  go_wp2
  rw [← hW0]
  clear hW0
  go_region_held3 (fun W => W.cell? ⟨w.heap.size, 3, none⟩ = some (.int .i64 x.a.r) ∧ W.cell? ⟨w.heap.size, 4, none⟩ = some (.int .i64 x.a.v) ∧ W.cell? ⟨w.heap.size, 6, none⟩ = some (.int .i64 x.b.r) ∧ W.cell? ⟨w.heap.size, 7, none⟩ = some (.int .i64 x.b.v) ∧ W.cell? ⟨w.heap.size, 8, none⟩ = some (.int .i64 x.n) ∧ W.cell? ⟨w.heap.size + 1, 0, none⟩ = some (.int .i64 l.pc) ∧ W.cell? ⟨w.heap.size + 1, 1, none⟩ = some (.int .i64 l.r0) ∧ W.cell? ⟨w.heap.size + 1, 2, none⟩ = some (.int .i64 l.r1) ∧ W.cell? ⟨w.heap.size + 1, 3, none⟩ = some (.int .i64 l.r2) ∧ W.cell? ⟨w.heap.size + 1, 4, none⟩ = some (.int .i64 l.r3)) (go_keep) (first | (go_at_call_of 59 (Value.agg #[.int .i64 x.a.r, .int .i64 x.a.v]); refine (hA _).mono ?_; rintro e w1 ⟨rfl, k1⟩; have K1 := On.trans K0.out k1; have S1 := hk _ k1) | (go_at_call_of 59 (Value.agg #[.int .i64 x.b.r, .int .i64 x.b.v]); refine (hB _).mono ?_; rintro e w2 ⟨rfl, k2⟩; have K2 := On.trans K1 k2; have S2 := hk _ (On.trans k1 k2)))
  all_goals (try go_wp2)
  all_goals go_ret
  all_goals exact ⟨congrArg (fun z => Ending.returned (Value.int .i64 z)) (by omega), K2⟩
end Go.Proofs.YtioiabfheeglgaaGreatDoor
