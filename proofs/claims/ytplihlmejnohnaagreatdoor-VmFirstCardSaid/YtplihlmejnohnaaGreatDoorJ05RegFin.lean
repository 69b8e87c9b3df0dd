/- prog.result and prog.skipped, for every instruction and every Local. -/
import Derived.Test.YtplihlmejnohnaaGreatDoorJ04StepA
import Derived.Deep.RegionHeld3
import Derived.OrdersHeld
import Derived.WalkKit
namespace Go.Proofs.YtplihlmejnohnaaGreatDoor
open Go.RowKit

set_option maxHeartbeats 2000000 in
theorem presult_is (x : InsT) (l : LocT) (w : World) : Calls Tryz.prog 82 #[insV x, locV l] w fun e w' => e = .returned (.int .i64 (resOf x l)) ∧ On w w' := by
  have hA := fun W => pvalue_is x.a l W
  have hB := fun W => pvalue_is x.b l W
  unfold resOf
  have hD := fun W => do_any x.o (valOf x.a l) (valOf x.b l) W
  obtain ⟨W0, hW0⟩ : ∃ W0, W0 = (w.alloc (.cells #[.int .i64 x.k, .int .i64 x.r, .int .i64 x.l, .int .i64 x.a.r, .int .i64 x.a.v, .int .i64 x.o, .int .i64 x.b.r, .int .i64 x.b.v, .int .i64 x.n] 107)).alloc (.cells #[.int .i64 l.pc, .int .i64 l.r0, .int .i64 l.r1, .int .i64 l.r2, .int .i64 l.r3] 73) := ⟨_, rfl⟩
  have K0 : Hid (On w W0) := by show On w W0; rw [hW0]; exact ((On.refl w).alloc _).alloc _
  have B0 : Bk W0 w.heap.size #[.int .i64 x.k, .int .i64 x.r, .int .i64 x.l, .int .i64 x.a.r, .int .i64 x.a.v, .int .i64 x.o, .int .i64 x.b.r, .int .i64 x.b.v, .int .i64 x.n] := by rw [hW0]; exact (Bk.new w _ _).alloc _
  have C0 : Bk W0 (w.heap.size + 1) #[.int .i64 l.pc, .int .i64 l.r0, .int .i64 l.r1, .int .i64 l.r2, .int .i64 l.r3] := by rw [hW0]; have := Bk.new (w.alloc (.cells #[.int .i64 x.k, .int .i64 x.r, .int .i64 x.l, .int .i64 x.a.r, .int .i64 x.a.v, .int .i64 x.o, .int .i64 x.b.r, .int .i64 x.b.v, .int .i64 x.n] 107)) #[.int .i64 l.pc, .int .i64 l.r0, .int .i64 l.r1, .int .i64 l.r2, .int .i64 l.r3] 73; rwa [World.size_alloc] at this
  generalize valOf x.a l = va at *
  generalize valOf x.b l = vb at *
  generalize doV x.o va vb = R at *
  generalize doB x.o = b at *
  unfold insV locV
  unfold locV at hA hB
  go_enter Tryz.func82, Tryz.ntmps82
  go_wp2_with fail
  rw [← hW0]
  refine (hA _).mono ?_
  rintro e w1 ⟨rfl, k1⟩
  have B1 := B0.on k1
  have C1 := C0.on k1
  have K1 : Hid (On w w1) := K0.out.trans k1
  clear hA hW0 B0 C0 K0 k1
  have y5 := B1.at (i := 5) rfl
  have yl := B1.lt
  have yl2 := C1.lt
  cases ho : (x.o == 0) with
  | true =>
    go_wp2
    go_ret
    exact ⟨rfl, K1.out⟩
  | false =>
    have y6 := B1.at (i := 6) rfl
    have y7 := B1.at (i := 7) rfl
    have z0 := C1.at (i := 0) rfl
    have z1 := C1.at (i := 1) rfl
    have z2 := C1.at (i := 2) rfl
    have z3 := C1.at (i := 3) rfl
    have z4 := C1.at (i := 4) rfl
    have hB1 := hB w1.drew
    have hk : ∀ w2, On w1.drew w2 → w2.cell? ⟨w.heap.size, 5, none⟩ = some (.int .i64 x.o) ∧ w.heap.size < w2.heap.size ∧ On w w2 := fun w2 k => ⟨(B1.on (show On w1 w2 from (On.refl w1).drew.trans k)).at (i := 5) rfl, (B1.on (show On w1 w2 from (On.refl w1).drew.trans k)).lt, K1.out.trans ((On.refl w1).drew.trans k)⟩
    clear hB B1 C1
    go_wp2
    go_region_law (first | (go_simp; refine hB1.mono ?_; rintro e w2 ⟨rfl, k2⟩; obtain ⟨y2, l2, K2⟩ := hk _ k2) | (go_simp; refine (hD _).mono ?_; rintro e w3 ⟨rfl, rfl⟩))
    all_goals (try go_wp2)
    all_goals go_ret
    all_goals exact ⟨rfl, K2⟩
set_option maxHeartbeats 4000000 in
set_option maxRecDepth 8000 in
theorem pskipped_is (x : InsT) (l : LocT) (n : Int) (w : World) : Calls Tryz.prog 83 #[insV x, locV l, .int .i64 n] w fun e w' => e = .returned (.int .i64 (skipOf x l n)) ∧ On w w' := by
  have hA := fun W => pvalue_is x.a l W
  have hB := fun W => pvalue_is x.b l W
  unfold skipOf
  obtain ⟨W0, hW0⟩ : ∃ W0, W0 = (w.alloc (.cells #[.int .i64 x.k, .int .i64 x.r, .int .i64 x.l, .int .i64 x.a.r, .int .i64 x.a.v, .int .i64 x.o, .int .i64 x.b.r, .int .i64 x.b.v, .int .i64 x.n] 107)).alloc (.cells #[.int .i64 l.pc, .int .i64 l.r0, .int .i64 l.r1, .int .i64 l.r2, .int .i64 l.r3] 73) := ⟨_, rfl⟩
  have K0 : Hid (On w W0.drew) := by show On w W0.drew; rw [hW0]; exact (((On.refl w).alloc _).alloc _).drew
  have B0 : Bk W0.drew w.heap.size #[.int .i64 x.k, .int .i64 x.r, .int .i64 x.l, .int .i64 x.a.r, .int .i64 x.a.v, .int .i64 x.o, .int .i64 x.b.r, .int .i64 x.b.v, .int .i64 x.n] := by rw [hW0]; exact (Bk.new w _ _).alloc _
  have C0 : Bk W0.drew (w.heap.size + 1) #[.int .i64 l.pc, .int .i64 l.r0, .int .i64 l.r1, .int .i64 l.r2, .int .i64 l.r3] := by rw [hW0]; have := Bk.new (w.alloc (.cells #[.int .i64 x.k, .int .i64 x.r, .int .i64 x.l, .int .i64 x.a.r, .int .i64 x.a.v, .int .i64 x.o, .int .i64 x.b.r, .int .i64 x.b.v, .int .i64 x.n] 107)) #[.int .i64 l.pc, .int .i64 l.r0, .int .i64 l.r1, .int .i64 l.r2, .int .i64 l.r3] 73; rwa [World.size_alloc] at this
  have hk : ∀ W, On W0.drew W → W.cell? ⟨w.heap.size, 3, none⟩ = some (.int .i64 x.a.r) ∧ W.cell? ⟨w.heap.size, 4, none⟩ = some (.int .i64 x.a.v) ∧ W.cell? ⟨w.heap.size, 6, none⟩ = some (.int .i64 x.b.r) ∧ W.cell? ⟨w.heap.size, 7, none⟩ = some (.int .i64 x.b.v) ∧ W.cell? ⟨w.heap.size, 8, none⟩ = some (.int .i64 x.n) ∧ W.cell? ⟨w.heap.size + 1, 0, none⟩ = some (.int .i64 l.pc) ∧ W.cell? ⟨w.heap.size + 1, 1, none⟩ = some (.int .i64 l.r0) ∧ W.cell? ⟨w.heap.size + 1, 2, none⟩ = some (.int .i64 l.r1) ∧ W.cell? ⟨w.heap.size + 1, 3, none⟩ = some (.int .i64 l.r2) ∧ W.cell? ⟨w.heap.size + 1, 4, none⟩ = some (.int .i64 l.r3) := fun W k => ⟨(B0.on k).at (i := 3) rfl, (B0.on k).at (i := 4) rfl, (B0.on k).at (i := 6) rfl, (B0.on k).at (i := 7) rfl, (B0.on k).at (i := 8) rfl, (C0.on k).at (i := 0) rfl, (C0.on k).at (i := 1) rfl, (C0.on k).at (i := 2) rfl, (C0.on k).at (i := 3) rfl, (C0.on k).at (i := 4) rfl⟩
  have hk0 : ∀ W, W = W0 → W.cell? ⟨w.heap.size, 3, none⟩ = some (.int .i64 x.a.r) ∧ W.cell? ⟨w.heap.size, 4, none⟩ = some (.int .i64 x.a.v) ∧ W.cell? ⟨w.heap.size, 6, none⟩ = some (.int .i64 x.b.r) ∧ W.cell? ⟨w.heap.size, 7, none⟩ = some (.int .i64 x.b.v) ∧ W.cell? ⟨w.heap.size, 8, none⟩ = some (.int .i64 x.n) ∧ W.cell? ⟨w.heap.size + 1, 0, none⟩ = some (.int .i64 l.pc) ∧ W.cell? ⟨w.heap.size + 1, 1, none⟩ = some (.int .i64 l.r0) ∧ W.cell? ⟨w.heap.size + 1, 2, none⟩ = some (.int .i64 l.r1) ∧ W.cell? ⟨w.heap.size + 1, 3, none⟩ = some (.int .i64 l.r2) ∧ W.cell? ⟨w.heap.size + 1, 4, none⟩ = some (.int .i64 l.r3) := by rintro W rfl; exact hk W.drew (On.refl _)
  obtain ⟨y0, y1, y2, y3, y4, y5, y6, y7, y8, y9⟩ := hk0 W0 rfl
  have yl : w.heap.size < W0.heap.size := B0.lt
  have yl2 : w.heap.size + 1 < W0.heap.size := C0.lt
  generalize valOf x.a l = va at *
  generalize valOf x.b l = vb at *
  clear B0 C0 hk0
  unfold insV locV
  unfold locV at hA hB
  cases hv : (va == vb)
  · have hv' : (va != vb) = true := by simp [bne, hv]
    clear hv
    go_enter Tryz.func83, Tryz.ntmps83
    go_wp2
    rw [← hW0]
    clear hW0
    go_region_held3 (fun W => W.cell? ⟨w.heap.size, 3, none⟩ = some (.int .i64 x.a.r) ∧ W.cell? ⟨w.heap.size, 4, none⟩ = some (.int .i64 x.a.v) ∧ W.cell? ⟨w.heap.size, 6, none⟩ = some (.int .i64 x.b.r) ∧ W.cell? ⟨w.heap.size, 7, none⟩ = some (.int .i64 x.b.v) ∧ W.cell? ⟨w.heap.size, 8, none⟩ = some (.int .i64 x.n) ∧ W.cell? ⟨w.heap.size + 1, 0, none⟩ = some (.int .i64 l.pc) ∧ W.cell? ⟨w.heap.size + 1, 1, none⟩ = some (.int .i64 l.r0) ∧ W.cell? ⟨w.heap.size + 1, 2, none⟩ = some (.int .i64 l.r1) ∧ W.cell? ⟨w.heap.size + 1, 3, none⟩ = some (.int .i64 l.r2) ∧ W.cell? ⟨w.heap.size + 1, 4, none⟩ = some (.int .i64 l.r3)) (go_keep) (first | (go_at_call_of 102 (Value.agg #[.int .i64 x.a.r, .int .i64 x.a.v]); refine (hA _).mono ?_; rintro e w1 ⟨rfl, k1⟩; have K1 := On.trans K0.out k1; have S1 := hk _ k1) | (go_at_call_of 102 (Value.agg #[.int .i64 x.b.r, .int .i64 x.b.v]); refine (hB _).mono ?_; rintro e w2 ⟨rfl, k2⟩; have K2 := On.trans K1 k2; have S2 := hk _ (On.trans k1 k2)))
    all_goals (try go_wp2)
    all_goals go_ret
    all_goals exact ⟨rfl, K2⟩
  · have hv' : (va != vb) = false := by simp [bne, hv]
    clear hv
    go_enter Tryz.func83, Tryz.ntmps83
    go_wp2
    rw [← hW0]
    clear hW0
    go_region_held3 (fun W => W.cell? ⟨w.heap.size, 3, none⟩ = some (.int .i64 x.a.r) ∧ W.cell? ⟨w.heap.size, 4, none⟩ = some (.int .i64 x.a.v) ∧ W.cell? ⟨w.heap.size, 6, none⟩ = some (.int .i64 x.b.r) ∧ W.cell? ⟨w.heap.size, 7, none⟩ = some (.int .i64 x.b.v) ∧ W.cell? ⟨w.heap.size, 8, none⟩ = some (.int .i64 x.n) ∧ W.cell? ⟨w.heap.size + 1, 0, none⟩ = some (.int .i64 l.pc) ∧ W.cell? ⟨w.heap.size + 1, 1, none⟩ = some (.int .i64 l.r0) ∧ W.cell? ⟨w.heap.size + 1, 2, none⟩ = some (.int .i64 l.r1) ∧ W.cell? ⟨w.heap.size + 1, 3, none⟩ = some (.int .i64 l.r2) ∧ W.cell? ⟨w.heap.size + 1, 4, none⟩ = some (.int .i64 l.r3)) (go_keep) (first | (go_at_call_of 102 (Value.agg #[.int .i64 x.a.r, .int .i64 x.a.v]); refine (hA _).mono ?_; rintro e w1 ⟨rfl, k1⟩; have K1 := On.trans K0.out k1; have S1 := hk _ k1) | (go_at_call_of 102 (Value.agg #[.int .i64 x.b.r, .int .i64 x.b.v]); refine (hB _).mono ?_; rintro e w2 ⟨rfl, k2⟩; have K2 := On.trans K1 k2; have S2 := hk _ (On.trans k1 k2)))
    all_goals (try go_wp2)
    all_goals go_ret
    all_goals exact ⟨congrArg (fun z => Ending.returned (Value.int .i64 z)) (by omega), K2⟩
end Go.Proofs.YtplihlmejnohnaaGreatDoor

namespace Go.Proofs.YtplihlmejnohnaaGreatDoor
open Go.RowKit

section
variable {P : Program} {ops : Array Oper} {Q : Exit → Act → World → Prop} {md : Region.Mode} {S : World → Prop} {z : Nat}

/-- Whatever order is picked from here on, and S holds behind every operation but number z. -/
def wpFin (P : Program) (md : Region.Mode) (ops : Array Oper) (Q : Exit → Act → World → Prop) (S : World → Prop) (z : Nat) : Nat → Array Bool → Act → World → Prop
  | 0, listed, a, w => Region.ready md ops listed = [] ∧ Q .normal a w
  | n + 1, listed, a, w =>
    (Region.ready md ops listed = [] → Q .normal a w) ∧
    ∀ i ∈ Region.ready md ops listed, wpOp P ops Q i (fun a' w' => (i ≠ z → S w') ∧ wpFin P md ops Q S z n (listed.setIfInBounds i true) a' w') a w
theorem any_of_fin : ∀ (n : Nat) (listed : Array Bool) (a : Act) (w : World), wpFin P md ops Q S z n listed a w → wpAny P md ops Q n listed a w
  | 0, _, _, _, h => h
  | n + 1, _, _, _, h => ⟨h.1, fun i hi => wpOp_mono (fun a' w' h' => any_of_fin n _ a' w' h'.2) (h.2 i hi)⟩
/-- Number z waits for number i; there may be no number z. -/
def waitsB (md : Region.Mode) (ops : Array Oper) (z i : Nat) : Bool :=
  match ops[z]? with
  | some o => o.after.any fun e => Region.binds md e && e.on == i
  | none => true
theorem waits_spec {i : Nat} (h : waitsB md ops z i = true) {o : Oper} (ho : ops[z]? = some o) : ∃ e ∈ o.after, Region.binds md e = true ∧ e.on = i := by
  unfold waitsB at h
  rw [ho] at h
  obtain ⟨e, he, hb⟩ := Array.any_eq_true'.1 h
  simp only [Bool.and_eq_true, beq_iff_eq] at hb
  exact ⟨e, he, hb.1, hb.2⟩
/-- Of two that may both come up now neither waits for the other. -/
theorem ready_apart {i j : Nat} {oj : Oper} {listed : Array Bool} (hi : i ∈ Region.ready md ops listed) (hj : j ∈ Region.ready md ops listed) (hoj : ops[j]? = some oj) {e : Edge} (he : e ∈ oj.after) (hb : Region.binds md e = true) : e.on ≠ i := by
  intro heq
  obtain ⟨_, o, ho, hall⟩ := mem_ready.1 hj
  obtain rfl := Option.some.inj (hoj.symm.trans ho)
  have h1 : listed.getD i false = true := heq ▸ hall e he hb
  have h0 : listed.getD i true = false := (mem_ready.1 hi).1
  unfold Array.getD at h0 h1
  split at h0
  · rename_i hlt
    rw [dif_pos hlt] at h1
    exact absurd (h0.symm.trans h1) (by decide)
  · cases h0
/-- What number i may be moved past. -/
def Free (md : Region.Mode) (ops : Array Oper) (i : Nat) (oi : Oper) (listed : Array Bool) : Prop :=
  ∀ j oj, ops[j]? = some oj → j ≠ i → listed.getD j true = false → (∀ e ∈ oj.after, Region.binds md e = true → e.on ≠ i) → oi.apart ops oj = true
theorem Free.set {i j : Nat} {oi : Oper} {listed : Array Bool} (h : Free md ops i oi listed) (hj : listed.getD j true = false) : Free md ops i oi (listed.setIfInBounds j true) := by
  intro k ok hk hki hun hno
  rcases Decidable.em (j = k) with rfl | hjk
  · exact h j ok hk hki hj hno
  · exact h k ok hk hki ((getD_set_ne true hjk).symm.trans hun) hno
theorem fin_first {i : Nat} {oi : Oper} {v : Value} (hi : ops[i]? = some oi) (hsel : ∀ (j : Nat) (o : Oper) cs b, ops[j]? = some o → o.op ≠ .select cs b)
    (hQ : ∀ c a w, Q (.panic c) (a.put oi.dst v) w → Q (.panic c) a w) (hz : waitsB md ops z i = true) :
    ∀ (n : Nat) (listed : Array Bool) (a : Act) (w : World), Free md ops i oi listed → i ∈ Region.ready md ops listed → YieldsIf P ops S oi v a → S w →
      wpFin P md ops Q S z n (listed.setIfInBounds i true) (a.put oi.dst v) w → wpFin P md ops Q S z (n + 1) listed a w
  | n, listed, a, w, hF, hr, hy, hS, H => by
    refine ⟨fun h => absurd (h ▸ hr) (by simp), fun j hj => ?_⟩
    rcases Decidable.em (j = i) with rfl | hji
    · exact hy.wpOp hi hS ⟨fun _ => hS, H⟩
    obtain ⟨hun, oj, hoj, _⟩ := mem_ready.1 hj
    have hno : ∀ e ∈ oj.after, Region.binds md e = true → e.on ≠ i := fun e he hb => ready_apart hr hj hoj he hb
    have hjz : j ≠ z := by
      rintro rfl
      obtain ⟨e, he, hb, heq⟩ := waits_spec hz hoj
      exact hno e he hb heq
    match n, H with
    | 0, H => exact absurd (H.1 ▸ ready_mono hj hji) (by simp)
    | n + 1, H =>
      refine wpOp_mono (fun a' w' k => ⟨k.2.1, ?_⟩) (wpOp_putIf hoj (hF j oj hoj hji hun hno) (fun cs b => hsel i oi cs b hi) (fun cs b => hsel j oj cs b hoj) hQ hy (H.2 j (ready_mono hj hji)))
      exact fin_first hi hsel hQ hz n _ a' w' (hF.set hun) (ready_mono hr (Ne.symm hji)) k.1 (k.2.1 hjz) (Array.setIfInBounds_comm true true hji ▸ k.2.2)
theorem fin_take {l rest : List Oper} (i : Nat) {oi : Oper} {v : Value} {n : Nat} {listed : Array Bool} {a : Act} {w : World} (hi : l.drop i = oi :: rest)
    (hs : Region.noSelect l.toArray = true) (hf : Region.free md l.toArray listed i = true) (hr : (Region.ready md l.toArray listed).contains i = true) (hz : waitsB md l.toArray z i = true)
    (hQ : ∀ c a w, Q (.panic c) (a.put oi.dst v) w → Q (.panic c) a w) (hg : oi.guard = none) (hy : ∀ w, S w → (execOp a.eval oi).run P w = .ok (.value v) w) (hS : S w)
    (h : wpFin P md l.toArray Q S z n (listed.setIfInBounds i true) (a.put oi.dst v) w) : wpFin P md l.toArray Q S z (n + 1) listed a w := by
  have hi' : l.toArray[i]? = some oi := by
    rw [List.getElem?_toArray]
    have := congrArg (·[0]?) hi
    simpa using this
  exact fin_first hi' (Region.noSelect_spec hs) hQ hz n listed a w (Region.free_spec hi' hf) (by simpa using hr) (Or.inl ⟨by simp [Region.wanted, hg], hy⟩) hS h
theorem fin_one {l rest : List Oper} (i : Nat) {o : Oper} {n : Nat} {listed : Array Bool} {a : Act} {w : World} (hi : l.drop i = o :: rest) (hg : o.guard = none) (hr : Region.ready md l.toArray listed = [i])
    (h : ∀ K : Act → World → Prop, Hid (∀ a' w', (i ≠ z → S w') → wpFin P md l.toArray Q S z n (listed.setIfInBounds i true) a' w' → K a' w') → o.wp P a w K Q) : wpFin P md l.toArray Q S z (n + 1) listed a w := by
  have hi' : l.toArray[i]? = some o := by
    rw [List.getElem?_toArray]
    have := congrArg (·[0]?) hi
    simpa using this
  refine ⟨fun h0 => (by rw [hr] at h0; cases h0), fun j hj => ?_⟩
  rw [hr] at hj
  obtain rfl : j = i := by simpa using hj
  unfold wpOp
  simp only [hi']
  rw [if_pos (by simp [Region.wanted, hg])]
  exact Or.inl (h _ (fun a' w' h1 h2 => ⟨h1, h2⟩))
theorem fin_done {n : Nat} {listed : Array Bool} {a : Act} {w : World} (hr : Region.ready md ops listed = []) (h : Q .normal a w) : wpFin P md ops Q S z n listed a w := by
  cases n with
  | zero => exact ⟨hr, h⟩
  | succ n => exact ⟨fun _ => h, by rw [hr]; simp⟩
theorem region_fin (S : World → Prop) (z k : Nat) {l : List Oper} {id : Nat} {a : Act} {w : World} (hm : P.follows .mixedOrders = true) (hk : l.length = k)
    (h : wpFin P .any l.toArray (NoPanic Q) S z k (Array.replicate k false) a w.drew) : (Code.region id l.toArray true).wp P Q a w := by
  subst hk
  exact wp_region_noPanic (wp_region_any hm (any_of_fin _ _ _ _ h))
end
end Go.Proofs.YtplihlmejnohnaaGreatDoor
