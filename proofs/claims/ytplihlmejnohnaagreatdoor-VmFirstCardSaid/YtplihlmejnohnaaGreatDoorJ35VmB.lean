/- Which picks may be next: cell, waits, ready, may. -/
import Derived.Test.YtplihlmejnohnaaGreatDoorJ34BufO
import Derived.Test.YtplihlmejnohnaaGreatDoorJ31RegMix
import Derived.Test.YtplihlmejnohnaaGreatDoorJ17SmallB
import Derived.Test.YtplihlmejnohnaaGreatDoorJ15RowPut
import Derived.Test.YtplihlmejnohnaaGreatDoorStepI
namespace Go.Proofs.YtplihlmejnohnaaGreatDoor
open Go.RowKit

section
variable {w : World} {N : Nat} {P0 P1 P2 q : Value} {V : VmT} {B : Nat → Nat}
theorem vm_buf {t : Nat} (h : t < 4) : (vmA P0 P1 P2 V B q)[24 + t]? = some (ptV (B t)) := by
  match t, h with
  | 0, _ => rfl
  | 1, _ => rfl
  | 2, _ => rfl
  | 3, _ => rfl
theorem vm_mem {t : Nat} (h : t < 4) : (vmA P0 P1 P2 V B q)[28 + t]? = some (.int .i64 (V.mem t)) := by
  match t, h with
  | 0, _ => rfl
  | 1, _ => rfl
  | 2, _ => rfl
  | 3, _ => rfl
theorem vm_wr {t : Nat} (h : t < 4) : (vmA P0 P1 P2 V B q)[32 + t]? = some (.int .i64 (V.wr t)) := by
  match t, h with
  | 0, _ => rfl
  | 1, _ => rfl
  | 2, _ => rfl
  | 3, _ => rfl
theorem vm_loc {t : Nat} (h : t < 4) (j : Nat) (hj : j < 5) : (vmA P0 P1 P2 V B q)[4 + t * 5 + j]? = (locC (V.l t))[j]? := by
  match t, h, j, hj with
  | 0, _, 0, _ => rfl
  | 0, _, 1, _ => rfl
  | 0, _, 2, _ => rfl
  | 0, _, 3, _ => rfl
  | 0, _, 4, _ => rfl
  | 1, _, 0, _ => rfl
  | 1, _, 1, _ => rfl
  | 1, _, 2, _ => rfl
  | 1, _, 3, _ => rfl
  | 1, _, 4, _ => rfl
  | 2, _, 0, _ => rfl
  | 2, _, 1, _ => rfl
  | 2, _, 2, _ => rfl
  | 2, _, 3, _ => rfl
  | 2, _, 4, _ => rfl
  | 3, _, 0, _ => rfl
  | 3, _, 1, _ => rfl
  | 3, _, 2, _ => rfl
  | 3, _, 3, _ => rfl
  | 3, _, 4, _ => rfl
theorem Tb.at {cs : Array Value} {T : TypeId} {i : Nat} {v : Value} (h : Tb w N cs T) (hv : cs[i]? = some v) : w.cell? ⟨N, i, none⟩ = some v := h.bk.at hv
theorem oldW_none {t : Nat} (c : Int) (h : V.b t = []) : oldW V t c = none := by
  unfold oldW
  rw [h]
  rfl
end
theorem cell_is (p : Nat) (h4 : 4 ≤ p) (h : p < 24) (w : World) : Calls Tryz.prog 40 #[.int .i64 (p : Nat)] w fun e w' => e = .returned (.tuple #[.int .i64 (cT p : Nat), .int .i64 (cC p : Nat)]) ∧ w' = w := by
  have hp : p = 4 ∨ p = 5 ∨ p = 6 ∨ p = 7 ∨ p = 8 ∨ p = 9 ∨ p = 10 ∨ p = 11 ∨ p = 12 ∨ p = 13 ∨ p = 14 ∨ p = 15 ∨ p = 16 ∨ p = 17 ∨ p = 18 ∨ p = 19 ∨ p = 20 ∨ p = 21 ∨ p = 22 ∨ p = 23 := by omega
  clear h4 h
  rcases hp with rfl | rfl | rfl | rfl | rfl | rfl | rfl | rfl | rfl | rfl | rfl | rfl | rfl | rfl | rfl | rfl | rfl | rfl | rfl | rfl
  all_goals
    go_enter Tryz.func40, Tryz.ntmps40
    go_wp2
    go_ret2
    exact ⟨rfl, rfl⟩
set_option maxHeartbeats 2000000 in
theorem waits_is (N t : Nat) (c : Int) (P0 P1 P2 : Value) (V : VmT) (w : World) (h : VmIn w N P0 P1 P2 V) (ht : t < 4) :
    Calls Tryz.prog 62 #[ptV N, .int .i64 t, .int .i64 c] w fun e w' => e = .returned (.bool (oldW V t c).isSome) ∧ On w w' := by
  obtain ⟨B, q, hN, hR⟩ := h
  obtain ⟨b, hb, hw⟩ := hR.buf t ht
  have c0 : w.cell? ⟨N, 24 + t, none⟩ = some (.pointer (some ⟨B t, 0, none⟩)) := hN.at (vm_buf ht)
  have B1 : Hid (Bk w (B t) (bufA b)) := hb.bk
  have HN : Hid (Tb w N (vmA P0 P1 P2 V B q) 80) := hN
  have HB : Hid ((vmA P0 P1 P2 V B q)[24 + t]? = some (.pointer (some ⟨B t, 0, none⟩))) := vm_buf ht
  have b1 : (t : Int) < 4 := by omega
  have b2 : decide ((t : Int) < 0) = false := decide_eq_false (by omega)
  have b4 : (0 : Int) ≤ (t : Int) := by omega
  have hlen := hw.1
  have hold := hw.old c
  have hE := fun W => empty_is b W
  have hO := fun W => oldest_is b c W
  rw [hold] at hO
  rw [hlen] at hE
  obtain ⟨M, hM⟩ : ∃ M, M = B t := ⟨_, rfl⟩
  rw [← hM] at B1 HB c0
  clear hb hN hR hw hM
  cases hl : ((V.b t).length == 0) with
  | true =>
    have hn : V.b t = [] := List.length_eq_zero_iff.1 (by simpa using hl)
    rw [oldW_none c hn]
    rw [hl] at hE
    clear hO hold hlen hl hn
    unfold ptV
    go_enter Tryz.func62, Tryz.ntmps62
    go_wp2_with (refine wpList_bld rfl rfl rfl B1.out ?_)
    refine (hE _).mono ?_
    rintro _ w1 ⟨rfl, k1⟩
    go_wp2
    go_ret
    exact ⟨rfl, k1⟩
  | false =>
    rw [hl] at hE
    have ho : oldW V t c = (V.b t)[fstN V.m (V.b t) c]? := rfl
    rw [← ho] at hO
    generalize oldW V t c = o at *
    clear hold hlen hl ho
    unfold ptV
    go_enter Tryz.func62, Tryz.ntmps62
    go_wp2_with (refine wpList_bld rfl rfl rfl B1.out ?_)
    refine (hE _).mono ?_
    rintro _ w1 ⟨rfl, k1⟩
    have c1 := (HN.out.on k1).at HB.out
    have B2 : Hid (Bk w1 M (bufA b)) := B1.out.on k1
    cases o with
    | none =>
      simp only [oldV] at hO
      go_wp2_with (refine wpList_bld rfl rfl rfl B2.out ?_)
      refine (hO _).mono ?_
      rintro _ w2 ⟨rfl, k2⟩
      go_wp2
      go_ret
      exact ⟨rfl, k1.trans k2⟩
    | some e =>
      simp only [oldV] at hO
      go_wp2_with (refine wpList_bld rfl rfl rfl B2.out ?_)
      refine (hO _).mono ?_
      rintro _ w2 ⟨rfl, k2⟩
      go_wp2
      go_ret
      exact ⟨rfl, k1.trans k2⟩
end Go.Proofs.YtplihlmejnohnaaGreatDoor

namespace Go.Proofs.YtplihlmejnohnaaGreatDoor
open Go.RowKit

section
variable {w : World} {N : Nat} {cs : Array Value} {T : TypeId}
theorem Tb.put {cs : List Value} (h : Tb w N cs.toArray T) (i : Nat) (u : Value) : Tb (w.setCell ⟨N, i, none⟩ u) N (cs.set i u).toArray T := heap_put h i u
theorem Tb.putFar {M : Nat} (h : Tb w N cs T) (hn : N ≠ M) (i : Nat) (u : Value) : Tb (w.setCell ⟨M, i, none⟩ u) N cs T := (heap_setCell_other _ _ _ _ hn).trans h
theorem Tb.row (h : Tb w N cs T) (ds : Array Value) : Tb (w.setRow N ds) N ds T := setRow_heap w N cs ds T _ h
theorem OffV.row {x : World} (h : OffV N x w) (ds : Array Value) : OffV N x (w.setRow N ds) :=
  ⟨h.os, h.tape, h.output, by rw [size_setRow]; exact h.size, fun k hk hn => (setRow_other w N k ds hn).trans (h.block k hk hn)⟩
theorem Tb.range {cs xs : List Value} (h : Tb w N cs.toArray T) {o : Nat} (hs : ∀ j v, xs[j]? = some v → cs[o + j]? = some v) : w.rangeAt N o xs := fun j v hv => h.at (by rw [List.getElem?_toArray]; exact hs j v hv)
theorem Tb.whole {cs : List Value} (h : Tb w N cs.toArray T) : w.rangeAt N 0 cs := h.range (fun j v hv => by rw [Nat.zero_add]; exact hv)
theorem Tb.there (h : Tb w N cs T) {o k : Nat} (hk : o + k ≤ cs.size) : w.there N o k := fun j hj => ⟨by
    rw [h.at (i := o + j) (v := cs[o + j]'(by omega)) (Array.getElem?_eq_getElem _)]
    rfl, h.bk.fr _⟩
end
section
variable {o : Oper} {a : Act} {w : World} {K : Act → World → Prop} {Q : Exit → Act → World → Prop} {ops : Array Oper} {rest : List Oper} {T : TypeId} {zc cs old : Array Value} {x y : Operand} {N : Nat}
theorem wp_al (ho : o.op = .alloc T) (hz : ∀ w, (zeroValue T).run Tryz.prog w = .ok (.agg zc) w)
    (k : ∀ w', On w w' → Tb w' w.heap.size zc T → K (a.put o.dst (.pointer (some ⟨w.heap.size, 0, none⟩))) w') : o.wp Tryz.prog a w K Q :=
  wp_alloc0 T ho (.agg zc) hz (k _ ((On.refl w).alloc _) (Tb.new w zc T))
theorem wpList_al (hgd : o.guard = none) (ho : o.op = .alloc T) (hz : ∀ w, (zeroValue T).run Tryz.prog w = .ok (.agg zc) w)
    (k : ∀ w', On w w' → Tb w' w.heap.size zc T → wpList Tryz.prog ops Q rest (a.put o.dst (.pointer (some ⟨w.heap.size, 0, none⟩))) w') : wpList Tryz.prog ops Q (o :: rest) a w :=
  wpList_plain hgd fun _ hK => wp_al ho hz (fun w' h1 h2 => hK _ _ (k w' h1 h2))
theorem wp_sto (ho : o.op = .store T x y) (hx : a.eval x = .pointer (some ⟨N, 0, none⟩)) (hy : a.eval y = .agg cs) (hg : Tb w N old T) (hi : (Tryz.prog.info? T).map (·.size) = some cs.size) (hold : old.size = cs.size) (h1 : ∀ v ∈ cs, v.oneCell' = true)
    (k : ∀ w', Tb w' N cs T → OffV N w w' → K (a.put o.dst undef) w') : o.wp Tryz.prog a w K Q :=
  wp_store_row T x y ho N cs hx hy T old hg hi hold (by rw [Array.all_eq_true_iff_forall_mem]; exact h1) (k _ (hg.row cs) ((OffV.refl N w).row cs))
theorem wpList_sto (hgd : o.guard = none) (ho : o.op = .store T x y) (hx : a.eval x = .pointer (some ⟨N, 0, none⟩)) (hy : a.eval y = .agg cs) (hg : Tb w N old T) (hi : (Tryz.prog.info? T).map (·.size) = some cs.size) (hold : old.size = cs.size) (h1 : ∀ v ∈ cs, v.oneCell' = true)
    (k : ∀ w', Tb w' N cs T → OffV N w w' → wpList Tryz.prog ops Q rest (a.put o.dst undef) w') : wpList Tryz.prog ops Q (o :: rest) a w :=
  wpList_plain hgd fun _ hK => wp_sto ho hx hy hg hi hold h1 (fun w' p q => hK _ _ (k w' p q))
end
theorem OffV.back {w x W : World} {N : Nat} (h : OffV N x W) (k : On w x) (hN : w.heap.size ≤ N) : On w W := h.on k hN
theorem ins_info : (Tryz.prog.info? 107).map (fun i => (i.zero, i.size)) = some (some (insV insZ), 9) := by kernel_rfl
theorem ins_zero : ∀ w, (zeroValue 107).run Tryz.prog w = .ok (.agg (insC insZ).toArray) w := (zero_of_info ins_info).1
theorem ins_sz : (Tryz.prog.info? 107).map (·.size) = some 9 := (zero_of_info ins_info).2
theorem step_info : (Tryz.prog.info? 39).map (fun i => (i.zero, i.size)) = some (some (stV stZ), 7) := by kernel_rfl
theorem step_zero : ∀ w, (zeroValue 39).run Tryz.prog w = .ok (.agg (stC stZ).toArray) w := (zero_of_info step_info).1
theorem step_sz : (Tryz.prog.info? 39).map (·.size) = some 7 := (zero_of_info step_info).2
theorem bufz_info : (Tryz.prog.info? 85).map (fun i => (i.zero, i.size)) = some (some (.agg (rowA 0 0 (padR []))), 74) := by kernel_rfl
theorem buf_zero : ∀ w, (zeroValue 85).run Tryz.prog w = .ok (.agg (rowA 0 0 (padR []))) w := (zero_of_info bufz_info).1
theorem buf_sz : (Tryz.prog.info? 85).map (·.size) = some 74 := (zero_of_info bufz_info).2
theorem insC_one (x : InsT) : ∀ v ∈ (insC x).toArray, v.oneCell' = true := by
  intro v hv
  unfold insC at hv
  simp only [List.mem_toArray, List.mem_cons, List.not_mem_nil, or_false] at hv
  rcases hv with rfl | rfl | rfl | rfl | rfl | rfl | rfl | rfl | rfl <;> rfl
theorem stC_one (s : StT) : ∀ v ∈ (stC s).toArray, v.oneCell' = true := by
  intro v hv
  rw [List.mem_toArray] at hv
  unfold stC at hv
  obtain ⟨z, _, rfl⟩ := List.mem_map.1 hv
  rfl
theorem bufA_one (b : BufT) : ∀ v ∈ bufA b, v.oneCell' = true := by
  intro v hv
  unfold bufA at hv
  rw [List.mem_toArray] at hv
  exact rowC_one _ _ _ v hv
theorem fields_loc : Tryz.prog.underlying 73 = some (.struct (Tryz.prog.fieldsOf 73)) := by kernel_rfl
theorem loc_sz : (Tryz.prog.info? 73).map (·.size) = some 5 := by kernel_rfl
theorem fields_ins : Tryz.prog.underlying 107 = some (.struct (Tryz.prog.fieldsOf 107)) := by kernel_rfl
theorem fields_step : Tryz.prog.underlying 39 = some (.struct (Tryz.prog.fieldsOf 39)) := by kernel_rfl
section
variable {o : Oper} {a : Act} {w : World} {K : Act → World → Prop} {Q : Exit → Act → World → Prop} {ops : Array Oper} {rest : List Oper} {x y : Operand} {N t c : Nat} {P0 P1 P2 q : Value} {V : VmT} {B : Nat → Nat}
theorem vm_range (h : Tb w N (vmA P0 P1 P2 V B q) 80) (ht : t < 4) : w.rangeAt N (4 + t * 5) (locC (V.l t)) := h.range (fun j v hv => by
  have hj : j < 5 := (List.getElem?_eq_some_iff.1 hv).1
  rw [← hv, ← vm_loc (P0 := P0) (P1 := P1) (P2 := P2) (V := V) (B := B) (q := q) ht j hj]
  unfold vmA
  rw [List.getElem?_toArray])
/-- Where a thread is, read whole. -/
theorem exec_loc (ho : o.op = .load 73 x) (hx : a.eval x = .pointer (some ⟨N, 4 + t * 5, none⟩)) (h : Tb w N (vmA P0 P1 P2 V B q) 80) (ht : t < 4) : (execOp a.eval o).run Tryz.prog w = .ok (.value (locV (V.l t))) w := by
  unfold execOp
  simp only [ho, hx, Instr.loadAt, Instr.sureAddr, Sem.run_bind, Sem.run_pure, Result.andThen_ok, run_loadVar_mid w N (4 + t * 5) 73 (locC (V.l t)) _ (vm_range h ht) fields_loc rfl (by exact loc_sz)]
  rfl
theorem wpList_loc (hgd : o.guard = none) (ho : o.op = .load 73 x) (hx : a.eval x = .pointer (some ⟨N, 4 + t * 5, none⟩)) (h : Tb w N (vmA P0 P1 P2 V B q) 80) (ht : t < 4)
    (k : wpList Tryz.prog ops Q rest (a.put o.dst (locV (V.l t))) w) : wpList Tryz.prog ops Q (o :: rest) a w :=
  wpList_load_mid hgd 73 x ho N (4 + t * 5) hx (locC (V.l t)) _ (vm_range h ht) fields_loc rfl (by exact loc_sz) k
def setLV (V : VmT) (t : Nat) (l : LocT) : VmT := ⟨V.m, upf V.l t l, V.b, V.mem, V.wr, V.st⟩
theorem vm_setL (l : LocT) (ht : t < 4) : (((((vmL P0 P1 P2 V B q).set (4 + t * 5) (i64V l.pc)).set (4 + t * 5 + 1) (i64V l.r0)).set (4 + t * 5 + 2) (i64V l.r1)).set (4 + t * 5 + 3) (i64V l.r2)).set (4 + t * 5 + 4) (i64V l.r3) = vmL P0 P1 P2 (setLV V t l) B q := by
  match t, ht with
  | 0, _ => rfl
  | 1, _ => rfl
  | 2, _ => rfl
  | 3, _ => rfl
theorem vm_setB {n : Nat} (ht : t < 4) : (vmL P0 P1 P2 V B q).set (24 + t) (ptV n) = vmL P0 P1 P2 V (upf B t n) q := by
  match t, ht with
  | 0, _ => rfl
  | 1, _ => rfl
  | 2, _ => rfl
  | 3, _ => rfl
def setMV (V : VmT) (c : Nat) (v n : Int) : VmT := ⟨V.m, V.l, V.b, upf V.mem c v, upf V.wr c n, V.st⟩
theorem vm_setM (v n : Int) (ht : t < 4) : ((vmL P0 P1 P2 V B q).set (28 + t) (i64V v)).set (32 + t) (i64V n) = vmL P0 P1 P2 (setMV V t v n) B q := by
  match t, ht with
  | 0, _ => rfl
  | 1, _ => rfl
  | 2, _ => rfl
  | 3, _ => rfl
theorem vm_setM' (v n : Int) (ht : t < 4) : ((vmL P0 P1 P2 V B q).set (32 + t) (i64V n)).set (28 + t) (i64V v) = vmL P0 P1 P2 (setMV V t v n) B q := by
  match t, ht with
  | 0, _ => rfl
  | 1, _ => rfl
  | 2, _ => rfl
  | 3, _ => rfl
theorem locC_one (l : LocT) : ∀ v ∈ (locC l).toArray, v.oneCell' = true := by
  intro v hv
  unfold locC at hv
  simp only [List.mem_toArray, List.mem_cons, List.not_mem_nil, or_false] at hv
  rcases hv with rfl | rfl | rfl | rfl | rfl <;> rfl
/-- Where a thread is, put into its place. -/
theorem wp_lst (ho : o.op = .store 73 x y) (hx : a.eval x = .pointer (some ⟨N, 4 + t * 5, none⟩)) {l : LocT} (hy : a.eval y = locV l) (h : Tb w N (vmA P0 P1 P2 V B q) 80) (ht : t < 4)
    (k : ∀ w', Tb w' N (vmA P0 P1 P2 (setLV V t l) B q) 80 → OffV N w w' → K (a.put o.dst undef) w') : o.wp Tryz.prog a w K Q := by
  refine wp_store_mid 73 x y ho N (4 + t * 5) (locC l).toArray hx hy (h.there ?_) (by exact loc_sz) (by rw [Array.all_eq_true_iff_forall_mem]; exact locC_one l) ?_
  · show 4 + t * 5 + 5 ≤ 38
    omega
  · have e : w.setCells N (4 + t * 5) (locC l).toArray.toList = ((((w.setCell ⟨N, 4 + t * 5, none⟩ (i64V l.pc)).setCell ⟨N, 4 + t * 5 + 1, none⟩ (i64V l.r0)).setCell ⟨N, 4 + t * 5 + 2, none⟩ (i64V l.r1)).setCell ⟨N, 4 + t * 5 + 3, none⟩ (i64V l.r2)).setCell ⟨N, 4 + t * 5 + 4, none⟩ (i64V l.r3) := rfl
    rw [e]
    refine k _ ?_ (((((OffV.refl N w).set _ _).set _ _).set _ _).set _ _ |>.set _ _)
    have := ((((h.put (cs := vmL P0 P1 P2 V B q) (4 + t * 5) (i64V l.pc)).put (4 + t * 5 + 1) (i64V l.r0)).put (4 + t * 5 + 2) (i64V l.r1)).put (4 + t * 5 + 3) (i64V l.r2)).put (4 + t * 5 + 4) (i64V l.r3)
    rw [vm_setL l ht] at this
    exact this
end
end Go.Proofs.YtplihlmejnohnaaGreatDoor
