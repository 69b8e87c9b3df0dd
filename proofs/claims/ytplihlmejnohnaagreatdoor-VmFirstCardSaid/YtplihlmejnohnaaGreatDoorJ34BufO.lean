/- Machines as they lie in memory: a block of thirty-eight cells, a block for each thread's store, and steps that hang together, the last one first. -/
import Derived.Test.YtplihlmejnohnaaGreatDoorJ29VmP
import Derived.Test.YtplihlmejnohnaaGreatDoorJ33BufL
import Derived.Test.YtplihlmejnohnaaGreatDoorJ06StepD
namespace Go.Proofs.YtplihlmejnohnaaGreatDoor
open Go.RowKit

/-- Block N is of type T and holds these cells. -/
def Tb (w : World) (N : Nat) (cs : Array Value) (T : TypeId) : Prop := w.heap[N]? = some (.cells cs T (0, 0))
section
variable {w w' : World} {N : Nat} {cs : Array Value} {T : TypeId}
theorem Tb.bk (h : Tb w N cs T) : Bk w N cs := ⟨T, h⟩
theorem Tb.lt (h : Tb w N cs T) : N < w.heap.size := lt_of_block h
theorem Tb.on (h : Tb w N cs T) (k : On w w') : Tb w' N cs T := (k.block N h.lt).trans h
theorem Tb.alloc (h : Tb w N cs T) (o : Obj) : Tb (w.alloc o) N cs T := (Below.heap_alloc _ _ _ h.lt).trans h
theorem Tb.drew (h : Tb w N cs T) : Tb w.drew N cs T := h
theorem Tb.new (w : World) (cs : Array Value) (T : TypeId) : Tb (w.alloc (.cells cs T)) w.heap.size cs T := heap_alloc_new w _
theorem Tb.ne {M : Nat} {ds : Array Value} {S : TypeId} (h : Tb w N cs T) (k : Tb w M ds S) (hne : T ≠ S) : N ≠ M := by
  rintro rfl
  unfold Tb at h k
  rw [h] at k
  simp only [Option.some.injEq, Obj.cells.injEq] at k
  exact hne k.2.1
theorem Tb.inj {ds : Array Value} {S : TypeId} (h : Tb w N cs T) (k : Tb w N ds S) : cs = ds := by
  unfold Tb at h k
  rw [h] at k
  simp only [Option.some.injEq, Obj.cells.injEq] at k
  exact k.1
end
/-- Off block N all stands. -/
structure OffV (N : Nat) (w W : World) : Prop where
  os : W.os = w.os
  tape : W.tape = w.tape
  output : W.output = w.output
  size : w.heap.size ≤ W.heap.size
  block : ∀ k, k < w.heap.size → k ≠ N → W.heap[k]? = w.heap[k]?
section
variable {N : Nat} {w x W X : World}
theorem OffV.refl (N : Nat) (w : World) : OffV N w w := ⟨rfl, rfl, rfl, Nat.le_refl _, fun _ _ _ => rfl⟩
theorem OffV.trans (h : OffV N x w) (k : OffV N w W) : OffV N x W :=
  ⟨k.os.trans h.os, k.tape.trans h.tape, k.output.trans h.output, Nat.le_trans h.size k.size, fun j hj hn => (k.block j (Nat.lt_of_lt_of_le hj h.size) hn).trans (h.block j hj hn)⟩
theorem OffV.of (h : On w W) : OffV N w W := ⟨h.os, h.tape, h.output, h.size, fun j hj _ => h.block j hj⟩
theorem OffV.on (h : OffV N x W) (k : On w x) (hN : w.heap.size ≤ N) : On w W :=
  ⟨h.os.trans k.os, h.tape.trans k.tape, h.output.trans k.output, Nat.le_trans k.size h.size, fun j hj => by
    rw [h.block j (Nat.lt_of_lt_of_le hj k.size) (by omega)]
    exact k.block j hj⟩
theorem OffV.set (h : OffV N w W) (i : Nat) (u : Value) : OffV N w (W.setCell ⟨N, i, none⟩ u) :=
  ⟨by rw [← h.os]; rfl, by rw [← h.tape]; rfl, by rw [← h.output]; rfl, by have := h.size; rw [World.size_setCell]; exact this, fun j hj hn => by
    rw [heap_setCell_other _ _ _ _ hn]
    exact h.block j hj hn⟩
theorem OffV.tk {M : Nat} {cs : Array Value} {T : TypeId} (h : OffV N w W) (k : Tb w M cs T) (hn : M ≠ N) : Tb W M cs T := (h.block M k.lt hn).trans k
end
def ptV (d : Nat) : Value := .pointer (some ⟨d, 0, none⟩)
def locC (l : LocT) : List Value := [i64V l.pc, i64V l.r0, i64V l.r1, i64V l.r2, i64V l.r3]
theorem locV_eq (l : LocT) : locV l = .agg (locC l).toArray := rfl
/-- The cells of a machine. -/
def vmL (P0 P1 P2 : Value) (V : VmT) (B : Nat → Nat) (q : Value) : List Value :=
  [P0, P1, P2, i64V V.m] ++ (locC (V.l 0) ++ (locC (V.l 1) ++ (locC (V.l 2) ++ (locC (V.l 3) ++ ([ptV (B 0), ptV (B 1), ptV (B 2), ptV (B 3)] ++
    ([i64V (V.mem 0), i64V (V.mem 1), i64V (V.mem 2), i64V (V.mem 3)] ++ ([i64V (V.wr 0), i64V (V.wr 1), i64V (V.wr 2), i64V (V.wr 3)] ++ [i64V V.st.length, q])))))))
def vmA (P0 P1 P2 : Value) (V : VmT) (B : Nat → Nat) (q : Value) : Array Value := (vmL P0 P1 P2 V B q).toArray
def stC (s : StT) : List Value := (stL s).map i64V
def stV (s : StT) : Value := .agg (stC s).toArray
def doneA (s : StT) (q : Value) : Array Value := (stC s ++ [q]).toArray
/-- Steps that hang together. -/
def Lst (w : World) : Value → List StT → Prop
  | q, [] => q = .pointer none
  | q, s :: L => ∃ d q', q = ptV d ∧ Tb w d (doneA s q') 95 ∧ Lst w q' L
theorem Lst.off {N : Nat} {w W : World} (h : OffV N w W) {cs : Array Value} {T : TypeId} (hT : T ≠ 95) (hN : Tb w N cs T) : ∀ {L : List StT} {q : Value}, Lst w q L → Lst W q L
  | [], _, k => k
  | _ :: _, _, ⟨d, q', e, k, r⟩ => ⟨d, q', e, h.tk k (k.ne hN (Ne.symm hT)), Lst.off h hT hN r⟩
theorem Lst.on {w W : World} (h : On w W) : ∀ {L : List StT} {q : Value}, Lst w q L → Lst W q L
  | [], _, k => k
  | _ :: _, _, ⟨d, q', e, k, r⟩ => ⟨d, q', e, k.on h, Lst.on h r⟩
/-- What machine V asks of memory besides its own block: its stores and its steps. -/
structure VmR (w : World) (V : VmT) (B : Nat → Nat) (q : Value) : Prop where
  buf : ∀ t, t < 4 → ∃ b, Tb w (B t) (bufA b) 85 ∧ BW V.m b (V.b t)
  lst : Lst w q V.st
theorem vm_ne_buf : (80 : TypeId) ≠ 85 := by decide
theorem vm_ne_done : (80 : TypeId) ≠ 95 := by decide
section
variable {w W : World} {N M : Nat} {V : VmT} {B : Nat → Nat} {q P0 P1 P2 : Value} {cs : Array Value}
theorem VmR.off (k : VmR w V B q) (h : OffV N w W) (hN : Tb w N cs 80) : VmR W V B q :=
  ⟨fun t ht => by
    obtain ⟨b, h1, h2⟩ := k.buf t ht
    exact ⟨b, h.tk h1 (h1.ne hN (Ne.symm vm_ne_buf)), h2⟩, Lst.off h vm_ne_done hN k.lst⟩
theorem VmR.on (k : VmR w V B q) (h : On w W) : VmR W V B q :=
  ⟨fun t ht => by
    obtain ⟨b, h1, h2⟩ := k.buf t ht
    exact ⟨b, h1.on h, h2⟩, Lst.on h k.lst⟩
/-- Machine V lies in block N. -/
def VmIn (w : World) (N : Nat) (P0 P1 P2 : Value) (V : VmT) : Prop := ∃ B q, Tb w N (vmA P0 P1 P2 V B q) 80 ∧ VmR w V B q
theorem VmIn.on (k : VmIn w N P0 P1 P2 V) (h : On w W) : VmIn W N P0 P1 P2 V := by
  obtain ⟨B, q, h1, h2⟩ := k
  exact ⟨B, q, h1.on h, h2.on h⟩
theorem VmIn.off (k : VmIn w N P0 P1 P2 V) (h : OffV M w W) (hM : Tb w M cs 80) (hn : N ≠ M) : VmIn W N P0 P1 P2 V := by
  obtain ⟨B, q, h1, h2⟩ := k
  exact ⟨B, q, h.tk h1 hn, h2.off h hM⟩
end
end Go.Proofs.YtplihlmejnohnaaGreatDoor

namespace Go.Proofs.YtplihlmejnohnaaGreatDoor
open Go.RowKit

set_option maxHeartbeats 2000000 in
set_option maxRecDepth 8000 in
theorem oldest_is (b : BufT) (c : Int) (w : World) : Calls Tryz.prog 68 #[.agg (bufA b), .int .i64 c] w fun e w' => e = .returned (oldV (oldB b c)) ∧ On w w' := by
  obtain ⟨W1, hW1⟩ : ∃ W1, W1 = w.alloc (.cells (bufA b) 85) := ⟨_, rfl⟩
  have B1 : Hid (Bk W1 w.heap.size (bufA b)) := by show Bk _ _ _; rw [hW1]; exact Bk.new w _ _
  have K1 : Hid (On w W1) := by show On _ _; rw [hW1]; exact (On.refl w).alloc _
  have hS := span_is b c W1
  obtain ⟨hab, hbl⟩ := sp_le b c
  have hl := b.len
  by_cases h : spA b c = spB b c
  · rw [oldB_none h]
    rw [h] at hS
    obtain ⟨k, hk⟩ : ∃ k, k = spB b c := ⟨_, rfl⟩
    rw [← hk] at hS
    clear h hab hbl hl hk
    go_enter Tryz.func68, Tryz.ntmps68
    go_upto_region 1 with fail
    rw [← hW1]
    clear hW1
    go_wp2_with (refine wpList_bld rfl rfl rfl B1.out ?_)
    refine hS.mono ?_
    rintro _ w1 ⟨rfl, k1⟩
    have K2 : Hid (On w w1) := K1.out.trans k1
    clear k1
    go_wp2
    (try simp only [Exit.inBlock, Exit.then]); refine bodyPost_ret (results_tmp4 rfl _ _ _) rfl ?_
    exact ⟨rfl, K2.out⟩
  · obtain ⟨e, he⟩ : ∃ e, b.l[spA b c]? = some e := ⟨_, List.getElem?_eq_getElem (by omega)⟩
    rw [oldB_some (by omega) he]
    have HE : Hid (b.l[spA b c]? = some e) := he
    have hne : ((spA b c : Int) == (spB b c : Int)) = false := by simp; omega
    have h24 : spA b c < 24 := by omega
    clear he h hab hbl hl
    obtain ⟨x, hx⟩ : ∃ x, x = spA b c := ⟨_, rfl⟩
    obtain ⟨y, hy⟩ : ∃ y, y = spB b c := ⟨_, rfl⟩
    rw [← hx] at hS HE hne h24
    rw [← hy] at hS hne
    clear hx hy
    have b1 : (x : Int) < 24 := by omega
    have b2 : decide ((x : Int) < 0) = false := decide_eq_false (by omega)
    have b4 : (0 : Int) ≤ (x : Int) := by omega
    clear h24
    go_enter Tryz.func68, Tryz.ntmps68
    go_upto_region 1 with fail
    rw [← hW1]
    clear hW1
    go_wp2_with (refine wpList_bld rfl rfl rfl B1.out ?_)
    refine hS.mono ?_
    rintro _ w1 ⟨rfl, k1⟩
    have K2 : Hid (On w w1) := K1.out.trans k1
    have R1 : Hid (w1.rangeAt w.heap.size (2 + x * 3) (entC e)) := (B1.out.on k1).enR (padR_at HE.out)
    obtain ⟨W2, hW2⟩ : ∃ W2, W2 = w1.alloc (.cells (entA e) 82) := ⟨_, rfl⟩
    have B2 : Bk W2 w1.heap.size (entA e) := by rw [hW2]; exact Bk.new w1 _ _
    have K3 : Hid (On w W2) := by show On _ _; rw [hW2]; exact K2.out.alloc _
    have c0 := B2.at (i := 0) (v := .int .i64 e.1) rfl
    have c1 := B2.at (i := 1) (v := .int .i64 e.2.1) rfl
    have c2 := B2.at (i := 2) (v := .int .i64 e.2.2) rfl
    have HW2 : Hid (W2 = w1.alloc (.cells (entA e) 82)) := hW2
    clear k1 B2 hW2
    go_wp2_with (first | (refine wpList_eld rfl rfl rfl R1.out ?_) | (refine wpList_estN rfl rfl rfl rfl (by exact rfl) ?_; rw [← HW2.out]))
    go_quiet (fail)
    go_wp2
    (try simp only [Exit.inBlock, Exit.then]); refine bodyPost_ret (results_tmp4 rfl _ _ _) rfl ?_
    exact ⟨rfl, K3.out.drewN _⟩
end Go.Proofs.YtplihlmejnohnaaGreatDoor
