/- Relations over few numbers as they lie in memory: a number and 64 words. -/
import Derived.Test.YtioiabfheeglgaaGreatDoorJ25SetU
import Derived.Deep.WholeRow
import Derived.Deep.MidRow
import Derived.Deep.RegionHeld3
import Derived.Test.YtioiabfheeglgaaGreatDoorJ03RegGrow
import Derived.Laws.CopyOwn
import Derived.Laws.CopyRow
namespace Go.Proofs.YtioiabfheeglgaaGreatDoor
open Go.RowKit

structure RelT where
 n : Nat
 f : Nat → Nat
def relL (r : RelT) : List Value := .int .i64 r.n :: (List.range 64).map (fun i => .int .u64 (r.f i))
def relA (r : RelT) : Array Value := (relL r).toArray
def zeroR : RelT := ⟨0, fun _ => 0⟩
def newR (n : Int) : RelT := ⟨min n.toNat 64, fun _ => 0⟩
theorem relL_len (r : RelT) : (relL r).length = 65 := by simp [relL]
theorem relA_size (r : RelT) : (relA r).size = 65 := by simp [relA, relL]
theorem relA_one (r : RelT) : ∀ v ∈ (relA r).toList, v.oneCell' = true := by
 intro v hv
 unfold relA relL at hv
 simp only [List.mem_cons, List.mem_map] at hv
 rcases hv with rfl | ⟨i, _, rfl⟩ <;> rfl
theorem relA_zero (r : RelT) : (relA r)[0]? = some (.int .i64 r.n) := rfl
theorem relA_at (r : RelT) {i : Nat} (h : i < 64) : (relA r)[1 + i]? = some (.int .u64 (r.f i)) := by
 unfold relA relL
 rw [List.getElem?_toArray, Nat.add_comm, List.getElem?_cons_succ, List.getElem?_map, List.getElem?_range h]
 rfl
theorem relL_set0 (r : RelT) (n : Nat) : (relL r).set 0 (.int .i64 n) = relL ⟨n, r.f⟩ := rfl
theorem relL_set (r : RelT) (i x : Nat) (h : i < 64) : (relL r).set (1 + i) (.int .u64 x) = relL ⟨r.n, fun j => if j = i then x else r.f j⟩ := by
 unfold relL
 rw [Nat.add_comm, List.set_cons_succ]
 congr 1
 apply List.ext_getElem?
 intro j
 rw [List.getElem?_set, List.getElem?_map, List.getElem?_map]
 by_cases hij : i = j
 ·
  subst hij
  rw [if_pos rfl, if_pos (by simpa using h), List.getElem?_range h]
  simp
 ·
  rw [if_neg hij]
  by_cases hj : j < 64
  ·
   rw [List.getElem?_range hj]
   have : ¬ j = i := fun h => hij h.symm
   simp [this]
  ·
   rw [List.getElem?_eq_none (by simpa using hj)]
   rfl
/-- A whole block out of memory, into memory. -/
theorem ld65 {W : World} {N : Nat} {cs : Array Value} (h : Bk W N cs) (hs : cs.size = 65) : (loadCellsFrom ⟨N, 0, none⟩ 0 65 #[]).run Tryz.prog W = .ok cs W := by
 obtain ⟨T, e⟩ := h
 have := run_loadCells_list (P := Tryz.prog) W ⟨N, 0, none⟩ cs.toList (fun j v hv => by
  have hadd : (⟨N, 0, none⟩ : Addr).add j = ⟨N, j, none⟩ := by unfold Addr.add; split <;> simp_all
  rw [hadd, cell_of_row _ _ j cs T (0, 0) e]
  simpa using hv)
 simpa [loadCells, hs] using this
theorem st65 {W : World} {N : Nat} {old cs : Array Value} (h : Bk W N old) (ho : old.size = 65) (hs : cs.size = 65) (h1 : ∀ v ∈ cs.toList, v.oneCell' = true) : (storeCells ⟨N, 0, none⟩ cs.toList).run Tryz.prog W = .ok () (W.setRow N cs) := by
 obtain ⟨T, e⟩ := h
 have := run_storeCells_from (P := Tryz.prog) N T cs.toList 0 old W e (by simp; omega) h1
 simpa using this
theorem Bk.row {W : World} {N : Nat} {old : Array Value} (h : Bk W N old) (cs : Array Value) : Bk (W.setRow N cs) N cs := by
 obtain ⟨T, e⟩ := h
 exact ⟨T, setRow_heap W N old cs T _ e⟩
theorem Bk.rowFar {W : World} {N M : Nat} {cs : Array Value} (h : Bk W M cs) (hne : N ≠ M) (c : Array Value) : Bk (W.setRow N c) M cs := by
 obtain ⟨T, e⟩ := h
 exact ⟨T, (setRow_other W N M c (fun h => hne h.symm)).trans e⟩
theorem On.row {w x : World} {N : Nat} (h : On w x) (hN : w.heap.size ≤ N) (cs : Array Value) : On w (x.setRow N cs) :=
 ⟨h.os, h.tape, h.output, by rw [size_setRow]; exact h.size, fun k hk => (setRow_other x N k cs (by omega)).trans (h.block k hk)⟩
theorem Bk.set1 {W : World} {N : Nat} {r : RelT} (h : Bk W N (relA r)) {i : Nat} (hi : i < 64) (x : Nat) : Bk (W.setCell ⟨N, 1 + i, none⟩ (.int .u64 x)) N (relA ⟨r.n, fun j => if j = i then x else r.f j⟩) := by
 have := Bk.put (cs := relL r) h (1 + i) (.int .u64 x)
 rw [relL_set r i x hi] at this
 exact this
theorem Bk.setN0 {W : World} {N : Nat} {r : RelT} (h : Bk W N (relA r)) (n : Nat) : Bk (W.setCell ⟨N, 0, none⟩ (.int .i64 n)) N (relA ⟨n, r.f⟩) := by
 have := Bk.put (cs := relL r) h 0 (.int .i64 n)
 rw [relL_set0] at this
 exact this
theorem Bk.drew {W : World} {N : Nat} {cs : Array Value} (h : Bk W N cs) : Bk W.drew N cs := h
theorem rel_ne (r : RelT) : ¬ relA r = #[] := fun h => by have := congrArg Array.size h; rw [relA_size] at this; cases this
/-- What a loop over the rows has done so far. -/
def uptoR (r : RelT) (g : Nat → Nat) (i : Nat) : RelT := ⟨r.n, fun j => if j < i then g j else r.f j⟩
theorem uptoR_zero (r : RelT) (g : Nat → Nat) : uptoR r g 0 = r := by
 unfold uptoR
 simp
theorem uptoR_step (r : RelT) (g : Nat → Nat) (i : Nat) : (⟨(uptoR r g i).n, fun j => if j = i then g i else (uptoR r g i).f j⟩ : RelT) = uptoR r g (i + 1) := by
 unfold uptoR
 congr 1
 funext j
 by_cases h : j = i
 ·
  subst h; simp
 ·
  by_cases h2 : j < i
  ·
   have : j < i + 1 := by omega
   simp [h, h2, this]
  ·
   have : ¬ j < i + 1 := by omega
   simp [h, h2, this]
theorem uptoR_skip (r : RelT) (g : Nat → Nat) (i : Nat) (h : g i = r.f i) : uptoR r g (i + 1) = uptoR r g i := by
 unfold uptoR
 congr 1
 funext j
 by_cases hj : j = i
 ·
  subst hj; simp [h]
 ·
  by_cases h2 : j < i
  ·
   have : j < i + 1 := by omega
   simp [h2, this]
  ·
   have : ¬ j < i + 1 := by omega
   simp [h2, this]
theorem uptoR_at (r : RelT) (g : Nat → Nat) (i : Nat) : (uptoR r g i).f i = r.f i := by unfold uptoR; simp
/-- Is a one of the numbers? -/
def overR (r : RelT) (a : Int) : Bool := decide (0 ≤ a) && decide (a < r.n)
theorem over_spec {r : RelT} {a : Int} (h : overR r a = true) : ∃ k : Nat, a = k ∧ k < r.n := by
 unfold overR at h
 simp only [Bool.and_eq_true, decide_eq_true_eq] at h
 exact ⟨a.toNat, by omega, by omega⟩
end Go.Proofs.YtioiabfheeglgaaGreatDoor

namespace Go.Proofs.YtioiabfheeglgaaGreatDoor
open Go.RowKit

theorem run_copyK (w : World) (dT sT ty elem : TypeId) (k : Nat) (g off dLen dCap sLen sCap : Nat) (dp sp : Option Addr) (cur : List Value) (t : TypeId) (cs : List Value)
  (hu : Tryz.prog.underlying dT = some (.slice elem)) (hs : (Tryz.prog.info? elem).map (·.size) = some k) (hg : w.heap[g]? = some (.cells cur.toArray t (0, 0))) (hn : cs.length = Nat.min sLen dLen * k) (hk : 0 < k)
  (hpos : 0 < cs.length → dp = some ⟨g, off, none⟩ ∧ ∃ ad, sp = some ad ∧ ∀ j v, cs[j]? = some v → w.cell? (ad.add j) = some v) (hfit : off + cs.length ≤ cur.length) (h1 : ∀ v ∈ cs, v.oneCell' = true) :
  (Builtin.copy_ #[dT, sT] ty #[.slice dp dLen dCap, .slice sp sLen sCap]).run Tryz.prog w = .ok (goInt (Nat.min sLen dLen)) (w.setRow g (cur.take off ++ cs ++ cur.drop (off + cs.length)).toArray) := by
 cases hq : Tryz.prog.info? elem with
 | none => simp [hq] at hs
 | some i =>
  have hi : i.size = k := by simpa [hq] using hs
  by_cases h0 : cs.length = 0
  ·
   obtain rfl : cs = [] := List.eq_nil_of_length_eq_zero h0
   have hm : Nat.min sLen dLen = 0 := by
    rcases Nat.eq_zero_or_pos (Nat.min sLen dLen) with h | h
    ·
     exact h
    ·
     have := Nat.mul_pos h hk
     simp only [List.length_nil] at hn
     omega
   have hl : ∀ (x : Addr), (loadCells x 0).run Tryz.prog w = .ok #[] w := fun x => by simpa using run_loadCells_list (P := Tryz.prog) w x [] (by simp)
   have he : w.setRow g (cur.take off ++ [] ++ cur.drop (off + ([] : List Value).length)).toArray = w := by
    have : cur.take off ++ [] ++ cur.drop (off + ([] : List Value).length) = cur := by simp
    rw [this]
    exact setRow_self w g cur.toArray t (0, 0) hg
   rw [he, hm]
   cases dp <;> cases sp <;> simp [Builtin.copy_, run_underlying hu, Builtin.lenOf, Builtin.firstCells, sizeOf, typeInfo, hq, hm, storeCells, hl]
  ·
   obtain ⟨rfl, ad, rfl, hsrc⟩ := hpos (by omega)
   have hl := run_loadCells_list (P := Tryz.prog) w ad cs hsrc
   have hst := run_storeCells_at Tryz.prog g off t cs 0 cur.toArray w hg (by simpa using hfit) h1
   simp [Builtin.copy_, run_underlying hu, Builtin.lenOf, Builtin.firstCells, sizeOf, typeInfo, hq, hi, ← hn, hl, hst]
theorem wp_copyK {o : Oper} {a : Act} {w : World} {K : Act → World → Prop} {Q : Exit → Act → World → Prop} (d s : Operand) (dT sT : TypeId)
  (ho : o.op = .call { callee := .builtin .copy, args := #[d, s], argTypes := #[dT, sT] }) (elem : TypeId) (k : Nat) (hu : Tryz.prog.underlying dT = some (.slice elem)) (hs : (Tryz.prog.info? elem).map (·.size) = some k)
  {g off dLen dCap sLen sCap : Nat} {dp sp : Option Addr} (hd : a.eval d = .slice dp dLen dCap) (hsr : a.eval s = .slice sp sLen sCap) (cur : List Value) (t : TypeId) (cs : List Value)
  (hg : w.heap[g]? = some (.cells cur.toArray t (0, 0))) (hn : cs.length = Nat.min sLen dLen * k) (hk : 0 < k)
  (hpos : 0 < cs.length → dp = some ⟨g, off, none⟩ ∧ ∃ ad, sp = some ad ∧ ∀ j v, cs[j]? = some v → w.cell? (ad.add j) = some v) (hfit : off + cs.length ≤ cur.length) (h1 : ∀ v ∈ cs, v.oneCell' = true)
  (h : K (a.put o.dst (goInt (Nat.min sLen dLen))) (w.setRow g (cur.take off ++ cs ++ cur.drop (off + cs.length)).toArray)) : o.wp Tryz.prog a w K Q := by
 have hrun := run_copyK w dT sT o.type elem k g off dLen dCap sLen sCap dp sp cur t cs hu hs hg hn hk hpos hfit h1
 unfold Oper.wp execOp
 simp only [ho, resolve, invoke, builtin, Sem.run_bind, Sem.run_pure, Result.andThen_ok, List.map_toArray, List.map_cons, List.map_nil, hd, hsr, hrun]
 exact h
end Go.Proofs.YtioiabfheeglgaaGreatDoor
