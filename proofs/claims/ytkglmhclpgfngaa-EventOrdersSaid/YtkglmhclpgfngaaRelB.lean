/- Relations over few numbers as they lie in memory: a number and 64 words. -/
import Derived.Test.YtkglmhclpgfngaaSetU
import Derived.Deep.WholeRow
import Derived.Deep.MidRow
import Derived.Deep.RegionHeld3
import Derived.Test.YtkglmhclpgfngaaRegFin2
namespace Go.Proofs.Ytkglmhclpgfngaa
open Go.RowKit

structure RelT where
  n : Nat
  f : Nat → Nat
def relL (r : RelT) : List Value := .int .i64 r.n :: (List.range 64).map (fun i => .int .u64 (r.f i))
def relA (r : RelT) : Array Value := (relL r).toArray
def zeroR : RelT := ⟨0, fun _ => 0⟩
def newR (n : Int) : RelT := ⟨min n.toNat 64, fun _ => 0⟩
theorem relL_len (r : RelT) : (relL r).length = 65 := by simp [relL]
theorem relA_size (r : RelT) : (relA r).size = 65 := by simp [relA, relL]
theorem relA_one (r : RelT) : ∀ v ∈ (relA r).toList, v.oneCell' = true := by
  intro v hv
  unfold relA relL at hv
  simp only [List.mem_cons, List.mem_map] at hv
  rcases hv with rfl | ⟨i, _, rfl⟩ <;> rfl
theorem relA_zero (r : RelT) : (relA r)[0]? = some (.int .i64 r.n) := rfl
theorem relA_at (r : RelT) {i : Nat} (h : i < 64) : (relA r)[1 + i]? = some (.int .u64 (r.f i)) := by
  unfold relA relL
  rw [List.getElem?_toArray, Nat.add_comm, List.getElem?_cons_succ, List.getElem?_map, List.getElem?_range h]
  rfl
theorem relL_set0 (r : RelT) (n : Nat) : (relL r).set 0 (.int .i64 n) = relL ⟨n, r.f⟩ := rfl
theorem relL_set (r : RelT) (i x : Nat) (h : i < 64) : (relL r).set (1 + i) (.int .u64 x) = relL ⟨r.n, fun j => if j = i then x else r.f j⟩ := by
  unfold relL
  rw [Nat.add_comm, List.set_cons_succ]
  congr 1
  apply List.ext_getElem?
  intro j
  rw [List.getElem?_set, List.getElem?_map, List.getElem?_map]
  by_cases hij : i = j
  · subst hij
    rw [if_pos rfl, if_pos (by simpa using h), List.getElem?_range h]
    simp
  · rw [if_neg hij]
    by_cases hj : j < 64
    · rw [List.getElem?_range hj]
      have : ¬ j = i := fun h => hij h.symm
      simp [this]
    · rw [List.getElem?_eq_none (by simpa using hj)]
      rfl
theorem rel_info : (Try.prog.info? 54).map (fun i => (i.zero, i.size)) = some (some (.agg (relA zeroR)), 65) := by kernel_rfl
/-- A whole block out of memory, into memory. -/
theorem ld65 {W : World} {N : Nat} {cs : Array Value} (h : Bk W N cs) (hs : cs.size = 65) : (loadCellsFrom ⟨N, 0, none⟩ 0 65 #[]).run Try.prog W = .ok cs W := by
  obtain ⟨T, e⟩ := h
  have := run_loadCells_list (P := Try.prog) W ⟨N, 0, none⟩ cs.toList (fun j v hv => by
    have hadd : (⟨N, 0, none⟩ : Addr).add j = ⟨N, j, none⟩ := by unfold Addr.add; split <;> simp_all
    rw [hadd, cell_of_row _ _ j cs T (0, 0) e]
    simpa using hv)
  simpa [loadCells, hs] using this
theorem st65 {W : World} {N : Nat} {old cs : Array Value} (h : Bk W N old) (ho : old.size = 65) (hs : cs.size = 65) (h1 : ∀ v ∈ cs.toList, v.oneCell' = true) : (storeCells ⟨N, 0, none⟩ cs.toList).run Try.prog W = .ok () (W.setRow N cs) := by
  obtain ⟨T, e⟩ := h
  have := run_storeCells_from (P := Try.prog) N T cs.toList 0 old W e (by simp; omega) h1
  simpa using this
theorem Bk.row {W : World} {N : Nat} {old : Array Value} (h : Bk W N old) (cs : Array Value) : Bk (W.setRow N cs) N cs := by
  obtain ⟨T, e⟩ := h
  exact ⟨T, setRow_heap W N old cs T _ e⟩
theorem Bk.rowFar {W : World} {N M : Nat} {cs : Array Value} (h : Bk W M cs) (hne : N ≠ M) (c : Array Value) : Bk (W.setRow N c) M cs := by
  obtain ⟨T, e⟩ := h
  exact ⟨T, (setRow_other W N M c (fun h => hne h.symm)).trans e⟩
theorem On.row {w x : World} {N : Nat} (h : On w x) (hN : w.heap.size ≤ N) (cs : Array Value) : On w (x.setRow N cs) :=
  ⟨h.os, h.tape, h.output, by rw [size_setRow]; exact h.size, fun k hk => (setRow_other x N k cs (by omega)).trans (h.block k hk)⟩
theorem Bk.set1 {W : World} {N : Nat} {r : RelT} (h : Bk W N (relA r)) {i : Nat} (hi : i < 64) (x : Nat) : Bk (W.setCell ⟨N, 1 + i, none⟩ (.int .u64 x)) N (relA ⟨r.n, fun j => if j = i then x else r.f j⟩) := by
  have := Bk.put (cs := relL r) h (1 + i) (.int .u64 x)
  rw [relL_set r i x hi] at this
  exact this
theorem Bk.setN0 {W : World} {N : Nat} {r : RelT} (h : Bk W N (relA r)) (n : Nat) : Bk (W.setCell ⟨N, 0, none⟩ (.int .i64 n)) N (relA ⟨n, r.f⟩) := by
  have := Bk.put (cs := relL r) h 0 (.int .i64 n)
  rw [relL_set0] at this
  exact this
theorem Bk.drew {W : World} {N : Nat} {cs : Array Value} (h : Bk W N cs) : Bk W.drew N cs := h
theorem rel_ne (r : RelT) : ¬ relA r = #[] := fun h => by have := congrArg Array.size h; rw [relA_size] at this; cases this
/-- A relation that lies in a block is what the call hands back. -/
theorem ret65 {fn : Func} {q : Tmp} {tmps : Array Value} {w : World} {N : Nat} {r : RelT} (hf : fn.results = #[.cell q 54]) (hp : tmps.getD q undef = .pointer (some ⟨N, 0, none⟩)) (h : Bk w N (relA r)) :
    (results fn tmps).run Try.prog w = .ok (.agg (relA r)) w := by
  obtain ⟨T, e⟩ := h
  obtain ⟨_, hi⟩ := zero_of_info rel_info
  exact results_cell_row hf tmps w N T (relA r) (0, 0) _ hp e Try.underlying54 rfl (by rw [hi, relA_size])
/-- A whole relation read by one operation of a plain region. -/
theorem wpList_ld {ops : Array Oper} {rest : List Oper} {o : Oper} {a : Act} {w : World} {Q : Exit → Act → World → Prop} (hgd : o.guard = none) {x : Operand} (ho : o.op = .load 54 x)
    {N : Nat} (hx : a.eval x = .pointer (some ⟨N, 0, none⟩)) {r : RelT} (h : Bk w N (relA r)) (k : wpList Try.prog ops Q rest (a.put o.dst (.agg (relA r))) w) : wpList Try.prog ops Q (o :: rest) a w := by
  obtain ⟨T, e⟩ := h
  obtain ⟨_, hi⟩ := zero_of_info rel_info
  exact wpList_load_row hgd 54 x ho N hx T (relA r) (0, 0) _ e Try.underlying54 rfl (by rw [hi, relA_size]) k
theorem wpList_ldG {ops : Array Oper} {rest : List Oper} {o : Oper} {a : Act} {w : World} {Q : Exit → Act → World → Prop} (hw : Region.wanted o (yielded ops a.tmps) = true) {x : Operand} (ho : o.op = .load 54 x)
    {N : Nat} (hx : a.eval x = .pointer (some ⟨N, 0, none⟩)) {r : RelT} (h : Bk w N (relA r)) (k : wpList Try.prog ops Q rest (a.put o.dst (.agg (relA r))) w) : wpList Try.prog ops Q (o :: rest) a w := by
  obtain ⟨T, e⟩ := h
  obtain ⟨_, hi⟩ := zero_of_info rel_info
  unfold wpList
  rw [if_pos hw]
  exact Or.inl (wp_load_row 54 x ho N hx T (relA r) (0, 0) _ e Try.underlying54 rfl (by rw [hi, relA_size]) k)
theorem wpList_st {ops : Array Oper} {rest : List Oper} {o : Oper} {a : Act} {w : World} {Q : Exit → Act → World → Prop} (hgd : o.guard = none) {x y : Operand} (ho : o.op = .store 54 x y)
    {N : Nat} (hx : a.eval x = .pointer (some ⟨N, 0, none⟩)) {r q : RelT} (hy : a.eval y = .agg (relA r)) (h : Bk w N (relA q)) (k : wpList Try.prog ops Q rest (a.put o.dst undef) (w.setRow N (relA r))) : wpList Try.prog ops Q (o :: rest) a w := by
  obtain ⟨T, e⟩ := h
  obtain ⟨_, hi⟩ := zero_of_info rel_info
  exact wpList_store_row hgd 54 x y ho N (relA r) hx hy T (relA q) e (by rw [hi, relA_size]) (by rw [relA_size, relA_size]) (all_oneCell_toArray (relA_one r)) k
theorem exec_ld {a : Act} {o : Oper} {x : Operand} (ho : o.op = .load 54 x) {N : Nat} (hx : a.eval x = .pointer (some ⟨N, 0, none⟩)) {r : RelT} {W : World} (h : Bk W N (relA r)) : (execOp a.eval o).run Try.prog W = .ok (.value (.agg (relA r))) W := by
  obtain ⟨T, e⟩ := h
  obtain ⟨_, hi⟩ := zero_of_info rel_info
  unfold execOp
  simp only [ho, hx, Instr.loadAt, Instr.sureAddr, Sem.run_bind, Sem.run_pure, Result.andThen_ok, run_loadVar_row W N T 54 (relA r) (0, 0) _ e Try.underlying54 rfl (by rw [hi, relA_size])]
theorem wp_st {o : Oper} {a : Act} {w : World} {K : Act → World → Prop} {Q : Exit → Act → World → Prop} {x y : Operand} (ho : o.op = .store 54 x y)
    {N : Nat} (hx : a.eval x = .pointer (some ⟨N, 0, none⟩)) {r q : RelT} (hy : a.eval y = .agg (relA r)) (h : Bk w N (relA q)) (k : K (a.put o.dst undef) (w.setRow N (relA r))) : o.wp Try.prog a w K Q := by
  obtain ⟨T, e⟩ := h
  obtain ⟨_, hi⟩ := zero_of_info rel_info
  exact wp_store_row 54 x y ho N (relA r) hx hy T (relA q) e (by rw [hi, relA_size]) (by rw [relA_size, relA_size]) (all_oneCell_toArray (relA_one r)) k
/-- What a loop over the rows has done so far. -/
def uptoR (r : RelT) (g : Nat → Nat) (i : Nat) : RelT := ⟨r.n, fun j => if j < i then g j else r.f j⟩
theorem uptoR_zero (r : RelT) (g : Nat → Nat) : uptoR r g 0 = r := by
  unfold uptoR
  simp
theorem uptoR_step (r : RelT) (g : Nat → Nat) (i : Nat) : (⟨(uptoR r g i).n, fun j => if j = i then g i else (uptoR r g i).f j⟩ : RelT) = uptoR r g (i + 1) := by
  unfold uptoR
  congr 1
  funext j
  by_cases h : j = i
  · subst h; simp
  · by_cases h2 : j < i
    · have : j < i + 1 := by omega
      simp [h, h2, this]
    · have : ¬ j < i + 1 := by omega
      simp [h, h2, this]
theorem uptoR_skip (r : RelT) (g : Nat → Nat) (i : Nat) (h : g i = r.f i) : uptoR r g (i + 1) = uptoR r g i := by
  unfold uptoR
  congr 1
  funext j
  by_cases hj : j = i
  · subst hj; simp [h]
  · by_cases h2 : j < i
    · have : j < i + 1 := by omega
      simp [h2, this]
    · have : ¬ j < i + 1 := by omega
      simp [h2, this]
theorem uptoR_at (r : RelT) (g : Nat → Nat) (i : Nat) : (uptoR r g i).f i = r.f i := by unfold uptoR; simp
set_option maxHeartbeats 1000000 in
theorem new_core (n : Int) (m : Nat) (w : World) (hm : newR n = ⟨m, fun _ => 0⟩) (hmax : (max n 0 = (m : Int) ∧ m ≤ 64) ∨ (max n 0 > 64 ∧ m = 64)) :
    Calls Try.prog 38 #[.int .i64 n] w fun e w' => e = .returned (.agg (relA (newR n))) ∧ On w w' := by
  obtain ⟨hz, hi⟩ := zero_of_info rel_info
  have hs : (relA zeroR).size = 65 := relA_size _
  have hne := rel_ne zeroR
  have h1 := Bk.new w (relA zeroR) 54
  rw [hm]
  obtain ⟨M, hM⟩ : ∃ M, M = relA ⟨m, fun _ => 0⟩ := ⟨_, rfl⟩
  have hb : (relA zeroR).toList.set 0 (.int .i64 m) = M.toList := by rw [hM]; rfl
  have hb0 : m = 0 → (relA zeroR).toList.set 0 (.int .i64 0) = M.toList := by intro h; subst h; exact hb
  have hb6 : m = 64 → (relA zeroR).toList.set 0 (.int .i64 64) = M.toList := by intro h; subst h; exact hb
  have hst : (storeCells ⟨w.heap.size, 0, none⟩ M.toList).run Try.prog (w.alloc (.cells (relA zeroR) 54)) = .ok () ((w.alloc (.cells (relA zeroR) 54)).setRow w.heap.size M) := by
    rw [hM]
    exact st65 h1 (relA_size _) (relA_size _) (relA_one _)
  have hB := h1.row M
  have hO := ((On.refl w).alloc (.cells (relA zeroR) 54)).row (Nat.le_refl _) M
  have HM : Hid (M = relA ⟨m, fun _ => 0⟩) := hM
  clear h1 hM hm
  by_cases hn0 : n < 0
  · have hb' := hb0 (by rcases hmax with h | h <;> omega)
    clear hb hb0 hb6 hmax
    go_enter Try.func38, Try.ntmps38
    go_wp2
    refine bodyPost_ret (v := .agg (relA ⟨m, fun _ => 0⟩)) ?_ rfl ⟨rfl, hO⟩
    rw [HM.out] at hB ⊢
    exact ret65 rfl rfl hB
  · by_cases hn1 : 64 < n
    · have hb' := hb6 (by rcases hmax with h | h <;> omega)
      clear hb hb0 hb6 hmax
      go_enter Try.func38, Try.ntmps38
      go_wp2
      refine bodyPost_ret (v := .agg (relA ⟨m, fun _ => 0⟩)) ?_ rfl ⟨rfl, hO⟩
      rw [HM.out] at hB ⊢
      exact ret65 rfl rfl hB
    · obtain rfl : n = (m : Int) := by rcases hmax with h | h <;> omega
      clear hb0 hb6 hmax
      go_enter Try.func38, Try.ntmps38
      go_wp2
      refine bodyPost_ret (v := .agg (relA ⟨m, fun _ => 0⟩)) ?_ rfl ⟨rfl, hO⟩
      rw [HM.out] at hB ⊢
      exact ret65 rfl rfl hB
theorem new_is (n : Int) (w : World) : Calls Try.prog 38 #[.int .i64 n] w fun e w' => e = .returned (.agg (relA (newR n))) ∧ On w w' := by
  refine new_core n (min n.toNat 64) w rfl ?_
  omega
theorem n_is (r : RelT) (w : World) : Calls Try.prog 23 #[.agg (relA r)] w fun e w' => e = .returned (.int .i64 r.n) ∧ On w w' := by
  have h1 := Bk.new w (relA r) 54
  have hc := h1.at (relA_zero r)
  have hO := (On.refl w).alloc (.cells (relA r) 54)
  generalize relA r = A at *
  go_enter Try.func23, Try.ntmps23
  go_wp2
  go_ret
  exact ⟨rfl, hO⟩
/-- Is a one of the numbers? -/
def overR (r : RelT) (a : Int) : Bool := decide (0 ≤ a) && decide (a < r.n)
theorem over_spec {r : RelT} {a : Int} (h : overR r a = true) : ∃ k : Nat, a = k ∧ k < r.n := by
  unfold overR at h
  simp only [Bool.and_eq_true, decide_eq_true_eq] at h
  exact ⟨a.toNat, by omega, by omega⟩
set_option maxHeartbeats 1000000 in
theorem over_is (r : RelT) (a : Int) (w : World) : Calls Try.prog 54 #[.agg (relA r), .int .i64 a] w fun e w' => e = .returned (.bool (overR r a)) ∧ On w w' := by
  have h1 := Bk.new w (relA r) 54
  have hc := h1.at (relA_zero r)
  have hO := (On.refl w).alloc (.cells (relA r) 54)
  have e : overR r a = (decide (0 ≤ a) && decide (a < r.n)) := rfl
  generalize relA r = A at *
  generalize overR r a = B at *
  subst e
  by_cases h0 : 0 ≤ a
  · go_enter Try.func54, Try.ntmps54
    go_wp2
    go_ret
    exact ⟨by simp [h0], hO⟩
  · go_enter Try.func54, Try.ntmps54
    go_wp2
    go_ret
    exact ⟨by simp; omega, hO⟩
end Go.Proofs.Ytkglmhclpgfngaa
