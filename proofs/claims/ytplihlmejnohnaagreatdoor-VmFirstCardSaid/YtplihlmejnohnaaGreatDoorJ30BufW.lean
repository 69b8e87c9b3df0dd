/- A whole block's cells set at once. -/
import Derived.Test.YtplihlmejnohnaaGreatDoorJ00Heap
import Derived.Laws.Tables
import Derived.Laws.Cells
import Derived.Test.YtplihlmejnohnaaGreatDoorI64V
import Derived.Test.YtplihlmejnohnaaGreatDoorJ27BufQ
import Derived.Test.YtplihlmejnohnaaGreatDoorJ02OwnR
import Derived.Test.YtplihlmejnohnaaGreatDoorJ03Gen0
import Derived.Deep.WholeRow
import Derived.Deep.MidRow
import Derived.DeepKeys4
import Derived.Shelf.SlicesE.Kit
namespace Go.Proofs.YtplihlmejnohnaaGreatDoor
open Go.RowKit

theorem Bk.row {W : World} {N : Nat} {old : Array Value} (h : Bk W N old) (cs : Array Value) : Bk (W.setRow N cs) N cs := by
  obtain ⟨T, e⟩ := h
  exact ⟨T, setRow_heap W N old cs T _ e⟩
theorem Bk.rowFar {W : World} {N M : Nat} {cs : Array Value} (h : Bk W M cs) (hne : N ≠ M) (c : Array Value) : Bk (W.setRow N c) M cs := by
  obtain ⟨T, e⟩ := h
  exact ⟨T, (setRow_other W N M c (fun h => hne h.symm)).trans e⟩
theorem On.row {w x : World} {N : Nat} (h : On w x) (hN : w.heap.size ≤ N) (cs : Array Value) : On w (x.setRow N cs) :=
  ⟨h.os, h.tape, h.output, by rw [size_setRow]; exact h.size, fun k hk => (setRow_other x N k cs (by omega)).trans (h.block k hk)⟩
theorem Bk.drew' {W : World} {N : Nat} {cs : Array Value} (h : Bk W N cs) : Bk W.drew N cs := h
end Go.Proofs.YtplihlmejnohnaaGreatDoor

namespace Go.Proofs.YtplihlmejnohnaaGreatDoor
open Go.RowKit

def entC (e : EnT) : List Value := (enL e).map (Value.int .i64)
def entA (e : EnT) : Array Value := (entC e).toArray
theorem entC_len (e : EnT) : (entC e).length = 3 := rfl
def rowL (m n : Int) (R : List EnT) : List Int := m :: n :: R.flatMap enL
def rowC (m n : Int) (R : List EnT) : List Value := (rowL m n R).map (Value.int .i64)
def rowA (m n : Int) (R : List EnT) : Array Value := (rowC m n R).toArray
def bufC (b : BufT) : List Value := rowC b.m b.l.length (padR b.l)
def bufA (b : BufT) : Array Value := (bufC b).toArray
theorem flat_map_en (R : List EnT) : (R.flatMap enL).map (Value.int .i64) = R.flatMap entC := by
  induction R with
  | nil => rfl
  | cons e R ih => rw [List.flatMap_cons, List.map_append, ih, List.flatMap_cons]; rfl
theorem rowC_eq (m n : Int) (R : List EnT) : rowC m n R = .int .i64 m :: .int .i64 n :: R.flatMap entC := by
  unfold rowC rowL
  rw [List.map_cons, List.map_cons, flat_map_en]
theorem flat_en_len (R : List EnT) : (R.flatMap entC).length = R.length * 3 := by
  induction R with
  | nil => rfl
  | cons e R ih => rw [List.flatMap_cons, List.length_append, ih, entC_len, List.length_cons, Nat.succ_mul]; omega
theorem rowC_len (m n : Int) (R : List EnT) : (rowC m n R).length = 2 + R.length * 3 := by
  rw [rowC_eq, List.length_cons, List.length_cons, flat_en_len]
  omega
theorem bufC_len (b : BufT) : (bufC b).length = 74 := by
  unfold bufC
  rw [rowC_len, padR_len b.len]
theorem bufA_size (b : BufT) : (bufA b).size = 74 := by unfold bufA; simp [bufC_len]
theorem bufA_row (b : BufT) : bufA b = rowA b.m b.l.length (padR b.l) := rfl
theorem rowC_one (m n : Int) (R : List EnT) : ∀ v ∈ rowC m n R, v.oneCell' = true := by
  intro v hv
  unfold rowC at hv
  obtain ⟨z, _, rfl⟩ := List.mem_map.1 hv
  rfl
theorem entC_one (e : EnT) : ∀ v ∈ entC e, v.oneCell' = true := by
  intro v hv
  unfold entC at hv
  obtain ⟨z, _, rfl⟩ := List.mem_map.1 hv
  rfl
theorem row_m (m n : Int) (R : List EnT) : (rowA m n R)[0]? = some (.int .i64 m) := rfl
theorem row_n (m n : Int) (R : List EnT) : (rowA m n R)[1]? = some (.int .i64 n) := rfl
theorem row_at (m n : Int) {R : List EnT} {k j : Nat} {e : EnT} (h : R[k]? = some e) (hj : j < 3) : (rowA m n R)[2 + k * 3 + j]? = (entC e)[j]? := by
  unfold rowA
  rw [List.getElem?_toArray, rowC_eq, show 2 + k * 3 + j = (k * 3 + j) + 2 by omega, List.getElem?_cons_succ, List.getElem?_cons_succ]
  exact flat_at entC 3 entC_len R k j e h hj
section
variable {w w' : World} {N : Nat} {m n : Int} {R : List EnT}
theorem Bk.en0 {k : Nat} {e : EnT} (B : Bk w N (rowA m n R)) (h : R[k]? = some e) : w.cell? ⟨N, 2 + k * 3, none⟩ = some (.int .i64 e.1) := B.at (i := 2 + k * 3 + 0) (row_at m n h (j := 0) (by decide))
theorem Bk.en1 {k : Nat} {e : EnT} (B : Bk w N (rowA m n R)) (h : R[k]? = some e) : w.cell? ⟨N, 2 + k * 3 + 1, none⟩ = some (.int .i64 e.2.1) := B.at (row_at m n h (j := 1) (by decide))
theorem Bk.en2 {k : Nat} {e : EnT} (B : Bk w N (rowA m n R)) (h : R[k]? = some e) : w.cell? ⟨N, 2 + k * 3 + 2, none⟩ = some (.int .i64 e.2.2) := B.at (row_at m n h (j := 2) (by decide))
theorem Bk.enR {k : Nat} {e : EnT} (B : Bk w N (rowA m n R)) (h : R[k]? = some e) : w.rangeAt N (2 + k * 3) (entC e) := by
  intro j v hv
  have hj := (List.getElem?_eq_some_iff.1 hv).1
  rw [entC_len] at hj
  exact B.at (by rw [row_at m n h hj]; exact hv)
theorem Bk.whole (B : Bk w N (rowA m n R)) : w.rangeAt N 0 (rowC m n R) := by
  intro j v hv
  rw [Nat.zero_add]
  exact B.at (by unfold rowA; rw [List.getElem?_toArray]; exact hv)
/-- Behind a number put at the second place. -/
theorem Bk.putN (B : Bk w N (rowA m n R)) (n' : Int) : Bk (w.setCell ⟨N, 1, none⟩ (.int .i64 n')) N (rowA m n' R) := by
  have := Bk.put (cs := rowC m n R) B 1 (.int .i64 n')
  rw [show (rowC m n R).set 1 (.int .i64 n') = rowC m n' R by rw [rowC_eq, rowC_eq]; rfl] at this
  exact this
theorem flat_set (e : EnT) : ∀ (R : List EnT) (k : Nat), k < R.length → (((R.flatMap entC).set (k * 3) (.int .i64 e.1)).set (k * 3 + 1) (.int .i64 e.2.1)).set (k * 3 + 2) (.int .i64 e.2.2) = (R.set k e).flatMap entC
  | [], k, h => by simp at h
  | x :: R, 0, _ => by
    rw [List.set_cons_zero, List.flatMap_cons, List.flatMap_cons]
    rfl
  | x :: R, k + 1, h => by
    rw [List.set_cons_succ, List.flatMap_cons, List.flatMap_cons, show (k + 1) * 3 = (entC x).length + k * 3 by rw [entC_len]; omega,
      List.set_append_right _ _ (by omega), Nat.add_sub_cancel_left, List.set_append_right _ _ (by omega), show (entC x).length + k * 3 + 1 - (entC x).length = k * 3 + 1 by omega, List.set_append_right _ _ (by omega), show (entC x).length + k * 3 + 2 - (entC x).length = k * 3 + 2 by omega,
      flat_set e R k (by simpa using h)]
theorem row_set {k : Nat} (h : k < R.length) (e : EnT) : (((rowC m n R).set (2 + k * 3) (.int .i64 e.1)).set (2 + k * 3 + 1) (.int .i64 e.2.1)).set (2 + k * 3 + 2) (.int .i64 e.2.2) = rowC m n (R.set k e) := by
  rw [rowC_eq, rowC_eq, ← flat_set e R k h, show 2 + k * 3 = (k * 3 + 1) + 1 by omega, show k * 3 + 1 + 1 + 1 = (k * 3 + 1 + 1) + 1 by omega, show k * 3 + 1 + 1 + 2 = (k * 3 + 2 + 1) + 1 by omega]
  simp only [List.set_cons_succ]
/-- Behind a store put at a place. -/
theorem Bk.putE (B : Bk w N (rowA m n R)) {k : Nat} (h : k < R.length) (e : EnT) :
    Bk (((w.setCell ⟨N, 2 + k * 3, none⟩ (.int .i64 e.1)).setCell ⟨N, 2 + k * 3 + 1, none⟩ (.int .i64 e.2.1)).setCell ⟨N, 2 + k * 3 + 2, none⟩ (.int .i64 e.2.2)) N (rowA m n (R.set k e)) := by
  have := Bk.put (Bk.put (Bk.put (cs := rowC m n R) B (2 + k * 3) (.int .i64 e.1)) (2 + k * 3 + 1) (.int .i64 e.2.1)) (2 + k * 3 + 2) (.int .i64 e.2.2)
  rw [row_set h e] at this
  exact this
/-- Places copied within the row. -/
theorem row_copy {at_ fr k : Nat} (h2 : fr + k ≤ R.length) :
    (rowC m n R).take (2 + at_ * 3) ++ (((R.drop fr).take k).flatMap entC) ++ (rowC m n R).drop (2 + at_ * 3 + (((R.drop fr).take k).flatMap entC).length) = rowC m n (R.take at_ ++ (R.drop fr).take k ++ R.drop (at_ + k)) := by
  have hl : ((R.drop fr).take k).length = k := by rw [List.length_take, List.length_drop]; omega
  have ht : ∀ (R : List EnT) (a : Nat), (R.flatMap entC).take (a * 3) = (R.take a).flatMap entC := by
    intro R
    induction R with
    | nil => intro a; simp
    | cons x R ih =>
      intro a
      cases a with
      | zero => simp
      | succ a => rw [List.take_succ_cons, List.flatMap_cons, List.flatMap_cons, ← ih a, show (a + 1) * 3 = (entC x).length + a * 3 by rw [entC_len]; omega, List.take_append, List.take_of_length_le (by omega), Nat.add_sub_cancel_left]
  have hd : ∀ (R : List EnT) (a : Nat), (R.flatMap entC).drop (a * 3) = (R.drop a).flatMap entC := by
    intro R
    induction R with
    | nil => intro a; simp
    | cons x R ih =>
      intro a
      cases a with
      | zero => simp
      | succ a => rw [List.drop_succ_cons, List.flatMap_cons, ← ih a, show (a + 1) * 3 = (entC x).length + a * 3 by rw [entC_len]; omega, List.drop_append, List.drop_eq_nil_of_le (by omega), Nat.add_sub_cancel_left]; rfl
  rw [flat_en_len, hl, rowC_eq, rowC_eq, show 2 + at_ * 3 = (at_ * 3 + 1) + 1 by omega, show at_ * 3 + 1 + 1 + k * 3 = (((at_ + k) * 3) + 1) + 1 by omega]
  simp only [List.take_succ_cons, List.drop_succ_cons, List.cons_append, List.flatMap_append, ht, hd]
theorem row_src {fr k : Nat} (h2 : fr + k ≤ R.length) (B : Bk w N (rowA m n R)) : ∀ j v, (((R.drop fr).take k).flatMap entC)[j]? = some v → w.cell? ⟨N, 2 + fr * 3 + j, none⟩ = some v := by
  intro j v hv
  have hl : ((R.drop fr).take k).length = k := by rw [List.length_take, List.length_drop]; omega
  have hj := (List.getElem?_eq_some_iff.1 hv).1
  rw [flat_en_len, hl] at hj
  have hq : j / 3 < k := Nat.div_lt_of_lt_mul (by omega)
  have hm : j % 3 < 3 := Nat.mod_lt _ (by decide)
  obtain ⟨e, he⟩ : ∃ e, R[fr + j / 3]? = some e := ⟨_, List.getElem?_eq_getElem (by omega)⟩
  have he' : ((R.drop fr).take k)[j / 3]? = some e := by
    rw [List.getElem?_take_of_lt hq, List.getElem?_drop]
    exact he
  have hf := flat_at entC 3 entC_len _ _ _ e he' hm
  have hd : j / 3 * 3 + j % 3 = j := by have := Nat.div_add_mod j 3; omega
  rw [hd, hv] at hf
  have := B.at (i := 2 + (fr + j / 3) * 3 + j % 3) (v := v) (by rw [row_at m n he hm]; exact hf.symm)
  rw [← this]
  congr 2
  omega
end

/-- All are numbers of 64 bits. -/
def AllI (cs : List Value) : Prop := ∀ v ∈ cs, ∃ z : Int, v = .int .i64 z ∧ (Lit.int .i64 z).wf = true
theorem AllI.take {cs : List Value} (h : AllI cs) (n : Nat) : AllI (cs.take n) := fun v hv => h v (List.mem_of_mem_take hv)
theorem AllI.drop {cs : List Value} (h : AllI cs) (n : Nat) : AllI (cs.drop n) := fun v hv => h v (List.mem_of_mem_drop hv)
theorem inr_wf {z : Int} (h : InR z) : (Lit.int .i64 z).wf = true := by
  have e1 : IntKind.i64.min = -9223372036854775808 := rfl
  have e2 : IntKind.i64.max = 9223372036854775807 := rfl
  simp [Lit.wf, e1, e2]
  exact h
theorem entC_all {e : EnT} (h : EnIn e) : AllI (entC e) := by
  intro v hv
  obtain ⟨z, hz, rfl⟩ := List.mem_map.1 hv
  exact ⟨z, rfl, inr_wf (h z hz)⟩
theorem enZ_in : EnIn enZ := by
  intro z hz
  unfold enZ enL at hz
  simp only [List.mem_cons, List.not_mem_nil, or_false] at hz
  unfold InR
  omega
theorem bufC_all (b : BufT) : AllI (bufC b) := by
  intro v hv
  unfold bufC at hv
  rw [rowC_eq] at hv
  simp only [List.mem_cons, List.mem_flatMap] at hv
  rcases hv with rfl | rfl | ⟨e, he, hv⟩
  · exact ⟨_, rfl, inr_wf b.2.2.1⟩
  · have := b.len
    exact ⟨_, rfl, inr_wf (by unfold InR; omega)⟩
  · unfold padR at he
    rcases List.mem_append.1 he with he | he
    · exact entC_all (b.mem e he) v hv
    · rw [(List.mem_replicate.1 he).2] at hv
      exact entC_all enZ_in v hv
theorem flat_en_inj : ∀ {R S : List EnT}, R.flatMap entC = S.flatMap entC → R = S
  | [], [], _ => rfl
  | [], y :: S, h => by rw [List.flatMap_cons] at h; cases h
  | x :: R, [], h => by rw [List.flatMap_cons] at h; cases h
  | (x1, x2, x3) :: R, (y1, y2, y3) :: S, h => by
    rw [List.flatMap_cons, List.flatMap_cons] at h
    simp only [entC, enL, List.map_cons, List.map_nil, List.cons_append, List.nil_append, List.cons.injEq, Value.int.injEq, true_and] at h
    obtain ⟨rfl, rfl, rfl, h⟩ := h
    rw [flat_en_inj h]
theorem bufC_inj {a b : BufT} (h : bufC a = bufC b) : a = b := by
  unfold bufC at h
  rw [rowC_eq, rowC_eq] at h
  simp only [List.cons.injEq, Value.int.injEq, true_and] at h
  obtain ⟨h1, h2, h3⟩ := h
  exact BufT.ext h1 (padR_inj (by omega) (flat_en_inj h3))
theorem entC_inj {a b : EnT} (h : entC a = entC b) : a = b := by
  have := flat_en_inj (R := [a]) (S := [b]) (by simpa using h)
  simpa using this
theorem mapM_some {α β : Type} {f : α → Option β} : ∀ (L : List α), (∀ x ∈ L, ∃ y, f x = some y) → ∃ ys, L.mapM f = some ys
  | [], _ => ⟨[], rfl⟩
  | x :: L, h => by
    obtain ⟨y, hy⟩ := h x List.mem_cons_self
    obtain ⟨ys, hys⟩ := mapM_some L (fun z hz => h z (List.mem_cons_of_mem _ hz))
    exact ⟨y :: ys, by simp [List.mapM_cons, hy, hys]⟩
theorem cellI : Tryz.prog.cellsOf 3 = 1 := by kernel_rfl
theorem cellJ : Tryz.prog.cellsOf 2 = 1 := by kernel_rfl
theorem cellE : Tryz.prog.cellsOf 82 = 3 := by kernel_rfl
theorem cellR : Tryz.prog.cellsOf 83 = 72 := by kernel_rfl
theorem cellB : Tryz.prog.cellsOf 85 = 74 := by kernel_rfl
theorem keyI (d : Nat) (cs : List Value) (hl : cs.length = 1) (h : AllI cs) : ∃ l, Tryz.prog.keyLits (d + 1) 3 cs = some l := by
  match cs, hl with
  | [v], _ =>
    obtain ⟨z, rfl, hz⟩ := h v List.mem_cons_self
    unfold Program.keyLits
    rw [Tryz.underlying3]
    simp [hz]
theorem keyJ (d : Nat) (cs : List Value) (hl : cs.length = 1) (h : AllI cs) : ∃ l, Tryz.prog.keyLits (d + 1) 2 cs = some l := by
  match cs, hl with
  | [v], _ =>
    obtain ⟨z, rfl, hz⟩ := h v List.mem_cons_self
    unfold Program.keyLits
    rw [Tryz.underlying2]
    simp [hz]
theorem fields_ent : Tryz.prog.underlying 82 = some (.struct (Tryz.prog.fieldsOf 82)) := by kernel_rfl
theorem ent_fields : (Tryz.prog.fieldsOf 82).toList.map (fun f => (f.offset, f.type)) = [(0, 3), (1, 2), (2, 3)] := by kernel_rfl
theorem ent_names : (Tryz.prog.fieldsOf 82).all (·.name != "_") = true := by kernel_rfl
theorem fields_buf : Tryz.prog.underlying 85 = some (.struct (Tryz.prog.fieldsOf 85)) := by kernel_rfl
theorem buf_fields : (Tryz.prog.fieldsOf 85).toList.map (fun f => (f.offset, f.type)) = [(0, 3), (1, 3), (2, 83)] := by kernel_rfl
theorem buf_names : (Tryz.prog.fieldsOf 85).all (·.name != "_") = true := by kernel_rfl
theorem keyE (d : Nat) (cs : List Value) (hl : cs.length = 3) (h : AllI cs) : ∃ l, Tryz.prog.keyLits (d + 2) 82 cs = some l := by
  unfold Program.keyLits
  rw [fields_ent]
  simp only [cellE, hl, ent_names, and_self, if_true]
  obtain ⟨ys, hy⟩ := mapM_some (f := fun f : Field => Tryz.prog.keyLits (d + 1) f.type ((cs.drop f.offset).take (Tryz.prog.cellsOf f.type))) (Tryz.prog.fieldsOf 82).toList (fun f hf => by
    have hm : (f.offset, f.type) ∈ [(0, 3), (1, 2), (2, 3)] := by rw [← ent_fields]; exact List.mem_map.2 ⟨f, hf, rfl⟩
    simp only [List.mem_cons, List.not_mem_nil, or_false, Prod.mk.injEq] at hm
    rcases hm with ⟨h1, h2⟩ | ⟨h1, h2⟩ | ⟨h1, h2⟩
    · rw [h1, h2, cellI]
      exact keyI d _ (by rw [List.length_take, List.length_drop, hl]; omega) ((h.drop _).take _)
    · rw [h1, h2, cellJ]
      exact keyJ d _ (by rw [List.length_take, List.length_drop, hl]; omega) ((h.drop _).take _)
    · rw [h1, h2, cellI]
      exact keyI d _ (by rw [List.length_take, List.length_drop, hl]; omega) ((h.drop _).take _))
  exact ⟨ys.flatten, by rw [hy]; rfl⟩
theorem keyR (d : Nat) (cs : List Value) (hl : cs.length = 72) (h : AllI cs) : ∃ l, Tryz.prog.keyLits (d + 3) 83 cs = some l := by
  unfold Program.keyLits
  rw [Tryz.underlying83]
  simp only [cellR, hl, if_true, cellE]
  obtain ⟨ys, hy⟩ := mapM_some (f := fun i => Tryz.prog.keyLits (d + 2) 82 ((cs.drop (i * 3)).take 3)) (List.range 24) (fun i hi => keyE d _ (by rw [List.length_take, List.length_drop, hl]; have := List.mem_range.1 hi; omega) ((h.drop _).take 3))
  exact ⟨ys.flatten, by rw [hy]; rfl⟩
theorem keyB (d : Nat) (cs : List Value) (hl : cs.length = 74) (h : AllI cs) : ∃ l, Tryz.prog.keyLits (d + 4) 85 cs = some l := by
  unfold Program.keyLits
  rw [fields_buf]
  simp only [cellB, hl, buf_names, and_self, if_true]
  obtain ⟨ys, hy⟩ := mapM_some (f := fun f : Field => Tryz.prog.keyLits (d + 3) f.type ((cs.drop f.offset).take (Tryz.prog.cellsOf f.type))) (Tryz.prog.fieldsOf 85).toList (fun f hf => by
    have hm : (f.offset, f.type) ∈ [(0, 3), (1, 3), (2, 83)] := by rw [← buf_fields]; exact List.mem_map.2 ⟨f, hf, rfl⟩
    simp only [List.mem_cons, List.not_mem_nil, or_false, Prod.mk.injEq] at hm
    rcases hm with ⟨h1, h2⟩ | ⟨h1, h2⟩ | ⟨h1, h2⟩
    · rw [h1, h2, cellI]
      exact keyI (d + 2) _ (by rw [List.length_take, List.length_drop, hl]; omega) ((h.drop _).take _)
    · rw [h1, h2, cellI]
      exact keyI (d + 2) _ (by rw [List.length_take, List.length_drop, hl]; omega) ((h.drop _).take _)
    · rw [h1, h2, cellR]
      exact keyR d _ (by rw [List.length_take, List.length_drop, hl]; omega) ((h.drop _).take _))
  exact ⟨ys.flatten, by rw [hy]; rfl⟩
theorem key_of {d T n : Nat} {cs : List Value} (hd : Tryz.prog.types.size + 1 = d) (hf : Tryz.prog.underlying T = some (.struct (Tryz.prog.fieldsOf T))) (hc : Tryz.prog.cellsOf T = n) (hk : Tryz.prog.keyType T = true) (hn : cs.length = n) (h : ∃ l, Tryz.prog.keyLits d T cs = some l) : ∃ l, keyOf Tryz.prog T (.agg cs.toArray) = some l := by
  obtain ⟨l, hl⟩ := h
  refine ⟨.string (keyBytes l), ?_⟩
  unfold keyOf
  rw [hf]
  have h2 : (Value.agg cs.toArray).formed Tryz.prog T = true := by
    unfold Value.formed
    rw [hf, hc]
    show ((cs.toArray).size == n) = true
    rw [List.size_toArray, hn]
    simp
  have h3 : (Value.agg cs.toArray).cells.toList = cs := by
    unfold Value.cells
    simp
  simp only [hk, h2, Bool.and_self, if_true, h3, hd, hl, Option.map_some]
theorem types_size : ∃ d, Tryz.prog.types.size + 1 = d + 4 := ⟨Tryz.prog.types.size - 3, by
  have : 3 < Tryz.prog.types.size := by decide +kernel
  omega⟩
theorem key_buf (b : BufT) : ∃ l, keyOf Tryz.prog 85 (.agg (bufA b)) = some l := by
  obtain ⟨d, hd⟩ := types_size
  exact key_of hd fields_buf cellB (by kernel_rfl) (bufC_len b) (keyB d _ (bufC_len b) (bufC_all b))
theorem key_ent (e : EnT) (h : EnIn e) : ∃ l, keyOf Tryz.prog 82 (.agg (entA e)) = some l := by
  obtain ⟨d, hd⟩ := types_size
  exact key_of hd fields_ent cellE (by kernel_rfl) (entC_len e) (keyE (d + 2) _ (entC_len e) (entC_all h))
theorem kt_buf : Tryz.prog.keyTypeAt 4 85 = true := by decide +kernel
theorem tl_buf : Tryz.prog.tiled 4 85 = true := by decide +kernel
theorem law_buf : WideMaps.KeyLaw Tryz.prog 85 := deep_law (m := 4) (by omega) kt_buf tl_buf (by rw [fields_buf])
theorem kt_ent : Tryz.prog.keyTypeAt 4 82 = true := by decide +kernel
theorem tl_ent : Tryz.prog.tiled 4 82 = true := by decide +kernel
theorem law_ent : WideMaps.KeyLaw Tryz.prog 82 := deep_law (m := 4) (by omega) kt_ent tl_ent (by rw [fields_ent])
theorem eq_buf (f g : BufT) (w : World) : (Op.equal 85 (.agg (bufA f)) (.agg (bufA g))).run Tryz.prog w = .ok (decide (f = g)) w := by
  obtain ⟨lf, hf⟩ := key_buf f
  obtain ⟨lg, hg⟩ := key_buf g
  obtain ⟨r, hr, hi⟩ := run_equal_deep w (m := 4) (by omega) kt_buf (by rw [fields_buf]) hf hg
  have e : r = decide (f = g) := by
    by_cases e : f = g
    · subst e
      rw [hf] at hg
      rw [decide_eq_true rfl]
      exact hi.2 (Option.some.inj hg)
    · rw [decide_eq_false e]
      cases r
      · rfl
      · have := hi.1 rfl
        subst this
        have h2 := law_buf.inj hf hg
        simp only [Value.agg.injEq] at h2
        unfold bufA at h2
        exact absurd (bufC_inj (by simpa using h2)) e
  rw [hr, e]
theorem eq_ent (f g : EnT) (h1 : EnIn f) (h2 : EnIn g) (w : World) : (Op.equal 82 (.agg (entA f)) (.agg (entA g))).run Tryz.prog w = .ok (decide (f = g)) w := by
  obtain ⟨lf, hf⟩ := key_ent f h1
  obtain ⟨lg, hg⟩ := key_ent g h2
  obtain ⟨r, hr, hi⟩ := run_equal_deep w (m := 4) (by omega) kt_ent (by rw [fields_ent]) hf hg
  have e : r = decide (f = g) := by
    by_cases e : f = g
    · subst e
      rw [hf] at hg
      rw [decide_eq_true rfl]
      exact hi.2 (Option.some.inj hg)
    · rw [decide_eq_false e]
      cases r
      · rfl
      · have := hi.1 rfl
        subst this
        have h2 := law_ent.inj hf hg
        simp only [Value.agg.injEq] at h2
        unfold entA at h2
        exact absurd (entC_inj (by simpa using h2)) e
  rw [hr, e]
theorem eql_buf (f g : BufT) (w : World) : (binOp .eql 85 (.agg (bufA f)) (.agg (bufA g))).run Tryz.prog w = .ok (.bool (decide (f = g))) w := by
  simp [binOp, eq_buf f g w]
theorem neq_buf (f g : BufT) (w : World) : (binOp .neq 85 (.agg (bufA f)) (.agg (bufA g))).run Tryz.prog w = .ok (.bool (!decide (f = g))) w := by
  simp [binOp, eq_buf f g w]
theorem neq_ent (f g : EnT) (h1 : EnIn f) (h2 : EnIn g) (w : World) : (binOp .neq 82 (.agg (entA f)) (.agg (entA g))).run Tryz.prog w = .ok (.bool (!decide (f = g))) w := by
  simp [binOp, eq_ent f g h1 h2 w]
theorem guard_buf : GuardAt Tryz.prog 85 (fun x : BufT => .agg (bufC x).toArray) := GuardAt.agg _ (by kernel_rfl)
theorem guard_ent : GuardAt Tryz.prog 82 (fun x : EnT => .agg (entC x).toArray) := GuardAt.agg _ (by kernel_rfl)
theorem buf_size : (Tryz.prog.info? 85).map (·.size) = some 74 := by kernel_rfl
theorem ent_size : (Tryz.prog.info? 82).map (·.size) = some 3 := by kernel_rfl
def bufZ : BufT := mkB 0 [] (by simp) (by unfold InR; omega) (fun _ h => by simp at h)
theorem buf_info : (Tryz.prog.info? 85).map (fun i => (i.zero, i.size)) = some (some (.agg (bufA bufZ)), 74) := by kernel_rfl
theorem ent_info : (Tryz.prog.info? 82).map (fun i => (i.zero, i.size, i.bytes)) = some (some (.agg (entA enZ)), 3, 24) := by kernel_rfl

section
variable {ops : Array Oper} {rest : List Oper} {o : Oper} {a : Act} {w : World} {Q : Exit → Act → World → Prop}
/-- A Buf read whole out of its block. -/
theorem wpList_bld (hw : Region.wanted o (yielded ops a.tmps) = true) {x : Operand} (ho : o.op = .load 85 x) {N : Nat} (hx : a.eval x = .pointer (some ⟨N, 0, none⟩)) {b : BufT} (h : Bk w N (bufA b))
    (k : wpList Tryz.prog ops Q rest (a.put o.dst (.agg (bufA b))) w) : wpList Tryz.prog ops Q (o :: rest) a w := by
  unfold wpList
  rw [if_pos hw]
  exact Or.inl (wp_load_mid 85 x ho N 0 hx (bufC b) _ (Bk.whole h) fields_buf rfl (by rw [bufC_len]; exact buf_size) k)
theorem exec_bld {x : Operand} (ho : o.op = .load 85 x) {N : Nat} (hx : a.eval x = .pointer (some ⟨N, 0, none⟩)) {b : BufT} (h : Bk w N (bufA b)) : (execOp a.eval o).run Tryz.prog w = .ok (.value (.agg (bufA b))) w := by
  unfold execOp
  simp only [ho, hx, Instr.loadAt, Instr.sureAddr, Sem.run_bind, Sem.run_pure, Result.andThen_ok, run_loadVar_mid w N 0 85 (bufC b) _ (Bk.whole h) fields_buf rfl (by rw [bufC_len]; exact buf_size)]
  rfl
/-- A Buf put whole into its block. -/
theorem wpList_bst (hgd : o.guard = none) {x y : Operand} (ho : o.op = .store 85 x y) {N : Nat} (hx : a.eval x = .pointer (some ⟨N, 0, none⟩)) {b g : BufT} (hy : a.eval y = .agg (bufA b)) (h : Bk w N (bufA g))
    (k : wpList Tryz.prog ops Q rest (a.put o.dst undef) (w.setRow N (bufA b))) : wpList Tryz.prog ops Q (o :: rest) a w := by
  obtain ⟨T, e⟩ := h
  exact wpList_store_row hgd 85 x y ho N (bufA b) hx hy T (bufA g) e (by rw [bufA_size]; exact buf_size) (by rw [bufA_size, bufA_size]) (all_oneCell_toArray (rowC_one _ _ _)) k
/-- The same, the block being the one that was made last. -/
theorem wpList_bstN (hgd : o.guard = none) {x y : Operand} (ho : o.op = .store 85 x y) {c : Array Value} (hc : c.size = 74)
    (hx : a.eval x = .pointer (some ⟨w.heap.size, 0, none⟩)) {b : BufT} (hy : a.eval y = .agg (bufA b)) (k : wpList Tryz.prog ops Q rest (a.put o.dst undef) (w.alloc (.cells (bufA b) 85))) : wpList Tryz.prog ops Q (o :: rest) a (w.alloc (.cells c 85)) := by
  refine wpList_plain hgd fun K hK => ?_
  unfold Oper.wp execOp
  simp only [ho, hx, hy, Sem.run_bind, run_storeAt_new (P := Tryz.prog) w 85 c (bufA b) (by rw [bufA_size]; exact buf_size) (by rw [hc, bufA_size]) (all_oneCell_toArray (rowC_one _ _ _)), Result.andThen_ok]
  exact hK _ _ k
/-- A store read whole out of its place. -/
theorem wpList_eld (hw : Region.wanted o (yielded ops a.tmps) = true) {x : Operand} (ho : o.op = .load 82 x) {N i : Nat} (hx : a.eval x = .pointer (some ⟨N, i, none⟩)) {e : EnT} (h : w.rangeAt N i (entC e))
    (k : wpList Tryz.prog ops Q rest (a.put o.dst (.agg (entA e))) w) : wpList Tryz.prog ops Q (o :: rest) a w := by
  unfold wpList
  rw [if_pos hw]
  exact Or.inl (wp_load_mid 82 x ho N i hx (entC e) _ h fields_ent rfl (by rw [entC_len]; exact ent_size) k)
theorem exec_eld {x : Operand} (ho : o.op = .load 82 x) {N i : Nat} (hx : a.eval x = .pointer (some ⟨N, i, none⟩)) {e : EnT} (h : w.rangeAt N i (entC e)) : (execOp a.eval o).run Tryz.prog w = .ok (.value (.agg (entA e))) w := by
  unfold execOp
  simp only [ho, hx, Instr.loadAt, Instr.sureAddr, Sem.run_bind, Sem.run_pure, Result.andThen_ok, run_loadVar_mid w N i 82 (entC e) _ h fields_ent rfl (by rw [entC_len]; exact ent_size)]
  rfl
end
theorem exec_beq {a : Act} {o : Oper} {x y : Operand} {u : TypeId} (ho : o.op = .binOp .eql 85 x y u) {f g : BufT} (hx : a.eval x = .agg (bufA f)) (hy : a.eval y = .agg (bufA g)) (W : World) : (execOp a.eval o).run Tryz.prog W = .ok (.value (.bool (decide (f = g)))) W := by
  unfold execOp
  simp only [ho, hx, hy, Sem.run_bind, show (eqGuard .eql 85 x y (.agg (bufA f)) (.agg (bufA g))).run Tryz.prog W = .ok () W from guard_buf .eql x y f g W, Result.andThen_ok, eql_buf f g W]
  rfl
theorem exec_bne {a : Act} {o : Oper} {x y : Operand} {u : TypeId} (ho : o.op = .binOp .neq 85 x y u) {f g : BufT} (hx : a.eval x = .agg (bufA f)) (hy : a.eval y = .agg (bufA g)) (W : World) : (execOp a.eval o).run Tryz.prog W = .ok (.value (.bool (!decide (f = g)))) W := by
  unfold execOp
  simp only [ho, hx, hy, Sem.run_bind, show (eqGuard .neq 85 x y (.agg (bufA f)) (.agg (bufA g))).run Tryz.prog W = .ok () W from guard_buf .neq x y f g W, Result.andThen_ok, neq_buf f g W]
  rfl
theorem exec_ene {a : Act} {o : Oper} {x y : Operand} {u : TypeId} (ho : o.op = .binOp .neq 82 x y u) {f g : EnT} (h1 : EnIn f) (h2 : EnIn g) (hx : a.eval x = .agg (entA f)) (hy : a.eval y = .agg (entA g)) (W : World) : (execOp a.eval o).run Tryz.prog W = .ok (.value (.bool (!decide (f = g)))) W := by
  unfold execOp
  simp only [ho, hx, hy, Sem.run_bind, show (eqGuard .neq 82 x y (.agg (entA f)) (.agg (entA g))).run Tryz.prog W = .ok () W from guard_ent .neq x y f g W, Result.andThen_ok, neq_ent f g h1 h2 W]
  rfl
/-- A yield as an operation that may be guarded. -/
theorem wpList_yield {ops : Array Oper} {rest : List Oper} {o : Oper} {a : Act} {w : World} {Q : Exit → Act → World → Prop} (hw : Region.wanted o (yielded ops a.tmps) = true) {v : Value} (h : ∀ W, (execOp a.eval o).run Tryz.prog W = .ok (.value v) W)
    (k : wpList Tryz.prog ops Q rest (a.put o.dst v) w) : wpList Tryz.prog ops Q (o :: rest) a w := by
  unfold wpList
  rw [if_pos hw]
  refine Or.inl ?_
  unfold Oper.wp
  rw [h w]
  exact k
/-- A struct made of its parts. -/
theorem wpList_mk0 {ops : Array Oper} {rest : List Oper} {o : Oper} {a : Act} {w : World} {Q : Exit → Act → World → Prop} (hgd : o.guard = none) {T : TypeId} (ho : o.op = .build T #[]) {cells : Array Value} (h : Tryz.prog.built T [] = some cells)
    (k : wpList Tryz.prog ops Q rest (a.put o.dst (.agg cells)) w) : wpList Tryz.prog ops Q (o :: rest) a w := by
  refine wpList_plain hgd fun K hK => ?_
  unfold Oper.wp execOp
  simp only [ho, Sem.run_bind, List.map_toArray, List.map_nil, run_build w T #[] cells h, Result.andThen_ok]
  exact hK _ _ k
theorem wpList_mk1 {ops : Array Oper} {rest : List Oper} {o : Oper} {a : Act} {w : World} {Q : Exit → Act → World → Prop} (hgd : o.guard = none) {T : TypeId} {i : Nat} {x : Operand} (ho : o.op = .build T #[(i, x)]) {v : Value} (hx : a.eval x = v) {cells : Array Value} (h : Tryz.prog.built T [(i, v)] = some cells)
    (k : wpList Tryz.prog ops Q rest (a.put o.dst (.agg cells)) w) : wpList Tryz.prog ops Q (o :: rest) a w := by
  refine wpList_plain hgd fun K hK => ?_
  unfold Oper.wp execOp
  simp only [ho, Sem.run_bind, List.map_toArray, List.map_cons, List.map_nil, hx, run_build w T #[(i, v)] cells h, Result.andThen_ok]
  exact hK _ _ k
theorem wpList_mk3 {ops : Array Oper} {rest : List Oper} {o : Oper} {a : Act} {w : World} {Q : Exit → Act → World → Prop} (hgd : o.guard = none) {T : TypeId} {x y z : Operand} (ho : o.op = .build T #[(0, x), (1, y), (2, z)]) {v1 v2 v3 : Value} (h1 : a.eval x = v1) (h2 : a.eval y = v2) (h3 : a.eval z = v3)
    {cells : Array Value} (h : Tryz.prog.built T [(0, v1), (1, v2), (2, v3)] = some cells) (k : wpList Tryz.prog ops Q rest (a.put o.dst (.agg cells)) w) : wpList Tryz.prog ops Q (o :: rest) a w := by
  refine wpList_plain hgd fun K hK => ?_
  unfold Oper.wp execOp
  simp only [ho, Sem.run_bind, List.map_toArray, List.map_cons, List.map_nil, h1, h2, h3, run_build w T #[(0, v1), (1, v2), (2, v3)] cells h, Result.andThen_ok]
  exact hK _ _ k
theorem zero_buf (m : Int) : Tryz.prog.built 85 [(0, .int .i64 m)] = some (rowA m 0 (padR [])) := by kernel_rfl
theorem zero_buf0 : Tryz.prog.built 85 [] = some (bufA bufZ) := by kernel_rfl
theorem ent_made (x y z : Int) : Tryz.prog.built 82 [(0, .int .i64 x), (1, .int .i64 y), (2, .int .i64 z)] = some (entA (x, y, z)) := by kernel_rfl
theorem ent_made0 : Tryz.prog.built 82 [] = some (entA enZ) := by kernel_rfl
/-- A call's Buf, out of its block. -/
theorem buf_ret {fn : Func} {q : Tmp} {tmps : Array Value} {W : World} {N : Nat} {b : BufT} (hr : fn.results = #[.cell q 85]) (hq : tmps.getD q undef = .pointer (some ⟨N, 0, none⟩)) (B : Bk W N (bufA b)) : (results fn tmps).run Tryz.prog W = .ok (.agg (bufA b)) W := by
  obtain ⟨T, e⟩ := B
  exact results_cell_row hr tmps W N T (bufA b) (0, 0) _ hq e fields_buf rfl (by rw [bufA_size]; exact buf_size)
end Go.Proofs.YtplihlmejnohnaaGreatDoor
