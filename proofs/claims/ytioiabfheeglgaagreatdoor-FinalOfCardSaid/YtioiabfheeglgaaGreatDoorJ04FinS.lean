/- Rows of any things put behind rows of the call's own, as operations of drawn regions. -/
import Derived.Test.YtioiabfheeglgaaGreatDoorJ03RegGrow
import Derived.Test.YtioiabfheeglgaaGreatDoorJ01Puts
import Derived.Laws.OwnMore
import Derived.Maps.OwnSet
import Derived.Great.BuildSlice
namespace Go.Proofs.YtioiabfheeglgaaGreatDoor
open Go.RowKit

/-- What is asked of an element's type. -/
structure ElT (TL T : TypeId) (k by_ : Nat) (z : Value) : Prop where
 under : Tryz.prog.underlying TL = some (.slice T)
 info : (Tryz.prog.info? T).map (fun i => (i.zero, i.size, i.bytes)) = some (some z, k, by_)
 cells : z.cells.size = k
 pos : 0 < k
section
variable {α : Type} {C : α → List Value} {k by_ : Nat} {TL T : TypeId} {z : Value}
theorem flat_lenC (hC : ∀ x, (C x).length = k) (Y : List α) : (Y.flatMap C).length = Y.length * k := by
 induction Y with
 | nil => simp
 | cons y Y ih => rw [List.flatMap_cons, List.length_append, ih, hC, List.length_cons, Nat.succ_mul]; omega
theorem flat_oneC (h1 : ∀ x, ∀ u ∈ C x, u.oneCell' = true) (Y : List α) : ∀ u ∈ Y.flatMap C, u.oneCell' = true := by
 intro u hu
 obtain ⟨y, _, hu⟩ := List.mem_flatMap.1 hu
 exact h1 y u hu
theorem Rd.cells {w : World} {ad : Addr} {n c : Nat} {Y : List α} (hC : ∀ x, (C x).length = k) (h : Rd C k w (.slice (some ad) n c) Y) : ∀ j u, (Y.flatMap C)[j]? = some u → w.cell? (ad.add j) = some u := by
 intro j u hj
 have hlt := (List.getElem?_eq_some_iff.1 hj).1
 rw [flat_lenC hC] at hlt
 have hk : 0 < k := by
  rcases Nat.eq_zero_or_pos k with h0 | h0
  ·
   rw [h0] at hlt; omega
  ·
   exact h0
 have hq : j / k < Y.length := Nat.div_lt_of_lt_mul (by rw [Nat.mul_comm]; exact hlt)
 have hm := Nat.mod_lt j hk
 obtain ⟨a, c', hv, _, _, hr⟩ := h
 obtain ⟨g, off, ha, _, hcell⟩ := hr (Nat.lt_of_le_of_lt (Nat.zero_le _) hq)
 simp only [Value.slice.injEq] at hv
 obtain ⟨rfl, _, _⟩ := hv
 obtain rfl := Option.some.inj ha
 have hd : j / k * k + j % k = j := by rw [Nat.mul_comm]; exact Nat.div_add_mod j k
 have hf := flat_at C k hC Y (j / k) (j % k) Y[j / k] (List.getElem?_eq_getElem hq) hm
 rw [hd, hj] at hf
 have := hcell (j / k) Y[j / k] (j % k) u (List.getElem?_eq_getElem hq) hf.symm
 rw [Addr.add_lit, ← this, Nat.add_assoc, hd]
theorem Rd.len {w : World} {a : Option Addr} {n c : Nat} {Y : List α} (h : Rd C k w (.slice a n c) Y) : n = Y.length := by
 obtain ⟨_, _, hv, _⟩ := h
 simp only [Value.slice.injEq] at hv
 exact hv.2.1
theorem Rd.none_nil {w : World} {n c : Nat} {Y : List α} (h : Rd C k w (.slice none n c) Y) : Y = [] := by
 cases Y with
 | nil => rfl
 | cons y Y =>
  obtain ⟨_, _, hv, _, _, hr⟩ := h
  simp only [Value.slice.injEq] at hv
  obtain ⟨g, off, ha, _⟩ := hr (by simp)
  rw [← hv.1] at ha
  cases ha
/-- Put behind a row that has nothing and no room: what was there stands. -/
theorem wp_append_new {o : Oper} {a : Act} {w : World} {K : Act → World → Prop} {Q : Exit → Act → World → Prop} (E : ElT TL T k by_ z) (hC : ∀ x, (C x).length = k) (s x : Operand)
  (ho : o.op = .call { callee := .builtin .append, args := #[s, x], argTypes := #[TL, TL] }) {base g : Nat} {Y : List α} {v : Value} (hs : a.eval s = .slice (some ⟨g, 0, none⟩) 0 0) (hx : a.eval x = v)
  (hE : w.ownsRow base T k (.slice (some ⟨g, 0, none⟩) 0 0) 0 []) (hu : Rd C k w v Y) (hl : Y.length ≤ 1000000) (hby : by_ ≤ 1000) (hb : base ≤ w.heap.size)
  (h : ∀ v' w', w'.ownsRow base T k v' Y.length (Y.flatMap C) → On w w' → K (a.put o.dst v') w') : o.wp Tryz.prog a w K Q := by
 obtain ⟨i0, hi, hz0, hz1, hz2⟩ := info_parts E.info
 obtain ⟨ax, cx, rfl, hcx, _⟩ := hu.slice
 cases ax with
 | none =>
  obtain rfl := hu.none_nil
  have hrun : (Builtin.append_ #[TL, TL] o.type #[.slice (some ⟨g, 0, none⟩) 0 0, .slice none 0 cx]).run Tryz.prog w = .ok (.slice (some ⟨g, 0, none⟩) 0 0) w := by
   simp [Builtin.append_, run_underlying E.under, sizeOf, typeInfo, hi, Builtin.lenOf, Builtin.firstCells, storeCells]
  unfold Oper.wp
  simp only [List.length_nil] at hx
  simp [execOp, ho, resolve, invoke, builtin, hs, hx, hrun, Result.andThen]
  exact h _ w (by simpa using hE) (On.refl w)
 | some ad =>
  by_cases h0 : Y.length = 0
  ·
   obtain rfl := List.eq_nil_of_length_eq_zero h0
   have hl0 : (loadCells ad 0).run Tryz.prog w = .ok #[] w := by simpa using run_loadCells_list (P := Tryz.prog) w ad [] (by simp)
   have hrun : (Builtin.append_ #[TL, TL] o.type #[.slice (some ⟨g, 0, none⟩) 0 0, .slice (some ad) 0 cx]).run Tryz.prog w = .ok (.slice (some ⟨g, 0, none⟩) 0 0) w := by
    simp [Builtin.append_, run_underlying E.under, sizeOf, typeInfo, hi, Builtin.lenOf, Builtin.firstCells, storeCells, hl0]
   unfold Oper.wp
   simp only [List.length_nil] at hx
   simp [execOp, ho, resolve, invoke, builtin, hs, hx, hrun, Result.andThen]
   exact h _ w (by simpa using hE) (On.refl w)
  ·
   have hlen : (Y.flatMap C).length = Y.length * k := flat_lenC hC Y
   have hfit : Builtin.nextslicecap (0 + Y.length) 0 * i0.bytes ≤ 281474976710656 := growslice_fits (by omega) (by rw [hz2, Nat.zero_add]; have := Nat.mul_le_mul hl hby; omega)
   have hrun := run_append_grow (P := Tryz.prog) w TL o.type T i0 z E.under hi hz0 ⟨g, 0, none⟩ 0 0 [] (by simp) (by simp) ad Y.length cx (Y.flatMap C) (by rw [hlen, hz1]) (hu.cells hC) (by omega) (by omega) hfit
   rw [Nat.zero_add] at hrun
   unfold Oper.wp execOp
   simp only [ho, resolve, invoke, builtin, Sem.run_bind, Sem.run_pure, Result.andThen_ok, List.map_toArray, List.map_cons, List.map_nil, hs, hx, hrun]
   refine h _ _ ⟨hlen, Or.inr ⟨w.heap.size, _, _, rfl, hb, heap_alloc_new w.drew _, grownCap_ge _ _ _ _, grownCap_le_maxLen _ _ _ _ (by unfold maxLen; omega), ?_, ?_⟩⟩ ((On.refl w).drew.alloc _)
   ·
    have hge := grownCap_ge w Y.length 0 T
    simp only [Array.size_append, List.size_toArray, size_zeroCells, E.cells, hlen, List.length_nil, Nat.zero_add, ← Nat.add_mul]
    rw [Nat.add_sub_cancel' hge]
   ·
    simp only [Array.toList_append, List.nil_append]
    rw [List.take_append_of_le_length (by rw [hlen]; exact Nat.le_refl _), List.take_of_length_le (by rw [hlen]; exact Nat.le_refl _)]
/-- A row that is read, put behind a row of the call's own. -/
theorem wp_append_rdG {o : Oper} {a : Act} {w : World} {K : Act → World → Prop} {Q : Exit → Act → World → Prop} (E : ElT TL T k by_ z) (hC : ∀ x, (C x).length = k) (s x : Operand)
  (ho : o.op = .call { callee := .builtin .append, args := #[s, x], argTypes := #[TL, TL] }) {base : Nat} {v u : Value} {X Y : List α} (hs : a.eval s = v) (hx : a.eval x = u) (h1 : ∀ u ∈ Y.flatMap C, u.oneCell' = true)
  (hv : w.ownsRow base T k v X.length (X.flatMap C)) (hu : Rd C k w u Y) (hl : X.length + Y.length ≤ 1000000) (hby : by_ ≤ 1000) (hb : base ≤ w.heap.size)
  (h : ∀ v' w', w'.ownsRow base T k v' (X ++ Y).length ((X ++ Y).flatMap C) → w.grownBy w' v.ownBlock → K (a.put o.dst v') w') : o.wp Tryz.prog a w K Q := by
 obtain ⟨i0, hi, hz0, hz1, hz2⟩ := info_parts E.info
 obtain ⟨ax, cx, rfl, hcx, _⟩ := hu.slice
 cases ax with
 | none =>
  obtain rfl := hu.none_nil
  have hrun : (Builtin.append_ #[TL, TL] o.type #[v, .slice none 0 cx]).run Tryz.prog w = .ok v w := by
   rcases hv.2 with ⟨rfl, _⟩ | ⟨g, cap, cur, rfl, _, _, hnc, _⟩
   ·
    simp [Builtin.append_, run_underlying E.under, sizeOf, typeInfo, hi, Builtin.lenOf, Builtin.firstCells]
   ·
    simp [Builtin.append_, run_underlying E.under, sizeOf, typeInfo, hi, Builtin.lenOf, Builtin.firstCells, hnc, storeCells]
  unfold Oper.wp
  simp only [List.length_nil] at hx
  simp [execOp, ho, resolve, invoke, builtin, hs, hx, hrun, Result.andThen]
  exact h v w (by simpa using hv) (World.grownBy.refl _ _)
 | some ad =>
  have hbm : (X.length + Y.length) * by_ ≤ 140737488355328 := by have := Nat.mul_le_mul hl hby; omega
  refine wp_append_own w s x TL ho base T i0 z k by_ E.under hi hz0 hz1 hz2 E.cells E.pos v X.length _ hs hv ad Y.length cx (Y.flatMap C) hx (flat_lenC hC Y) (hu.cells hC) h1 (by unfold maxLen; omega) hbm hb fun v' w' h1 h2 _ => h v' w' (by rw [List.length_append, List.flatMap_append]; exact h1) h2
/-- A new row of nothing, of one. -/
theorem own_empty (w : World) (T : TypeId) (k base : Nat) (hb : base ≤ w.heap.size) : (w.alloc (.cells #[] T)).ownsRow base T k (.slice (some ⟨w.heap.size, 0, none⟩) 0 0) 0 [] := by
 have := World.ownsRow_made (base := base) (e := T) (size := k) w #[] 0 hb (Nat.zero_le _) (by simp)
 simpa using this
end
theorem elInt : ElT 22 3 1 8 (.int .i64 0) := ⟨Tryz.underlying22, by kernel_rfl, rfl, by decide⟩
end Go.Proofs.YtioiabfheeglgaaGreatDoor

namespace Go.Proofs.YtioiabfheeglgaaGreatDoor
open Go.RowKit

theorem On.turned {w x y : World} {b : Nat} (h : On w x) (k : x.mapTurned y b) (hb : w.heap.size ≤ b) : On w y := by
 have g := k.grown
 exact ⟨g.os.trans h.os, g.tape.trans h.tape, g.output.trans h.output, Nat.le_trans h.size g.size, fun j hj => (g.block j (Nat.lt_of_lt_of_le hj h.size) (fun e => by have := Option.some.inj e; omega)).trans (h.block j hj)⟩
theorem keyed_fin : Maps.Keyed Tryz.prog 36 := Maps.Keyed.of_law law_fin
/-- Block b holds a set of ends. -/
def FSet (w : World) (b n : Nat) (S : List FinT) : Prop := ∃ D : DataW Unit, w.ownsMap Tryz.prog 36 unitElem b n D ∧ ∀ f l, keyOf Tryz.prog 36 (.agg (finA f)) = some l → Maps.has D l = decide (f ∈ S)
theorem FSet.new (w : World) : FSet (w.alloc (.map #[] 0)) w.heap.size 0 [] := ⟨_, World.ownsMap_made w _ _ _, fun f l _ => by simp [Maps.has]⟩
theorem FSet.lt {w : World} {b n : Nat} {S : List FinT} (h : FSet w b n S) : b < w.heap.size := by
 obtain ⟨D, h, _⟩ := h
 exact h.lt
theorem FSet.grown {w w' : World} {b n : Nat} {S : List FinT} {row : Option Nat} (h : FSet w b n S) (k : w.grownBy w' row) (hne : some b ≠ row) : FSet w' b n S := by
 obtain ⟨D, h, hS⟩ := h
 exact ⟨D, h.kept k hne, hS⟩
theorem FSet.alloc {w : World} {b n : Nat} {S : List FinT} (h : FSet w b n S) (o : Obj) : FSet (w.alloc o) b n S := h.grown (World.grownBy_alloc w o none) (by simp)
theorem lit_fin (f : FinT) {l : Lit} (h : keyOf Tryz.prog 36 (.agg (finA f)) = some l) : WideAt.IsKeyLit l := by
 obtain ⟨bs, rfl⟩ := law_fin.str h
 exact trivial
theorem wpList_flook {ops : Array Oper} {rest : List Oper} {o : Oper} {a : Act} {w : World} {Q : Exit → Act → World → Prop} (hgd : o.guard = none) {m x : Operand} (ho : o.op = Op.lookup 108 m x true)
  {b n : Nat} {S : List FinT} (hm : a.eval m = .map (some b)) (h : FSet w b n S) {f : FinT} (hx : a.eval x = .agg (finA f)) (k : wpList Tryz.prog ops Q rest (a.put o.dst (.tuple #[.agg #[], .bool (decide (f ∈ S))])) w) : wpList Tryz.prog ops Q (o :: rest) a w := by
 obtain ⟨D, hD, hS⟩ := h
 obtain ⟨l, hl⟩ := key_fin f
 rw [← hS f l hl] at k
 exact wpList_lookup_own_unit w hgd m x 108 ho 36 109 keyed_fin Tryz.underlying108 (Tryz.zeroValue109 w) b n D hm hD _ l hx hl k
theorem wpList_fput {ops : Array Oper} {rest : List Oper} {o : Oper} {a : Act} {w : World} {Q : Exit → Act → World → Prop} (hgd : o.guard = none) {m x v : Operand} (ho : o.op = Op.mapUpdate 108 m x v)
  {b n : Nat} {S : List FinT} (hm : a.eval m = .map (some b)) (h : FSet w b n S) (hn : n < 9223372036854775807) {f : FinT} (hx : a.eval x = .agg (finA f)) (hv : a.eval v = .agg #[])
  (k : ∀ w', FSet w' b (n + 1) (S ++ [f]) → w.mapTurned w' b → wpList Tryz.prog ops Q rest (a.put o.dst undef) w') : wpList Tryz.prog ops Q (o :: rest) a w := by
 obtain ⟨D, hD, hS⟩ := h
 obtain ⟨l, hl⟩ := key_fin f
 refine wpList_mapUpdate_in w hgd m x v 108 ho 36 109 keyed_fin Tryz.underlying108 unitElem b n D hm hD hn _ _ l hx hv hl (.agg []) [] unitElem_mk (fun w' hD' ht => k w' ⟨_, hD', fun g lg hg => ?_⟩ ht)
 by_cases e : f = g
 ·
  subst e
  rw [hl] at hg
  obtain rfl := Option.some.inj hg
  rw [Maps.has_put_same hD.isMap (lit_fin f hl)]
  simp
 ·
  have hne : lg ≠ l := fun e' => by
   subst e'
   exact e (key_inj hl hg)
  rw [Maps.has_put_other hne, hS g lg hg]
  have : ¬ g = f := fun e' => e e'.symm
  simp [this]
/-- An end stored into the block that was made last. -/
theorem wpList_fst {ops : Array Oper} {rest : List Oper} {o : Oper} {a : Act} {w : World} {Q : Exit → Act → World → Prop} (hgd : o.guard = none) {x y : Operand} (ho : o.op = .store 36 x y) {c : Array Value} (hc : c.size = 20)
  (hx : a.eval x = .pointer (some ⟨w.heap.size, 0, none⟩)) {f : FinT} (hy : a.eval y = .agg (finA f)) (k : wpList Tryz.prog ops Q rest (a.put o.dst undef) (w.alloc (.cells (finA f) 36))) : wpList Tryz.prog ops Q (o :: rest) a (w.alloc (.cells c 36)) := by
 refine wpList_plain hgd fun K hK => ?_
 unfold Oper.wp execOp
 simp only [ho, hx, hy, Sem.run_bind, run_storeAt_new (P := Tryz.prog) w 36 c (finA f) (by rw [finA_size]; exact fin_size) (by rw [hc, finA_size]) (all_oneCell_toArray (finC_one f)), Result.andThen_ok]
 exact hK _ _ k
theorem fin_info3 : (Tryz.prog.info? 36).map (fun i => (i.zero, i.size, i.bytes)) = some (some (.agg (finA finZ)), 20, 160) := by kernel_rfl
theorem elF : ElT 69 36 20 160 (.agg (finA finZ)) := ⟨Tryz.underlying69, fin_info3, finA_size _, by decide⟩
theorem fold_set : ∀ (cs : List Value) (k : Nat) (zs : Array Value), k + cs.length ≤ zs.size → ∀ i : Nat, ((cs.zipIdx k).foldl (fun (a : Array Value) (x : Value × Nat) => a.setIfInBounds (0 + x.2) x.1) zs)[i]? = if k ≤ i ∧ i < k + cs.length then cs[i - k]? else zs[i]?
 | [], k, zs, _, i => by
  rw [if_neg (by simp)]
  rfl
 | c :: cs, k, zs, h, i => by
  rw [List.length_cons] at h
  rw [List.zipIdx_cons, List.foldl_cons, fold_set cs (k + 1) _ (by simp; omega) i]
  simp only [Nat.zero_add, List.length_cons]
  by_cases h1 : k = i
  ·
   subst h1
   rw [if_neg (by omega), if_pos (by omega), Nat.sub_self, Array.getElem?_setIfInBounds_self_of_lt (by omega)]
   rfl
  ·
   rw [Array.getElem?_setIfInBounds_ne h1]
   by_cases h2 : k + 1 ≤ i ∧ i < k + 1 + cs.length
   ·
    rw [if_pos h2, if_pos (by omega), show i - k = (i - (k + 1)) + 1 by omega, List.getElem?_cons_succ]
   ·
    rw [if_neg h2, if_neg (by omega)]
theorem fill_fin (f : FinT) (zs : Array Value) (hz : zs.size = 20) : Instr.fill (fun i => some (i * 20, 20)) zs [(0, .agg (finA f))] = some (finA f) := by
 have h1 : (Value.agg (finA f)).cells = finA f := rfl
 unfold Instr.fill
 simp only [h1, finA_size, hz, Nat.zero_mul, Nat.zero_add, ne_eq, not_true_eq_false, decide_false, gt_iff_lt, Nat.lt_irrefl, Bool.or_self, Bool.false_eq_true, if_false]
 unfold Instr.fill
 congr 1
 apply Array.ext_getElem?
 intro i
 rw [← Array.foldl_toList, Array.toList_zipIdx]
 have := fold_set (finC f) 0 zs (by rw [finC_len, hz]; omega) i
 simp only [Nat.zero_add] at this
 unfold finA
 simp only [List.getElem?_toArray]
 rw [this, finC_len]
 by_cases h : i < 20
 ·
  rw [if_pos ⟨Nat.zero_le _, h⟩, Nat.sub_zero]
 ·
  rw [if_neg (by omega), Array.getElem?_eq_none (by omega), List.getElem?_eq_none (by rw [finC_len]; omega)]
/-- A row of one end. -/
theorem wp_fslice {o : Oper} {a : Act} {w : World} {K : Act → World → Prop} {Q : Exit → Act → World → Prop} {x : Operand} (ho : o.op = .buildSlice 69 1 #[(0, x)]) {f : FinT} (hx : a.eval x = .agg (finA f))
  (h : K (a.put o.dst (.slice (some ⟨w.heap.size, 0, none⟩) 1 1)) (w.alloc (.cells (finA f) 36))) : o.wp Tryz.prog a w K Q := by
 obtain ⟨i0, hi, hz0, hz1, hz2⟩ := info_parts fin_info3
 refine wp_buildSlice 69 36 1 _ ho (finA f) i0 _ Tryz.underlying69 hi hz0 (by rw [hz1]; omega) (by rw [hz1]; omega) ?_ h
 rw [hz1]
 simp only [List.map_toArray, List.map_cons, List.map_nil, hx]
 exact fill_fin f _ (by simp)
theorem wpList_fslice {ops : Array Oper} {rest : List Oper} {o : Oper} {a : Act} {w : World} {Q : Exit → Act → World → Prop} (hgd : o.guard = none) {x : Operand} (ho : o.op = .buildSlice 69 1 #[(0, x)]) {f : FinT} (hx : a.eval x = .agg (finA f))
  (h : wpList Tryz.prog ops Q rest (a.put o.dst (.slice (some ⟨w.heap.size, 0, none⟩) 1 1)) (w.alloc (.cells (finA f) 36))) : wpList Tryz.prog ops Q (o :: rest) a w :=
 wpList_plain hgd fun _ hK => wp_fslice ho hx (hK _ _ h)
theorem rd_one {w : World} {N : Nat} {f : FinT} (B : Bk w N (finA f)) : Rd finC 20 w (.slice (some ⟨N, 0, none⟩) 1 1) [f] :=
 ⟨_, 1, rfl, Nat.le_refl _, by simp, fun _ => ⟨N, 0, rfl, B.lt, fun i x j u hi hj => by
  have hi0 : i = 0 := by
   have := (List.getElem?_eq_some_iff.1 hi).1
   simpa using this
  subst hi0
  simp only [List.getElem?_cons_zero, Option.some.injEq] at hi
  subst hi
  simp only [Nat.zero_add, Nat.zero_mul]
  exact B.at (by unfold finA; rw [List.getElem?_toArray]; exact hj)⟩⟩
/-- A row that is read, put behind a row of the call's own, in a plain region. -/
theorem wpList_fapp {ops : Array Oper} {rest : List Oper} {o : Oper} {a : Act} {w : World} {Q : Exit → Act → World → Prop} (hgd : o.guard = none) {s x : Operand}
  (ho : o.op = .call { callee := .builtin .append, args := #[s, x], argTypes := #[69, 69] }) {base : Nat} {v u : Value} {X Y : List FinT} (hs : a.eval s = v) (hx : a.eval x = u)
  (hv : w.ownsRow base 36 20 v X.length (X.flatMap finC)) (hu : Rd finC 20 w u Y) (hl : X.length + Y.length ≤ 1000000) (hb : base ≤ w.heap.size)
  (h : ∀ v' w', w'.ownsRow base 36 20 v' (X ++ Y).length ((X ++ Y).flatMap finC) → w.grownBy w' v.ownBlock → wpList Tryz.prog ops Q rest (a.put o.dst v') w') : wpList Tryz.prog ops Q (o :: rest) a w :=
 wpList_plain hgd fun _ hK => wp_append_rdG elF finC_len s x ho hs hx (flat_oneC finC_one Y) hv hu hl (by decide) hb fun v' w' h1 h2 => hK _ _ (h v' w' h1 h2)
theorem run_fmap (n : Int) (w : World) : (Instr.makeMap 108 (some (.int .i64 n))).run Tryz.prog w = .ok (.map (some w.heap.size)) (w.alloc (.map #[] 0)) := by
 simp [Instr.makeMap, run_underlying Tryz.underlying108, asInt, newObj, asIntOf]
 rfl
end Go.Proofs.YtioiabfheeglgaaGreatDoor
