/- copy(d, s) over a row of things of several cells, within one block. -/
import Derived.Test.YtplihlmejnohnaaGreatDoorJ30BufW
import Derived.Laws.CopyOwn
import Derived.Laws.CopyRow
import Derived.Test.YtplihlmejnohnaaGreatDoorJ31RegMix
import Derived.Test.YtplihlmejnohnaaGreatDoorJ32AppN
namespace Go.Proofs.YtplihlmejnohnaaGreatDoor
open Go.RowKit

theorem run_copyK (w : World) (dT sT ty elem : TypeId) (k : Nat) (g off dLen dCap sLen sCap : Nat) (dp sp : Option Addr) (cur : List Value) (t : TypeId) (cs : List Value)
    (hu : Tryz.prog.underlying dT = some (.slice elem)) (hs : (Tryz.prog.info? elem).map (·.size) = some k) (hg : w.heap[g]? = some (.cells cur.toArray t (0, 0))) (hn : cs.length = Nat.min sLen dLen * k) (hk : 0 < k)
    (hpos : 0 < cs.length → dp = some ⟨g, off, none⟩ ∧ ∃ ad, sp = some ad ∧ ∀ j v, cs[j]? = some v → w.cell? (ad.add j) = some v) (hfit : off + cs.length ≤ cur.length) (h1 : ∀ v ∈ cs, v.oneCell' = true) :
    (Builtin.copy_ #[dT, sT] ty #[.slice dp dLen dCap, .slice sp sLen sCap]).run Tryz.prog w = .ok (goInt (Nat.min sLen dLen)) (w.setRow g (cur.take off ++ cs ++ cur.drop (off + cs.length)).toArray) := by
  cases hq : Tryz.prog.info? elem with
  | none => simp [hq] at hs
  | some i =>
    have hi : i.size = k := by simpa [hq] using hs
    by_cases h0 : cs.length = 0
    · obtain rfl : cs = [] := List.eq_nil_of_length_eq_zero h0
      have hm : Nat.min sLen dLen = 0 := by
        rcases Nat.eq_zero_or_pos (Nat.min sLen dLen) with h | h
        · exact h
        · have := Nat.mul_pos h hk
          simp only [List.length_nil] at hn
          omega
      have hl : ∀ (x : Addr), (loadCells x 0).run Tryz.prog w = .ok #[] w := fun x => by simpa using run_loadCells_list (P := Tryz.prog) w x [] (by simp)
      have he : w.setRow g (cur.take off ++ [] ++ cur.drop (off + ([] : List Value).length)).toArray = w := by
        have : cur.take off ++ [] ++ cur.drop (off + ([] : List Value).length) = cur := by simp
        rw [this]
        exact setRow_self w g cur.toArray t (0, 0) hg
      rw [he, hm]
      cases dp <;> cases sp <;> simp [Builtin.copy_, run_underlying hu, Builtin.lenOf, Builtin.firstCells, sizeOf, typeInfo, hq, hm, storeCells, hl]
    · obtain ⟨rfl, ad, rfl, hsrc⟩ := hpos (by omega)
      have hl := run_loadCells_list (P := Tryz.prog) w ad cs hsrc
      have hst := run_storeCells_at Tryz.prog g off t cs 0 cur.toArray w hg (by simpa using hfit) h1
      simp [Builtin.copy_, run_underlying hu, Builtin.lenOf, Builtin.firstCells, sizeOf, typeInfo, hq, hi, ← hn, hl, hst]
theorem wp_copyK {o : Oper} {a : Act} {w : World} {K : Act → World → Prop} {Q : Exit → Act → World → Prop} (d s : Operand) (dT sT : TypeId)
    (ho : o.op = .call { callee := .builtin .copy, args := #[d, s], argTypes := #[dT, sT] }) (elem : TypeId) (k : Nat) (hu : Tryz.prog.underlying dT = some (.slice elem)) (hs : (Tryz.prog.info? elem).map (·.size) = some k)
    {g off dLen dCap sLen sCap : Nat} {dp sp : Option Addr} (hd : a.eval d = .slice dp dLen dCap) (hsr : a.eval s = .slice sp sLen sCap) (cur : List Value) (t : TypeId) (cs : List Value)
    (hg : w.heap[g]? = some (.cells cur.toArray t (0, 0))) (hn : cs.length = Nat.min sLen dLen * k) (hk : 0 < k)
    (hpos : 0 < cs.length → dp = some ⟨g, off, none⟩ ∧ ∃ ad, sp = some ad ∧ ∀ j v, cs[j]? = some v → w.cell? (ad.add j) = some v) (hfit : off + cs.length ≤ cur.length) (h1 : ∀ v ∈ cs, v.oneCell' = true)
    (h : K (a.put o.dst (goInt (Nat.min sLen dLen))) (w.setRow g (cur.take off ++ cs ++ cur.drop (off + cs.length)).toArray)) : o.wp Tryz.prog a w K Q := by
  have hrun := run_copyK w dT sT o.type elem k g off dLen dCap sLen sCap dp sp cur t cs hu hs hg hn hk hpos hfit h1
  unfold Oper.wp execOp
  simp only [ho, resolve, invoke, builtin, Sem.run_bind, Sem.run_pure, Result.andThen_ok, List.map_toArray, List.map_cons, List.map_nil, hd, hsr, hrun]
  exact h
end Go.Proofs.YtplihlmejnohnaaGreatDoor

namespace Go.Proofs.YtplihlmejnohnaaGreatDoor
open Go.RowKit

theorem results_tmp4 {fn : Func} {t u v x : Tmp} (h : fn.results = #[.tmp t, .tmp u, .tmp v, .tmp x]) (tmps : Array Value) (P : Program) (w : World) :
    (results fn tmps).run P w = .ok (.tuple #[tmps.getD t undef, tmps.getD u undef, tmps.getD v undef, tmps.getD x undef]) w := by
  simp [results, h]
theorem arr_ent : Tryz.prog.underlying 83 = some (.array (Tryz.prog.arrayLen 83) (Tryz.prog.elem 83)) := by kernel_rfl
theorem arr_len : Tryz.prog.arrayLen 83 = 24 := by kernel_rfl
theorem arr_elem : (Tryz.prog.info? (Tryz.prog.elem 83)).map (·.size) = some 3 := by kernel_rfl
/-- Where a slice of the places begins. -/
def slA (N lo : Nat) : Addr := if 24 = lo then ⟨N, 2, none⟩ else ⟨N, 2 + lo * 3, none⟩
theorem size_arr (w : World) : (sizeOf (Tryz.prog.elem 83)).run Tryz.prog w = .ok 3 w := by
  have h := arr_elem
  cases hq : Tryz.prog.info? (Tryz.prog.elem 83) with
  | none => rw [hq] at h; cases h
  | some i =>
    rw [hq] at h
    have hi : i.size = 3 := by simpa using h
    simp [sizeOf, typeInfo, hq, hi]
theorem slicedAt_is (N lo hi : Nat) : slicedAt ⟨N, 2, none⟩ lo hi 24 3 = .slice (some (slA N lo)) (hi - lo) (24 - lo) := by
  unfold slicedAt slA
  split
  · rfl
  · rw [Addr.add_lit]
section
variable {a : Act} {o : Oper} {x y z : Operand} {N lo hi : Nat}
theorem exec_lh (ho : o.op = .slice 83 x (some y) (some z) none) (hx : a.eval x = .pointer (some ⟨N, 2, none⟩)) (hy : a.eval y = .int .i64 lo) (hz : a.eval z = .int .i64 hi) (h1 : lo ≤ hi) (h2 : hi ≤ 24) (W : World) :
    (execOp a.eval o).run Tryz.prog W = .ok (.value (.slice (some (slA N lo)) (hi - lo) (24 - lo))) W := by
  have hr := run_sliceAt_array_lh (P := Tryz.prog) W 83 ⟨N, 2, none⟩ arr_ent .i64 .i64 (lo : Int) (hi : Int) (by omega) (by omega) (by rw [arr_len]; omega)
  rw [size_arr, arr_len] at hr
  simp only [Result.andThen_ok, Int.toNat_natCast, slicedAt_is] at hr
  unfold execOp
  simp only [ho, hx, hy, hz, Option.map_some, Option.map_none, Sem.run_bind, hr, Result.andThen_ok]
  rfl
theorem exec_l (ho : o.op = .slice 83 x (some y) none none) (hx : a.eval x = .pointer (some ⟨N, 2, none⟩)) (hy : a.eval y = .int .i64 lo) (h1 : lo ≤ 24) (W : World) :
    (execOp a.eval o).run Tryz.prog W = .ok (.value (.slice (some (slA N lo)) (24 - lo) (24 - lo))) W := by
  have hr := run_sliceAt_array_l (P := Tryz.prog) W 83 ⟨N, 2, none⟩ arr_ent .i64 (lo : Int) (by omega) (by rw [arr_len]; omega)
  rw [size_arr, arr_len] at hr
  simp only [Result.andThen_ok, Int.toNat_natCast, slicedAt_is] at hr
  unfold execOp
  simp only [ho, hx, hy, Option.map_some, Option.map_none, Sem.run_bind, hr, Result.andThen_ok]
  rfl
end
theorem slA_lt {N lo : Nat} (h : lo < 24) : slA N lo = ⟨N, 2 + lo * 3, none⟩ := if_neg (by omega)
/-- A slice of the places, read. -/
theorem Bk.places {w : World} {N : Nat} {m n : Int} {R : List EnT} (B : Bk w N (rowA m n R)) (hR : R.length = 24) {lo hi : Nat} (h1 : lo ≤ hi) (h2 : hi ≤ 24) :
    Rd entC 3 w (.slice (some (slA N lo)) (hi - lo) (24 - lo)) ((R.drop lo).take (hi - lo)) := by
  have hl : ((R.drop lo).take (hi - lo)).length = hi - lo := by rw [List.length_take, List.length_drop]; omega
  refine ⟨some (slA N lo), 24 - lo, by rw [hl], by omega, by omega, fun h0 => ?_⟩
  rw [hl] at h0
  refine ⟨N, 2 + lo * 3, by rw [slA_lt (by omega)], B.lt, fun i e j u hi' hj => ?_⟩
  have hlt := (List.getElem?_eq_some_iff.1 hi').1
  rw [hl] at hlt
  rw [List.getElem?_take_of_lt hlt, List.getElem?_drop] at hi'
  have hj3 := (List.getElem?_eq_some_iff.1 hj).1
  rw [entC_len] at hj3
  have := B.at (i := 2 + (lo + i) * 3 + j) (v := u) (by rw [row_at m n hi' hj3]; exact hj)
  rw [← this]
  congr 2
  omega
theorem elEnt : ElT 97 82 3 24 (.agg (entA enZ)) := ⟨Tryz.underlying97, ent_info, rfl, by decide⟩
/-- A store put whole into the block that was made last. -/
theorem wpList_estN {ops : Array Oper} {rest : List Oper} {o : Oper} {a : Act} {w : World} {Q : Exit → Act → World → Prop} (hgd : o.guard = none) {x y : Operand} (ho : o.op = .store 82 x y) {c : Array Value} (hc : c.size = 3)
    (hx : a.eval x = .pointer (some ⟨w.heap.size, 0, none⟩)) {e : EnT} (hy : a.eval y = .agg (entA e)) (k : wpList Tryz.prog ops Q rest (a.put o.dst undef) (w.alloc (.cells (entA e) 82))) : wpList Tryz.prog ops Q (o :: rest) a (w.alloc (.cells c 82)) := by
  refine wpList_plain hgd fun K hK => ?_
  unfold Oper.wp execOp
  simp only [ho, hx, hy, Sem.run_bind, run_storeAt_new (P := Tryz.prog) w 82 c (entA e) (by exact ent_size) (by rw [hc]; rfl) (all_oneCell_toArray (entC_one e)), Result.andThen_ok]
  exact hK _ _ k
theorem wrapS {k : Int} (h0 : -100 ≤ k) (h1 : k ≤ 1000) : wrap64 k = k := IntWalk.wrap64_in _ ⟨by omega, by omega⟩
theorem wrapT {k : Int} (h0 : 0 ≤ k) (h1 : k ≤ 1000) : IntKind.i64.wrap k = k := wrap_small k h0 (by omega)
def oldV : Option EnT → Value
  | none => .tuple #[.int .i64 0, .int .i64 0, .int .i64 0, .bool false]
  | some e => .tuple #[.int .i64 e.1, .int .i64 e.2.1, .int .i64 e.2.2, .bool true]
def newV : Option EnT → Value
  | none => .tuple #[.int .i64 0, .int .i64 0, .bool false]
  | some e => .tuple #[.int .i64 e.2.1, .int .i64 e.2.2, .bool true]
theorem oldB_none {b : BufT} {c : Int} (h : spA b c = spB b c) : oldB b c = none := by
  unfold oldB rowB
  rw [h, Nat.sub_self, List.take_zero]
  rfl
theorem rowB_at {b : BufT} {c : Int} {k : Nat} (h : spA b c + k < spB b c) : (rowB b c)[k]? = b.l[spA b c + k]? := by
  unfold rowB
  rw [List.getElem?_take_of_lt (by omega), List.getElem?_drop]
theorem oldB_some {b : BufT} {c : Int} {e : EnT} (h : spA b c < spB b c) (he : b.l[spA b c]? = some e) : oldB b c = some e := by
  unfold oldB
  rw [rowB_at (by omega)]
  exact he
/-- What a call writes into its own block N: what lies elsewhere stands. -/
structure OffN (N : Nat) (w w' : World) : Prop where
  bk : ∀ {M cs}, M ≠ N → Bk w M cs → Bk w' M cs
  on : ∀ {x}, On x w → x.heap.size ≤ N → On x w'
theorem OffN.refl (N : Nat) (w : World) : OffN N w w := ⟨fun _ h => h, fun h _ => h⟩
theorem OffN.trans {N : Nat} {a b c : World} (h : OffN N a b) (k : OffN N b c) : OffN N a c := ⟨fun n q => k.bk n (h.bk n q), fun q n => k.on (h.on q n) n⟩
theorem OffN.set (N i : Nat) (u : Value) (w : World) : OffN N w (w.setCell ⟨N, i, none⟩ u) := ⟨fun {_ _} n ⟨T, e⟩ => ⟨T, (heap_setCell_other _ _ _ _ n).trans e⟩, fun h n => h.setNew n u⟩
theorem OffN.row (N : Nat) (cs : Array Value) (w : World) : OffN N w (w.setRow N cs) := ⟨fun n h => h.rowFar (fun e => n e.symm) cs, fun h n => h.row n cs⟩
theorem OffN.drew {N : Nat} {w w' : World} (h : OffN N w w') : OffN N w w'.drew := ⟨fun n q => h.bk n q, fun q n => (h.on q n).drew⟩
/-- A store put whole into its place. -/
theorem wpList_est {ops : Array Oper} {rest : List Oper} {o : Oper} {a : Act} {w : World} {Q : Exit → Act → World → Prop} (hgd : o.guard = none) {x y : Operand} (ho : o.op = .store 82 x y) {N k : Nat} {m n : Int} {R : List EnT}
    (hx : a.eval x = .pointer (some ⟨N, 2 + k * 3, none⟩)) {e : EnT} (hy : a.eval y = .agg (entA e)) (B : Bk w N (rowA m n R)) (hk : k < R.length)
    (K : ∀ w', Bk w' N (rowA m n (R.set k e)) → OffN N w w' → wpList Tryz.prog ops Q rest (a.put o.dst undef) w') : wpList Tryz.prog ops Q (o :: rest) a w := by
  obtain ⟨e0, he0⟩ : ∃ e0, R[k]? = some e0 := ⟨_, List.getElem?_eq_getElem hk⟩
  have ht : w.there N (2 + k * 3) 3 := fun j hj => ⟨by
    rw [B.at (i := 2 + k * 3 + j) (v := (entC e0)[j]'(by rw [entC_len]; exact hj)) (by rw [row_at m n he0 hj]; exact List.getElem?_eq_getElem _)]
    rfl, B.fr _⟩
  refine wpList_store_mid hgd 82 x y ho N (2 + k * 3) (entA e) hx hy ht (by exact ent_size) (all_oneCell_toArray (entC_one e)) ?_
  exact K _ (B.putE hk e) (((OffN.set N _ _ w).trans (OffN.set N _ _ _)).trans (OffN.set N _ _ _))
/-- What copy makes of the places. -/
theorem wp_copyE {o : Oper} {a : Act} {w : World} {K : Act → World → Prop} {Q : Exit → Act → World → Prop} (d s : Operand) (ho : o.op = .call { callee := .builtin .copy, args := #[d, s], argTypes := #[97, 97] })
    {N at_ fr hi : Nat} {m n : Int} {R : List EnT} (B : Bk w N (rowA m n R)) (hR : R.length = 24) (h1 : at_ ≤ 24) (h2 : fr ≤ hi) (h3 : hi ≤ 24) (h4 : at_ + (hi - fr) ≤ 24)
    (hd : a.eval d = .slice (some (slA N at_)) (24 - at_) (24 - at_)) (hs : a.eval s = .slice (some (slA N fr)) (hi - fr) (24 - fr))
    (h : ∀ w', Bk w' N (rowA m n (R.take at_ ++ (R.drop fr).take (hi - fr) ++ R.drop (at_ + (hi - fr)))) → OffN N w w' → K (a.put o.dst (goInt (Nat.min (hi - fr) (24 - at_)))) w') : o.wp Tryz.prog a w K Q := by
  obtain ⟨T, e⟩ := B
  have hm : Nat.min (hi - fr) (24 - at_) = hi - fr := Nat.min_eq_left (by omega)
  have hl : ((R.drop fr).take (hi - fr)).length = hi - fr := by rw [List.length_take, List.length_drop]; omega
  refine wp_copyK d s _ _ ho 82 3 Tryz.underlying97 ent_size (g := N) (off := 2 + at_ * 3) hd hs (rowC m n R) T (((R.drop fr).take (hi - fr)).flatMap entC) e
    (by rw [flat_en_len, hl, hm]) (by decide) (fun h0 => ?_) ?_ ?_ ?_
  · rw [flat_en_len, hl] at h0
    refine ⟨by rw [slA_lt (by omega)], ⟨N, 2 + fr * 3, none⟩, by rw [slA_lt (by omega)], fun j v hj => ?_⟩
    rw [Addr.add_lit]
    exact row_src (by omega) ⟨T, e⟩ j v hj
  · rw [flat_en_len, hl, rowC_len, hR]
    omega
  · intro v hv
    obtain ⟨x, _, hx⟩ := List.mem_flatMap.1 hv
    exact entC_one x v hx
  · rw [row_copy (by omega)]
    exact h _ (Bk.row ⟨T, e⟩ _) (OffN.row N _ w)
end Go.Proofs.YtplihlmejnohnaaGreatDoor
