/- Slices that are handed in can be read. -/
import Derived.Test.YtnoeofbjnogkmaaReads
import Derived.ChangeArms
import Derived.ChangeOld
import Derived.DataReads
import Derived.OpenShut
namespace Go.Proofs.Ytnoeofbjnogkmaa
open Go.RowKit

/-- A number of 64 bits. -/
def I64 (n : Int) : Prop := -9223372036854775808 ≤ n ∧ n ≤ 9223372036854775807
theorem i64_wf {n : Int} (h : (Lit.int .i64 n).wf = true) : I64 n := by
  have e1 : IntKind.i64.min = -9223372036854775808 := rfl
  have e2 : IntKind.i64.max = 9223372036854775807 := rfl
  simp [Lit.wf, e1, e2] at h
  exact h
section
variable {H : Type} {enc : TypeId × Value → H} {P : Program} {w : World} {base : Nat} {sp : Nat → Bool} {held : Bool}
theorem trod_field {t : TypeId} {fuel : Nat} {cs : List Value} {x : DataW H × List MemPlace} {fs : Array Field} (ht : P.underlying t = some (.struct fs)) (h : DataW.trod enc P w base sp held fuel t cs = some x) (i : Nat) (ty : TypeId) (off : Nat) (hf : (fs[i]?).map (fun f => (f.type, f.offset)) = some (ty, off)) :
    ∃ n y, DataW.trod enc P w base sp held n ty ((cs.drop off).take (P.cellsOf ty)) = some y := by
  obtain ⟨xs, n, rfl, hx, hl, hxl, hall⟩ := DataW.trod_struct ht h
  obtain ⟨f, hfi, he⟩ := Option.map_eq_some_iff.1 hf
  simp only [Prod.mk.injEq] at he
  obtain ⟨rfl, rfl⟩ := he
  have hi : i < fs.size := (Array.getElem?_eq_some_iff.1 hfi).1
  refine ⟨n, xs[i], ?_⟩
  rw [hall i f hfi, List.getElem?_eq_getElem (by omega)]
theorem trod_len {t : TypeId} {fuel : Nat} {cs : List Value} {x : DataW H × List MemPlace} {fs : Array Field} (ht : P.underlying t = some (.struct fs)) (h : DataW.trod enc P w base sp held fuel t cs = some x) : cs.length = P.cellsOf t := by
  obtain ⟨xs, n, rfl, hx, hl, _⟩ := DataW.trod_struct ht h
  exact hl
theorem field_int {t : TypeId} {fuel : Nat} {cs : List Value} {x : DataW H × List MemPlace} {fs : Array Field} (ht : P.underlying t = some (.struct fs)) (h : DataW.trod enc P w base sp held fuel t cs = some x) (i : Nat) (ty : TypeId) (off : Nat) (hf : (fs[i]?).map (fun f => (f.type, f.offset)) = some (ty, off)) (hi : P.underlying ty = some (.int .i64)) (hc : P.cellsOf ty = 1) :
    ∃ n, I64 n ∧ (cs.drop off).take 1 = [.int .i64 n] := by
  obtain ⟨m, y, hy⟩ := trod_field ht h i ty off hf
  rw [hc] at hy
  obtain ⟨n, hn, _, hw⟩ := DataW.trod_int hi hy
  exact ⟨n, i64_wf hw, hn⟩
/-- Things one by one make a list. -/
theorem list_of {α : Type} (Q : Nat → α → Prop) : ∀ n : Nat, (∀ i, i < n → ∃ y, Q i y) → ∃ L : List α, L.length = n ∧ ∀ i y, L[i]? = some y → Q i y
  | 0, _ => ⟨[], rfl, fun i y h => by simp at h⟩
  | n + 1, h => by
    obtain ⟨L, hl, hq⟩ := list_of Q n (fun i hi => h i (by omega))
    obtain ⟨y, hy⟩ := h n (by omega)
    refine ⟨L ++ [y], by simp [hl], fun i z hz => ?_⟩
    rcases Nat.lt_or_ge i L.length with hi | hi
    · rw [List.getElem?_append_left hi] at hz
      exact hq i z hz
    · rw [List.getElem?_append_right hi] at hz
      have : i - L.length = 0 := by
        rcases Nat.eq_zero_or_pos (i - L.length) with h0 | h0
        · exact h0
        · rw [List.getElem?_eq_none (by simp; omega)] at hz; cases hz
      rw [this] at hz
      simp only [List.getElem?_cons_zero, Option.some.injEq] at hz
      subst hz
      have e : i = n := by omega
      rw [e]
      exact hy
/-- A slice that is handed in, thing by thing. -/
theorem rd_slice {α : Type} (C : α → List Value) (k : Nat) (Q : α → Prop) {t e : TypeId} {fuel : Nat} {cs : List Value} {x : DataW H × List MemPlace} (ht : P.underlying t = some (.slice e)) (hk : P.cellsOf e = k) (hk0 : 0 < k) (hC : ∀ y, (C y).length = k)
    (hel : ∀ (n : Nat) (cs : List Value) (x : DataW H × List MemPlace), DataW.trod enc P w base sp held n e cs = some x → ∃ y, cs = C y ∧ Q y)
    (h : DataW.trod enc P w base sp held fuel t cs = some x) : ∃ (a : Option Addr) (L : List α) (c : Nat), cs = [.slice a L.length c] ∧ Rd C k w (.slice a L.length c) L ∧ ∀ y ∈ L, Q y := by
  rcases DataW.trod_slice ht h with ⟨hcs, _⟩ | ⟨a, len, cap, elems, rest, n, _, hcs, _, hb, hl, hm, hlen, hel2, _, _⟩
  · exact ⟨none, [], 0, hcs, Rd.nil _ _ _, fun y hy => by cases hy⟩
  · have hone : ∀ i, i < len → ∃ y, (w.cells? base (a.add (i * k)) k = some (C y)) ∧ Q y := by
      intro i hi
      have he := hel2 i hi
      rw [hk, List.getElem?_eq_getElem (by omega)] at he
      obtain ⟨ci, hci, hti⟩ := Option.bind_eq_some_iff.1 he
      obtain ⟨y, rfl, hq⟩ := hel n ci _ hti
      exact ⟨y, hci, hq⟩
    obtain ⟨L, hL, hQ⟩ := list_of (fun i y => (w.cells? base (a.add (i * k)) k = some (C y)) ∧ Q y) len hone
    refine ⟨some a, L, cap, by rw [hcs, hL], ⟨_, cap, rfl, by omega, by have hm' := hm; unfold maxLen at hm'; omega, fun h0 => ?_⟩, fun y hy => ?_⟩
    · obtain ⟨b, off, spot⟩ := a
      have c0 := (hQ 0 L[0] (List.getElem?_eq_getElem h0)).1
      obtain ⟨_, _, hc0⟩ := World.cells?_some c0
      have h00 := hc0 0 hk0
      have hC0 : (C L[0])[0]? = some (C L[0])[0] := List.getElem?_eq_getElem (by rw [hC]; exact hk0)
      rw [hC0] at h00
      have hspot : spot = none := by simpa [Addr.add] using World.cell?_spot h00
      subst hspot
      refine ⟨b, off, rfl, ?_, fun i y j u hi hj => ?_⟩
      · have := World.cells?_block c0 hk0
        simpa [Addr.add] using this
      · have ci := (hQ i y hi).1
        obtain ⟨_, _, hci⟩ := World.cells?_some ci
        have hjk : j < k := by have := (List.getElem?_eq_some_iff.1 hj).1; rwa [hC] at this
        have := hci j hjk
        rw [hj, Addr.add_lit, Addr.add_lit] at this
        rw [← this]
    · obtain ⟨i, hi, he⟩ := List.mem_iff_getElem.1 hy
      exact (hQ i y (by rw [List.getElem?_eq_getElem hi, he])).2
/-- Rows of rows that are handed in. -/
theorem rd_rows {α : Type} (C : α → List Value) (k : Nat) (Q : α → Prop) {t e f : TypeId} {fuel : Nat} {cs : List Value} {x : DataW H × List MemPlace} (ht : P.underlying t = some (.slice e)) (he : P.underlying e = some (.slice f)) (h1 : P.cellsOf e = 1) (hk : P.cellsOf f = k) (hk0 : 0 < k) (hC : ∀ y, (C y).length = k)
    (hel : ∀ (n : Nat) (cs : List Value) (x : DataW H × List MemPlace), DataW.trod enc P w base sp held n f cs = some x → ∃ y, cs = C y ∧ Q y)
    (h : DataW.trod enc P w base sp held fuel t cs = some x) : ∃ (a : Option Addr) (LL : List (List α)) (c : Nat), cs = [.slice a LL.length c] ∧ Rd2 C k w (.slice a LL.length c) LL ∧ ∀ L ∈ LL, ∀ y ∈ L, Q y := by
  obtain ⟨a, vs, c, hcs, hr, hq⟩ := rd_slice oneC 1 (fun u => ∃ L : List α, Rd C k w u L ∧ ∀ y ∈ L, Q y) ht h1 (by decide) (fun _ => rfl) (fun n cs x hx => by
    obtain ⟨a, L, c, hcs, hr, hq⟩ := rd_slice C k Q he hk hk0 hC hel hx
    exact ⟨_, hcs, L, hr, hq⟩) h
  obtain ⟨LL, hL, hP⟩ := list_of (fun i (L : List α) => ∃ u, vs[i]? = some u ∧ Rd C k w u L ∧ ∀ y ∈ L, Q y) vs.length (fun i hi => by
    obtain ⟨L, hr, hq'⟩ := hq vs[i] (List.getElem_mem hi)
    exact ⟨L, _, List.getElem?_eq_getElem hi, hr, hq'⟩)
  refine ⟨a, LL, c, by rw [hcs, hL], ⟨vs, hL.symm, by rw [hL]; exact hr, fun i u L hu hLi => ?_⟩, fun L hLm => ?_⟩
  · obtain ⟨u', hu', hr', _⟩ := hP i L hLi
    rw [hu] at hu'
    obtain rfl := Option.some.inj hu'
    exact hr'
  · obtain ⟨i, hi, e⟩ := List.mem_iff_getElem.1 hLm
    obtain ⟨u', _, _, hq'⟩ := hP i L (by rw [List.getElem?_eq_getElem hi, e])
    exact hq'
theorem nine {cs : List Value} (h : cs.length = 9) : ∃ c0 c1 c2 c3 c4 c5 c6 c7 c8, cs = [c0, c1, c2, c3, c4, c5, c6, c7, c8] := by
  match cs, h with
  | [c0, c1, c2, c3, c4, c5, c6, c7, c8], _ => exact ⟨_, _, _, _, _, _, _, _, _, rfl⟩
theorem four {cs : List Value} (h : cs.length = 4) : ∃ c0 c1 c2 c3, cs = [c0, c1, c2, c3] := by
  match cs, h with
  | [c0, c1, c2, c3], _ => exact ⟨_, _, _, _, rfl⟩
theorem two {cs : List Value} (h : cs.length = 2) : ∃ c0 c1, cs = [c0, c1] := by
  match cs, h with
  | [c0, c1], _ => exact ⟨_, _, rfl⟩
theorem five {cs : List Value} (h : cs.length = 5) : ∃ c0 c1 c2 c3 c4, cs = [c0, c1, c2, c3, c4] := by
  match cs, h with
  | [c0, c1, c2, c3, c4], _ => exact ⟨_, _, _, _, _, rfl⟩
end
end Go.Proofs.Ytnoeofbjnogkmaa
