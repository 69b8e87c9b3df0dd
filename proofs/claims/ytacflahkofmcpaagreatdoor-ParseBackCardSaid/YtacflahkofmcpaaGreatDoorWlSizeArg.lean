/- A test that is handed in: how long its rows are. -/
import Derived.Test.YtacflahkofmcpaaGreatDoorJ43WlTestArg
import Derived.SizedLaws
namespace Go.Proofs.YtacflahkofmcpaaGreatDoor.Wl
open Go.RowKit

section
variable {H : Type} {enc : TypeId × Value → H} {P : Program} {w : World} {base : Nat} {sp : Nat → Bool} {held : Bool}
/-- No row of it is beyond the reach of a machine. -/
def Wt (P : Program) (t : TypeId) (d : DataW H) : Prop := ∀ n ∈ d.weights P t, n ≤ reachBytes
theorem mem_all (e : TypeId) : ∀ (L : List (DataW H)) (d : DataW H), d ∈ L → ∀ n ∈ d.weights P e, n ∈ DataW.weightsAll P e L
  | [], d, hd, _, _ => by cases hd
  | x :: L, d, hd, n, hn => by
    simp only [DataW.weightsAll, List.mem_append]
    rcases List.mem_cons.1 hd with rfl | hd
    · exact Or.inl hn
    · exact Or.inr (mem_all e L d hd n hn)
theorem rd_sliceS {α : Type} (C : α → List Value) (k : Nat) (Q : α → Prop) {t e : TypeId} {fuel : Nat} {cs : List Value} {x : DataW H × List MemPlace} (ht : P.underlying t = some (.slice e)) (hk : P.cellsOf e = k) (hk0 : 0 < k) (hC : ∀ y, (C y).length = k)
    (hel : ∀ (n : Nat) (cs : List Value) (x : DataW H × List MemPlace), DataW.trod enc P w base sp held n e cs = some x → Wt P e x.1 → ∃ y, cs = C y ∧ Q y)
    (h : DataW.trod enc P w base sp held fuel t cs = some x) (hw : Wt P t x.1) : ∃ (a : Option Addr) (L : List α) (c : Nat), cs = [.slice a L.length c] ∧ Rd C k w (.slice a L.length c) L ∧ (∀ y ∈ L, Q y) ∧ L.length * P.bytesOf e ≤ reachBytes := by
  rcases DataW.trod_slice ht h with ⟨hcs, _⟩ | ⟨a, len, cap, elems, rest, n, _, hcs, hx, hb, hl, hm, hlen, hel2, _, _⟩
  · exact ⟨none, [], 0, hcs, Rd.nil _ _ _, (fun y hy => by cases hy), by simp⟩
  · have hwl : len * P.bytesOf e ≤ reachBytes := by
      have := hw ((elems.length + rest.length) * P.bytesOf e) (by rw [hx]; simp [DataW.weights, ht])
      rw [hlen] at this
      exact Nat.le_trans (Nat.mul_le_mul_right _ (Nat.le_add_right _ _)) this
    have hwe : ∀ y ∈ elems, Wt P e y.1 := by
      intro y hy n hn
      refine hw n ?_
      rw [hx]
      simp only [DataW.weights, ht, List.mem_cons, List.mem_append]
      exact Or.inr (Or.inl (mem_all e _ y.1 (List.mem_map.2 ⟨y, hy, rfl⟩) n hn))
    have hone : ∀ i, i < len → ∃ y, (w.cells? base (a.add (i * k)) k = some (C y)) ∧ Q y := by
      intro i hi
      have he := hel2 i hi
      rw [hk, List.getElem?_eq_getElem (by omega)] at he
      obtain ⟨ci, hci, hti⟩ := Option.bind_eq_some_iff.1 he
      obtain ⟨y, rfl, hq⟩ := hel n ci _ hti (hwe _ (List.getElem_mem _))
      exact ⟨y, hci, hq⟩
    obtain ⟨L, hL, hQ⟩ := list_of (fun i y => (w.cells? base (a.add (i * k)) k = some (C y)) ∧ Q y) len hone
    refine ⟨some a, L, cap, by rw [hcs, hL], ⟨_, cap, rfl, by omega, by have hm' := hm; unfold maxLen at hm'; omega, fun h0 => ?_⟩, fun y hy => ?_, by rw [hL]; exact hwl⟩
    · obtain ⟨b, off, spot⟩ := a
      have c0 := (hQ 0 L[0] (List.getElem?_eq_getElem h0)).1
      obtain ⟨_, _, hc0⟩ := World.cells?_some c0
      have h00 := hc0 0 hk0
      have hC0 : (C L[0])[0]? = some (C L[0])[0] := List.getElem?_eq_getElem (by rw [hC]; exact hk0)
      rw [hC0] at h00
      have hspot : spot = none := by simpa [Addr.add] using World.cell?_spot h00
      subst hspot
      refine ⟨b, off, rfl, ?_, fun i y j u hi hj => ?_⟩
      · have := World.cells?_block c0 hk0
        simpa [Addr.add] using this
      · have ci := (hQ i y hi).1
        obtain ⟨_, _, hci⟩ := World.cells?_some ci
        have hjk : j < k := by have := (List.getElem?_eq_some_iff.1 hj).1; rwa [hC] at this
        have := hci j hjk
        rw [hj, Addr.add_lit, Addr.add_lit] at this
        rw [← this]
    · obtain ⟨i, hi, he⟩ := List.mem_iff_getElem.1 hy
      exact (hQ i y (by rw [List.getElem?_eq_getElem hi, he])).2
theorem rd_rowsS {α : Type} (C : α → List Value) (k : Nat) (Q : α → Prop) {t e f : TypeId} {fuel : Nat} {cs : List Value} {x : DataW H × List MemPlace} (ht : P.underlying t = some (.slice e)) (he : P.underlying e = some (.slice f)) (h1 : P.cellsOf e = 1) (hk : P.cellsOf f = k) (hk0 : 0 < k) (hC : ∀ y, (C y).length = k)
    (hel : ∀ (n : Nat) (cs : List Value) (x : DataW H × List MemPlace), DataW.trod enc P w base sp held n f cs = some x → ∃ y, cs = C y ∧ Q y)
    (h : DataW.trod enc P w base sp held fuel t cs = some x) (hw : Wt P t x.1) : ∃ (a : Option Addr) (LL : List (List α)) (c : Nat), cs = [.slice a LL.length c] ∧ Rd2 C k w (.slice a LL.length c) LL ∧ (∀ L ∈ LL, ∀ y ∈ L, Q y) ∧ ∀ L ∈ LL, L.length * P.bytesOf f ≤ reachBytes := by
  obtain ⟨a, vs, c, hcs, hr, hq, _⟩ := rd_sliceS oneC 1 (fun u => ∃ L : List α, Rd C k w u L ∧ (∀ y ∈ L, Q y) ∧ L.length * P.bytesOf f ≤ reachBytes) ht h1 (by decide) (fun _ => rfl) (fun n cs x hx hw' => by
    obtain ⟨a, L, c, hcs, hr, hq, hz⟩ := rd_sliceS C k Q he hk hk0 hC (fun n cs x hx _ => hel n cs x hx) hx hw'
    exact ⟨_, hcs, L, hr, hq, hz⟩) h hw
  obtain ⟨LL, hL, hP⟩ := list_of (fun i (L : List α) => ∃ u, vs[i]? = some u ∧ Rd C k w u L ∧ (∀ y ∈ L, Q y) ∧ L.length * P.bytesOf f ≤ reachBytes) vs.length (fun i hi => by
    obtain ⟨L, hr, hq', hz⟩ := hq vs[i] (List.getElem_mem hi)
    exact ⟨L, _, List.getElem?_eq_getElem hi, hr, hq', hz⟩)
  refine ⟨a, LL, c, by rw [hcs, hL], ⟨vs, hL.symm, by rw [hL]; exact hr, fun i u L hu hLi => ?_⟩, fun L hLm => ?_, fun L hLm => ?_⟩
  · obtain ⟨u', hu', hr', _⟩ := hP i L hLi
    rw [hu] at hu'
    obtain rfl := Option.some.inj hu'
    exact hr'
  · obtain ⟨i, hi, e⟩ := List.mem_iff_getElem.1 hLm
    obtain ⟨u', _, _, hq', _⟩ := hP i L (by rw [List.getElem?_eq_getElem hi, e])
    exact hq'
  · obtain ⟨i, hi, e⟩ := List.mem_iff_getElem.1 hLm
    obtain ⟨u', _, _, _, hz⟩ := hP i L (by rw [List.getElem?_eq_getElem hi, e])
    exact hz
theorem trod_fieldS {t : TypeId} {fuel : Nat} {cs : List Value} {x : DataW H × List MemPlace} {fs : Array Field} (ht : P.underlying t = some (.struct fs)) (h : DataW.trod enc P w base sp held fuel t cs = some x) (hw : Wt P t x.1) (i : Nat) (ty : TypeId) (off : Nat) (hf : (fs[i]?).map (fun f => (f.type, f.offset)) = some (ty, off)) :
    ∃ n y, DataW.trod enc P w base sp held n ty ((cs.drop off).take (P.cellsOf ty)) = some y ∧ Wt P ty y.1 := by
  obtain ⟨xs, n, rfl, hx, hl, hxl, hall⟩ := DataW.trod_struct ht h
  obtain ⟨f, hfi, he⟩ := Option.map_eq_some_iff.1 hf
  simp only [Prod.mk.injEq] at he
  obtain ⟨rfl, rfl⟩ := he
  have hi : i < fs.size := (Array.getElem?_eq_some_iff.1 hfi).1
  refine ⟨n, xs[i], ?_, fun m hm => hw m ?_⟩
  · rw [hall i f hfi, List.getElem?_eq_getElem (by omega)]
  · rw [hx]
    simp only [DataW.weights, ht]
    refine DataW.weights_mem_each (j := i) (t := f.type) (d := xs[i].1) ?_ ?_ m hm
    · rw [List.getElem?_map, Array.getElem?_toList, hfi]; rfl
    · rw [List.getElem?_map, List.getElem?_eq_getElem (by omega)]; rfl
end
theorem bIns : Tryz.prog.bytesOf 52 = 72 := by kernel_rfl
theorem bAtm : Tryz.prog.bytesOf 58 = 32 := by kernel_rfl
/-- Rows that a machine can hold. -/
def testZ (t : TestT) : Prop := (∀ L ∈ t.thr, L.length ≤ reachBytes) ∧ ∀ r ∈ t.cond.any, r.length ≤ reachBytes
theorem test_sized {H : Type} {enc : TypeId × Value → H} {w : World} {base : Nat} {sp : Nat → Bool} {held : Bool} (n : Nat) (cs : List Value) (x : DataW H × List MemPlace) (h : DataW.trod enc Tryz.prog w base sp held n 28 cs = some x) (hw : Wt Tryz.prog 28 x.1) : ∃ t, TestRd w (.agg cs.toArray) t ∧ testI t ∧ testZ t := by
  have hl := trod_len Tryz.underlying28 h
  rw [cTst'] at hl
  obtain ⟨c0, c1, c2, c3, c4, rfl⟩ := five hl
  obtain ⟨_, _, h0⟩ := trod_field Tryz.underlying28 h 0 9 0 rfl
  obtain ⟨_, _, h1⟩ := trod_field Tryz.underlying28 h 1 22 1 rfl
  obtain ⟨_, _, h2, w2⟩ := trod_fieldS Tryz.underlying28 h hw 2 23 2 rfl
  obtain ⟨_, _, h3, w3⟩ := trod_fieldS Tryz.underlying28 h hw 3 26 3 rfl
  rw [cStr'] at h0
  rw [cS1'] at h1
  rw [cS3'] at h2
  rw [cCnd'] at h3
  obtain ⟨k, hk, e3⟩ := field_int Tryz.underlying26 h3 0 3 0 rfl Tryz.underlying3 cInt'
  obtain ⟨_, _, h4, w4⟩ := trod_fieldS Tryz.underlying26 h3 w3 1 24 1 rfl
  rw [cS5'] at h4
  obtain ⟨s, e0, _, hs⟩ := DataW.trod_string Tryz.underlying9 h0
  obtain ⟨a1, L1, c1', e1, r1, q1⟩ := rd_slice iniC 2 iniI Tryz.underlying22 cIni' (by decide) (fun _ => rfl) ini_of h1
  obtain ⟨a2, L2, c2', e2, r2, q2, z2⟩ := rd_rowsS insC 9 insI Tryz.underlying23 Tryz.underlying48 cS2' cIns' (by decide) (fun _ => rfl) ins_of h2 w2
  obtain ⟨a3, L3, c3', e4, r3, q3, z3⟩ := rd_rowsS atomC 4 atmI Tryz.underlying24 Tryz.underlying59 cS4' cAtm' (by decide) (fun _ => rfl) atm_of h4 w4
  simp at e0 e1 e2 e3 e4
  subst e0; subst e1; subst e2; subst e3; subst e4
  refine ⟨⟨s, L1, L2, ⟨k, L3⟩⟩, ⟨a1, c1', a2, c2', a3, c3', rfl, by have hs' := hs; unfold maxLen at hs'; exact hs', r1, r2, r3⟩, ⟨q1, q2, hk, q3⟩, fun L hL => ?_, fun r hr => ?_⟩
  · have := z2 L hL
    rw [bIns] at this
    omega
  · have := z3 r hr
    rw [bAtm] at this
    omega
end Go.Proofs.YtacflahkofmcpaaGreatDoor.Wl
