/- A test that is handed in can be read. -/
import Derived.Test.YtengdlchglkkjaaDoorOkW
import Derived.Test.YtengdlchglkkjaaDoorSmallA
import Derived.ChangeArms
import Derived.ChangeOld
import Derived.DataReads
import Derived.Test.YtengdlchglkkjaaDoorRows
import Derived.Test.YtengdlchglkkjaaDoorTie
import Derived.Test.YtengdlchglkkjaaDoorCards
import Derived.Test.YtengdlchglkkjaaDoorFewAwake
import Derived.ProofKit
import Derived.LaidMore
import Derived.OpenShut
import Derived.Stop.Joined
import Derived.Stop.LaidErr
import Derived.Lib.LaidTab
import Derived.SevenTiedAt
import Derived.Carry
namespace Go.Proofs.YtengdlchglkkjaaDoor
open Go.RowKit

/-- A number of 64 bits. -/
def I64 (n : Int) : Prop := -9223372036854775808 ≤ n ∧ n ≤ 9223372036854775807
theorem i64_wf {n : Int} (h : (Lit.int .i64 n).wf = true) : I64 n := by
  have e1 : IntKind.i64.min = -9223372036854775808 := rfl
  have e2 : IntKind.i64.max = 9223372036854775807 := rfl
  simp [Lit.wf, e1, e2] at h
  exact h
section
variable {H : Type} {enc : TypeId × Value → H} {P : Program} {w : World} {base : Nat} {sp : Nat → Bool} {held : Bool}
theorem trod_field {t : TypeId} {fuel : Nat} {cs : List Value} {x : DataW H × List MemPlace} {fs : Array Field} (ht : P.underlying t = some (.struct fs)) (h : DataW.trod enc P w base sp held fuel t cs = some x) (i : Nat) (ty : TypeId) (off : Nat) (hf : (fs[i]?).map (fun f => (f.type, f.offset)) = some (ty, off)) :
    ∃ n y, DataW.trod enc P w base sp held n ty ((cs.drop off).take (P.cellsOf ty)) = some y := by
  obtain ⟨xs, n, rfl, hx, hl, hxl, hall⟩ := DataW.trod_struct ht h
  obtain ⟨f, hfi, he⟩ := Option.map_eq_some_iff.1 hf
  simp only [Prod.mk.injEq] at he
  obtain ⟨rfl, rfl⟩ := he
  have hi : i < fs.size := (Array.getElem?_eq_some_iff.1 hfi).1
  refine ⟨n, xs[i], ?_⟩
  rw [hall i f hfi, List.getElem?_eq_getElem (by omega)]
theorem trod_len {t : TypeId} {fuel : Nat} {cs : List Value} {x : DataW H × List MemPlace} {fs : Array Field} (ht : P.underlying t = some (.struct fs)) (h : DataW.trod enc P w base sp held fuel t cs = some x) : cs.length = P.cellsOf t := by
  obtain ⟨xs, n, rfl, hx, hl, _⟩ := DataW.trod_struct ht h
  exact hl
theorem field_int {t : TypeId} {fuel : Nat} {cs : List Value} {x : DataW H × List MemPlace} {fs : Array Field} (ht : P.underlying t = some (.struct fs)) (h : DataW.trod enc P w base sp held fuel t cs = some x) (i : Nat) (ty : TypeId) (off : Nat) (hf : (fs[i]?).map (fun f => (f.type, f.offset)) = some (ty, off)) (hi : P.underlying ty = some (.int .i64)) (hc : P.cellsOf ty = 1) :
    ∃ n, I64 n ∧ (cs.drop off).take 1 = [.int .i64 n] := by
  obtain ⟨m, y, hy⟩ := trod_field ht h i ty off hf
  rw [hc] at hy
  obtain ⟨n, hn, _, hw⟩ := DataW.trod_int hi hy
  exact ⟨n, i64_wf hw, hn⟩
/-- Things one by one make a list. -/
theorem list_of {α : Type} (Q : Nat → α → Prop) : ∀ n : Nat, (∀ i, i < n → ∃ y, Q i y) → ∃ L : List α, L.length = n ∧ ∀ i y, L[i]? = some y → Q i y
  | 0, _ => ⟨[], rfl, fun i y h => by simp at h⟩
  | n + 1, h => by
    obtain ⟨L, hl, hq⟩ := list_of Q n (fun i hi => h i (by omega))
    obtain ⟨y, hy⟩ := h n (by omega)
    refine ⟨L ++ [y], by simp [hl], fun i z hz => ?_⟩
    rcases Nat.lt_or_ge i L.length with hi | hi
    · rw [List.getElem?_append_left hi] at hz
      exact hq i z hz
    · rw [List.getElem?_append_right hi] at hz
      have : i - L.length = 0 := by
        rcases Nat.eq_zero_or_pos (i - L.length) with h0 | h0
        · exact h0
        · rw [List.getElem?_eq_none (by simp; omega)] at hz; cases hz
      rw [this] at hz
      simp only [List.getElem?_cons_zero, Option.some.injEq] at hz
      subst hz
      have e : i = n := by omega
      rw [e]
      exact hy
/-- A slice that is handed in, thing by thing. -/
theorem rd_slice {α : Type} (C : α → List Value) (k : Nat) (Q : α → Prop) {t e : TypeId} {fuel : Nat} {cs : List Value} {x : DataW H × List MemPlace} (ht : P.underlying t = some (.slice e)) (hk : P.cellsOf e = k) (hk0 : 0 < k) (hC : ∀ y, (C y).length = k)
    (hel : ∀ (n : Nat) (cs : List Value) (x : DataW H × List MemPlace), DataW.trod enc P w base sp held n e cs = some x → ∃ y, cs = C y ∧ Q y)
    (h : DataW.trod enc P w base sp held fuel t cs = some x) : ∃ (a : Option Addr) (L : List α) (c : Nat), cs = [.slice a L.length c] ∧ Rd C k w (.slice a L.length c) L ∧ ∀ y ∈ L, Q y := by
  rcases DataW.trod_slice ht h with ⟨hcs, _⟩ | ⟨a, len, cap, elems, rest, n, _, hcs, _, hb, hl, hm, hlen, hel2, _, _⟩
  · exact ⟨none, [], 0, hcs, Rd.nil _ _ _, fun y hy => by cases hy⟩
  · have hone : ∀ i, i < len → ∃ y, (w.cells? base (a.add (i * k)) k = some (C y)) ∧ Q y := by
      intro i hi
      have he := hel2 i hi
      rw [hk, List.getElem?_eq_getElem (by omega)] at he
      obtain ⟨ci, hci, hti⟩ := Option.bind_eq_some_iff.1 he
      obtain ⟨y, rfl, hq⟩ := hel n ci _ hti
      exact ⟨y, hci, hq⟩
    obtain ⟨L, hL, hQ⟩ := list_of (fun i y => (w.cells? base (a.add (i * k)) k = some (C y)) ∧ Q y) len hone
    refine ⟨some a, L, cap, by rw [hcs, hL], ⟨_, cap, rfl, by omega, by have hm' := hm; unfold maxLen at hm'; omega, fun h0 => ?_⟩, fun y hy => ?_⟩
    · obtain ⟨b, off, spot⟩ := a
      have c0 := (hQ 0 L[0] (List.getElem?_eq_getElem h0)).1
      obtain ⟨_, _, hc0⟩ := World.cells?_some c0
      have h00 := hc0 0 hk0
      have hC0 : (C L[0])[0]? = some (C L[0])[0] := List.getElem?_eq_getElem (by rw [hC]; exact hk0)
      rw [hC0] at h00
      have hspot : spot = none := by simpa [Addr.add] using World.cell?_spot h00
      subst hspot
      refine ⟨b, off, rfl, ?_, fun i y j u hi hj => ?_⟩
      · have := World.cells?_block c0 hk0
        simpa [Addr.add] using this
      · have ci := (hQ i y hi).1
        obtain ⟨_, _, hci⟩ := World.cells?_some ci
        have hjk : j < k := by have := (List.getElem?_eq_some_iff.1 hj).1; rwa [hC] at this
        have := hci j hjk
        rw [hj, Addr.add_lit, Addr.add_lit] at this
        rw [← this]
    · obtain ⟨i, hi, he⟩ := List.mem_iff_getElem.1 hy
      exact (hQ i y (by rw [List.getElem?_eq_getElem hi, he])).2
/-- Rows of rows that are handed in. -/
theorem rd_rows {α : Type} (C : α → List Value) (k : Nat) (Q : α → Prop) {t e f : TypeId} {fuel : Nat} {cs : List Value} {x : DataW H × List MemPlace} (ht : P.underlying t = some (.slice e)) (he : P.underlying e = some (.slice f)) (h1 : P.cellsOf e = 1) (hk : P.cellsOf f = k) (hk0 : 0 < k) (hC : ∀ y, (C y).length = k)
    (hel : ∀ (n : Nat) (cs : List Value) (x : DataW H × List MemPlace), DataW.trod enc P w base sp held n f cs = some x → ∃ y, cs = C y ∧ Q y)
    (h : DataW.trod enc P w base sp held fuel t cs = some x) : ∃ (a : Option Addr) (LL : List (List α)) (c : Nat), cs = [.slice a LL.length c] ∧ Rd2 C k w (.slice a LL.length c) LL ∧ ∀ L ∈ LL, ∀ y ∈ L, Q y := by
  obtain ⟨a, vs, c, hcs, hr, hq⟩ := rd_slice oneC 1 (fun u => ∃ L : List α, Rd C k w u L ∧ ∀ y ∈ L, Q y) ht h1 (by decide) (fun _ => rfl) (fun n cs x hx => by
    obtain ⟨a, L, c, hcs, hr, hq⟩ := rd_slice C k Q he hk hk0 hC hel hx
    exact ⟨_, hcs, L, hr, hq⟩) h
  obtain ⟨LL, hL, hP⟩ := list_of (fun i (L : List α) => ∃ u, vs[i]? = some u ∧ Rd C k w u L ∧ ∀ y ∈ L, Q y) vs.length (fun i hi => by
    obtain ⟨L, hr, hq'⟩ := hq vs[i] (List.getElem_mem hi)
    exact ⟨L, _, List.getElem?_eq_getElem hi, hr, hq'⟩)
  refine ⟨a, LL, c, by rw [hcs, hL], ⟨vs, hL.symm, by rw [hL]; exact hr, fun i u L hu hLi => ?_⟩, fun L hLm => ?_⟩
  · obtain ⟨u', hu', hr', _⟩ := hP i L hLi
    rw [hu] at hu'
    obtain rfl := Option.some.inj hu'
    exact hr'
  · obtain ⟨i, hi, e⟩ := List.mem_iff_getElem.1 hLm
    obtain ⟨u', _, _, hq'⟩ := hP i L (by rw [List.getElem?_eq_getElem hi, e])
    exact hq'
theorem nine {cs : List Value} (h : cs.length = 9) : ∃ c0 c1 c2 c3 c4 c5 c6 c7 c8, cs = [c0, c1, c2, c3, c4, c5, c6, c7, c8] := by
  match cs, h with
  | [c0, c1, c2, c3, c4, c5, c6, c7, c8], _ => exact ⟨_, _, _, _, _, _, _, _, _, rfl⟩
theorem four {cs : List Value} (h : cs.length = 4) : ∃ c0 c1 c2 c3, cs = [c0, c1, c2, c3] := by
  match cs, h with
  | [c0, c1, c2, c3], _ => exact ⟨_, _, _, _, rfl⟩
theorem two {cs : List Value} (h : cs.length = 2) : ∃ c0 c1, cs = [c0, c1] := by
  match cs, h with
  | [c0, c1], _ => exact ⟨_, _, rfl⟩
theorem five {cs : List Value} (h : cs.length = 5) : ∃ c0 c1 c2 c3 c4, cs = [c0, c1, c2, c3, c4] := by
  match cs, h with
  | [c0, c1, c2, c3, c4], _ => exact ⟨_, _, _, _, _, rfl⟩
end
def insI (y : InsT) : Prop := I64 y.k ∧ I64 y.r ∧ I64 y.l ∧ I64 y.a.r ∧ I64 y.a.v ∧ I64 y.o ∧ I64 y.b.r ∧ I64 y.b.v ∧ I64 y.n
def iniI (y : InitT) : Prop := I64 y.l ∧ I64 y.v
def atmI (y : AtomT) : Prop := I64 y.t ∧ I64 y.r ∧ I64 y.l ∧ I64 y.v
/-- All the numbers of a test are of 64 bits. -/
def testI (t : TestT) : Prop := (∀ y ∈ t.ini, iniI y) ∧ (∀ L ∈ t.thr, ∀ y ∈ L, insI y) ∧ I64 t.cond.k ∧ ∀ L ∈ t.cond.any, ∀ y ∈ L, atmI y
theorem cInt' : Tryd.prog.cellsOf 3 = 1 := by kernel_rfl
theorem cI64' : Tryd.prog.cellsOf 2 = 1 := by kernel_rfl
theorem cOpd' : Tryd.prog.cellsOf 51 = 2 := by kernel_rfl
theorem cIns' : Tryd.prog.cellsOf 53 = 9 := by kernel_rfl
theorem cIni' : Tryd.prog.cellsOf 62 = 2 := by kernel_rfl
theorem cAtm' : Tryd.prog.cellsOf 66 = 4 := by kernel_rfl
theorem cCnd' : Tryd.prog.cellsOf 26 = 2 := by kernel_rfl
theorem cTst' : Tryd.prog.cellsOf 28 = 5 := by kernel_rfl
theorem cStr' : Tryd.prog.cellsOf 9 = 1 := by kernel_rfl
theorem cS1' : Tryd.prog.cellsOf 22 = 1 := by kernel_rfl
theorem cS2' : Tryd.prog.cellsOf 59 = 1 := by kernel_rfl
theorem cS3' : Tryd.prog.cellsOf 23 = 1 := by kernel_rfl
theorem cS4' : Tryd.prog.cellsOf 60 = 1 := by kernel_rfl
theorem cS5' : Tryd.prog.cellsOf 24 = 1 := by kernel_rfl
section
variable {H : Type} {enc : TypeId × Value → H} {w : World} {base : Nat} {sp : Nat → Bool} {held : Bool}
theorem opd_of (n : Nat) (cs : List Value) (x : DataW H × List MemPlace) (h : DataW.trod enc Tryd.prog w base sp held n 51 cs = some x) : ∃ r v, I64 r ∧ I64 v ∧ cs = [.int .i64 r, .int .i64 v] := by
  have hl := trod_len Tryd.underlying51 h
  rw [cOpd'] at hl
  obtain ⟨c0, c1, rfl⟩ := two hl
  obtain ⟨r, hr, e0⟩ := field_int Tryd.underlying51 h 0 3 0 rfl Tryd.underlying3 cInt'
  obtain ⟨v, hv, e1⟩ := field_int Tryd.underlying51 h 1 2 1 rfl Tryd.underlying2 cI64'
  simp at e0 e1
  subst e0; subst e1
  exact ⟨r, v, hr, hv, rfl⟩
theorem ins_of (n : Nat) (cs : List Value) (x : DataW H × List MemPlace) (h : DataW.trod enc Tryd.prog w base sp held n 53 cs = some x) : ∃ y, cs = insC y ∧ insI y := by
  have hl := trod_len Tryd.underlying53 h
  rw [cIns'] at hl
  obtain ⟨c0, c1, c2, c3, c4, c5, c6, c7, c8, rfl⟩ := nine hl
  obtain ⟨k, hk, e0⟩ := field_int Tryd.underlying53 h 0 3 0 rfl Tryd.underlying3 cInt'
  obtain ⟨r, hr, e1⟩ := field_int Tryd.underlying53 h 1 3 1 rfl Tryd.underlying3 cInt'
  obtain ⟨l, hl', e2⟩ := field_int Tryd.underlying53 h 2 3 2 rfl Tryd.underlying3 cInt'
  obtain ⟨_, _, ha⟩ := trod_field Tryd.underlying53 h 3 51 3 rfl
  obtain ⟨o, ho, e5⟩ := field_int Tryd.underlying53 h 4 3 5 rfl Tryd.underlying3 cInt'
  obtain ⟨_, _, hb⟩ := trod_field Tryd.underlying53 h 5 51 6 rfl
  obtain ⟨m, hm, e8⟩ := field_int Tryd.underlying53 h 6 3 8 rfl Tryd.underlying3 cInt'
  rw [cOpd'] at ha hb
  obtain ⟨ar, av, har, hav, ea⟩ := opd_of _ _ _ ha
  obtain ⟨br, bv, hbr, hbv, eb⟩ := opd_of _ _ _ hb
  simp at e0 e1 e2 e5 e8 ea eb
  obtain ⟨rfl, rfl⟩ := ea
  obtain ⟨rfl, rfl⟩ := eb
  subst e0; subst e1; subst e2; subst e5; subst e8
  exact ⟨⟨k, r, l, ⟨ar, av⟩, o, ⟨br, bv⟩, m⟩, rfl, hk, hr, hl', har, hav, ho, hbr, hbv, hm⟩
theorem ini_of (n : Nat) (cs : List Value) (x : DataW H × List MemPlace) (h : DataW.trod enc Tryd.prog w base sp held n 62 cs = some x) : ∃ y, cs = iniC y ∧ iniI y := by
  have hl := trod_len Tryd.underlying62 h
  rw [cIni'] at hl
  obtain ⟨c0, c1, rfl⟩ := two hl
  obtain ⟨r, hr, e0⟩ := field_int Tryd.underlying62 h 0 3 0 rfl Tryd.underlying3 cInt'
  obtain ⟨v, hv, e1⟩ := field_int Tryd.underlying62 h 1 2 1 rfl Tryd.underlying2 cI64'
  simp at e0 e1
  subst e0; subst e1
  exact ⟨⟨r, v⟩, rfl, hr, hv⟩
theorem atm_of (n : Nat) (cs : List Value) (x : DataW H × List MemPlace) (h : DataW.trod enc Tryd.prog w base sp held n 66 cs = some x) : ∃ y, cs = atomC y ∧ atmI y := by
  have hl := trod_len Tryd.underlying66 h
  rw [cAtm'] at hl
  obtain ⟨c0, c1, c2, c3, rfl⟩ := four hl
  obtain ⟨k, hk, e0⟩ := field_int Tryd.underlying66 h 0 3 0 rfl Tryd.underlying3 cInt'
  obtain ⟨r, hr, e1⟩ := field_int Tryd.underlying66 h 1 3 1 rfl Tryd.underlying3 cInt'
  obtain ⟨l, hl', e2⟩ := field_int Tryd.underlying66 h 2 3 2 rfl Tryd.underlying3 cInt'
  obtain ⟨v, hv, e3⟩ := field_int Tryd.underlying66 h 3 2 3 rfl Tryd.underlying2 cI64'
  simp at e0 e1 e2 e3
  subst e0; subst e1; subst e2; subst e3
  exact ⟨⟨k, r, l, v⟩, rfl, hk, hr, hl', hv⟩
/-- A test that is handed in. -/
theorem test_of (n : Nat) (cs : List Value) (x : DataW H × List MemPlace) (h : DataW.trod enc Tryd.prog w base sp held n 28 cs = some x) : ∃ t, TestRd w (.agg cs.toArray) t ∧ testI t := by
  have hl := trod_len Tryd.underlying28 h
  rw [cTst'] at hl
  obtain ⟨c0, c1, c2, c3, c4, rfl⟩ := five hl
  obtain ⟨_, _, h0⟩ := trod_field Tryd.underlying28 h 0 9 0 rfl
  obtain ⟨_, _, h1⟩ := trod_field Tryd.underlying28 h 1 22 1 rfl
  obtain ⟨_, _, h2⟩ := trod_field Tryd.underlying28 h 2 23 2 rfl
  obtain ⟨_, _, h3⟩ := trod_field Tryd.underlying28 h 3 26 3 rfl
  rw [cStr'] at h0
  rw [cS1'] at h1
  rw [cS3'] at h2
  rw [cCnd'] at h3
  obtain ⟨k, hk, e3⟩ := field_int Tryd.underlying26 h3 0 3 0 rfl Tryd.underlying3 cInt'
  obtain ⟨_, _, h4⟩ := trod_field Tryd.underlying26 h3 1 24 1 rfl
  rw [cS5'] at h4
  obtain ⟨s, e0, _, hs⟩ := DataW.trod_string Tryd.underlying9 h0
  obtain ⟨a1, L1, c1', e1, r1, q1⟩ := rd_slice iniC 2 iniI Tryd.underlying22 cIni' (by decide) (fun _ => rfl) ini_of h1
  obtain ⟨a2, L2, c2', e2, r2, q2⟩ := rd_rows insC 9 insI Tryd.underlying23 Tryd.underlying59 cS2' cIns' (by decide) (fun _ => rfl) ins_of h2
  obtain ⟨a3, L3, c3', e4, r3, q3⟩ := rd_rows atomC 4 atmI Tryd.underlying24 Tryd.underlying60 cS4' cAtm' (by decide) (fun _ => rfl) atm_of h4
  simp at e0 e1 e2 e3 e4
  subst e0; subst e1; subst e2; subst e3; subst e4
  exact ⟨⟨s, L1, L2, ⟨k, L3⟩⟩, ⟨a1, c1', a2, c2', a3, c3', rfl, by have hs' := hs; unfold maxLen at hs'; exact hs', r1, r2, r3⟩, q1, q2, hk, q3⟩
end
end Go.Proofs.YtengdlchglkkjaaDoor

namespace Go.Proofs.YtengdlchglkkjaaDoor
open Go.ChangeShapes Go.WideShapes Go.ChangeAt Go.WideMaps Go.WideElems Go.RowKit

theorem own : ownKnob Tryd.prog.godebug = none := by kernel_rfl

theorem bd {a : Int} (h : (Lit.int .i64 a).wf = true) : -9223372036854775808 ≤ a ∧ a ≤ 9223372036854775807 := by
  have e1 : IntKind.i64.min = -9223372036854775808 := rfl
  have e2 : IntKind.i64.max = 9223372036854775807 := rfl
  simp [Lit.wf, e1, e2] at h
  omega

/-- The rows' list. -/
def laidL : List (String × DataW Unit) := [("math/bits.deBruijn32tab", Rows.laid_math_bits_deBruijn32tab), ("jacquard/num.signs", Rows.laid_jacquard_num_signs)]

/-- The door's own heap meets the condition. -/
theorem door_met (os : Os) (args : Array Value) : laidMetH Tryd.prog laidL ((World.doorLaid Tryd.prog 400 os).forCall (fun _ _ => 0) ⟨#[], args, []⟩).memory :=
  laidMetH_of_parts3 (fuel := 8) (laidMet_of_run' 8 (by kernel_rfl) (by kernel_rfl)) (by kernel_rfl) (by kernel_rfl)

/-- An array of strings that reads as these texts holds them, cell for cell. -/
theorem cells_of_texts {H : Type} {enc : TypeId × Value → H} {P : Program} {w : World} {base : Nat} {sp : Nat → Bool} {held : Bool} {fuel : Nat} {t e : TypeId} {n : Nat} {cs : List Value} {zs : List ByteArray} {p : List MemPlace}
    (ht : P.underlying t = some (.array n e)) (he : P.underlying e = some .string) (hce : P.cellsOf e = 1) (hct : P.cellsOf t = n)
    (h : DataW.trod enc P w base sp held fuel t cs = some (.agg (zs.map fun z => .lit (.string z.data.toList)), p)) : cs = zs.map fun z => Value.string z := by
  obtain ⟨xs, m, rfl, hx, hlen, hxl, hel⟩ := DataW.trod_array ht h
  simp only [Prod.mk.injEq, DataW.agg.injEq] at hx
  have hzl : zs.length = n := by
    have := congrArg List.length hx.1
    simp at this
    omega
  rw [hct] at hlen
  apply List.ext_getElem?
  intro i
  by_cases hi : i < n
  · have hf := hel i hi
    rw [hce, Nat.mul_one] at hf
    have hxi : xs[i]? = some xs[i] := List.getElem?_eq_getElem (by omega)
    rw [hxi] at hf
    obtain ⟨s, hc, hs, _⟩ := DataW.trod_string he hf
    have h1 : cs[i]? = some (.string s) := by
      have := congrArg (·[0]?) hc
      simpa [List.getElem?_take, List.getElem?_drop] using this
    have h2 : (xs.map (·.1))[i]? = some (DataW.lit (.string s.data.toList) : DataW H) := by simp [hxi, hs]
    rw [← hx.1] at h2
    simp only [List.getElem?_map, Option.map_eq_some_iff, DataW.lit.injEq, Lit.string.injEq] at h2
    obtain ⟨z', hz', e⟩ := h2
    obtain rfl : z' = s := bytes_inj e
    simp [h1, hz']
  · rw [List.getElem?_eq_none (by omega), List.getElem?_eq_none (by simp; omega)]

theorem gDb : Tryd.prog.globalNamed "math/bits.deBruijn32tab" = some 0 := by kernel_rfl
theorem tDb : (Tryd.prog.globals[0]?).map (·.type) = some 102 := by kernel_rfl
theorem cDb : Tryd.prog.cellsOf 102 = 32 := by kernel_rfl
theorem cU8 : Tryd.prog.cellsOf 5 = 1 := by kernel_rfl
theorem tSgs : (Tryd.prog.globals[2]?).map (·.type) = some 115 := by kernel_rfl
theorem cSgs : Tryd.prog.cellsOf 115 = 12 := by kernel_rfl
theorem cStr : Tryd.prog.cellsOf 9 = 1 := by kernel_rfl

theorem of_laid {W : World} (h : laidMetH Tryd.prog laidL W) : Lw W ∧ Db W := by
  rw [MakeChecks.laidMetH_plain _ _ _ (by kernel_rfl)] at h
  have hT : Lib.TabIs Tryd.prog W "math/bits.deBruijn32tab" .u8 (Lib.deBruijn32tab.map fun n : Nat => (n : Int)) := Lib.tabIs_of_head gDb tDb Tryd.underlying102 Tryd.underlying5 cU8 cDb h
  have h6 := h.tail
  obtain ⟨ps, ⟨g', t', cs, fuel, p, q, hg', ht', hvar, hd, _, _⟩, _⟩ := h6
  obtain rfl := Option.some.inj (gSgs.symm.trans hg')
  obtain rfl := Option.some.inj (tSgs.symm.trans ht')
  refine ⟨⟨?_⟩, ?_⟩
  · rw [hvar]
    have := cells_of_texts (zs := signTexts) Tryd.underlying115 Tryd.underlying9 cStr cSgs hd
    rw [← this]
  · refine ⟨fun j hj => ?_, lt_of_var gDb hT⟩
    rw [World.var?_cell gDb hT j, List.getElem?_toArray, List.getElem?_map, List.getElem?_map, List.getElem?_eq_getElem (by simpa [Lib.deBruijn32tab] using hj)]
    simp only [Option.map_some, Option.some.injEq, Value.int.injEq, true_and]
    rw [List.getD_eq_getElem?_getD, List.getElem?_eq_getElem (by simpa [Lib.deBruijn32tab] using hj)]
    rfl

section
variable {H : Type} {enc : TypeId × Value → H} {P : Program} {w : World} {base : Nat} {spare : Nat → Bool} {held : Bool}
theorem trodAll_five {t0 t1 t2 t3 t4 : TypeId} {args : Array Value} {ds : List (DataW H)} {ps : List MemPlace} (h : DataW.TrodAll enc P w base spare held [t0, t1, t2, t3, t4] args.toList ds ps) :
    ∃ v0 v1 v2 v3 v4 d0 d1 d2 d3 d4 p0 p1 p2 p3 p4, args = #[v0, v1, v2, v3, v4] ∧ ds = [d0, d1, d2, d3, d4] ∧ ps = p0 ++ p1 ++ p2 ++ p3 ++ p4 ∧ DataW.Trod enc P w base spare held t0 v0 d0 p0 ∧ DataW.Trod enc P w base spare held t1 v1 d1 p1 ∧ DataW.Trod enc P w base spare held t2 v2 d2 p2 ∧ DataW.Trod enc P w base spare held t3 v3 d3 p3 ∧ DataW.Trod enc P w base spare held t4 v4 d4 p4 := by
  obtain ⟨v0, vs0, d0, ds0, p0, q0, hargs, rfl, rfl, h0, r0⟩ := trodAll_cons h
  obtain ⟨v1, vs1, d1, ds1, p1, q1, rfl, rfl, rfl, h1, r1⟩ := trodAll_cons r0
  obtain ⟨v2, vs2, d2, ds2, p2, q2, rfl, rfl, rfl, h2, r2⟩ := trodAll_cons r1
  obtain ⟨v3, vs3, d3, ds3, p3, q3, rfl, rfl, rfl, h3, r3⟩ := trodAll_cons r2
  obtain ⟨v4, vs4, d4, ds4, p4, q4, rfl, rfl, rfl, h4, r4⟩ := trodAll_cons r3
  obtain ⟨rfl, rfl, rfl⟩ := trodAll_nil r4
  exact ⟨v0, v1, v2, v3, v4, d0, d1, d2, d3, d4, p0, p1, p2, p3, p4, by cases args; simp_all, rfl, by simp, h0, h1, h2, h3, h4⟩
theorem trodAll_mk5 {t0 t1 t2 t3 t4 : TypeId} {v0 v1 v2 v3 v4 : Value} {d0 d1 d2 d3 d4 : DataW H} {p0 p1 p2 p3 p4 : List MemPlace} (h0 : DataW.Trod enc P w base spare held t0 v0 d0 p0) (h1 : DataW.Trod enc P w base spare held t1 v1 d1 p1) (h2 : DataW.Trod enc P w base spare held t2 v2 d2 p2) (h3 : DataW.Trod enc P w base spare held t3 v3 d3 p3) (h4 : DataW.Trod enc P w base spare held t4 v4 d4 p4) :
    DataW.TrodAll enc P w base spare held [t0, t1, t2, t3, t4] [v0, v1, v2, v3, v4] [d0, d1, d2, d3, d4] (p0 ++ (p1 ++ (p2 ++ (p3 ++ p4)))) := ⟨p0, _, h0, trodAll_mk4 h1 h2 h3 h4, rfl⟩
theorem trodAll_six {t0 t1 t2 t3 t4 t5 : TypeId} {args : Array Value} {ds : List (DataW H)} {ps : List MemPlace} (h : DataW.TrodAll enc P w base spare held [t0, t1, t2, t3, t4, t5] args.toList ds ps) :
    ∃ v0 v1 v2 v3 v4 v5 d0 d1 d2 d3 d4 d5 p0 p1 p2 p3 p4 p5, args = #[v0, v1, v2, v3, v4, v5] ∧ ds = [d0, d1, d2, d3, d4, d5] ∧ ps = p0 ++ p1 ++ p2 ++ p3 ++ p4 ++ p5 ∧ DataW.Trod enc P w base spare held t0 v0 d0 p0 ∧ DataW.Trod enc P w base spare held t1 v1 d1 p1 ∧ DataW.Trod enc P w base spare held t2 v2 d2 p2 ∧ DataW.Trod enc P w base spare held t3 v3 d3 p3 ∧ DataW.Trod enc P w base spare held t4 v4 d4 p4 ∧ DataW.Trod enc P w base spare held t5 v5 d5 p5 := by
  obtain ⟨v0, vs0, d0, ds0, p0, q0, hargs, rfl, rfl, h0, r0⟩ := trodAll_cons h
  obtain ⟨v1, vs1, d1, ds1, p1, q1, rfl, rfl, rfl, h1, r1⟩ := trodAll_cons r0
  obtain ⟨v2, vs2, d2, ds2, p2, q2, rfl, rfl, rfl, h2, r2⟩ := trodAll_cons r1
  obtain ⟨v3, vs3, d3, ds3, p3, q3, rfl, rfl, rfl, h3, r3⟩ := trodAll_cons r2
  obtain ⟨v4, vs4, d4, ds4, p4, q4, rfl, rfl, rfl, h4, r4⟩ := trodAll_cons r3
  obtain ⟨v5, vs5, d5, ds5, p5, q5, rfl, rfl, rfl, h5, r5⟩ := trodAll_cons r4
  obtain ⟨rfl, rfl, rfl⟩ := trodAll_nil r5
  exact ⟨v0, v1, v2, v3, v4, v5, d0, d1, d2, d3, d4, d5, p0, p1, p2, p3, p4, p5, by cases args; simp_all, rfl, by simp, h0, h1, h2, h3, h4, h5⟩
theorem trodAll_mk6 {t0 t1 t2 t3 t4 t5 : TypeId} {v0 v1 v2 v3 v4 v5 : Value} {d0 d1 d2 d3 d4 d5 : DataW H} {p0 p1 p2 p3 p4 p5 : List MemPlace} (h0 : DataW.Trod enc P w base spare held t0 v0 d0 p0) (h1 : DataW.Trod enc P w base spare held t1 v1 d1 p1) (h2 : DataW.Trod enc P w base spare held t2 v2 d2 p2) (h3 : DataW.Trod enc P w base spare held t3 v3 d3 p3) (h4 : DataW.Trod enc P w base spare held t4 v4 d4 p4) (h5 : DataW.Trod enc P w base spare held t5 v5 d5 p5) :
    DataW.TrodAll enc P w base spare held [t0, t1, t2, t3, t4, t5] [v0, v1, v2, v3, v4, v5] [d0, d1, d2, d3, d4, d5] (p0 ++ (p1 ++ (p2 ++ (p3 ++ (p4 ++ p5))))) := ⟨p0, _, h0, trodAll_mk5 h1 h2 h3 h4 h5, rfl⟩
end
end Go.Proofs.YtengdlchglkkjaaDoor
