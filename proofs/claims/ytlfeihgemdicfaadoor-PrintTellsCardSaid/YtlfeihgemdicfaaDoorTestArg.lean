/- A test that is handed in can be read. -/
import Derived.Test.YtlfeihgemdicfaaDoorOkW
import Derived.Test.YtlfeihgemdicfaaDoorJ25SmallH
import Derived.Test.YtlfeihgemdicfaaDoorRowArg
import Derived.ChangeArms
import Derived.ChangeOld
import Derived.DataReads
namespace Go.Proofs.YtlfeihgemdicfaaDoor
open Go.RowKit

def insI (y : InsT) : Prop := I64 y.k ∧ I64 y.r ∧ I64 y.l ∧ I64 y.a.r ∧ I64 y.a.v ∧ I64 y.o ∧ I64 y.b.r ∧ I64 y.b.v ∧ I64 y.n
def iniI (y : InitT) : Prop := I64 y.l ∧ I64 y.v
def atmI (y : AtomT) : Prop := I64 y.t ∧ I64 y.r ∧ I64 y.l ∧ I64 y.v
/-- All the numbers of a test are of 64 bits. -/
def testI (t : TestT) : Prop := (∀ y ∈ t.ini, iniI y) ∧ (∀ L ∈ t.thr, ∀ y ∈ L, insI y) ∧ I64 t.cond.k ∧ ∀ L ∈ t.cond.any, ∀ y ∈ L, atmI y
theorem cInt' : Tryd.prog.cellsOf 3 = 1 := by kernel_rfl
theorem cI64' : Tryd.prog.cellsOf 2 = 1 := by kernel_rfl
theorem cOpd' : Tryd.prog.cellsOf 41 = 2 := by kernel_rfl
theorem cIns' : Tryd.prog.cellsOf 43 = 9 := by kernel_rfl
theorem cIni' : Tryd.prog.cellsOf 33 = 2 := by kernel_rfl
theorem cAtm' : Tryd.prog.cellsOf 35 = 4 := by kernel_rfl
theorem cCnd' : Tryd.prog.cellsOf 27 = 2 := by kernel_rfl
theorem cTst' : Tryd.prog.cellsOf 29 = 5 := by kernel_rfl
theorem cStr' : Tryd.prog.cellsOf 9 = 1 := by kernel_rfl
theorem cS1' : Tryd.prog.cellsOf 23 = 1 := by kernel_rfl
theorem cS2' : Tryd.prog.cellsOf 49 = 1 := by kernel_rfl
theorem cS3' : Tryd.prog.cellsOf 24 = 1 := by kernel_rfl
theorem cS4' : Tryd.prog.cellsOf 36 = 1 := by kernel_rfl
theorem cS5' : Tryd.prog.cellsOf 25 = 1 := by kernel_rfl
section
variable {H : Type} {enc : TypeId × Value → H} {w : World} {base : Nat} {sp : Nat → Bool} {held : Bool}
theorem opd_of (n : Nat) (cs : List Value) (x : DataW H × List MemPlace) (h : DataW.trod enc Tryd.prog w base sp held n 41 cs = some x) : ∃ r v, I64 r ∧ I64 v ∧ cs = [.int .i64 r, .int .i64 v] := by
  have hl := trod_len Tryd.underlying41 h
  rw [cOpd'] at hl
  obtain ⟨c0, c1, rfl⟩ := two hl
  obtain ⟨r, hr, e0⟩ := field_int Tryd.underlying41 h 0 3 0 rfl Tryd.underlying3 cInt'
  obtain ⟨v, hv, e1⟩ := field_int Tryd.underlying41 h 1 2 1 rfl Tryd.underlying2 cI64'
  simp at e0 e1
  subst e0; subst e1
  exact ⟨r, v, hr, hv, rfl⟩
theorem ins_of (n : Nat) (cs : List Value) (x : DataW H × List MemPlace) (h : DataW.trod enc Tryd.prog w base sp held n 43 cs = some x) : ∃ y, cs = insC y ∧ insI y := by
  have hl := trod_len Tryd.underlying43 h
  rw [cIns'] at hl
  obtain ⟨c0, c1, c2, c3, c4, c5, c6, c7, c8, rfl⟩ := nine hl
  obtain ⟨k, hk, e0⟩ := field_int Tryd.underlying43 h 0 3 0 rfl Tryd.underlying3 cInt'
  obtain ⟨r, hr, e1⟩ := field_int Tryd.underlying43 h 1 3 1 rfl Tryd.underlying3 cInt'
  obtain ⟨l, hl', e2⟩ := field_int Tryd.underlying43 h 2 3 2 rfl Tryd.underlying3 cInt'
  obtain ⟨_, _, ha⟩ := trod_field Tryd.underlying43 h 3 41 3 rfl
  obtain ⟨o, ho, e5⟩ := field_int Tryd.underlying43 h 4 3 5 rfl Tryd.underlying3 cInt'
  obtain ⟨_, _, hb⟩ := trod_field Tryd.underlying43 h 5 41 6 rfl
  obtain ⟨m, hm, e8⟩ := field_int Tryd.underlying43 h 6 3 8 rfl Tryd.underlying3 cInt'
  rw [cOpd'] at ha hb
  obtain ⟨ar, av, har, hav, ea⟩ := opd_of _ _ _ ha
  obtain ⟨br, bv, hbr, hbv, eb⟩ := opd_of _ _ _ hb
  simp at e0 e1 e2 e5 e8 ea eb
  obtain ⟨rfl, rfl⟩ := ea
  obtain ⟨rfl, rfl⟩ := eb
  subst e0; subst e1; subst e2; subst e5; subst e8
  exact ⟨⟨k, r, l, ⟨ar, av⟩, o, ⟨br, bv⟩, m⟩, rfl, hk, hr, hl', har, hav, ho, hbr, hbv, hm⟩
theorem ini_of (n : Nat) (cs : List Value) (x : DataW H × List MemPlace) (h : DataW.trod enc Tryd.prog w base sp held n 33 cs = some x) : ∃ y, cs = iniC y ∧ iniI y := by
  have hl := trod_len Tryd.underlying33 h
  rw [cIni'] at hl
  obtain ⟨c0, c1, rfl⟩ := two hl
  obtain ⟨r, hr, e0⟩ := field_int Tryd.underlying33 h 0 3 0 rfl Tryd.underlying3 cInt'
  obtain ⟨v, hv, e1⟩ := field_int Tryd.underlying33 h 1 2 1 rfl Tryd.underlying2 cI64'
  simp at e0 e1
  subst e0; subst e1
  exact ⟨⟨r, v⟩, rfl, hr, hv⟩
theorem atm_of (n : Nat) (cs : List Value) (x : DataW H × List MemPlace) (h : DataW.trod enc Tryd.prog w base sp held n 35 cs = some x) : ∃ y, cs = atomC y ∧ atmI y := by
  have hl := trod_len Tryd.underlying35 h
  rw [cAtm'] at hl
  obtain ⟨c0, c1, c2, c3, rfl⟩ := four hl
  obtain ⟨k, hk, e0⟩ := field_int Tryd.underlying35 h 0 3 0 rfl Tryd.underlying3 cInt'
  obtain ⟨r, hr, e1⟩ := field_int Tryd.underlying35 h 1 3 1 rfl Tryd.underlying3 cInt'
  obtain ⟨l, hl', e2⟩ := field_int Tryd.underlying35 h 2 3 2 rfl Tryd.underlying3 cInt'
  obtain ⟨v, hv, e3⟩ := field_int Tryd.underlying35 h 3 2 3 rfl Tryd.underlying2 cI64'
  simp at e0 e1 e2 e3
  subst e0; subst e1; subst e2; subst e3
  exact ⟨⟨k, r, l, v⟩, rfl, hk, hr, hl', hv⟩
/-- A test that is handed in. -/
theorem test_of (n : Nat) (cs : List Value) (x : DataW H × List MemPlace) (h : DataW.trod enc Tryd.prog w base sp held n 29 cs = some x) : ∃ t, TestRd w (.agg cs.toArray) t ∧ testI t := by
  have hl := trod_len Tryd.underlying29 h
  rw [cTst'] at hl
  obtain ⟨c0, c1, c2, c3, c4, rfl⟩ := five hl
  obtain ⟨_, _, h0⟩ := trod_field Tryd.underlying29 h 0 9 0 rfl
  obtain ⟨_, _, h1⟩ := trod_field Tryd.underlying29 h 1 23 1 rfl
  obtain ⟨_, _, h2⟩ := trod_field Tryd.underlying29 h 2 24 2 rfl
  obtain ⟨_, _, h3⟩ := trod_field Tryd.underlying29 h 3 27 3 rfl
  rw [cStr'] at h0
  rw [cS1'] at h1
  rw [cS3'] at h2
  rw [cCnd'] at h3
  obtain ⟨k, hk, e3⟩ := field_int Tryd.underlying27 h3 0 3 0 rfl Tryd.underlying3 cInt'
  obtain ⟨_, _, h4⟩ := trod_field Tryd.underlying27 h3 1 25 1 rfl
  rw [cS5'] at h4
  obtain ⟨s, e0, _, hs⟩ := DataW.trod_string Tryd.underlying9 h0
  obtain ⟨a1, L1, c1', e1, r1, q1⟩ := rd_slice iniC 2 iniI Tryd.underlying23 cIni' (by decide) (fun _ => rfl) ini_of h1
  obtain ⟨a2, L2, c2', e2, r2, q2⟩ := rd_rows insC 9 insI Tryd.underlying24 Tryd.underlying49 cS2' cIns' (by decide) (fun _ => rfl) ins_of h2
  obtain ⟨a3, L3, c3', e4, r3, q3⟩ := rd_rows atomC 4 atmI Tryd.underlying25 Tryd.underlying36 cS4' cAtm' (by decide) (fun _ => rfl) atm_of h4
  simp at e0 e1 e2 e3 e4
  subst e0; subst e1; subst e2; subst e3; subst e4
  exact ⟨⟨s, L1, L2, ⟨k, L3⟩⟩, ⟨a1, c1', a2, c2', a3, c3', rfl, by have hs' := hs; unfold maxLen at hs'; exact hs', r1, r2, r3⟩, q1, q2, hk, q3⟩
end
end Go.Proofs.YtlfeihgemdicfaaDoor
