/- Trees in plain Lean, which of them may be, and which are small enough. Of no memory. -/
import Derived.IntWalk
import Derived.Test.YtkglmhclpgfngaaHeap
namespace Go.Proofs.Ytkglmhclpgfngaa

structure Opd where
  r : Int
  v : Int
structure InsT where
  k : Int
  r : Int
  l : Int
  a : Opd
  o : Int
  b : Opd
  n : Int
structure AtomT where
  t : Int
  r : Int
  l : Int
  v : Int
structure InitT where
  l : Int
  v : Int
structure CondT where
  k : Int
  any : List (List AtomT)
structure TestT where
  name : ByteArray
  ini : List InitT
  thr : List (List InsT)
  cond : CondT

def regOk (n : Int) : Bool := decide (0 ≤ n) && decide (n ≤ 3)
def locOk (n : Int) : Bool := decide (97 ≤ n) && decide (n ≤ 122)
def opdOk (o : Opd) : Bool := o.r == -1 || (o.v == 0 && regOk o.r)
def signOk (n : Int) : Bool := decide (1 ≤ n) && decide (n ≤ 11)
def secOk (op : Int) (b : Opd) : Bool := if op == 0 then b.r == -1 && b.v == 0 else signOk op && opdOk b
/-- An instruction that may be. -/
def insOk (i : InsT) : Bool :=
  if i.k == 1 then (i.r == 0 && i.o == 0 && i.b.r == 0 && i.b.v == 0 && i.n == 0) && locOk i.l && opdOk i.a
  else if i.k == 2 then (i.a.r == 0 && i.a.v == 0 && i.o == 0 && i.b.r == 0 && i.b.v == 0 && i.n == 0) && regOk i.r && locOk i.l
  else if i.k == 3 then i.r == 0 && i.l == 0 && i.a.r == 0 && i.a.v == 0 && i.o == 0 && i.b.r == 0 && i.b.v == 0 && i.n == 0
  else if i.k == 4 then (i.o == 0 && i.n == 0) && regOk i.r && locOk i.l && opdOk i.a && opdOk i.b
  else if i.k == 5 then (i.l == 0 && i.n == 0) && regOk i.r && opdOk i.a && secOk i.o i.b
  else if i.k == 6 then (i.r == 0 && i.l == 0 && i.o == 0) && decide (0 ≤ i.n) && opdOk i.a && opdOk i.b
  else false
def atomOk (x : AtomT) : Bool := if x.t == -1 then x.r == 0 && locOk x.l else x.l == 0 && decide (0 ≤ x.t) && decide (x.t ≤ 9) && regOk x.r
def initOk (x : InitT) : Bool := locOk x.l
def threadOk (L : List InsT) : Bool := L.all insOk
def rowOk (L : List AtomT) : Bool := decide (0 < L.length) && L.all atomOk
def condOk (c : CondT) : Bool := if c.k == 0 then c.any.length == 0 else if c.k == 1 || c.k == 2 then decide (0 < c.any.length) && c.any.all rowOk else false
/-- A byte of a word, at a place. -/
def chOk (i : Nat) (c : UInt8) : Bool := locOk c.toNat || (decide (0 < i) && (decide (48 ≤ c.toNat) && decide (c.toNat ≤ 57)))
def chsOk : Nat → List UInt8 → Bool
  | _, [] => true
  | i, c :: r => chOk i c && chsOk (i + 1) r
def wordOk (s : ByteArray) : Bool := chsOk 0 s.data.toList && decide (0 < s.size)
/-- A test that may be. -/
def testOk (t : TestT) : Bool := wordOk t.name && t.ini.all initOk && t.thr.all threadOk && condOk t.cond

/-- Letters as bits. -/
def withL (n : Nat) (l : Int) : Nat := if 97 ≤ l ∧ l ≤ 122 then n ||| 2 ^ (l - 97).toNat else n
def locIni (n : Nat) (L : List InitT) : Nat := L.foldl (fun n x => withL n x.l) n
def locRow (n : Nat) (L : List InsT) : Nat := L.foldl (fun n x => withL n x.l) n
def locThr (n : Nat) (LL : List (List InsT)) : Nat := LL.foldl locRow n
def locAts (n : Nat) (L : List AtomT) : Nat := L.foldl (fun n x => withL n x.l) n
def locAny (n : Nat) (LL : List (List AtomT)) : Nat := LL.foldl locAts n
def locsN (t : TestT) : Nat := locAny (locThr (locIni 0 t.ini) t.thr) t.cond.any
/-- How many letters, and which, rising. -/
def cntN (n : Nat) : Nat := ((List.range 26).filter (fun i => n.testBit i)).length
def lettersN (n : Nat) : List UInt8 := ((List.range 26).filter (fun i => n.testBit i)).map (fun i => UInt8.ofNat (97 + i))

def sumL (LL : List (List InsT)) : Nat := LL.foldl (fun n L => n + L.length) 0
def thrBig (LL : List (List InsT)) : Bool := (LL.length == 0 || decide (4 < LL.length)) || (LL.any (fun L => decide (10 < L.length)) || decide (24 < sumL LL))
def condBig (LL : List (List AtomT)) : Bool := LL.any (fun L => decide (8 < L.length)) || decide (8 < LL.length)
def bigT (t : TestT) : Bool := decide (20 < t.name.size) || thrBig t.thr || decide (4 < cntN (locsN t)) || condBig t.cond.any
def twiceFrom : Nat → List InitT → Bool
  | _, [] => false
  | n, x :: r => if withL n x.l == n then true else twiceFrom (withL n x.l) r
def skipBad : List InsT → Bool
  | [] => false
  | x :: r => (x.k == 6 && (x.n == 0 || decide ((r.length : Int) < x.n))) || skipBad r
def farAtom (m : Nat) (x : AtomT) : Bool := decide ((m : Int) ≤ x.t)
def nowhere (t : TestT) : Bool := t.thr.any skipBad || t.cond.any.any (fun L => L.any (farAtom t.thr.length))
/-- What Check tells. -/
def checkT (t : TestT) : Int := if testOk t then (if bigT t then 8 else if twiceFrom 0 t.ini then 9 else if nowhere t then 10 else 0) else 1
end Go.Proofs.Ytkglmhclpgfngaa

namespace Go.Proofs.Ytkglmhclpgfngaa
open Go.RowKit

def iniC (x : InitT) : List Value := [.int .i64 x.l, .int .i64 x.v]
def atomC (x : AtomT) : List Value := [.int .i64 x.t, .int .i64 x.r, .int .i64 x.l, .int .i64 x.v]
def insC (x : InsT) : List Value := [.int .i64 x.k, .int .i64 x.r, .int .i64 x.l, .int .i64 x.a.r, .int .i64 x.a.v, .int .i64 x.o, .int .i64 x.b.r, .int .i64 x.b.v, .int .i64 x.n]

/-- v holds this list: each thing k cells, one behind the other. -/
def Rd {α : Type} (C : α → List Value) (k : Nat) (w : World) (v : Value) (L : List α) : Prop :=
  ∃ a c, v = .slice a L.length c ∧ L.length ≤ c ∧ L.length ≤ 9223372036854775807 ∧
    (0 < L.length → ∃ g off, a = some ⟨g, off, none⟩ ∧ g < w.heap.size ∧ ∀ (i : Nat) (x : α) (j : Nat) (u : Value), L[i]? = some x → (C x)[j]? = some u → w.cell? ⟨g, off + i * k + j, none⟩ = some u)
def oneC (v : Value) : List Value := [v]
/-- v holds these rows. -/
def Rd2 {α : Type} (C : α → List Value) (k : Nat) (w : World) (v : Value) (LL : List (List α)) : Prop :=
  ∃ vs : List Value, vs.length = LL.length ∧ Rd oneC 1 w v vs ∧ ∀ (i : Nat) (u : Value) (L : List α), vs[i]? = some u → LL[i]? = some L → Rd C k w u L
theorem flat_at {α : Type} (C : α → List Value) (n : Nat) (hC : ∀ x, (C x).length = n) : ∀ (L : List α) (k j : Nat) (x : α), L[k]? = some x → j < n → (L.flatMap C)[k * n + j]? = (C x)[j]?
  | [], k, j, x, h, _ => by simp at h
  | y :: L, 0, j, x, h, hj => by
    simp only [List.getElem?_cons_zero, Option.some.injEq] at h
    subst h
    rw [List.flatMap_cons, Nat.zero_mul, Nat.zero_add, List.getElem?_append_left (by rw [hC]; exact hj)]
  | y :: L, k + 1, j, x, h, hj => by
    rw [List.getElem?_cons_succ] at h
    rw [List.flatMap_cons, List.getElem?_append_right (by rw [hC, Nat.succ_mul]; omega), hC]
    have e : (k + 1) * n + j - n = k * n + j := by rw [Nat.succ_mul]; omega
    rw [e]
    exact flat_at C n hC L k j x h hj
theorem own_cells {w : World} {base k n : Nat} {e : TypeId} {v : Value} {xs : List Value} (h : w.ownsRow base e k v n xs) (hn : 0 < n) :
    ∃ g cap, v = .slice (some ⟨g, 0, none⟩) n cap ∧ n ≤ cap ∧ base ≤ g ∧ g < w.heap.size ∧ ∀ i u, xs[i]? = some u → w.cell? ⟨g, i, none⟩ = some u := by
  rcases h.2 with ⟨_, h0⟩ | ⟨g, cap, cur, hv, hb, hh, hc, _, _, ht⟩
  · omega
  · refine ⟨g, cap, hv, hc, hb, lt_of_block hh, fun i u hi => ?_⟩
    rw [← ht, List.getElem?_take] at hi
    split at hi
    · simp only [World.cell?, hh]
      simpa using hi
    · cases hi
theorem own_max {w : World} {base k n : Nat} {e : TypeId} {v : Value} {xs : List Value} (h : w.ownsRow base e k v n xs) : n ≤ 9223372036854775807 := by
  rcases h.2 with ⟨_, h0⟩ | ⟨g, cap, cur, hv, hb, hh, hc, hm, _⟩
  · omega
  · exact Nat.le_trans hc hm
section
variable {α : Type} {C : α → List Value} {k : Nat} {w w' : World} {v : Value} {L : List α} {LL : List (List α)}
theorem Rd.on (h : Rd C k w v L) (o : On w w') : Rd C k w' v L := by
  obtain ⟨a, c, hv, hc, hm, h⟩ := h
  refine ⟨a, c, hv, hc, hm, fun hl => ?_⟩
  obtain ⟨g, off, ha, hg, hr⟩ := h hl
  exact ⟨g, off, ha, Nat.lt_of_lt_of_le hg o.size, fun i x j u hi hj => (o.cell (p := ⟨g, off + i * k + j, none⟩) hg).trans (hr i x j u hi hj)⟩
theorem Rd2.on (h : Rd2 C k w v LL) (o : On w w') : Rd2 C k w' v LL := by
  obtain ⟨vs, h1, h2, h3⟩ := h
  exact ⟨vs, h1, h2.on o, fun i u L a b => (h3 i u L a b).on o⟩
theorem Rd.nil (C : α → List Value) (k : Nat) (w : World) : Rd C k w (.slice none 0 0) [] := ⟨none, 0, rfl, Nat.le_refl _, by simp, fun h => absurd h (Nat.lt_irrefl 0)⟩
theorem Rd2.nil (C : α → List Value) (k : Nat) (w : World) : Rd2 C k w (.slice none 0 0) [] := ⟨[], rfl, Rd.nil _ _ _, fun i u L a _ => by simp at a⟩
theorem Rd.slice (h : Rd C k w v L) : ∃ a c, v = .slice a L.length c ∧ L.length ≤ c ∧ L.length ≤ 9223372036854775807 := by
  obtain ⟨a, c, hv, hc, hm, _⟩ := h
  exact ⟨a, c, hv, hc, hm⟩
theorem Rd2.slice (h : Rd2 C k w v LL) : ∃ a c, v = .slice a LL.length c ∧ LL.length ≤ c ∧ LL.length ≤ 9223372036854775807 := by
  obtain ⟨vs, h1, h2, _⟩ := h
  rw [← h1]
  exact h2.slice
theorem Rd.own {base : Nat} {e : TypeId} (hC : ∀ x, (C x).length = k) (h : w.ownsRow base e k v L.length (L.flatMap C)) : Rd C k w v L := by
  rcases Nat.eq_zero_or_pos L.length with h0 | h0
  · obtain rfl : L = [] := List.eq_nil_of_length_eq_zero h0
    rcases h.2 with ⟨hv, _⟩ | ⟨g, cap, cur, hv, hb, hh, hc, hm, _⟩
    · rw [hv]; exact Rd.nil _ _ _
    · exact ⟨_, cap, hv, hc, by simp, fun h => absurd h (Nat.lt_irrefl 0)⟩
  · obtain ⟨g, cap, hv, hc, _, hg, hr⟩ := own_cells h h0
    refine ⟨_, cap, hv, hc, own_max h, fun _ => ⟨g, 0, rfl, hg, fun i x j u hi hj => ?_⟩⟩
    rw [Nat.zero_add]
    refine hr _ _ ?_
    have hj' : j < k := by have := (List.getElem?_eq_some_iff.1 hj).1; rwa [hC] at this
    rw [flat_at C k hC L i j x hi hj', hj]
theorem Rd.at {a : Option Addr} {c : Nat} (h : Rd C k w (.slice a L.length c) L) {i : Nat} {x : α} (hi : L[i]? = some x) :
    ∃ g off, a = some ⟨g, off, none⟩ ∧ g < w.heap.size ∧ ∀ (j : Nat) (u : Value), (C x)[j]? = some u → w.cell? ⟨g, off + i * k + j, none⟩ = some u := by
  obtain ⟨a', c', hv, hc, hm, hr⟩ := h
  simp only [Value.slice.injEq] at hv
  obtain ⟨rfl, _, rfl⟩ := hv
  have hlt : i < L.length := (List.getElem?_eq_some_iff.1 hi).1
  obtain ⟨g, off, ha, hg, hcell⟩ := hr (by omega)
  exact ⟨g, off, ha, hg, fun j u hj => hcell i x j u hi hj⟩
theorem Rd2.row {a : Option Addr} {c : Nat} (h : Rd2 C k w (.slice a LL.length c) LL) {i : Nat} {L : List α} (hi : LL[i]? = some L) :
    ∃ g off, a = some ⟨g, off, none⟩ ∧ g < w.heap.size ∧ ∃ ax cx, w.cell? ⟨g, off + i, none⟩ = some (.slice ax L.length cx) ∧ L.length ≤ 9223372036854775807 ∧ Rd C k w (.slice ax L.length cx) L := by
  obtain ⟨vs, hl, h1, h2⟩ := h
  have hlt : i < LL.length := (List.getElem?_eq_some_iff.1 hi).1
  obtain ⟨u, hu⟩ : ∃ u, vs[i]? = some u := ⟨_, List.getElem?_eq_getElem (by omega)⟩
  rw [← hl] at h1
  obtain ⟨g, off, ha, hg, hc⟩ := h1.at hu
  have hr := h2 i u L hu hi
  obtain ⟨ax, cx, rfl, _, hm⟩ := hr.slice
  exact ⟨g, off, ha, hg, ax, cx, by have := hc 0 _ rfl; simpa using this, hm, hr⟩
end
end Go.Proofs.Ytkglmhclpgfngaa
