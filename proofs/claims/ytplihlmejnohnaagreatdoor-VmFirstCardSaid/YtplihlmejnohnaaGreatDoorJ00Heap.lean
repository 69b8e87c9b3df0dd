/- Trees in plain Lean, which of them may be, and which are small enough. Of no memory. -/
import Derived.IntWalk
import Derived.Test.YtplihlmejnohnaaGreatDoorProg
import Derived.WalkKit
import Derived.WalkSpells
import Derived.WalkLawsBesides
import Derived.WalkSmall
import Derived.OneCell
import Derived.Below
namespace Go.Proofs.YtplihlmejnohnaaGreatDoor

structure Opd where
  r : Int
  v : Int
structure InsT where
  k : Int
  r : Int
  l : Int
  a : Opd
  o : Int
  b : Opd
  n : Int
structure AtomT where
  t : Int
  r : Int
  l : Int
  v : Int
structure InitT where
  l : Int
  v : Int
structure CondT where
  k : Int
  any : List (List AtomT)
structure TestT where
  name : ByteArray
  ini : List InitT
  thr : List (List InsT)
  cond : CondT

def regOk (n : Int) : Bool := decide (0 ≤ n) && decide (n ≤ 3)
def locOk (n : Int) : Bool := decide (97 ≤ n) && decide (n ≤ 122)
def opdOk (o : Opd) : Bool := o.r == -1 || (o.v == 0 && regOk o.r)
def signOk (n : Int) : Bool := decide (1 ≤ n) && decide (n ≤ 11)
def secOk (op : Int) (b : Opd) : Bool := if op == 0 then b.r == -1 && b.v == 0 else signOk op && opdOk b
/-- An instruction that may be. -/
def insOk (i : InsT) : Bool :=
  if i.k == 1 then (i.r == 0 && i.o == 0 && i.b.r == 0 && i.b.v == 0 && i.n == 0) && locOk i.l && opdOk i.a
  else if i.k == 2 then (i.a.r == 0 && i.a.v == 0 && i.o == 0 && i.b.r == 0 && i.b.v == 0 && i.n == 0) && regOk i.r && locOk i.l
  else if i.k == 3 then i.r == 0 && i.l == 0 && i.a.r == 0 && i.a.v == 0 && i.o == 0 && i.b.r == 0 && i.b.v == 0 && i.n == 0
  else if i.k == 4 then (i.o == 0 && i.n == 0) && regOk i.r && locOk i.l && opdOk i.a && opdOk i.b
  else if i.k == 5 then (i.l == 0 && i.n == 0) && regOk i.r && opdOk i.a && secOk i.o i.b
  else if i.k == 6 then (i.r == 0 && i.l == 0 && i.o == 0) && decide (0 ≤ i.n) && opdOk i.a && opdOk i.b
  else false
def atomOk (x : AtomT) : Bool := if x.t == -1 then x.r == 0 && locOk x.l else x.l == 0 && decide (0 ≤ x.t) && decide (x.t ≤ 9) && regOk x.r
def initOk (x : InitT) : Bool := locOk x.l
def threadOk (L : List InsT) : Bool := L.all insOk
def rowOk (L : List AtomT) : Bool := decide (0 < L.length) && L.all atomOk
def condOk (c : CondT) : Bool := if c.k == 0 then c.any.length == 0 else if c.k == 1 || c.k == 2 then decide (0 < c.any.length) && c.any.all rowOk else false
/-- A byte of a word, at a place. -/
def chOk (i : Nat) (c : UInt8) : Bool := locOk c.toNat || (decide (0 < i) && (decide (48 ≤ c.toNat) && decide (c.toNat ≤ 57)))
def chsOk : Nat → List UInt8 → Bool
  | _, [] => true
  | i, c :: r => chOk i c && chsOk (i + 1) r
def wordOk (s : ByteArray) : Bool := chsOk 0 s.data.toList && decide (0 < s.size)
/-- A test that may be. -/
def testOk (t : TestT) : Bool := wordOk t.name && t.ini.all initOk && t.thr.all threadOk && condOk t.cond

/-- Letters as bits. -/
def withL (n : Nat) (l : Int) : Nat := if 97 ≤ l ∧ l ≤ 122 then n ||| 2 ^ (l - 97).toNat else n
def locIni (n : Nat) (L : List InitT) : Nat := L.foldl (fun n x => withL n x.l) n
def locRow (n : Nat) (L : List InsT) : Nat := L.foldl (fun n x => withL n x.l) n
def locThr (n : Nat) (LL : List (List InsT)) : Nat := LL.foldl locRow n
def locAts (n : Nat) (L : List AtomT) : Nat := L.foldl (fun n x => withL n x.l) n
def locAny (n : Nat) (LL : List (List AtomT)) : Nat := LL.foldl locAts n
def locsN (t : TestT) : Nat := locAny (locThr (locIni 0 t.ini) t.thr) t.cond.any
/-- How many letters, and which, rising. -/
def cntN (n : Nat) : Nat := ((List.range 26).filter (fun i => n.testBit i)).length
def lettersN (n : Nat) : List UInt8 := ((List.range 26).filter (fun i => n.testBit i)).map (fun i => UInt8.ofNat (97 + i))

def sumL (LL : List (List InsT)) : Nat := LL.foldl (fun n L => n + L.length) 0
def thrBig (LL : List (List InsT)) : Bool := (LL.length == 0 || decide (4 < LL.length)) || (LL.any (fun L => decide (10 < L.length)) || decide (24 < sumL LL))
def condBig (LL : List (List AtomT)) : Bool := LL.any (fun L => decide (8 < L.length)) || decide (8 < LL.length)
def bigT (t : TestT) : Bool := decide (20 < t.name.size) || thrBig t.thr || decide (4 < cntN (locsN t)) || condBig t.cond.any
def twiceFrom : Nat → List InitT → Bool
  | _, [] => false
  | n, x :: r => if withL n x.l == n then true else twiceFrom (withL n x.l) r
def skipBad : List InsT → Bool
  | [] => false
  | x :: r => (x.k == 6 && (x.n == 0 || decide ((r.length : Int) < x.n))) || skipBad r
def farAtom (m : Nat) (x : AtomT) : Bool := decide ((m : Int) ≤ x.t)
def nowhere (t : TestT) : Bool := t.thr.any skipBad || t.cond.any.any (fun L => L.any (farAtom t.thr.length))
/-- What Check tells. -/
def checkT (t : TestT) : Int := if testOk t then (if bigT t then 8 else if twiceFrom 0 t.ini then 9 else if nowhere t then 10 else 0) else 1
end Go.Proofs.YtplihlmejnohnaaGreatDoor

namespace Go.Proofs.YtplihlmejnohnaaGreatDoor
open Go.RowKit

/-- The world has grown; nothing that was there has turned. -/
def On (w w' : World) : Prop := Below w.heap.size w w'
theorem On.refl (w : World) : On w w := Below.refl _ _
theorem On.trans {a b c : World} (h : On a b) (k : On b c) : On a c := Below.trans h (Below.mono k h.size)
theorem On.alloc {w w' : World} (h : On w w') (o : Obj) : On w (w'.alloc o) := Below.alloc h h.size o
theorem On.setNew {w x : World} {N i : Nat} (h : On w x) (hN : w.heap.size ≤ N) (u : Value) : On w (x.setCell ⟨N, i, none⟩ u) := Below.setCell h hN u
theorem On.drewN {w w' : World} (h : On w w') (n : Nat) : On w (w'.drewN n) := ⟨h.os, h.tape, h.output, h.size, h.block⟩
theorem On.drew {w x : World} (h : On w x) : On w x.drew := Below.drew h

/-- Block N holds these cells. -/
def Bk (w : World) (N : Nat) (cs : Array Value) : Prop := ∃ T, w.heap[N]? = some (.cells cs T (0, 0))
section
variable {w w' : World} {N : Nat} {cs : Array Value}
theorem Bk.new (w : World) (cs : Array Value) (T : TypeId) : Bk (w.alloc (.cells cs T)) w.heap.size cs := ⟨T, heap_alloc_new w _⟩
theorem Bk.alloc (h : Bk w N cs) (o : Obj) : Bk (w.alloc o) N cs := by
  obtain ⟨T, e⟩ := h
  exact ⟨T, (Below.heap_alloc _ _ _ (lt_of_block e)).trans e⟩
theorem Bk.lt (h : Bk w N cs) : N < w.heap.size := by obtain ⟨T, e⟩ := h; exact lt_of_block e
theorem Bk.at {i : Nat} {v : Value} (h : Bk w N cs) (hv : cs[i]? = some v) : w.cell? ⟨N, i, none⟩ = some v := by obtain ⟨T, e⟩ := h; simp [World.cell?, e, hv]
theorem Bk.fr (h : Bk w N cs) (i : Nat) : w.frozen? ⟨N, i, none⟩ = false := by obtain ⟨T, e⟩ := h; simp [World.frozen?, e]
theorem Bk.on (h : Bk w N cs) (k : On w w') : Bk w' N cs := by
  obtain ⟨T, e⟩ := h
  exact ⟨T, (k.block N (lt_of_block e)).trans e⟩
end
end Go.Proofs.YtplihlmejnohnaaGreatDoor
