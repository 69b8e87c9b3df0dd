/- Frames and blocks, for a seat that has neither strconv nor the parser. -/
import Derived.Test.YtacflahkofmcpaaGreatDoorProg
import Derived.WalkKit
import Derived.WalkSpells
import Derived.WalkLawsBesides
import Derived.WalkSmall
import Derived.OneCell
import Derived.Below
import Derived.IntWalk
import Derived.Deep.LoopGhost
import Derived.Deep.RegionLaw
import Derived.Laws.MakeOwn
import Derived.Maps.AppendAt
import Derived.Laws.ResultCell
namespace Go.Proofs.YtacflahkofmcpaaGreatDoor.Wl
open Go.RowKit

/-- The world has grown; nothing that was there has turned. -/
def On (w w' : World) : Prop := Below w.heap.size w w'
theorem On.refl (w : World) : On w w := Below.refl _ _
theorem On.trans {a b c : World} (h : On a b) (k : On b c) : On a c := Below.trans h (Below.mono k h.size)
theorem On.alloc {w w' : World} (h : On w w') (o : Obj) : On w (w'.alloc o) := Below.alloc h h.size o
theorem On.setNew {w x : World} {N i : Nat} (h : On w x) (hN : w.heap.size ≤ N) (u : Value) : On w (x.setCell ⟨N, i, none⟩ u) := Below.setCell h hN u
theorem On.drewN {w w' : World} (h : On w w') (n : Nat) : On w (w'.drewN n) := ⟨h.os, h.tape, h.output, h.size, h.block⟩
theorem On.drew {w x : World} (h : On w x) : On w x.drew := Below.drew h

/-- Block N holds these cells. -/
def Bk (w : World) (N : Nat) (cs : Array Value) : Prop := ∃ T, w.heap[N]? = some (.cells cs T (0, 0))
section
variable {w w' : World} {N : Nat} {cs : Array Value}
theorem Bk.new (w : World) (cs : Array Value) (T : TypeId) : Bk (w.alloc (.cells cs T)) w.heap.size cs := ⟨T, heap_alloc_new w _⟩
theorem Bk.alloc (h : Bk w N cs) (o : Obj) : Bk (w.alloc o) N cs := by
  obtain ⟨T, e⟩ := h
  exact ⟨T, (Below.heap_alloc _ _ _ (lt_of_block e)).trans e⟩
theorem Bk.lt (h : Bk w N cs) : N < w.heap.size := by obtain ⟨T, e⟩ := h; exact lt_of_block e
theorem Bk.at {i : Nat} {v : Value} (h : Bk w N cs) (hv : cs[i]? = some v) : w.cell? ⟨N, i, none⟩ = some v := by obtain ⟨T, e⟩ := h; simp [World.cell?, e, hv]
theorem Bk.fr (h : Bk w N cs) (i : Nat) : w.frozen? ⟨N, i, none⟩ = false := by obtain ⟨T, e⟩ := h; simp [World.frozen?, e]
theorem Bk.on (h : Bk w N cs) (k : On w w') : Bk w' N cs := by
  obtain ⟨T, e⟩ := h
  exact ⟨T, (k.block N (lt_of_block e)).trans e⟩
end
end Go.Proofs.YtacflahkofmcpaaGreatDoor.Wl

namespace Go.Proofs.YtacflahkofmcpaaGreatDoor.Wl

structure Opd where
  r : Int
  v : Int
structure InsT where
  k : Int
  r : Int
  l : Int
  a : Opd
  o : Int
  b : Opd
  n : Int
structure AtomT where
  t : Int
  r : Int
  l : Int
  v : Int
structure InitT where
  l : Int
  v : Int
structure CondT where
  k : Int
  any : List (List AtomT)
structure TestT where
  name : ByteArray
  ini : List InitT
  thr : List (List InsT)
  cond : CondT

def regOk (n : Int) : Bool := decide (0 ≤ n) && decide (n ≤ 3)
def locOk (n : Int) : Bool := decide (97 ≤ n) && decide (n ≤ 122)
def opdOk (o : Opd) : Bool := o.r == -1 || (o.v == 0 && regOk o.r)
def signOk (n : Int) : Bool := decide (1 ≤ n) && decide (n ≤ 11)
def secOk (op : Int) (b : Opd) : Bool := if op == 0 then b.r == -1 && b.v == 0 else signOk op && opdOk b
/-- An instruction that may be. -/
def insOk (i : InsT) : Bool :=
  if i.k == 1 then (i.r == 0 && i.o == 0 && i.b.r == 0 && i.b.v == 0 && i.n == 0) && locOk i.l && opdOk i.a
  else if i.k == 2 then (i.a.r == 0 && i.a.v == 0 && i.o == 0 && i.b.r == 0 && i.b.v == 0 && i.n == 0) && regOk i.r && locOk i.l
  else if i.k == 3 then i.r == 0 && i.l == 0 && i.a.r == 0 && i.a.v == 0 && i.o == 0 && i.b.r == 0 && i.b.v == 0 && i.n == 0
  else if i.k == 4 then (i.o == 0 && i.n == 0) && regOk i.r && locOk i.l && opdOk i.a && opdOk i.b
  else if i.k == 5 then (i.l == 0 && i.n == 0) && regOk i.r && opdOk i.a && secOk i.o i.b
  else if i.k == 6 then (i.r == 0 && i.l == 0 && i.o == 0) && decide (0 ≤ i.n) && opdOk i.a && opdOk i.b
  else false
def atomOk (x : AtomT) : Bool := if x.t == -1 then x.r == 0 && locOk x.l else x.l == 0 && decide (0 ≤ x.t) && decide (x.t ≤ 9) && regOk x.r
def initOk (x : InitT) : Bool := locOk x.l
def threadOk (L : List InsT) : Bool := L.all insOk
def rowOk (L : List AtomT) : Bool := decide (0 < L.length) && L.all atomOk
def condOk (c : CondT) : Bool := if c.k == 0 then c.any.length == 0 else if c.k == 1 || c.k == 2 then decide (0 < c.any.length) && c.any.all rowOk else false
/-- A byte of a word, at a place. -/
def chOk (i : Nat) (c : UInt8) : Bool := locOk c.toNat || (decide (0 < i) && (decide (48 ≤ c.toNat) && decide (c.toNat ≤ 57)))
def chsOk : Nat → List UInt8 → Bool
  | _, [] => true
  | i, c :: r => chOk i c && chsOk (i + 1) r
def wordOk (s : ByteArray) : Bool := chsOk 0 s.data.toList && decide (0 < s.size)
/-- A test that may be. -/
def testOk (t : TestT) : Bool := wordOk t.name && t.ini.all initOk && t.thr.all threadOk && condOk t.cond

/-- Letters as bits. -/
def withL (n : Nat) (l : Int) : Nat := if 97 ≤ l ∧ l ≤ 122 then n ||| 2 ^ (l - 97).toNat else n
def locIni (n : Nat) (L : List InitT) : Nat := L.foldl (fun n x => withL n x.l) n
def locRow (n : Nat) (L : List InsT) : Nat := L.foldl (fun n x => withL n x.l) n
def locThr (n : Nat) (LL : List (List InsT)) : Nat := LL.foldl locRow n
def locAts (n : Nat) (L : List AtomT) : Nat := L.foldl (fun n x => withL n x.l) n
def locAny (n : Nat) (LL : List (List AtomT)) : Nat := LL.foldl locAts n
def locsN (t : TestT) : Nat := locAny (locThr (locIni 0 t.ini) t.thr) t.cond.any
/-- How many letters, and which, rising. -/
def cntN (n : Nat) : Nat := ((List.range 26).filter (fun i => n.testBit i)).length
def lettersN (n : Nat) : List UInt8 := ((List.range 26).filter (fun i => n.testBit i)).map (fun i => UInt8.ofNat (97 + i))

def sumL (LL : List (List InsT)) : Nat := LL.foldl (fun n L => n + L.length) 0
def thrBig (LL : List (List InsT)) : Bool := (LL.length == 0 || decide (4 < LL.length)) || (LL.any (fun L => decide (10 < L.length)) || decide (24 < sumL LL))
def condBig (LL : List (List AtomT)) : Bool := LL.any (fun L => decide (8 < L.length)) || decide (8 < LL.length)
def bigT (t : TestT) : Bool := decide (20 < t.name.size) || thrBig t.thr || decide (4 < cntN (locsN t)) || condBig t.cond.any
def twiceFrom : Nat → List InitT → Bool
  | _, [] => false
  | n, x :: r => if withL n x.l == n then true else twiceFrom (withL n x.l) r
def skipBad : List InsT → Bool
  | [] => false
  | x :: r => (x.k == 6 && (x.n == 0 || decide ((r.length : Int) < x.n))) || skipBad r
def farAtom (m : Nat) (x : AtomT) : Bool := decide ((m : Int) ≤ x.t)
def nowhere (t : TestT) : Bool := t.thr.any skipBad || t.cond.any.any (fun L => L.any (farAtom t.thr.length))
/-- What Check tells. -/
def checkT (t : TestT) : Int := if testOk t then (if bigT t then 8 else if twiceFrom 0 t.ini then 9 else if nowhere t then 10 else 0) else 1
end Go.Proofs.YtacflahkofmcpaaGreatDoor.Wl

namespace Go.Proofs.YtacflahkofmcpaaGreatDoor.Wl
open Go.RowKit

def iniC (x : InitT) : List Value := [.int .i64 x.l, .int .i64 x.v]
def atomC (x : AtomT) : List Value := [.int .i64 x.t, .int .i64 x.r, .int .i64 x.l, .int .i64 x.v]
def insC (x : InsT) : List Value := [.int .i64 x.k, .int .i64 x.r, .int .i64 x.l, .int .i64 x.a.r, .int .i64 x.a.v, .int .i64 x.o, .int .i64 x.b.r, .int .i64 x.b.v, .int .i64 x.n]

/-- v holds this list: each thing k cells, one behind the other. -/
def Rd {α : Type} (C : α → List Value) (k : Nat) (w : World) (v : Value) (L : List α) : Prop :=
  ∃ a c, v = .slice a L.length c ∧ L.length ≤ c ∧ L.length ≤ 9223372036854775807 ∧
    (0 < L.length → ∃ g off, a = some ⟨g, off, none⟩ ∧ g < w.heap.size ∧ ∀ (i : Nat) (x : α) (j : Nat) (u : Value), L[i]? = some x → (C x)[j]? = some u → w.cell? ⟨g, off + i * k + j, none⟩ = some u)
def oneC (v : Value) : List Value := [v]
/-- v holds these rows. -/
def Rd2 {α : Type} (C : α → List Value) (k : Nat) (w : World) (v : Value) (LL : List (List α)) : Prop :=
  ∃ vs : List Value, vs.length = LL.length ∧ Rd oneC 1 w v vs ∧ ∀ (i : Nat) (u : Value) (L : List α), vs[i]? = some u → LL[i]? = some L → Rd C k w u L
theorem flat_at {α : Type} (C : α → List Value) (n : Nat) (hC : ∀ x, (C x).length = n) : ∀ (L : List α) (k j : Nat) (x : α), L[k]? = some x → j < n → (L.flatMap C)[k * n + j]? = (C x)[j]?
  | [], k, j, x, h, _ => by simp at h
  | y :: L, 0, j, x, h, hj => by
    simp only [List.getElem?_cons_zero, Option.some.injEq] at h
    subst h
    rw [List.flatMap_cons, Nat.zero_mul, Nat.zero_add, List.getElem?_append_left (by rw [hC]; exact hj)]
  | y :: L, k + 1, j, x, h, hj => by
    rw [List.getElem?_cons_succ] at h
    rw [List.flatMap_cons, List.getElem?_append_right (by rw [hC, Nat.succ_mul]; omega), hC]
    have e : (k + 1) * n + j - n = k * n + j := by rw [Nat.succ_mul]; omega
    rw [e]
    exact flat_at C n hC L k j x h hj
theorem own_cells {w : World} {base k n : Nat} {e : TypeId} {v : Value} {xs : List Value} (h : w.ownsRow base e k v n xs) (hn : 0 < n) :
    ∃ g cap, v = .slice (some ⟨g, 0, none⟩) n cap ∧ n ≤ cap ∧ base ≤ g ∧ g < w.heap.size ∧ ∀ i u, xs[i]? = some u → w.cell? ⟨g, i, none⟩ = some u := by
  rcases h.2 with ⟨_, h0⟩ | ⟨g, cap, cur, hv, hb, hh, hc, _, _, ht⟩
  · omega
  · refine ⟨g, cap, hv, hc, hb, lt_of_block hh, fun i u hi => ?_⟩
    rw [← ht, List.getElem?_take] at hi
    split at hi
    · simp only [World.cell?, hh]
      simpa using hi
    · cases hi
theorem own_max {w : World} {base k n : Nat} {e : TypeId} {v : Value} {xs : List Value} (h : w.ownsRow base e k v n xs) : n ≤ 9223372036854775807 := by
  rcases h.2 with ⟨_, h0⟩ | ⟨g, cap, cur, hv, hb, hh, hc, hm, _⟩
  · omega
  · exact Nat.le_trans hc hm
section
variable {α : Type} {C : α → List Value} {k : Nat} {w w' : World} {v : Value} {L : List α} {LL : List (List α)}
theorem Rd.on (h : Rd C k w v L) (o : On w w') : Rd C k w' v L := by
  obtain ⟨a, c, hv, hc, hm, h⟩ := h
  refine ⟨a, c, hv, hc, hm, fun hl => ?_⟩
  obtain ⟨g, off, ha, hg, hr⟩ := h hl
  exact ⟨g, off, ha, Nat.lt_of_lt_of_le hg o.size, fun i x j u hi hj => (o.cell (p := ⟨g, off + i * k + j, none⟩) hg).trans (hr i x j u hi hj)⟩
theorem Rd2.on (h : Rd2 C k w v LL) (o : On w w') : Rd2 C k w' v LL := by
  obtain ⟨vs, h1, h2, h3⟩ := h
  exact ⟨vs, h1, h2.on o, fun i u L a b => (h3 i u L a b).on o⟩
theorem Rd.nil (C : α → List Value) (k : Nat) (w : World) : Rd C k w (.slice none 0 0) [] := ⟨none, 0, rfl, Nat.le_refl _, by simp, fun h => absurd h (Nat.lt_irrefl 0)⟩
theorem Rd2.nil (C : α → List Value) (k : Nat) (w : World) : Rd2 C k w (.slice none 0 0) [] := ⟨[], rfl, Rd.nil _ _ _, fun i u L a _ => by simp at a⟩
theorem Rd.slice (h : Rd C k w v L) : ∃ a c, v = .slice a L.length c ∧ L.length ≤ c ∧ L.length ≤ 9223372036854775807 := by
  obtain ⟨a, c, hv, hc, hm, _⟩ := h
  exact ⟨a, c, hv, hc, hm⟩
theorem Rd2.slice (h : Rd2 C k w v LL) : ∃ a c, v = .slice a LL.length c ∧ LL.length ≤ c ∧ LL.length ≤ 9223372036854775807 := by
  obtain ⟨vs, h1, h2, _⟩ := h
  rw [← h1]
  exact h2.slice
theorem Rd.own {base : Nat} {e : TypeId} (hC : ∀ x, (C x).length = k) (h : w.ownsRow base e k v L.length (L.flatMap C)) : Rd C k w v L := by
  rcases Nat.eq_zero_or_pos L.length with h0 | h0
  · obtain rfl : L = [] := List.eq_nil_of_length_eq_zero h0
    rcases h.2 with ⟨hv, _⟩ | ⟨g, cap, cur, hv, hb, hh, hc, hm, _⟩
    · rw [hv]; exact Rd.nil _ _ _
    · exact ⟨_, cap, hv, hc, by simp, fun h => absurd h (Nat.lt_irrefl 0)⟩
  · obtain ⟨g, cap, hv, hc, _, hg, hr⟩ := own_cells h h0
    refine ⟨_, cap, hv, hc, own_max h, fun _ => ⟨g, 0, rfl, hg, fun i x j u hi hj => ?_⟩⟩
    rw [Nat.zero_add]
    refine hr _ _ ?_
    have hj' : j < k := by have := (List.getElem?_eq_some_iff.1 hj).1; rwa [hC] at this
    rw [flat_at C k hC L i j x hi hj', hj]
theorem Rd.at {a : Option Addr} {c : Nat} (h : Rd C k w (.slice a L.length c) L) {i : Nat} {x : α} (hi : L[i]? = some x) :
    ∃ g off, a = some ⟨g, off, none⟩ ∧ g < w.heap.size ∧ ∀ (j : Nat) (u : Value), (C x)[j]? = some u → w.cell? ⟨g, off + i * k + j, none⟩ = some u := by
  obtain ⟨a', c', hv, hc, hm, hr⟩ := h
  simp only [Value.slice.injEq] at hv
  obtain ⟨rfl, _, rfl⟩ := hv
  have hlt : i < L.length := (List.getElem?_eq_some_iff.1 hi).1
  obtain ⟨g, off, ha, hg, hcell⟩ := hr (by omega)
  exact ⟨g, off, ha, hg, fun j u hj => hcell i x j u hi hj⟩
theorem Rd2.row {a : Option Addr} {c : Nat} (h : Rd2 C k w (.slice a LL.length c) LL) {i : Nat} {L : List α} (hi : LL[i]? = some L) :
    ∃ g off, a = some ⟨g, off, none⟩ ∧ g < w.heap.size ∧ ∃ ax cx, w.cell? ⟨g, off + i, none⟩ = some (.slice ax L.length cx) ∧ L.length ≤ 9223372036854775807 ∧ Rd C k w (.slice ax L.length cx) L := by
  obtain ⟨vs, hl, h1, h2⟩ := h
  have hlt : i < LL.length := (List.getElem?_eq_some_iff.1 hi).1
  obtain ⟨u, hu⟩ : ∃ u, vs[i]? = some u := ⟨_, List.getElem?_eq_getElem (by omega)⟩
  rw [← hl] at h1
  obtain ⟨g, off, ha, hg, hc⟩ := h1.at hu
  have hr := h2 i u L hu hi
  obtain ⟨ax, cx, rfl, _, hm⟩ := hr.slice
  exact ⟨g, off, ha, hg, ax, cx, by have := hc 0 _ rfl; simpa using this, hm, hr⟩
end
end Go.Proofs.YtacflahkofmcpaaGreatDoor.Wl

namespace Go.Proofs.YtacflahkofmcpaaGreatDoor.Wl
open Go.RowKit

theorem On.grown {x w w' : World} {v : Value} (h : On x w) (hg : w.grownBy w' v.ownBlock) (hv : ∀ g, v.ownBlock = some g → x.heap.size ≤ g) : On x w' :=
  ⟨hg.os.trans h.os, hg.tape.trans h.tape, hg.output.trans h.output, Nat.le_trans h.size hg.size, fun k hk => (hg.block k (Nat.lt_of_lt_of_le hk h.size) (fun e => by have := hv k e.symm; omega)).trans (h.block k hk)⟩
theorem On.grownNone {x w w' : World} (h : On x w) (hg : w.grownBy w' none) : On x w' :=
  ⟨hg.os.trans h.os, hg.tape.trans h.tape, hg.output.trans h.output, Nat.le_trans h.size hg.size, fun k hk => (hg.block k (Nat.lt_of_lt_of_le hk h.size) (fun e => by cases e)).trans (h.block k hk)⟩
theorem own_mono {w : World} {base base' k n : Nat} {e : TypeId} {v : Value} {xs : List Value} (h : w.ownsRow base e k v n xs) (hb : base' ≤ base) : w.ownsRow base' e k v n xs := by
  refine ⟨h.1, ?_⟩
  rcases h.2 with h2 | ⟨g, cap, cur, hv, hg, r⟩
  · exact Or.inl h2
  · exact Or.inr ⟨g, cap, cur, hv, by omega, r⟩
theorem own_on {w w' : World} {base k n : Nat} {e : TypeId} {v : Value} {xs : List Value} (h : w.ownsRow base e k v n xs) (o : On w w') : w'.ownsRow base e k v n xs := by
  refine ⟨h.1, ?_⟩
  rcases h.2 with h2 | ⟨g, cap, cur, hv, hb, hh, r⟩
  · exact Or.inl h2
  · exact Or.inr ⟨g, cap, cur, hv, hb, (o.block g (lt_of_block hh)).trans hh, r⟩
/-- A row of one, just laid. -/
theorem own_one (w : World) (cs : Array Value) (e : TypeId) (k base : Nat) (hk : cs.size = k) (hb : base ≤ w.heap.size) : (w.alloc (.cells cs e)).ownsRow base e k (.slice (some ⟨w.heap.size, 0, none⟩) 1 1) 1 cs.toList := by
  refine ⟨by simp [hk], Or.inr ⟨w.heap.size, 1, cs, rfl, hb, heap_alloc_new w _, Nat.le_refl _, by decide, by simp [hk], ?_⟩⟩
  rw [List.take_of_length_le (by simp [hk])]
theorem new_cell (w : World) (cs : Array Value) (T : TypeId) (j : Nat) : (w.alloc (.cells cs T)).cell? ((⟨w.heap.size, 0, none⟩ : Addr).add j) = cs.toList[j]? := by
  have h := heap_alloc_new w (.cells cs T)
  rw [Addr.add_lit, Nat.zero_add, Array.getElem?_toList]
  unfold World.cell?
  simp only [h]
  rfl
theorem own_slice {w : World} {base k n : Nat} {e : TypeId} {v : Value} {xs : List Value} (h : w.ownsRow base e k v n xs) : ∃ a c, v = .slice a n c := by
  rcases h.2 with ⟨hv, h0⟩ | ⟨g, cap, cur, hv, _⟩
  · exact ⟨_, 0, by rw [hv, h0]⟩
  · exact ⟨_, _, hv⟩
theorem own_far {w w' : World} {b1 b2 k1 k2 n m : Nat} {eo ei : TypeId} {u v : Value} {xs ys : List Value} (h : w.ownsRow b1 ei k1 u n xs) (ho : w.ownsRow b2 eo k2 v m ys) (hne : eo ≠ ei) (hg : w.grownBy w' v.ownBlock) : w'.ownsRow b1 ei k1 u n xs := by
  refine ⟨h.1, ?_⟩
  rcases h.2 with h2 | ⟨g, cap, cur, hv, hb, hh, r⟩
  · exact Or.inl h2
  · refine Or.inr ⟨g, cap, cur, hv, hb, (hg.block g (lt_of_block hh) (fun e => ?_)).trans hh, r⟩
    rcases ho.2 with ⟨hv2, _⟩ | ⟨g2, cap2, cur2, hv2, hb2, hh2, _⟩
    · rw [hv2] at e; cases e
    · rw [hv2] at e
      simp only [Value.ownBlock, Option.some.injEq] at e
      subst e
      rw [hh] at hh2
      simp only [Option.some.injEq, Obj.cells.injEq] at hh2
      exact hne hh2.2.1.symm
theorem Bk.grown {w w' : World} {N base : Nat} {cs : Array Value} {v : Value} (h : Bk w N cs) (hg : w.grownBy w' v.ownBlock) (hN : N < base) (ho : ∀ g, v.ownBlock = some g → base ≤ g) : Bk w' N cs := by
  obtain ⟨T, e⟩ := h
  exact ⟨T, (hg.block N (lt_of_block e) (fun h => by have := ho N h.symm; omega)).trans e⟩

/-- append to a row of the call's own, as one step of a region that draws. -/
theorem step_append_own {P : Program} {ops : Array Oper} {o : Oper} {a : Act} {w : World} {K : Act → World → Prop} {Q : Exit → Act → World → Prop} {E : Prop} (hg : o.guard = none) (s x : Operand) (t : TypeId)
    (ho : o.op = .call { callee := .builtin .append, args := #[s, x], argTypes := #[t, t] })
    (base : Nat) (e : TypeId) (i : TypeInfo) (z : Value) (size bytes : Nat) (ht : P.underlying t = some (.slice e)) (hi : P.info? e = some i) (hz : i.zero = some z)
    (hsize : i.size = size) (hby : i.bytes = bytes) (hzs : z.cells.size = size) (hsz : 0 < size)
    (v : Value) (n : Nat) (xs : List Value) (hs : a.eval s = v) (hown : w.ownsRow base e size v n xs)
    (ad : Addr) (m c : Nat) (news : List Value) (hx : a.eval x = .slice (some ad) m c) (hl : news.length = m * size) (hnews : ∀ j u, news[j]? = some u → w.cell? (ad.add j) = some u) (h1 : ∀ u ∈ news, u.oneCell' = true)
    (h63 : n + m ≤ maxLen) (hbytes : (n + m) * bytes ≤ 140737488355328) (hbase : base ≤ w.heap.size)
    (h : ∀ v' w', w'.ownsRow base e size v' (n + m) (xs ++ news) → w.grownBy w' v.ownBlock → K (a.put o.dst v') w') : if Region.wanted o (yielded ops a.tmps) = true then Oper.wp P o a w K Q else E := by
  have hw : Region.wanted o (yielded ops a.tmps) = true := by simp [Region.wanted, hg]
  rw [if_pos hw]
  exact wp_append_own w s x t ho base e i z size bytes ht hi hz hsize hby hzs hsz v n xs hs hown ad m c news hx hl hnews h1 h63 hbytes hbase fun v' w' h2 h3 _ => h v' w' h2 h3

/-- v holds rows of rows. -/
def Own2 {α : Type} (C : α → List Value) (k : Nat) (eo ei : TypeId) (w : World) (base : Nat) (v : Value) (LL : List (List α)) : Prop :=
  ∃ vs : List Value, vs.length = LL.length ∧ w.ownsRow base eo 1 v LL.length vs ∧ ∀ (i : Nat) (u : Value) (L : List α), vs[i]? = some u → LL[i]? = some L → w.ownsRow base ei k u L.length (L.flatMap C)
section
variable {α : Type} {C : α → List Value} {k : Nat} {eo ei : TypeId} {w w' : World} {base : Nat} {v : Value} {LL : List (List α)}
theorem Own2.on (h : Own2 C k eo ei w base v LL) (o : On w w') : Own2 C k eo ei w' base v LL := by
  obtain ⟨vs, h1, h2, h3⟩ := h
  exact ⟨vs, h1, own_on h2 o, fun i u L a b => own_on (h3 i u L a b) o⟩
theorem Own2.nil (C : α → List Value) (k : Nat) (eo ei : TypeId) (w : World) (base : Nat) : Own2 C k eo ei w base (.slice none 0 0) [] :=
  ⟨[], rfl, World.ownsRow_nil _ _ _ _, fun i u L a _ => by simp at a⟩
theorem Own2.snoc {vs : List Value} {v' u : Value} {L : List α} (hn : vs.length = LL.length) (ho : w.ownsRow base eo 1 v LL.length vs) (hs : ∀ (i : Nat) (u : Value) (L : List α), vs[i]? = some u → LL[i]? = some L → w.ownsRow base ei k u L.length (L.flatMap C))
    (hne : eo ≠ ei) (hg : w.grownBy w' v.ownBlock) (ho' : w'.ownsRow base eo 1 v' (LL.length + 1) (vs ++ [u])) (hu : w.ownsRow base ei k u L.length (L.flatMap C)) : Own2 C k eo ei w' base v' (LL ++ [L]) := by
  refine ⟨vs ++ [u], by simp [hn], by simpa using ho', fun i x M a b => ?_⟩
  rcases Nat.lt_or_ge i vs.length with h | h
  · rw [List.getElem?_append_left h] at a
    rw [List.getElem?_append_left (by omega)] at b
    exact own_far (hs i x M a b) ho hne hg
  · have hi : i = vs.length := by
      rcases Nat.lt_or_ge vs.length i with h' | h'
      · rw [List.getElem?_eq_none (by simp; omega)] at a; cases a
      · omega
    subst hi
    simp only [List.getElem?_concat_length, Option.some.injEq] at a
    rw [hn] at b
    simp only [List.getElem?_concat_length, Option.some.injEq] at b
    subst a; subst b
    exact own_far hu ho hne hg
theorem Own2.slice (h : Own2 C k eo ei w base v LL) : ∃ a c, v = .slice a LL.length c := by
  obtain ⟨vs, _, h2, _⟩ := h
  exact own_slice h2
theorem flat_one : ∀ vs : List Value, vs.flatMap oneC = vs
  | [] => rfl
  | v :: vs => by rw [List.flatMap_cons, flat_one vs]; rfl
/-- Such rows can be read. -/
theorem Own2.rd (hC : ∀ x, (C x).length = k) (h : Own2 C k eo ei w base v LL) : Rd2 C k w v LL := by
  obtain ⟨vs, h1, h2, h3⟩ := h
  refine ⟨vs, h1, Rd.own (fun _ => rfl) (e := eo) (base := base) (by rw [flat_one, h1]; exact h2), fun i u L a b => Rd.own hC (h3 i u L a b)⟩
end
end Go.Proofs.YtacflahkofmcpaaGreatDoor.Wl

namespace Go.Proofs.YtacflahkofmcpaaGreatDoor.Wl
open Go.RowKit

def putAt (l : List Value) (o : Nat) : List Value → List Value
  | [] => l
  | v :: vs => putAt (l.set o v) (o + 1) vs
def putCells (w : World) (N o : Nat) : List Value → World
  | [] => w
  | v :: vs => putCells (w.setCell ⟨N, o, none⟩ v) N (o + 1) vs
theorem putAt_skip (a : List Value) : ∀ (vs l : List Value) (o : Nat), putAt (a ++ l) (a.length + o) vs = a ++ putAt l o vs
  | [], _, _ => rfl
  | v :: vs, l, o => by
    rw [putAt, putAt, List.set_append_right _ _ (Nat.le_add_right _ _), Nat.add_sub_cancel_left, Nat.add_assoc]
    exact putAt_skip a vs _ _
theorem putAt_head : ∀ (b a l : List Value), a.length = b.length → putAt (a ++ l) 0 b = b ++ l
  | [], a, l, h => by
    have : a = [] := List.eq_nil_of_length_eq_zero h
    subst this; rfl
  | v :: b, [], l, h => by simp at h
  | v :: b, x :: a, l, h => by
    have := putAt_skip [v] b (a ++ l) 0
    simp only [List.length_cons, List.length_nil, List.singleton_append] at this
    rw [putAt, List.cons_append, List.set_cons_zero]
    rw [this, putAt_head b a l (by simpa using h)]
    rfl
theorem putAt_flat {α : Type} (C : α → List Value) (k : Nat) (hC : ∀ x, (C x).length = k) : ∀ (L : List α) (j : Nat) (x : α), j < L.length → putAt (L.flatMap C) (j * k) (C x) = (L.set j x).flatMap C
  | [], j, x, h => by simp at h
  | y :: L, 0, x, _ => by
    rw [List.flatMap_cons, Nat.zero_mul, putAt_head _ _ _ (by rw [hC, hC]), List.set_cons_zero, List.flatMap_cons]
  | y :: L, j + 1, x, h => by
    rw [List.flatMap_cons, show (j + 1) * k = (C y).length + j * k by rw [hC, Nat.succ_mul, Nat.add_comm], putAt_skip, putAt_flat C k hC L j x (by simpa using h), List.set_cons_succ, List.flatMap_cons]
theorem Bk.put {w : World} {N : Nat} {cs : List Value} (h : Bk w N cs.toArray) (o : Nat) (v : Value) : Bk (w.setCell ⟨N, o, none⟩ v) N (cs.set o v).toArray := by
  obtain ⟨T, e⟩ := h
  refine ⟨T, ?_⟩
  have hs : (cs.set o v).toArray = cs.toArray.setIfInBounds o v := by simp
  rw [hs]
  simp [World.setCell, Array.getElem?_modify, e]
theorem Bk.puts {N : Nat} : ∀ (vs : List Value) (w : World) (cs : List Value) (o : Nat), Bk w N cs.toArray → Bk (putCells w N o vs) N (putAt cs o vs).toArray
  | [], _, _, _, h => h
  | v :: vs, _, _, o, h => Bk.puts vs _ _ _ (h.put o v)
theorem Bk.far {w : World} {N M : Nat} {cs : Array Value} (h : Bk w M cs) (hne : N ≠ M) (o : Nat) (v : Value) : Bk (w.setCell ⟨N, o, none⟩ v) M cs := by
  obtain ⟨T, e⟩ := h
  exact ⟨T, (Below.heap_setCell _ _ _ _ (fun h => hne h.symm)).trans e⟩
theorem Bk.fars {N M : Nat} (hne : N ≠ M) : ∀ (vs : List Value) (w : World) (cs : Array Value) (o : Nat), Bk w M cs → Bk (putCells w N o vs) M cs
  | [], _, _, _, h => h
  | v :: vs, _, _, o, h => Bk.fars hne vs _ _ _ (h.far hne o v)
theorem size_set (w : World) (a : Addr) (v : Value) : (w.setCell a v).heap.size = w.heap.size := by simp [World.setCell]
theorem size_puts {N : Nat} : ∀ (vs : List Value) (w : World) (o : Nat), (putCells w N o vs).heap.size = w.heap.size
  | [], _, _ => rfl
  | v :: vs, w, _ => (size_puts vs _ _).trans (size_set w _ v)
theorem On.puts {x : World} {N : Nat} (hN : x.heap.size ≤ N) : ∀ (vs : List Value) (w : World) (o : Nat), On x w → On x (putCells w N o vs)
  | [], _, _, h => h
  | v :: vs, _, _, h => On.puts hN vs _ _ (h.setNew hN v)
theorem results_cell {fn : Func} {q : Tmp} {ty : TypeId} (h : fn.results = #[.cell q ty]) (tmps : Array Value) (P : Program) (w : World) :
    (results fn tmps).run P w = ((asAddr (tmps.getD q undef)).run P w).andThen fun a w₁ => (loadVar ty a).run P w₁ := by
  simp only [results, h]
  simp [Sem.run_bind, Result.andThen]
theorem results_cell_slot {fn : Func} {p u : Tmp} {ty : TypeId} (h : fn.results = #[.cell p ty, .tmp u]) (tmps : Array Value) (P : Program) (w : World) :
    (results fn tmps).run P w = ((asAddr (tmps.getD p undef)).run P w).andThen fun a w₁ => ((loadVar ty a).run P w₁).andThen fun v w₂ => .ok (.tuple #[v, tmps.getD u undef]) w₂ := by
  simp only [results, h]
  simp [Sem.run_bind, Result.andThen]
end Go.Proofs.YtacflahkofmcpaaGreatDoor.Wl

namespace Go.Proofs.YtacflahkofmcpaaGreatDoor.Wl
open Go.RowKit

theorem any_here {α : Type} {p : α → Bool} {L : List α} {i : Nat} {x : α} (h : L[i]? = some x) (hp : p x = true) : L.any p = true :=
  List.any_eq_true.2 ⟨x, List.mem_of_getElem? h, hp⟩
theorem drop_at {α : Type} {L : List α} {i : Nat} {x : α} (h : L[i]? = some x) : L.drop i = x :: L.drop (i + 1) := by
  obtain ⟨hi, rfl⟩ := List.getElem?_eq_some_iff.1 h
  exact List.drop_eq_getElem_cons hi
theorem all_not {α : Type} (p : α → Bool) (L : List α) : (!L.any (fun x => !p x)) = L.all p := by
  induction L with
  | nil => rfl
  | cons x L ih => simp only [List.any_cons, List.all_cons, ← ih]; cases p x <;> simp
theorem ret_bool {a b : Bool} (h : a = b) : Ending.returned (.bool a) = .returned (.bool b) := by rw [h]
/-- v is this test, and can be read. -/
structure TestRd (w : World) (v : Value) (t : TestT) : Prop where
  ex : ∃ a1 c1 a2 c2 a3 c3, v = .agg #[.string t.name, .slice a1 t.ini.length c1, .slice a2 t.thr.length c2, .int .i64 t.cond.k, .slice a3 t.cond.any.length c3] ∧ t.name.size ≤ 9223372036854775807 ∧
    Rd iniC 2 w (.slice a1 t.ini.length c1) t.ini ∧ Rd2 insC 9 w (.slice a2 t.thr.length c2) t.thr ∧ Rd2 atomC 4 w (.slice a3 t.cond.any.length c3) t.cond.any
theorem TestRd.on {w w' : World} {v : Value} {t : TestT} (h : TestRd w v t) (k : On w w') : TestRd w' v t := by
  obtain ⟨a1, c1, a2, c2, a3, c3, hv, hn, h1, h2, h3⟩ := h.ex
  exact ⟨a1, c1, a2, c2, a3, c3, hv, hn, h1.on k, h2.on k, h3.on k⟩

def byteV (b : UInt8) : Value := .int .u8 b.toNat
theorem infoByte : (Tryz.prog.info? 5).map (fun i => (i.zero, i.size, i.bytes)) = some (some (.int .u8 0), 1, 1) := by kernel_rfl
def byteC (b : UInt8) : List Value := [.int .u8 b.toNat]
theorem infoI64 : (Tryz.prog.info? 2).map (fun i => (i.zero, i.size, i.bytes)) = some (some (.int .i64 0), 1, 8) := by kernel_rfl
theorem set_split {α : Type} (A B : List α) (z x : α) : (A ++ z :: B).set A.length x = A ++ x :: B := by
  rw [List.set_append_right _ _ (Nat.le_refl _), Nat.sub_self, List.set_cons_zero]
theorem rep_succ {α : Type} (n : Nat) (x : α) : List.replicate (n + 1) x = x :: List.replicate n x := rfl
theorem own_lt {w : World} {base k n c g : Nat} {e : TypeId} {xs : List Value} (h : w.ownsRow base e k (.slice (some ⟨g, 0, none⟩) n c) n xs) : g < w.heap.size := by
  rcases h.2 with ⟨h0, _⟩ | ⟨g', cap, cur, hv, hb, hh, _⟩
  · cases h0
  · have := lt_of_block hh
    simp only [Value.slice.injEq, Option.some.injEq, Addr.mk.injEq] at hv
    omega
theorem puts9 (w : World) (N o : Nat) (v0 v1 v2 v3 v4 v5 v6 v7 v8 : Value) : (((((((((w.setCell ⟨N, o, none⟩ v0).setCell ⟨N, o + 1, none⟩ v1).setCell ⟨N, o + 2, none⟩ v2).setCell ⟨N, o + 3, none⟩ v3).setCell ⟨N, o + 4, none⟩ v4).setCell ⟨N, o + 5, none⟩ v5).setCell ⟨N, o + 6, none⟩ v6).setCell ⟨N, o + 7, none⟩ v7).setCell ⟨N, o + 8, none⟩ v8) = putCells w N o [v0, v1, v2, v3, v4, v5, v6, v7, v8] := rfl
theorem put_lt {w : World} {m : Nat} (h : m < w.heap.size) (N o : Nat) (vs : List Value) (T : Obj) : m < ((putCells w N o vs).alloc T).heap.size := by
  rw [World.size_alloc, size_puts]
  omega
theorem rd_bytes {w : World} {base : Nat} {e : TypeId} {a : Option Addr} {c : Nat} {LT : List UInt8} (h : w.ownsRow base e 1 (.slice a LT.length c) LT.length (LT.map byteV)) : Rd byteC 1 w (.slice a LT.length c) LT := by
  refine Rd.own (C := byteC) (k := 1) (fun _ => rfl) (base := base) (e := e) ?_
  have e1 : LT.flatMap byteC = LT.map byteV := by
    clear h
    induction LT with
    | nil => rfl
    | cons b LT ih => rw [List.flatMap_cons, ih]; rfl
  rw [e1]
  exact h
theorem ne_thr : (48 : TypeId) ≠ 52 := by decide
end Go.Proofs.YtacflahkofmcpaaGreatDoor.Wl

namespace Go.Proofs.YtacflahkofmcpaaGreatDoor

/-- Kinds of bytes, by their numbers. -/
def letN (n : Nat) : Bool := decide (97 ≤ n) && decide (n ≤ 122)
def digN (n : Nat) : Bool := decide (48 ≤ n) && decide (n ≤ 57)
def blN (n : Nat) : Bool := n == 32 || n == 9 || n == 10
def oneN (n : Nat) : Bool := n == 123 || n == 125 || n == 59 || n == 58 || n == 61 || n == 43 || n == 45 || n == 42 || n == 38 || n == 124 || n == 94 || n == 60
def pairN (n m : Nat) : Bool := (n == 60 && m == 60) || (n == 62 && m == 62) || (n == 61 && m == 61) || (n == 33 && m == 61)
def wordN (n : Nat) : Bool := letN n || digN n

/-- The first byte's number, 0 where there is none. -/
def hd (l : List UInt8) : Nat := (l.headD 0).toNat

/-- How many bytes stand ahead of the next token; note: within a comment. -/
def gap : Bool → List UInt8 → Nat
  | _, [] => 0
  | true, c :: r => 1 + gap (c.toNat != 10) r
  | false, c :: r => if c.toNat = 35 then 1 + gap true r else if blN c.toNat then 1 + gap false r else 0

theorem gap_t (c : UInt8) (r : List UInt8) : gap true (c :: r) = 1 + gap (c.toNat != 10) r := rfl
theorem gap_f (c : UInt8) (r : List UInt8) : gap false (c :: r) = if c.toNat = 35 then 1 + gap true r else if blN c.toNat then 1 + gap false r else 0 := rfl

/-- How many letters and digits. -/
def runL : List UInt8 → Nat
  | [] => 0
  | c :: r => if wordN c.toNat then 1 + runL r else 0

/-- The kind of the token that begins here: 0 where none does. -/
def kind : List UInt8 → Nat
  | [] => 4
  | c :: r => if letN c.toNat then 1 else if digN c.toNat then 2 else if c.toNat == 45 && digN (hd r) then 2
    else if pairN c.toNat (hd r) then 3 else if oneN c.toNat then 3 else 0
def tsize : List UInt8 → Nat
  | [] => 0
  | c :: r => if letN c.toNat then 1 + runL r else if digN c.toNat then 1 + runL r else if c.toNat == 45 && digN (hd r) then 1 + runL r
    else if pairN c.toNat (hd r) then 2 else if oneN c.toNat then 1 else 0

theorem gap_le : ∀ (b : Bool) (l : List UInt8), gap b l ≤ l.length
  | b, [] => by cases b <;> simp [gap]
  | true, c :: r => by have := gap_le (c.toNat != 10) r; simp [gap]; omega
  | false, c :: r => by
    have h1 := gap_le true r
    have h2 := gap_le false r
    simp only [gap, List.length_cons]
    split
    · omega
    · split <;> omega

theorem runL_le : ∀ l : List UInt8, runL l ≤ l.length
  | [] => by simp [runL]
  | c :: r => by have := runL_le r; simp only [runL, List.length_cons]; split <;> omega

theorem hd_nil : hd [] = 0 := rfl
theorem hd_cons (c : UInt8) (r : List UInt8) : hd (c :: r) = c.toNat := rfl

theorem tsize_le : ∀ l : List UInt8, tsize l ≤ l.length
  | [] => by simp [tsize]
  | c :: r => by
    have h1 := runL_le r
    simp only [tsize, List.length_cons]
    split
    · omega
    · split
      · omega
      · split
        · omega
        · split
          · rename_i h
            cases r with
            | nil => simp [pairN, hd] at h
            | cons d r => simp
          · split <;> omega

theorem kind_end {l : List UInt8} : kind l = 4 ↔ l = [] := by
  cases l with
  | nil => simp [kind]
  | cons c r =>
    simp only [kind, reduceCtorEq, iff_false]
    repeat' split
    all_goals simp

theorem tsize_pos {l : List UInt8} (h0 : kind l ≠ 0) (h4 : kind l ≠ 4) : 1 ≤ tsize l := by
  cases l with
  | nil => simp [kind] at h4
  | cons c r =>
    simp only [kind, tsize] at *
    split
    · omega
    · split
      · omega
      · split
        · omega
        · split
          · omega
          · split
            · omega
            · simp_all

/-- A token: its kind, its text, its place. -/
structure Tk where
  k : Nat
  x : ByteArray
  p : Nat

/-- The bytes of s from a on. -/
def suf (s : ByteArray) (a : Nat) : List UInt8 := s.data.toList.drop a
/-- The place of the next token from a on; its kind; its size; its text. -/
def pl (s : ByteArray) (a : Nat) : Nat := a + gap false (suf s a)
def kd (s : ByteArray) (a : Nat) : Nat := kind (suf s (pl s a))
def sz (s : ByteArray) (a : Nat) : Nat := tsize (suf s (pl s a))
def tx (s : ByteArray) (a : Nat) : ByteArray := s.extract (pl s a) (pl s a + sz s a)
def tk (s : ByteArray) (a : Nat) : Tk := ⟨kd s a, tx s a, pl s a⟩
def to (s : ByteArray) (a : Nat) : Nat := pl s a + sz s a

theorem suf_length (s : ByteArray) (a : Nat) : (suf s a).length = s.size - a := by
  unfold suf; rw [List.length_drop]; rfl
theorem pl_ge (s : ByteArray) (a : Nat) : a ≤ pl s a := by unfold pl; omega
theorem pl_le {s : ByteArray} {a : Nat} (h : a ≤ s.size) : pl s a ≤ s.size := by
  have := gap_le false (suf s a); rw [suf_length] at this; unfold pl; omega
theorem to_le {s : ByteArray} {a : Nat} (h : a ≤ s.size) : to s a ≤ s.size := by
  have h1 := tsize_le (suf s (pl s a)); rw [suf_length] at h1
  have h2 := pl_le h
  unfold to sz; omega
theorem to_ge (s : ByteArray) (a : Nat) : a ≤ to s a := by have := pl_ge s a; unfold to; omega
theorem to_gt {s : ByteArray} {a : Nat} (h0 : kd s a ≠ 0) (h4 : kd s a ≠ 4) : a < to s a := by
  have h1 := pl_ge s a
  have h2 : 1 ≤ sz s a := tsize_pos h0 h4
  unfold to; omega

theorem suf_lt {s : ByteArray} {a : Nat} (h : a < s.size) : suf s a = s[a] :: suf s (a + 1) := by
  unfold suf
  have h' : a < s.data.toList.length := h
  rw [List.drop_eq_getElem_cons h']
  rfl
theorem suf_ge {s : ByteArray} {a : Nat} (h : s.size ≤ a) : suf s a = [] := List.drop_eq_nil_of_le h

/-- The number of the byte at i, 0 behind the end. -/
def bN (s : ByteArray) (i : Nat) : Nat := hd (suf s i)
theorem bN_lt {s : ByteArray} {i : Nat} (h : i < s.size) : bN s i = (s[i]).toNat := by unfold bN; rw [suf_lt h]; rfl
theorem bN_ge {s : ByteArray} {i : Nat} (h : s.size ≤ i) : bN s i = 0 := by unfold bN; rw [suf_ge h]; rfl
theorem bN_255 (s : ByteArray) (i : Nat) : bN s i ≤ 255 := by
  unfold bN hd
  generalize (suf s i).headD 0 = c
  have := UInt8.toNat_lt c
  omega

/-- The error that stands at a's next token, 0 where none does; good: which texts are numbers. -/
def eC (good : ByteArray → Bool) (s : ByteArray) (a : Nat) : Nat := if kd s a = 0 then 4 else if kd s a = 2 ∧ good (tx s a) = false then 5 else 0

/-- The tokens from a on up to the end or the first error, and the error (0, 0: none). -/
def toks (good : ByteArray → Bool) (s : ByteArray) : Nat → Nat → List Tk × Nat × Nat
  | 0, _ => ([], 0, 0)
  | n + 1, a =>
    if eC good s a ≠ 0 then ([], eC good s a, pl s a)
    else if kd s a = 4 then ([tk s a], 0, 0)
    else (tk s a :: (toks good s n (to s a)).1, (toks good s n (to s a)).2)

theorem eC_kd {good : ByteArray → Bool} {s : ByteArray} {a : Nat} (h : eC good s a = 0) : kd s a ≠ 0 := by
  intro k; simp [eC, k] at h

theorem toks_fuel (good : ByteArray → Bool) (s : ByteArray) : ∀ (n m a : Nat), a ≤ s.size → s.size + 1 - a ≤ n → s.size + 1 - a ≤ m → toks good s n a = toks good s m a
  | 0, _, a, h, hn, _ => by omega
  | _ + 1, 0, a, h, _, hm => by omega
  | n + 1, m + 1, a, h, hn, hm => by
    unfold toks
    by_cases he : eC good s a ≠ 0
    · rw [if_pos he, if_pos he]
    · rw [if_neg he, if_neg he]
      by_cases h4 : kd s a = 4
      · rw [if_pos h4, if_pos h4]
      · rw [if_neg h4, if_neg h4]
        have hg := to_gt (eC_kd (good := good) (by omega)) h4
        rw [toks_fuel good s n m (to s a) (to_le h) (by omega) (by omega)]

/-- .. with as much fuel as it takes. -/
def al (good : ByteArray → Bool) (s : ByteArray) (a : Nat) : List Tk × Nat × Nat := toks good s (s.size + 1 - a) a

theorem al_err {good : ByteArray → Bool} {s : ByteArray} {a : Nat} (h : a ≤ s.size) (he : eC good s a ≠ 0) : al good s a = ([], eC good s a, pl s a) := by
  unfold al
  rw [show s.size + 1 - a = (s.size - a) + 1 by omega]
  unfold toks
  rw [if_pos he]
theorem al_end {good : ByteArray → Bool} {s : ByteArray} {a : Nat} (h : a ≤ s.size) (he : eC good s a = 0) (h4 : kd s a = 4) : al good s a = ([tk s a], 0, 0) := by
  unfold al
  rw [show s.size + 1 - a = (s.size - a) + 1 by omega]
  unfold toks
  rw [if_neg (by omega), if_pos h4]
theorem al_step {good : ByteArray → Bool} {s : ByteArray} {a : Nat} (h : a ≤ s.size) (he : eC good s a = 0) (h4 : kd s a ≠ 4) :
    al good s a = (tk s a :: (al good s (to s a)).1, (al good s (to s a)).2) := by
  have hg := to_gt (eC_kd he) h4
  have ht := to_le h
  unfold al
  rw [show s.size + 1 - a = (s.size - a) + 1 by omega]
  conv => lhs; unfold toks
  rw [if_neg (by omega), if_neg h4, toks_fuel good s (s.size - a) (s.size + 1 - to s a) (to s a) ht (by omega) (by omega)]

/-! Steps of the loops, by places. -/
theorem gap_hash {s : ByteArray} {a : Nat} (h : a < s.size) (hc : bN s a = 35) : gap false (suf s a) = gap true (suf s a) := by
  rw [bN_lt h] at hc
  rw [suf_lt h, gap_t, gap_f, hc]
  rfl
theorem gap_note {s : ByteArray} {a : Nat} (h : a < s.size) (hc : bN s a ≠ 10) : gap true (suf s a) = 1 + gap true (suf s (a + 1)) := by
  rw [bN_lt h] at hc
  have e : ((s[a]).toNat != 10) = true := by simpa using hc
  rw [suf_lt h, gap_t, e]
theorem gap_line {s : ByteArray} {a : Nat} (h : a < s.size) (hc : bN s a = 10) : gap true (suf s a) = gap false (suf s a) := by
  rw [bN_lt h] at hc
  rw [suf_lt h, gap_t, gap_f, hc]
  rfl
theorem gap_blank {s : ByteArray} {a : Nat} (h : a < s.size) (hn : bN s a ≠ 35) (hb : blN (bN s a) = true) : gap false (suf s a) = 1 + gap false (suf s (a + 1)) := by
  rw [bN_lt h] at hn hb
  rw [suf_lt h]
  simp [gap, hn, hb]
theorem gap_stop {s : ByteArray} {a : Nat} (h : a < s.size) (hn : bN s a ≠ 35) (hb : blN (bN s a) = false) : gap false (suf s a) = 0 := by
  rw [bN_lt h] at hn hb
  rw [suf_lt h]
  simp [gap, hn, hb]
theorem gap_over {s : ByteArray} {a : Nat} (b : Bool) (h : s.size ≤ a) : gap b (suf s a) = 0 := by
  rw [suf_ge h]; cases b <;> rfl
theorem run_on {s : ByteArray} {a : Nat} (hw : wordN (bN s a) = true) : runL (suf s a) = 1 + runL (suf s (a + 1)) := by
  rcases Nat.lt_or_ge a s.size with h | h
  · rw [bN_lt h] at hw
    rw [suf_lt h]
    simp [runL, hw]
  · rw [bN_ge h] at hw
    simp [wordN, letN, digN] at hw
theorem run_off {s : ByteArray} {a : Nat} (hw : wordN (bN s a) = false) : runL (suf s a) = 0 := by
  rcases Nat.lt_or_ge a s.size with h | h
  · rw [bN_lt h] at hw
    rw [suf_lt h]
    simp [runL, hw]
  · rw [suf_ge h]; rfl
theorem run_le (s : ByteArray) {a : Nat} (h : a ≤ s.size) : a + runL (suf s a) ≤ s.size := by
  have := runL_le (suf s a); rw [suf_length] at this; omega

theorem kind_at {s : ByteArray} {p : Nat} (h : p < s.size) : kind (suf s p) = if letN (bN s p) then 1 else if digN (bN s p) then 2 else if bN s p == 45 && digN (bN s (p + 1)) then 2
    else if pairN (bN s p) (bN s (p + 1)) then 3 else if oneN (bN s p) then 3 else 0 := by
  rw [bN_lt h, suf_lt h]; rfl
theorem tsize_at {s : ByteArray} {p : Nat} (h : p < s.size) : tsize (suf s p) = if letN (bN s p) then 1 + runL (suf s (p + 1)) else if digN (bN s p) then 1 + runL (suf s (p + 1)) else if bN s p == 45 && digN (bN s (p + 1)) then 1 + runL (suf s (p + 1))
    else if pairN (bN s p) (bN s (p + 1)) then 2 else if oneN (bN s p) then 1 else 0 := by
  rw [bN_lt h, suf_lt h]; rfl
end Go.Proofs.YtacflahkofmcpaaGreatDoor
