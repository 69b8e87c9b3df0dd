/- Comparisons that tell one order, in plain Lean. Of no memory. -/
import Derived.Test.YtioiabfheeglgaaGreatDoorProg
import Derived.WalkKit
import Derived.WalkSpells
import Derived.WalkLawsBesides
import Derived.WalkSmall
import Derived.OneCell
import Derived.Below
import Derived.IntWalk
namespace Go.Proofs.YtioiabfheeglgaaGreatDoor

/-- Two numbers, held against each other: below 0, 0, above 0. -/
def cmpI (a b : Int) : Int := if a < b then -1 else if b < a then 1 else 0
/-- Rows: the first that are unlike tell; else the one that ends first is less. -/
def lexC {α : Type} (f : α → α → Int) : List α → List α → Int
 | [], [] => 0
 | [], _ :: _ => -1
 | _ :: _, [] => 1
 | x :: L, y :: M => if f x y = 0 then lexC f L M else f x y
/-- The first that is not 0. -/
def orN : List Int → Int
 | [] => 0
 | x :: L => if x = 0 then orN L else x

/-- A comparison that tells one order. -/
structure Ord3 {α : Type} (f : α → α → Int) : Prop where
 val : ∀ x y, f x y = -1 ∨ f x y = 0 ∨ f x y = 1
 eq : ∀ x y, f x y = 0 ↔ x = y
 anti : ∀ x y, f y x = - f x y
 trans : ∀ x y z, f x y < 0 → f y z < 0 → f x z < 0
theorem Ord3.self {α : Type} {f : α → α → Int} (h : Ord3 f) (x : α) : f x x = 0 := (h.eq x x).2 rfl
theorem ord_int : Ord3 cmpI := by
 refine ⟨fun x y => ?_, fun x y => ?_, fun x y => ?_, fun x y z h k => ?_⟩ <;> unfold cmpI at *
 ·
  split <;> (try split) <;> omega
 ·
  split <;> (try split) <;> omega
 ·
  split <;> split <;> (try split) <;> (try split) <;> omega
 ·
  split at h
  ·
   split at k
   ·
    rw [if_pos (by omega)]; omega
   ·
    split at k <;> omega
  ·
   split at h <;> omega
theorem ord_lex {α : Type} {f : α → α → Int} (h : Ord3 f) : Ord3 (lexC f) := by
 refine ⟨?_, ?_, ?_, ?_⟩
 ·
  intro x
  induction x with
  | nil => intro y; cases y <;> simp [lexC]
  | cons a x ih =>
   intro y
   cases y with
   | nil => simp [lexC]
   | cons b y =>
    unfold lexC
    split
    ·
     exact ih y
    ·
     exact h.val a b
 ·
  intro x
  induction x with
  | nil => intro y; cases y <;> simp [lexC]
  | cons a x ih =>
   intro y
   cases y with
   | nil => simp [lexC]
   | cons b y =>
    unfold lexC
    by_cases e : f a b = 0
    ·
     rw [if_pos e, ih y, (h.eq a b).1 e]; simp
    ·
     rw [if_neg e]
     constructor
     ·
      intro e'; exact absurd e' e
     ·
      intro e'
      simp only [List.cons.injEq] at e'
      exact absurd ((h.eq a b).2 e'.1) e
 ·
  intro x
  induction x with
  | nil => intro y; cases y <;> simp [lexC]
  | cons a x ih =>
   intro y
   cases y with
   | nil => simp [lexC]
   | cons b y =>
    unfold lexC
    have := h.anti a b
    by_cases e : f a b = 0
    ·
     rw [if_pos e, if_pos (by omega)]; exact ih y
    ·
     rw [if_neg e, if_neg (by omega)]; exact this
 ·
  intro x
  induction x with
  | nil =>
   intro y z hxy hyz
   cases z with
   | nil => cases y with
    | nil => simp [lexC] at hxy
    | cons b y => simp [lexC] at hyz
   | cons c z => simp [lexC]
  | cons a x ih =>
   intro y z hxy hyz
   cases y with
   | nil => simp [lexC] at hxy
   | cons b y =>
    cases z with
    | nil => simp [lexC] at hyz
    | cons c z =>
     unfold lexC at hxy hyz ⊢
     by_cases e1 : f a b = 0
     ·
      obtain rfl := (h.eq a b).1 e1
      rw [if_pos e1] at hxy
      by_cases e2 : f a c = 0
      ·
       rw [if_pos e2] at hyz ⊢
       exact ih y z hxy hyz
      ·
       rw [if_neg e2] at hyz ⊢
       exact hyz
     ·
      rw [if_neg e1] at hxy
      by_cases e2 : f b c = 0
      ·
       obtain rfl := (h.eq b c).1 e2
       rw [if_neg e1]; exact hxy
      ·
       rw [if_neg e2] at hyz
       have := h.trans a b c hxy hyz
       rw [if_neg (by omega)]; exact this
/-- Two comparisons, one behind the other. -/
theorem ord_pair {α β γ : Type} {f : α → α → Int} {g : β → β → Int} (hf : Ord3 f) (hg : Ord3 g) (p : γ → α) (q : γ → β) (hpq : ∀ x y, p x = p y → q x = q y → x = y) : Ord3 (fun x y => if f (p x) (p y) = 0 then g (q x) (q y) else f (p x) (p y)) := by
 refine ⟨fun x y => ?_, fun x y => ?_, fun x y => ?_, fun x y z h k => ?_⟩
 ·
  split
  ·
   exact hg.val _ _
  ·
   exact hf.val _ _
 ·
  by_cases e : f (p x) (p y) = 0
  ·
   rw [if_pos e, hg.eq]
   exact ⟨fun e' => hpq x y ((hf.eq _ _).1 e) e', fun e' => by rw [e']⟩
  ·
   rw [if_neg e]
   exact ⟨fun e' => absurd e' e, fun e' => absurd (by rw [e']; exact hf.self _) e⟩
 ·
  have := hf.anti (p x) (p y)
  by_cases e : f (p x) (p y) = 0
  ·
   rw [if_pos e, if_pos (by omega)]; exact hg.anti _ _
  ·
   rw [if_neg e, if_neg (by omega)]; exact this
 ·
  by_cases e1 : f (p x) (p y) = 0
  ·
   rw [if_pos e1] at h
   have e1' := (hf.eq _ _).1 e1
   rw [e1']
   by_cases e2 : f (p y) (p z) = 0
   ·
    rw [if_pos e2] at k ⊢
    exact hg.trans _ _ _ h k
   ·
    rw [if_neg e2] at k ⊢
    exact k
  ·
   rw [if_neg e1] at h
   by_cases e2 : f (p y) (p z) = 0
   ·
    have e2' := (hf.eq _ _).1 e2
    rw [← e2', if_neg e1]; exact h
   ·
    rw [if_neg e2] at k
    have := hf.trans _ _ _ h k
    rw [if_neg (by omega)]; exact this
end Go.Proofs.YtioiabfheeglgaaGreatDoor

namespace Go.Proofs.YtioiabfheeglgaaGreatDoor

/-- An end: four registers of four threads, then memory: twenty numbers of 64 bits. -/
abbrev FinT := {l : List Int // l.length = 20 ∧ ∀ z ∈ l, -9223372036854775808 ≤ z ∧ z ≤ 9223372036854775807}
def FinT.l (f : FinT) : List Int := f.1
theorem FinT.h (f : FinT) : f.l.length = 20 := f.2.1
theorem FinT.b (f : FinT) : ∀ z ∈ f.l, -9223372036854775808 ≤ z ∧ z ≤ 9223372036854775807 := f.2.2
theorem FinT.at (f : FinT) {k : Nat} (h : k < 20) : ∃ x, f.l[k]? = some x := ⟨_, List.getElem?_eq_getElem (by rw [f.h]; exact h)⟩
theorem FinT.ext {a b : FinT} (h : a.l = b.l) : a = b := Subtype.ext h
theorem FinT.ext_iff' {a b : FinT} : a.l = b.l ↔ a = b := ⟨FinT.ext, fun h => by rw [h]⟩
def finZ : FinT := ⟨List.replicate 20 0, rfl, fun z hz => by rw [(List.mem_replicate.1 hz).2]; omega⟩
/-- The one that stands ahead. -/
def finCmp (a b : FinT) : Int := lexC cmpI a.l b.l
theorem ord_fin : Ord3 finCmp := by
 have h := ord_lex ord_int
 exact ⟨fun x y => h.val _ _, fun x y => (h.eq _ _).trans FinT.ext_iff', fun x y => h.anti _ _, fun x y z => h.trans _ _ _⟩

/-- Rows of one length: the first four, then the rest. -/
theorem lex_cut {α : Type} (f : α → α → Int) : ∀ (k : Nat) (L M : List α), L.length = M.length → k ≤ L.length →
  lexC f L M = if lexC f (L.take k) (M.take k) = 0 then lexC f (L.drop k) (M.drop k) else lexC f (L.take k) (M.take k)
 | 0, L, M, _, _ => by simp [lexC]
 | k + 1, [], M, _, hk => by simp at hk
 | k + 1, x :: L, [], h, _ => by simp at h
 | k + 1, x :: L, y :: M, h, hk => by
  simp only [List.take_succ_cons, List.drop_succ_cons, lexC]
  by_cases e : f x y = 0
  ·
   rw [if_pos e, if_pos e]
   exact lex_cut f k L M (by simpa using h) (by simpa using hk)
  ·
   rw [if_neg e, if_neg e, if_neg e]

/-- Rising, each once. -/
def Ris (L : List FinT) : Prop := L.Pairwise (fun a b => finCmp a b < 0)
theorem Ris.nil : Ris [] := List.Pairwise.nil
theorem fin_lt_irr (a : FinT) : ¬ finCmp a a < 0 := by rw [ord_fin.self]; omega
theorem fin_asym {a b : FinT} (h : finCmp a b < 0) : ¬ finCmp b a < 0 := by rw [ord_fin.anti a b]; omega
theorem ris_ext : ∀ {L M : List FinT}, Ris L → Ris M → (∀ x, x ∈ L ↔ x ∈ M) → L = M
 | [], [], _, _, _ => rfl
 | [], y :: M, _, _, h => absurd ((h y).2 (List.mem_cons_self)) (by simp)
 | x :: L, [], _, _, h => absurd ((h x).1 (List.mem_cons_self)) (by simp)
 | x :: L, y :: M, hL, hM, h => by
  have hL' := List.pairwise_cons.1 hL
  have hM' := List.pairwise_cons.1 hM
  have e : x = y := by
   rcases List.mem_cons.1 ((h x).1 List.mem_cons_self) with e | e
   ·
    exact e
   ·
    rcases List.mem_cons.1 ((h y).2 List.mem_cons_self) with e' | e'
    ·
     exact e'.symm
    ·
     exact absurd (hL'.1 y e') (fin_asym (hM'.1 x e))
  subst e
  have : L = M := ris_ext hL'.2 hM'.2 fun z => by
   constructor
   ·
    intro hz
    rcases List.mem_cons.1 ((h z).1 (List.mem_cons_of_mem _ hz)) with e | e
    ·
     exact absurd (hL'.1 z hz) (by rw [e]; exact fin_lt_irr _)
    ·
     exact e
   ·
    intro hz
    rcases List.mem_cons.1 ((h z).2 (List.mem_cons_of_mem _ hz)) with e | e
    ·
     exact absurd (hM'.1 z hz) (by rw [e]; exact fin_lt_irr _)
    ·
     exact e
  rw [this]
theorem pw_map {α : Type} {R S : α → α → Prop} (h : ∀ a b, R a b → S a b) : ∀ {L : List α}, L.Pairwise R → L.Pairwise S
 | [], _ => List.Pairwise.nil
 | a :: L, hp => by
  have hp' := List.pairwise_cons.1 hp
  exact List.pairwise_cons.2 ⟨fun b hb => h a b (hp'.1 b hb), pw_map h hp'.2⟩
theorem pw_both {α : Type} {R S : α → α → Prop} : ∀ {L : List α}, L.Pairwise R → L.Pairwise S → L.Pairwise (fun a b => R a b ∧ S a b)
 | [], _, _ => List.Pairwise.nil
 | a :: L, hp, hq => by
  have hp' := List.pairwise_cons.1 hp
  have hq' := List.pairwise_cons.1 hq
  exact List.pairwise_cons.2 ⟨fun b hb => ⟨hp'.1 b hb, hq'.1 b hb⟩, pw_both hp'.2 hq'.2⟩
theorem Ris.nodup {L : List FinT} (h : Ris L) : L.Nodup := pw_map (fun a b hab e => by rw [e] at hab; exact fin_lt_irr _ hab) h
theorem Ris.filter {L : List FinT} (h : Ris L) (p : FinT → Bool) : Ris (L.filter p) := List.Pairwise.filter p h
/-- A list with an end at its place, once. -/
def putF : List FinT → FinT → List FinT
 | [], x => [x]
 | y :: L, x => if finCmp y x < 0 then y :: putF L x else if x = y then y :: L else x :: y :: L
theorem mem_putF : ∀ (L : List FinT) (x z : FinT), z ∈ putF L x ↔ z = x ∨ z ∈ L
 | [], x, z => by simp [putF]
 | y :: L, x, z => by
  unfold putF
  split
  ·
   rw [List.mem_cons, mem_putF L x z, List.mem_cons]
   constructor
   ·
    rintro (h | h | h)
    ·
     exact Or.inr (Or.inl h)
    ·
     exact Or.inl h
    ·
     exact Or.inr (Or.inr h)
   ·
    rintro (h | h | h)
    ·
     exact Or.inr (Or.inl h)
    ·
     exact Or.inl h
    ·
     exact Or.inr (Or.inr h)
  ·
   split
   ·
    rename_i e
    subst e
    simp
   ·
    simp
theorem ris_putF : ∀ (L : List FinT) (x : FinT), Ris L → Ris (putF L x)
 | [], x, _ => List.pairwise_singleton _ _
 | y :: L, x, h => by
  have h' := List.pairwise_cons.1 h
  unfold putF
  split
  ·
   rename_i e
   refine List.pairwise_cons.2 ⟨fun z hz => ?_, ris_putF L x h'.2⟩
   rcases (mem_putF L x z).1 hz with rfl | hz
   ·
    exact e
   ·
    exact h'.1 z hz
  ·
   split
   ·
    exact h
   ·
    rename_i e1 e2
    have hxy : finCmp x y < 0 := by
     have h3 := ord_fin.anti y x
     have h4 : ¬ finCmp x y = 0 := fun e => e2 ((ord_fin.eq x y).1 e)
     omega
    refine List.pairwise_cons.2 ⟨fun z hz => ?_, h⟩
    rcases List.mem_cons.1 hz with rfl | hz
    ·
     exact hxy
    ·
     exact ord_fin.trans _ _ _ hxy (h'.1 z hz)
end Go.Proofs.YtioiabfheeglgaaGreatDoor

namespace Go.Proofs.YtioiabfheeglgaaGreatDoor
open Go.RowKit

/-- Short names of what the steps of drawn regions rewrite by. -/
theorem zpu (a : Act) (t : Option Tmp) (v : Value) : a.put t v = (match t with | some d => { a with tmps := a.tmps.setIfInBounds d v } | none => a) := rfl
theorem zsa {α : Type} (l : List α) (i : Nat) (x : α) : l.toArray.setIfInBounds i x = (l.set i x).toArray := List.setIfInBounds_toArray ..
theorem zsz {α : Type} (a b : α) (l : List α) : (a :: l).set 0 b = b :: l := rfl
theorem zss {α : Type} (a b : α) (l : List α) (n : Nat) : (a :: l).set (n + 1) b = a :: l.set n b := rfl
/-- The world has grown; nothing that was there has turned. -/
def On (w w' : World) : Prop := Below w.heap.size w w'
theorem On.refl (w : World) : On w w := Below.refl _ _
theorem On.trans {a b c : World} (h : On a b) (k : On b c) : On a c := Below.trans h (Below.mono k h.size)
theorem On.alloc {w w' : World} (h : On w w') (o : Obj) : On w (w'.alloc o) := Below.alloc h h.size o
theorem On.setNew {w x : World} {N i : Nat} (h : On w x) (hN : w.heap.size ≤ N) (u : Value) : On w (x.setCell ⟨N, i, none⟩ u) := Below.setCell h hN u
theorem On.drewN {w w' : World} (h : On w w') (n : Nat) : On w (w'.drewN n) := ⟨h.os, h.tape, h.output, h.size, h.block⟩
theorem On.drew {w x : World} (h : On w x) : On w x.drew := Below.drew h

/-- Block N holds these cells. -/
def Bk (w : World) (N : Nat) (cs : Array Value) : Prop := ∃ T, w.heap[N]? = some (.cells cs T (0, 0))
section
variable {w w' : World} {N : Nat} {cs : Array Value}
theorem Bk.new (w : World) (cs : Array Value) (T : TypeId) : Bk (w.alloc (.cells cs T)) w.heap.size cs := ⟨T, heap_alloc_new w _⟩
theorem Bk.alloc (h : Bk w N cs) (o : Obj) : Bk (w.alloc o) N cs := by
 obtain ⟨T, e⟩ := h
 exact ⟨T, (Below.heap_alloc _ _ _ (lt_of_block e)).trans e⟩
theorem Bk.lt (h : Bk w N cs) : N < w.heap.size := by obtain ⟨T, e⟩ := h; exact lt_of_block e
theorem Bk.at {i : Nat} {v : Value} (h : Bk w N cs) (hv : cs[i]? = some v) : w.cell? ⟨N, i, none⟩ = some v := by obtain ⟨T, e⟩ := h; simp [World.cell?, e, hv]
theorem Bk.fr (h : Bk w N cs) (i : Nat) : w.frozen? ⟨N, i, none⟩ = false := by obtain ⟨T, e⟩ := h; simp [World.frozen?, e]
theorem Bk.on (h : Bk w N cs) (k : On w w') : Bk w' N cs := by
 obtain ⟨T, e⟩ := h
 exact ⟨T, (k.block N (lt_of_block e)).trans e⟩
end
end Go.Proofs.YtioiabfheeglgaaGreatDoor

namespace Go.Proofs.YtioiabfheeglgaaGreatDoor

structure Opd where
 r : Int
 v : Int
structure InsT where
 k : Int
 r : Int
 l : Int
 a : Opd
 o : Int
 b : Opd
 n : Int
structure AtomT where
 t : Int
 r : Int
 l : Int
 v : Int
structure InitT where
 l : Int
 v : Int
structure CondT where
 k : Int
 any : List (List AtomT)
structure TestT where
 name : ByteArray
 ini : List InitT
 thr : List (List InsT)
 cond : CondT

def regOk (n : Int) : Bool := decide (0 ≤ n) && decide (n ≤ 3)
def locOk (n : Int) : Bool := decide (97 ≤ n) && decide (n ≤ 122)
def opdOk (o : Opd) : Bool := o.r == -1 || (o.v == 0 && regOk o.r)
def signOk (n : Int) : Bool := decide (1 ≤ n) && decide (n ≤ 11)
def secOk (op : Int) (b : Opd) : Bool := if op == 0 then b.r == -1 && b.v == 0 else signOk op && opdOk b
/-- An instruction that may be. -/
def insOk (i : InsT) : Bool :=
 if i.k == 1 then (i.r == 0 && i.o == 0 && i.b.r == 0 && i.b.v == 0 && i.n == 0) && locOk i.l && opdOk i.a
 else if i.k == 2 then (i.a.r == 0 && i.a.v == 0 && i.o == 0 && i.b.r == 0 && i.b.v == 0 && i.n == 0) && regOk i.r && locOk i.l
 else if i.k == 3 then i.r == 0 && i.l == 0 && i.a.r == 0 && i.a.v == 0 && i.o == 0 && i.b.r == 0 && i.b.v == 0 && i.n == 0
 else if i.k == 4 then (i.o == 0 && i.n == 0) && regOk i.r && locOk i.l && opdOk i.a && opdOk i.b
 else if i.k == 5 then (i.l == 0 && i.n == 0) && regOk i.r && opdOk i.a && secOk i.o i.b
 else if i.k == 6 then (i.r == 0 && i.l == 0 && i.o == 0) && decide (0 ≤ i.n) && opdOk i.a && opdOk i.b
 else false
def atomOk (x : AtomT) : Bool := if x.t == -1 then x.r == 0 && locOk x.l else x.l == 0 && decide (0 ≤ x.t) && decide (x.t ≤ 9) && regOk x.r
def initOk (x : InitT) : Bool := locOk x.l
def threadOk (L : List InsT) : Bool := L.all insOk
def rowOk (L : List AtomT) : Bool := decide (0 < L.length) && L.all atomOk
def condOk (c : CondT) : Bool := if c.k == 0 then c.any.length == 0 else if c.k == 1 || c.k == 2 then decide (0 < c.any.length) && c.any.all rowOk else false
/-- A byte of a word, at a place. -/
def chOk (i : Nat) (c : UInt8) : Bool := locOk c.toNat || (decide (0 < i) && (decide (48 ≤ c.toNat) && decide (c.toNat ≤ 57)))
def chsOk : Nat → List UInt8 → Bool
 | _, [] => true
 | i, c :: r => chOk i c && chsOk (i + 1) r
def wordOk (s : ByteArray) : Bool := chsOk 0 s.data.toList && decide (0 < s.size)
/-- A test that may be. -/
def testOk (t : TestT) : Bool := wordOk t.name && t.ini.all initOk && t.thr.all threadOk && condOk t.cond

/-- Letters as bits. -/
def withL (n : Nat) (l : Int) : Nat := if 97 ≤ l ∧ l ≤ 122 then n ||| 2 ^ (l - 97).toNat else n
def locIni (n : Nat) (L : List InitT) : Nat := L.foldl (fun n x => withL n x.l) n
def locRow (n : Nat) (L : List InsT) : Nat := L.foldl (fun n x => withL n x.l) n
def locThr (n : Nat) (LL : List (List InsT)) : Nat := LL.foldl locRow n
def locAts (n : Nat) (L : List AtomT) : Nat := L.foldl (fun n x => withL n x.l) n
def locAny (n : Nat) (LL : List (List AtomT)) : Nat := LL.foldl locAts n
def locsN (t : TestT) : Nat := locAny (locThr (locIni 0 t.ini) t.thr) t.cond.any
/-- How many letters, and which, rising. -/
def cntN (n : Nat) : Nat := ((List.range 26).filter (fun i => n.testBit i)).length
def lettersN (n : Nat) : List UInt8 := ((List.range 26).filter (fun i => n.testBit i)).map (fun i => UInt8.ofNat (97 + i))

def sumL (LL : List (List InsT)) : Nat := LL.foldl (fun n L => n + L.length) 0
def thrBig (LL : List (List InsT)) : Bool := (LL.length == 0 || decide (4 < LL.length)) || (LL.any (fun L => decide (10 < L.length)) || decide (24 < sumL LL))
def condBig (LL : List (List AtomT)) : Bool := LL.any (fun L => decide (8 < L.length)) || decide (8 < LL.length)
def bigT (t : TestT) : Bool := decide (20 < t.name.size) || thrBig t.thr || decide (4 < cntN (locsN t)) || condBig t.cond.any
def twiceFrom : Nat → List InitT → Bool
 | _, [] => false
 | n, x :: r => if withL n x.l == n then true else twiceFrom (withL n x.l) r
def skipBad : List InsT → Bool
 | [] => false
 | x :: r => (x.k == 6 && (x.n == 0 || decide ((r.length : Int) < x.n))) || skipBad r
def farAtom (m : Nat) (x : AtomT) : Bool := decide ((m : Int) ≤ x.t)
def nowhere (t : TestT) : Bool := t.thr.any skipBad || t.cond.any.any (fun L => L.any (farAtom t.thr.length))
/-- What Check tells. -/
def checkT (t : TestT) : Int := if testOk t then (if bigT t then 8 else if twiceFrom 0 t.ini then 9 else if nowhere t then 10 else 0) else 1
end Go.Proofs.YtioiabfheeglgaaGreatDoor
