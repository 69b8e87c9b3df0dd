/- Comparisons that tell one order, in plain Lean. Of no memory. -/
import Derived.Test.YtcfohakgokiedaaGreatDoorProg
namespace Go.Proofs.YtcfohakgokiedaaGreatDoor

/-- Two numbers, held against each other: below 0, 0, above 0. -/
def cmpI (a b : Int) : Int := if a < b then -1 else if b < a then 1 else 0
/-- Rows: the first that are unlike tell; else the one that ends first is less. -/
def lexC {α : Type} (f : α → α → Int) : List α → List α → Int
 | [], [] => 0
 | [], _ :: _ => -1
 | _ :: _, [] => 1
 | x :: L, y :: M => if f x y = 0 then lexC f L M else f x y
/-- The first that is not 0. -/
def orN : List Int → Int
 | [] => 0
 | x :: L => if x = 0 then orN L else x

/-- A comparison that tells one order. -/
structure Ord3 {α : Type} (f : α → α → Int) : Prop where
 val : ∀ x y, f x y = -1 ∨ f x y = 0 ∨ f x y = 1
 eq : ∀ x y, f x y = 0 ↔ x = y
 anti : ∀ x y, f y x = - f x y
 trans : ∀ x y z, f x y < 0 → f y z < 0 → f x z < 0
theorem Ord3.self {α : Type} {f : α → α → Int} (h : Ord3 f) (x : α) : f x x = 0 := (h.eq x x).2 rfl
theorem ord_int : Ord3 cmpI := by
 refine ⟨fun x y => ?_, fun x y => ?_, fun x y => ?_, fun x y z h k => ?_⟩ <;> unfold cmpI at *
 ·
  split <;> (try split) <;> omega
 ·
  split <;> (try split) <;> omega
 ·
  split <;> split <;> (try split) <;> (try split) <;> omega
 ·
  split at h
  ·
   split at k
   ·
    rw [if_pos (by omega)]; omega
   ·
    split at k <;> omega
  ·
   split at h <;> omega
theorem ord_lex {α : Type} {f : α → α → Int} (h : Ord3 f) : Ord3 (lexC f) := by
 refine ⟨?_, ?_, ?_, ?_⟩
 ·
  intro x
  induction x with
  | nil => intro y; cases y <;> simp [lexC]
  | cons a x ih =>
   intro y
   cases y with
   | nil => simp [lexC]
   | cons b y =>
    unfold lexC
    split
    ·
     exact ih y
    ·
     exact h.val a b
 ·
  intro x
  induction x with
  | nil => intro y; cases y <;> simp [lexC]
  | cons a x ih =>
   intro y
   cases y with
   | nil => simp [lexC]
   | cons b y =>
    unfold lexC
    by_cases e : f a b = 0
    ·
     rw [if_pos e, ih y, (h.eq a b).1 e]; simp
    ·
     rw [if_neg e]
     constructor
     ·
      intro e'; exact absurd e' e
     ·
      intro e'
      simp only [List.cons.injEq] at e'
      exact absurd ((h.eq a b).2 e'.1) e
 ·
  intro x
  induction x with
  | nil => intro y; cases y <;> simp [lexC]
  | cons a x ih =>
   intro y
   cases y with
   | nil => simp [lexC]
   | cons b y =>
    unfold lexC
    have := h.anti a b
    by_cases e : f a b = 0
    ·
     rw [if_pos e, if_pos (by omega)]; exact ih y
    ·
     rw [if_neg e, if_neg (by omega)]; exact this
 ·
  intro x
  induction x with
  | nil =>
   intro y z hxy hyz
   cases z with
   | nil => cases y with
    | nil => simp [lexC] at hxy
    | cons b y => simp [lexC] at hyz
   | cons c z => simp [lexC]
  | cons a x ih =>
   intro y z hxy hyz
   cases y with
   | nil => simp [lexC] at hxy
   | cons b y =>
    cases z with
    | nil => simp [lexC] at hyz
    | cons c z =>
     unfold lexC at hxy hyz ⊢
     by_cases e1 : f a b = 0
     ·
      obtain rfl := (h.eq a b).1 e1
      rw [if_pos e1] at hxy
      by_cases e2 : f a c = 0
      ·
       rw [if_pos e2] at hyz ⊢
       exact ih y z hxy hyz
      ·
       rw [if_neg e2] at hyz ⊢
       exact hyz
     ·
      rw [if_neg e1] at hxy
      by_cases e2 : f b c = 0
      ·
       obtain rfl := (h.eq b c).1 e2
       rw [if_neg e1]; exact hxy
      ·
       rw [if_neg e2] at hyz
       have := h.trans a b c hxy hyz
       rw [if_neg (by omega)]; exact this
/-- Two comparisons, one behind the other. -/
theorem ord_pair {α β γ : Type} {f : α → α → Int} {g : β → β → Int} (hf : Ord3 f) (hg : Ord3 g) (p : γ → α) (q : γ → β) (hpq : ∀ x y, p x = p y → q x = q y → x = y) : Ord3 (fun x y => if f (p x) (p y) = 0 then g (q x) (q y) else f (p x) (p y)) := by
 refine ⟨fun x y => ?_, fun x y => ?_, fun x y => ?_, fun x y z h k => ?_⟩
 ·
  split
  ·
   exact hg.val _ _
  ·
   exact hf.val _ _
 ·
  by_cases e : f (p x) (p y) = 0
  ·
   rw [if_pos e, hg.eq]
   exact ⟨fun e' => hpq x y ((hf.eq _ _).1 e) e', fun e' => by rw [e']⟩
  ·
   rw [if_neg e]
   exact ⟨fun e' => absurd e' e, fun e' => absurd (by rw [e']; exact hf.self _) e⟩
 ·
  have := hf.anti (p x) (p y)
  by_cases e : f (p x) (p y) = 0
  ·
   rw [if_pos e, if_pos (by omega)]; exact hg.anti _ _
  ·
   rw [if_neg e, if_neg (by omega)]; exact this
 ·
  by_cases e1 : f (p x) (p y) = 0
  ·
   rw [if_pos e1] at h
   have e1' := (hf.eq _ _).1 e1
   rw [e1']
   by_cases e2 : f (p y) (p z) = 0
   ·
    rw [if_pos e2] at k ⊢
    exact hg.trans _ _ _ h k
   ·
    rw [if_neg e2] at k ⊢
    exact k
  ·
   rw [if_neg e1] at h
   by_cases e2 : f (p y) (p z) = 0
   ·
    have e2' := (hf.eq _ _).1 e2
    rw [← e2', if_neg e1]; exact h
   ·
    rw [if_neg e2] at k
    have := hf.trans _ _ _ h k
    rw [if_neg (by omega)]; exact this
end Go.Proofs.YtcfohakgokiedaaGreatDoor

namespace Go.Proofs.YtcfohakgokiedaaGreatDoor

/-- An end: four registers of four threads, then memory: twenty numbers of 64 bits. -/
abbrev FinT := {l : List Int // l.length = 20 ∧ ∀ z ∈ l, -9223372036854775808 ≤ z ∧ z ≤ 9223372036854775807}
def FinT.l (f : FinT) : List Int := f.1
theorem FinT.h (f : FinT) : f.l.length = 20 := f.2.1
theorem FinT.b (f : FinT) : ∀ z ∈ f.l, -9223372036854775808 ≤ z ∧ z ≤ 9223372036854775807 := f.2.2
theorem FinT.at (f : FinT) {k : Nat} (h : k < 20) : ∃ x, f.l[k]? = some x := ⟨_, List.getElem?_eq_getElem (by rw [f.h]; exact h)⟩
theorem FinT.ext {a b : FinT} (h : a.l = b.l) : a = b := Subtype.ext h
theorem FinT.ext_iff' {a b : FinT} : a.l = b.l ↔ a = b := ⟨FinT.ext, fun h => by rw [h]⟩
def finZ : FinT := ⟨List.replicate 20 0, rfl, fun z hz => by rw [(List.mem_replicate.1 hz).2]; omega⟩
/-- The one that stands ahead. -/
def finCmp (a b : FinT) : Int := lexC cmpI a.l b.l
theorem ord_fin : Ord3 finCmp := by
 have h := ord_lex ord_int
 exact ⟨fun x y => h.val _ _, fun x y => (h.eq _ _).trans FinT.ext_iff', fun x y => h.anti _ _, fun x y z => h.trans _ _ _⟩

/-- Rows of one length: the first four, then the rest. -/
theorem lex_cut {α : Type} (f : α → α → Int) : ∀ (k : Nat) (L M : List α), L.length = M.length → k ≤ L.length →
  lexC f L M = if lexC f (L.take k) (M.take k) = 0 then lexC f (L.drop k) (M.drop k) else lexC f (L.take k) (M.take k)
 | 0, L, M, _, _ => by simp [lexC]
 | k + 1, [], M, _, hk => by simp at hk
 | k + 1, x :: L, [], h, _ => by simp at h
 | k + 1, x :: L, y :: M, h, hk => by
  simp only [List.take_succ_cons, List.drop_succ_cons, lexC]
  by_cases e : f x y = 0
  ·
   rw [if_pos e, if_pos e]
   exact lex_cut f k L M (by simpa using h) (by simpa using hk)
  ·
   rw [if_neg e, if_neg e, if_neg e]

/-- Rising, each once. -/
def Ris (L : List FinT) : Prop := L.Pairwise (fun a b => finCmp a b < 0)
theorem Ris.nil : Ris [] := List.Pairwise.nil
theorem fin_lt_irr (a : FinT) : ¬ finCmp a a < 0 := by rw [ord_fin.self]; omega
theorem fin_asym {a b : FinT} (h : finCmp a b < 0) : ¬ finCmp b a < 0 := by rw [ord_fin.anti a b]; omega
theorem ris_ext : ∀ {L M : List FinT}, Ris L → Ris M → (∀ x, x ∈ L ↔ x ∈ M) → L = M
 | [], [], _, _, _ => rfl
 | [], y :: M, _, _, h => absurd ((h y).2 (List.mem_cons_self)) (by simp)
 | x :: L, [], _, _, h => absurd ((h x).1 (List.mem_cons_self)) (by simp)
 | x :: L, y :: M, hL, hM, h => by
  have hL' := List.pairwise_cons.1 hL
  have hM' := List.pairwise_cons.1 hM
  have e : x = y := by
   rcases List.mem_cons.1 ((h x).1 List.mem_cons_self) with e | e
   ·
    exact e
   ·
    rcases List.mem_cons.1 ((h y).2 List.mem_cons_self) with e' | e'
    ·
     exact e'.symm
    ·
     exact absurd (hL'.1 y e') (fin_asym (hM'.1 x e))
  subst e
  have : L = M := ris_ext hL'.2 hM'.2 fun z => by
   constructor
   ·
    intro hz
    rcases List.mem_cons.1 ((h z).1 (List.mem_cons_of_mem _ hz)) with e | e
    ·
     exact absurd (hL'.1 z hz) (by rw [e]; exact fin_lt_irr _)
    ·
     exact e
   ·
    intro hz
    rcases List.mem_cons.1 ((h z).2 (List.mem_cons_of_mem _ hz)) with e | e
    ·
     exact absurd (hM'.1 z hz) (by rw [e]; exact fin_lt_irr _)
    ·
     exact e
  rw [this]
theorem pw_map {α : Type} {R S : α → α → Prop} (h : ∀ a b, R a b → S a b) : ∀ {L : List α}, L.Pairwise R → L.Pairwise S
 | [], _ => List.Pairwise.nil
 | a :: L, hp => by
  have hp' := List.pairwise_cons.1 hp
  exact List.pairwise_cons.2 ⟨fun b hb => h a b (hp'.1 b hb), pw_map h hp'.2⟩
theorem pw_both {α : Type} {R S : α → α → Prop} : ∀ {L : List α}, L.Pairwise R → L.Pairwise S → L.Pairwise (fun a b => R a b ∧ S a b)
 | [], _, _ => List.Pairwise.nil
 | a :: L, hp, hq => by
  have hp' := List.pairwise_cons.1 hp
  have hq' := List.pairwise_cons.1 hq
  exact List.pairwise_cons.2 ⟨fun b hb => ⟨hp'.1 b hb, hq'.1 b hb⟩, pw_both hp'.2 hq'.2⟩
theorem Ris.nodup {L : List FinT} (h : Ris L) : L.Nodup := pw_map (fun a b hab e => by rw [e] at hab; exact fin_lt_irr _ hab) h
theorem Ris.filter {L : List FinT} (h : Ris L) (p : FinT → Bool) : Ris (L.filter p) := List.Pairwise.filter p h
/-- A list with an end at its place, once. -/
def putF : List FinT → FinT → List FinT
 | [], x => [x]
 | y :: L, x => if finCmp y x < 0 then y :: putF L x else if x = y then y :: L else x :: y :: L
theorem mem_putF : ∀ (L : List FinT) (x z : FinT), z ∈ putF L x ↔ z = x ∨ z ∈ L
 | [], x, z => by simp [putF]
 | y :: L, x, z => by
  unfold putF
  split
  ·
   rw [List.mem_cons, mem_putF L x z, List.mem_cons]
   constructor
   ·
    rintro (h | h | h)
    ·
     exact Or.inr (Or.inl h)
    ·
     exact Or.inl h
    ·
     exact Or.inr (Or.inr h)
   ·
    rintro (h | h | h)
    ·
     exact Or.inr (Or.inl h)
    ·
     exact Or.inl h
    ·
     exact Or.inr (Or.inr h)
  ·
   split
   ·
    rename_i e
    subst e
    simp
   ·
    simp
theorem ris_putF : ∀ (L : List FinT) (x : FinT), Ris L → Ris (putF L x)
 | [], x, _ => List.pairwise_singleton _ _
 | y :: L, x, h => by
  have h' := List.pairwise_cons.1 h
  unfold putF
  split
  ·
   rename_i e
   refine List.pairwise_cons.2 ⟨fun z hz => ?_, ris_putF L x h'.2⟩
   rcases (mem_putF L x z).1 hz with rfl | hz
   ·
    exact e
   ·
    exact h'.1 z hz
  ·
   split
   ·
    exact h
   ·
    rename_i e1 e2
    have hxy : finCmp x y < 0 := by
     have h3 := ord_fin.anti y x
     have h4 : ¬ finCmp x y = 0 := fun e => e2 ((ord_fin.eq x y).1 e)
     omega
    refine List.pairwise_cons.2 ⟨fun z hz => ?_, h⟩
    rcases List.mem_cons.1 hz with rfl | hz
    ·
     exact hxy
    ·
     exact ord_fin.trans _ _ _ hxy (h'.1 z hz)
end Go.Proofs.YtcfohakgokiedaaGreatDoor
