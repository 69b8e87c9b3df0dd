/- Comparisons that tell one order, in plain Lean. Of no memory. -/
import Derived.Test.YtioiabfheeglgaaGreatDoorProg
namespace Go.Proofs.YtioiabfheeglgaaGreatDoor

/-- Two numbers, held against each other: below 0, 0, above 0. -/
def cmpI (a b : Int) : Int := if a < b then -1 else if b < a then 1 else 0
/-- Rows: the first that are unlike tell; else the one that ends first is less. -/
def lexC {α : Type} (f : α → α → Int) : List α → List α → Int
  | [], [] => 0
  | [], _ :: _ => -1
  | _ :: _, [] => 1
  | x :: L, y :: M => if f x y = 0 then lexC f L M else f x y
/-- The first that is not 0. -/
def orN : List Int → Int
  | [] => 0
  | x :: L => if x = 0 then orN L else x

/-- A comparison that tells one order. -/
structure Ord3 {α : Type} (f : α → α → Int) : Prop where
  val : ∀ x y, f x y = -1 ∨ f x y = 0 ∨ f x y = 1
  eq : ∀ x y, f x y = 0 ↔ x = y
  anti : ∀ x y, f y x = - f x y
  trans : ∀ x y z, f x y < 0 → f y z < 0 → f x z < 0
theorem Ord3.self {α : Type} {f : α → α → Int} (h : Ord3 f) (x : α) : f x x = 0 := (h.eq x x).2 rfl
theorem ord_int : Ord3 cmpI := by
  refine ⟨fun x y => ?_, fun x y => ?_, fun x y => ?_, fun x y z h k => ?_⟩ <;> unfold cmpI at *
  · split <;> (try split) <;> omega
  · split <;> (try split) <;> omega
  · split <;> split <;> (try split) <;> (try split) <;> omega
  · split at h
    · split at k
      · rw [if_pos (by omega)]; omega
      · split at k <;> omega
    · split at h <;> omega
theorem ord_lex {α : Type} {f : α → α → Int} (h : Ord3 f) : Ord3 (lexC f) := by
  refine ⟨?_, ?_, ?_, ?_⟩
  · intro x
    induction x with
    | nil => intro y; cases y <;> simp [lexC]
    | cons a x ih =>
      intro y
      cases y with
      | nil => simp [lexC]
      | cons b y =>
        unfold lexC
        split
        · exact ih y
        · exact h.val a b
  · intro x
    induction x with
    | nil => intro y; cases y <;> simp [lexC]
    | cons a x ih =>
      intro y
      cases y with
      | nil => simp [lexC]
      | cons b y =>
        unfold lexC
        by_cases e : f a b = 0
        · rw [if_pos e, ih y, (h.eq a b).1 e]; simp
        · rw [if_neg e]
          constructor
          · intro e'; exact absurd e' e
          · intro e'
            simp only [List.cons.injEq] at e'
            exact absurd ((h.eq a b).2 e'.1) e
  · intro x
    induction x with
    | nil => intro y; cases y <;> simp [lexC]
    | cons a x ih =>
      intro y
      cases y with
      | nil => simp [lexC]
      | cons b y =>
        unfold lexC
        have := h.anti a b
        by_cases e : f a b = 0
        · rw [if_pos e, if_pos (by omega)]; exact ih y
        · rw [if_neg e, if_neg (by omega)]; exact this
  · intro x
    induction x with
    | nil =>
      intro y z hxy hyz
      cases z with
      | nil => cases y with
        | nil => simp [lexC] at hxy
        | cons b y => simp [lexC] at hyz
      | cons c z => simp [lexC]
    | cons a x ih =>
      intro y z hxy hyz
      cases y with
      | nil => simp [lexC] at hxy
      | cons b y =>
        cases z with
        | nil => simp [lexC] at hyz
        | cons c z =>
          unfold lexC at hxy hyz ⊢
          by_cases e1 : f a b = 0
          · obtain rfl := (h.eq a b).1 e1
            rw [if_pos e1] at hxy
            by_cases e2 : f a c = 0
            · rw [if_pos e2] at hyz ⊢
              exact ih y z hxy hyz
            · rw [if_neg e2] at hyz ⊢
              exact hyz
          · rw [if_neg e1] at hxy
            by_cases e2 : f b c = 0
            · obtain rfl := (h.eq b c).1 e2
              rw [if_neg e1]; exact hxy
            · rw [if_neg e2] at hyz
              have := h.trans a b c hxy hyz
              rw [if_neg (by omega)]; exact this
/-- Two comparisons, one behind the other. -/
theorem ord_pair {α β γ : Type} {f : α → α → Int} {g : β → β → Int} (hf : Ord3 f) (hg : Ord3 g) (p : γ → α) (q : γ → β) (hpq : ∀ x y, p x = p y → q x = q y → x = y) : Ord3 (fun x y => if f (p x) (p y) = 0 then g (q x) (q y) else f (p x) (p y)) := by
  refine ⟨fun x y => ?_, fun x y => ?_, fun x y => ?_, fun x y z h k => ?_⟩
  · split
    · exact hg.val _ _
    · exact hf.val _ _
  · by_cases e : f (p x) (p y) = 0
    · rw [if_pos e, hg.eq]
      exact ⟨fun e' => hpq x y ((hf.eq _ _).1 e) e', fun e' => by rw [e']⟩
    · rw [if_neg e]
      exact ⟨fun e' => absurd e' e, fun e' => absurd (by rw [e']; exact hf.self _) e⟩
  · have := hf.anti (p x) (p y)
    by_cases e : f (p x) (p y) = 0
    · rw [if_pos e, if_pos (by omega)]; exact hg.anti _ _
    · rw [if_neg e, if_neg (by omega)]; exact this
  · by_cases e1 : f (p x) (p y) = 0
    · rw [if_pos e1] at h
      have e1' := (hf.eq _ _).1 e1
      rw [e1']
      by_cases e2 : f (p y) (p z) = 0
      · rw [if_pos e2] at k ⊢
        exact hg.trans _ _ _ h k
      · rw [if_neg e2] at k ⊢
        exact k
    · rw [if_neg e1] at h
      by_cases e2 : f (p y) (p z) = 0
      · have e2' := (hf.eq _ _).1 e2
        rw [← e2', if_neg e1]; exact h
      · rw [if_neg e2] at k
        have := hf.trans _ _ _ h k
        rw [if_neg (by omega)]; exact this
end Go.Proofs.YtioiabfheeglgaaGreatDoor
