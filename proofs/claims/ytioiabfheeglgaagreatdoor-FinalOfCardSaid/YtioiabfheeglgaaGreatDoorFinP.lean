/- Ends and their order, in plain Lean. Of no memory. -/
import Derived.Test.YtioiabfheeglgaaGreatDoorCmpP
namespace Go.Proofs.YtioiabfheeglgaaGreatDoor

/-- An end: four registers of four threads, then memory: twenty numbers of 64 bits. -/
abbrev FinT := {l : List Int // l.length = 20 ∧ ∀ z ∈ l, -9223372036854775808 ≤ z ∧ z ≤ 9223372036854775807}
def FinT.l (f : FinT) : List Int := f.1
theorem FinT.h (f : FinT) : f.l.length = 20 := f.2.1
theorem FinT.b (f : FinT) : ∀ z ∈ f.l, -9223372036854775808 ≤ z ∧ z ≤ 9223372036854775807 := f.2.2
theorem FinT.at (f : FinT) {k : Nat} (h : k < 20) : ∃ x, f.l[k]? = some x := ⟨_, List.getElem?_eq_getElem (by rw [f.h]; exact h)⟩
theorem FinT.ext {a b : FinT} (h : a.l = b.l) : a = b := Subtype.ext h
theorem FinT.ext_iff' {a b : FinT} : a.l = b.l ↔ a = b := ⟨FinT.ext, fun h => by rw [h]⟩
def finZ : FinT := ⟨List.replicate 20 0, rfl, fun z hz => by rw [(List.mem_replicate.1 hz).2]; omega⟩
/-- The one that stands ahead. -/
def finCmp (a b : FinT) : Int := lexC cmpI a.l b.l
theorem ord_fin : Ord3 finCmp := by
  have h := ord_lex ord_int
  exact ⟨fun x y => h.val _ _, fun x y => (h.eq _ _).trans FinT.ext_iff', fun x y => h.anti _ _, fun x y z => h.trans _ _ _⟩

/-- Rows of one length: the first four, then the rest. -/
theorem lex_cut {α : Type} (f : α → α → Int) : ∀ (k : Nat) (L M : List α), L.length = M.length → k ≤ L.length →
    lexC f L M = if lexC f (L.take k) (M.take k) = 0 then lexC f (L.drop k) (M.drop k) else lexC f (L.take k) (M.take k)
  | 0, L, M, _, _ => by simp [lexC]
  | k + 1, [], M, _, hk => by simp at hk
  | k + 1, x :: L, [], h, _ => by simp at h
  | k + 1, x :: L, y :: M, h, hk => by
    simp only [List.take_succ_cons, List.drop_succ_cons, lexC]
    by_cases e : f x y = 0
    · rw [if_pos e, if_pos e]
      exact lex_cut f k L M (by simpa using h) (by simpa using hk)
    · rw [if_neg e, if_neg e, if_neg e]

/-- Rising, each once. -/
def Ris (L : List FinT) : Prop := L.Pairwise (fun a b => finCmp a b < 0)
theorem Ris.nil : Ris [] := List.Pairwise.nil
theorem fin_lt_irr (a : FinT) : ¬ finCmp a a < 0 := by rw [ord_fin.self]; omega
theorem fin_asym {a b : FinT} (h : finCmp a b < 0) : ¬ finCmp b a < 0 := by rw [ord_fin.anti a b]; omega
theorem ris_ext : ∀ {L M : List FinT}, Ris L → Ris M → (∀ x, x ∈ L ↔ x ∈ M) → L = M
  | [], [], _, _, _ => rfl
  | [], y :: M, _, _, h => absurd ((h y).2 (List.mem_cons_self)) (by simp)
  | x :: L, [], _, _, h => absurd ((h x).1 (List.mem_cons_self)) (by simp)
  | x :: L, y :: M, hL, hM, h => by
    have hL' := List.pairwise_cons.1 hL
    have hM' := List.pairwise_cons.1 hM
    have e : x = y := by
      rcases List.mem_cons.1 ((h x).1 List.mem_cons_self) with e | e
      · exact e
      · rcases List.mem_cons.1 ((h y).2 List.mem_cons_self) with e' | e'
        · exact e'.symm
        · exact absurd (hL'.1 y e') (fin_asym (hM'.1 x e))
    subst e
    have : L = M := ris_ext hL'.2 hM'.2 fun z => by
      constructor
      · intro hz
        rcases List.mem_cons.1 ((h z).1 (List.mem_cons_of_mem _ hz)) with e | e
        · exact absurd (hL'.1 z hz) (by rw [e]; exact fin_lt_irr _)
        · exact e
      · intro hz
        rcases List.mem_cons.1 ((h z).2 (List.mem_cons_of_mem _ hz)) with e | e
        · exact absurd (hM'.1 z hz) (by rw [e]; exact fin_lt_irr _)
        · exact e
    rw [this]
theorem pw_map {α : Type} {R S : α → α → Prop} (h : ∀ a b, R a b → S a b) : ∀ {L : List α}, L.Pairwise R → L.Pairwise S
  | [], _ => List.Pairwise.nil
  | a :: L, hp => by
    have hp' := List.pairwise_cons.1 hp
    exact List.pairwise_cons.2 ⟨fun b hb => h a b (hp'.1 b hb), pw_map h hp'.2⟩
theorem pw_both {α : Type} {R S : α → α → Prop} : ∀ {L : List α}, L.Pairwise R → L.Pairwise S → L.Pairwise (fun a b => R a b ∧ S a b)
  | [], _, _ => List.Pairwise.nil
  | a :: L, hp, hq => by
    have hp' := List.pairwise_cons.1 hp
    have hq' := List.pairwise_cons.1 hq
    exact List.pairwise_cons.2 ⟨fun b hb => ⟨hp'.1 b hb, hq'.1 b hb⟩, pw_both hp'.2 hq'.2⟩
theorem Ris.nodup {L : List FinT} (h : Ris L) : L.Nodup := pw_map (fun a b hab e => by rw [e] at hab; exact fin_lt_irr _ hab) h
theorem Ris.filter {L : List FinT} (h : Ris L) (p : FinT → Bool) : Ris (L.filter p) := List.Pairwise.filter p h
/-- A list with an end at its place, once. -/
def putF : List FinT → FinT → List FinT
  | [], x => [x]
  | y :: L, x => if finCmp y x < 0 then y :: putF L x else if x = y then y :: L else x :: y :: L
theorem mem_putF : ∀ (L : List FinT) (x z : FinT), z ∈ putF L x ↔ z = x ∨ z ∈ L
  | [], x, z => by simp [putF]
  | y :: L, x, z => by
    unfold putF
    split
    · rw [List.mem_cons, mem_putF L x z, List.mem_cons]
      constructor
      · rintro (h | h | h)
        · exact Or.inr (Or.inl h)
        · exact Or.inl h
        · exact Or.inr (Or.inr h)
      · rintro (h | h | h)
        · exact Or.inr (Or.inl h)
        · exact Or.inl h
        · exact Or.inr (Or.inr h)
    · split
      · rename_i e
        subst e
        simp
      · simp
theorem ris_putF : ∀ (L : List FinT) (x : FinT), Ris L → Ris (putF L x)
  | [], x, _ => List.pairwise_singleton _ _
  | y :: L, x, h => by
    have h' := List.pairwise_cons.1 h
    unfold putF
    split
    · rename_i e
      refine List.pairwise_cons.2 ⟨fun z hz => ?_, ris_putF L x h'.2⟩
      rcases (mem_putF L x z).1 hz with rfl | hz
      · exact e
      · exact h'.1 z hz
    · split
      · exact h
      · rename_i e1 e2
        have hxy : finCmp x y < 0 := by
          have h3 := ord_fin.anti y x
          have h4 : ¬ finCmp x y = 0 := fun e => e2 ((ord_fin.eq x y).1 e)
          omega
        refine List.pairwise_cons.2 ⟨fun z hz => ?_, h⟩
        rcases List.mem_cons.1 hz with rfl | hz
        · exact hxy
        · exact ord_fin.trans _ _ _ hxy (h'.1 z hz)
end Go.Proofs.YtioiabfheeglgaaGreatDoor
