/- What a thread's events are like, in plain Lean. -/
import Derived.Test.YtioiabfheeglgaaGreatDoorJ11EvP
import Derived.Test.YtioiabfheeglgaaGreatDoorJ16SmallP
namespace Go.Proofs.YtioiabfheeglgaaGreatDoor

def evOk : Int → Nat → List Int → List EvT → Prop
 | _, _, _, [] => True
 | t, i, rs, e :: E => (e.t = t ∧ e.i = i ∧ 1 ≤ e.k ∧ e.k ≤ 5 ∧ (wrsB e.k = false → e.w = 0)) ∧ (rdsB e.k = true → ∃ v r, rs = v :: r ∧ e.r = v ∧ evOk t (i + 1) r E) ∧ (rdsB e.k = false → e.r = 0 ∧ evOk t (i + 1) rs E)
/-- What is left to read. -/
def restR : List Int → List EvT → List Int
 | rs, [] => rs
 | rs, e :: E => if rdsB e.k then restR rs.tail E else restR rs E
theorem done_like (x : InsT) (l : LocT) (v : Int) : 1 ≤ (doneP x l v).k ∧ (doneP x l v).k ≤ 5 ∧ rdsB (doneP x l v).k = readB x.k ∧ (wrsB (doneP x l v).k = false → (doneP x l v).w = 0) ∧ (readB x.k = true → (doneP x l v).r = v) ∧ (readB x.k = false → (doneP x l v).r = 0) := by
 unfold doneP
 cases h2 : (x.k == 2) with
 | true =>
  have e : readB x.k = true := by unfold readB; rw [h2]; rfl
  rw [e]
  simp [rdsB, wrsB]
 | false =>
  simp only [Bool.false_eq_true, if_false]
  cases h1 : (x.k == 1) with
  | true =>
   have hk : x.k = 1 := by simpa using h1
   have e : readB x.k = false := by rw [hk]; rfl
   rw [e]
   simp [rdsB, wrsB]
  | false =>
   simp only [Bool.false_eq_true, if_false]
   cases h4 : (x.k == 4) with
   | true =>
    have e : readB x.k = true := by unfold readB; rw [h4]; simp
    rw [e]
    simp only [if_true]
    unfold swapP
    split
    ·
     simp [rdsB, wrsB]
    ·
     simp [rdsB, wrsB]
   | false =>
    have e : readB x.k = false := by unfold readB; rw [h2, h4]; rfl
    rw [e]
    simp only [Bool.false_eq_true, if_false]
    simp [rdsB, wrsB]
theorem val_read {x : InsT} {rs r : List Int} {v : Int} (h : valP x rs = some (v, r)) : (readB x.k = true ∧ rs = v :: r) ∨ (readB x.k = false ∧ v = 0 ∧ r = rs) := by
 unfold valP at h
 cases hq : readB x.k with
 | true =>
  rw [hq] at h
  simp only [if_true] at h
  cases rs with
  | nil => cases h
  | cons a b =>
   simp only [Option.some.injEq, Prod.mk.injEq] at h
   exact Or.inl ⟨rfl, by rw [h.1, h.2]⟩
 | false =>
  rw [hq] at h
  simp only [Bool.false_eq_true, if_false, Option.some.injEq, Prod.mk.injEq] at h
  exact Or.inr ⟨rfl, h.1.symm, h.2.symm⟩
theorem val_none {x : InsT} {rs : List Int} (h : valP x rs = none) : readB x.k = true ∧ rs = [] := by
 unfold valP at h
 cases hq : readB x.k with
 | true =>
  rw [hq] at h
  simp only [if_true] at h
  cases rs with
  | nil => exact ⟨rfl, rfl⟩
  | cons a b => cases h
 | false =>
  rw [hq] at h
  cases h
theorem next_far {L : List InsT} {l : LocT} (h : (L.length : Int) ≤ l.pc) : nextP L l = none := by
 cases hx : nextP L l with
 | none => rfl
 | some x => have := (next_at hx).2; omega
theorem unf_ok : ∀ (n : Nat) (L : List InsT) (t : Int) (l : LocT) (i : Nat) (rs : List Int), 0 ≤ l.pc → (L.length : Int) + 1 ≤ n + l.pc →
  evOk t i rs (unfN n L t l i rs).1 ∧ ((unfN n L t l i rs).2.2 = true → restR rs (unfN n L t l i rs).1 = []) ∧ (nextP L (unfN n L t l i rs).2.1).isSome = (unfN n L t l i rs).2.2
 | 0, L, t, l, i, rs, h0, h1 => by
  rw [unf_none (next_far (by omega))]
  refine ⟨trivial, fun h => (by cases h), ?_⟩
  show (nextP L l).isSome = false
  rw [next_far (by omega)]
  rfl
 | n + 1, L, t, l, i, rs, h0, h1 => by
  cases hx : nextP L l with
  | none =>
   rw [unf_none hx]
   refine ⟨trivial, fun h => (by cases h), ?_⟩
   show (nextP L l).isSome = false
   rw [hx]
   rfl
  | some x =>
   cases hv : valP x rs with
   | none =>
    rw [unf_more hx hv]
    refine ⟨trivial, fun _ => (val_none hv).2, ?_⟩
    show (nextP L l).isSome = true
    rw [hx]
    rfl
   | some p =>
    obtain ⟨v, r⟩ := p
    rw [unf_some hx hv]
    have ha := after_on v hx
    obtain ⟨g1, g2, g3⟩ := unf_ok n L t (afterP L l v) (i + 1) r (by omega) (by omega)
    obtain ⟨d1, d2, d3, d4, d5, d6⟩ := done_like x l v
    refine ⟨⟨⟨rfl, rfl, d1, d2, d4⟩, fun hr => ?_, fun hr => ?_⟩, fun hm => ?_, g3⟩
    ·
     have hq : readB x.k = true := by rw [← d3]; exact hr
     rcases val_read hv with ⟨_, e⟩ | ⟨e, _⟩
     ·
      exact ⟨v, r, e, d5 hq, g1⟩
     ·
      rw [hq] at e; cases e
    ·
     have hq : readB x.k = false := by rw [← d3]; exact hr
     rcases val_read hv with ⟨e, _⟩ | ⟨_, _, e⟩
     ·
      rw [hq] at e; cases e
     ·
      rw [← e]; exact ⟨d6 hq, g1⟩
    ·
     have h := g2 hm
     show (if rdsB (doneP x l v).k then restR rs.tail _ else restR rs _) = []
     rw [d3]
     rcases val_read hv with ⟨hq, e⟩ | ⟨hq, _, e⟩
     ·
      rw [hq, e]; exact h
     ·
      rw [hq, ← e]; exact h
theorem unf_one : ∀ (n : Nat) (L : List InsT) (t : Int) (l : LocT) (i : Nat) (rs : List Int) (a : Int), 0 ≤ l.pc → (L.length : Int) + 1 ≤ n + l.pc →
  ((unfN n L t l i rs).2.2 = false → (unfN n L t l i (rs ++ [a])).1 = (unfN n L t l i rs).1) ∧ ((unfN n L t l i rs).2.2 = true → ∃ e T, (unfN n L t l i (rs ++ [a])).1 = (unfN n L t l i rs).1 ++ e :: T ∧ rdsB e.k = true ∧ e.r = a)
 | 0, L, t, l, i, rs, a, h0, h1 => by
  rw [unf_none (next_far (by omega)), unf_none (next_far (by omega))]
  exact ⟨fun _ => rfl, fun h => by cases h⟩
 | n + 1, L, t, l, i, rs, a, h0, h1 => by
  cases hx : nextP L l with
  | none =>
   rw [unf_none hx, unf_none hx]
   exact ⟨fun _ => rfl, fun h => by cases h⟩
  | some x =>
   cases hv : valP x rs with
   | none =>
    obtain ⟨hq, rfl⟩ := val_none hv
    have hv2 : valP x ([] ++ [a]) = some (a, []) := by unfold valP; rw [hq]; rfl
    rw [unf_more hx hv, unf_some hx hv2]
    obtain ⟨_, _, d3, _, d5, _⟩ := done_like x l a
    exact ⟨fun h => (by cases h), fun _ => ⟨_, _, rfl, (by show rdsB (doneP x l a).k = true; rw [d3]; exact hq), d5 hq⟩⟩
   | some p =>
    obtain ⟨v, r⟩ := p
    have hv2 : valP x (rs ++ [a]) = some (v, r ++ [a]) := by
     rcases val_read hv with ⟨hq, e⟩ | ⟨hq, e1, e⟩
     ·
      unfold valP; rw [hq, e]; rfl
     ·
      unfold valP; rw [hq, e1, e]; rfl
    rw [unf_some hx hv, unf_some hx hv2]
    have ha := after_on v hx
    obtain ⟨g1, g2⟩ := unf_one n L t (afterP L l v) (i + 1) r a (by omega) (by omega)
    refine ⟨fun h => ?_, fun h => ?_⟩
    ·
     show _ :: _ = _ :: _
     rw [g1 h]
    ·
     obtain ⟨e, T, e1, e2, e3⟩ := g2 h
     exact ⟨e, T, by show _ :: _ = _ :: (_ ++ _); rw [e1], e2, e3⟩
theorem evOk_at : ∀ (E : List EvT) (t : Int) (i : Nat) (rs : List Int) (n : Nat) (x : EvT), evOk t i rs E → E[n]? = some x → x.t = t ∧ x.i = ((i + n : Nat) : Int)
 | [], _, _, _, _, _, _, h => by simp at h
 | e :: E, t, i, rs, 0, x, ho, h => by
  simp only [List.getElem?_cons_zero, Option.some.injEq] at h
  subst h
  exact ⟨ho.1.1, ho.1.2.1⟩
 | e :: E, t, i, rs, n + 1, x, ho, h => by
  simp only [List.getElem?_cons_succ] at h
  cases hq : rdsB e.k with
  | true =>
   obtain ⟨v, r, _, _, hn⟩ := ho.2.1 hq
   obtain ⟨h1, h2⟩ := evOk_at E t (i + 1) r n x hn h
   exact ⟨h1, by rw [h2]; omega⟩
  | false =>
   obtain ⟨h1, h2⟩ := evOk_at E t (i + 1) rs n x (ho.2.2 hq).2 h
   exact ⟨h1, by rw [h2]; omega⟩
end Go.Proofs.YtioiabfheeglgaaGreatDoor

namespace Go.Proofs.YtioiabfheeglgaaGreatDoor

/-- A number of 64 bits. -/
def B64 (v : Int) : Prop := -9223372036854775808 ≤ v ∧ v ≤ 9223372036854775807
theorem b64_nat (n : Nat) (h : n < 65536) : B64 (n : Int) := ⟨by omega, by omega⟩
theorem insOf_b (locs x : Nat) : ∀ y ∈ insOf locs x, B64 y.a.v ∧ B64 y.b.v ∧ B64 y.n := by
 have z0 : B64 0 := ⟨by omega, by omega⟩
 have z1 : B64 1 := ⟨by omega, by omega⟩
 have z2 : B64 2 := ⟨by omega, by omega⟩
 have ho : B64 (opdOf x).v := by
  unfold opdOf
  split
  ·
   exact z0
  ·
   exact b64_nat _ (by omega)
 intro y hy
 unfold insOf at hy
 repeat' split at hy
 all_goals
  simp only [List.mem_cons, List.not_mem_nil, or_false] at hy
  rcases hy with rfl | rfl <;> first | exact ⟨ho, z0, z0⟩ | exact ⟨z0, z0, z0⟩ | exact ⟨ho, z1, z0⟩ | exact ⟨ho, z0, z1⟩ | exact ⟨z2, z0, z0⟩
theorem rowFrom_b (l : List Int) (most locs : Nat) : ∀ k at' mem, ∀ y ∈ (rowFrom l most locs k at' mem).1, B64 y.a.v ∧ B64 y.b.v ∧ B64 y.n
 | 0, at', mem, y, hy => by simp [rowFrom] at hy
 | k + 1, at', mem, y, hy => by
  unfold rowFrom at hy
  split at hy
  ·
   rcases List.mem_append.1 hy with hy | hy
   ·
    exact insOf_b _ _ y hy
   ·
    exact rowFrom_b l most locs k _ _ y hy
  ·
   simp at hy
theorem thrFrom_b (l : List Int) (most locs : Nat) : ∀ n at' mem, ∀ L ∈ (thrFrom l most locs n at' mem).1, ∀ y ∈ L, B64 y.a.v ∧ B64 y.b.v ∧ B64 y.n
 | 0, at', mem, L, hL, y, hy => by simp [thrFrom] at hL
 | n + 1, at', mem, L, hL, y, hy => by
  unfold thrFrom at hL
  rcases List.mem_cons.1 hL with rfl | hL
  ·
   exact rowFrom_b l most locs _ _ _ y hy
  ·
   exact thrFrom_b l most locs n _ _ L hL y hy
theorem iniOf_b (l : List Int) : ∀ x ∈ iniOf l, B64 x.v := by
 intro x hx
 unfold iniOf at hx
 split at hx
 ·
  simp only [List.mem_cons, List.not_mem_nil, or_false] at hx
  subst hx
  exact b64_nat _ (by omega)
 ·
  simp at hx
end Go.Proofs.YtioiabfheeglgaaGreatDoor
