/- What an instruction that may be is like. -/
import Derived.Test.YtioiabfheeglgaaGreatDoorJ10StepG
import Derived.Test.YtioiabfheeglgaaGreatDoorJ14RNext
import Derived.Test.YtioiabfheeglgaaGreatDoorJ44OfOk
namespace Go.Proofs.YtioiabfheeglgaaGreatDoor
open Go.RowKit

theorem skip_at : ∀ (L : List InsT) (i : Nat) (x : InsT), skipBad L = false → L[i]? = some x → x.k = 6 → x.n ≤ (L.length : Int) - i - 1
 | [], _, _, _, h, _ => by simp at h
 | y :: L, 0, x, hs, h, hk => by
  simp only [List.getElem?_cons_zero, Option.some.injEq] at h
  subst h
  unfold skipBad at hs
  simp only [Bool.or_eq_false_iff, Bool.and_eq_false_iff] at hs
  rcases hs.1 with h1 | h1
  ·
   rw [hk] at h1; simp at h1
  ·
   have := h1.2
   simp only [decide_eq_false_iff_not] at this
   simp only [List.length_cons]
   omega
 | y :: L, i + 1, x, hs, h, hk => by
  simp only [List.getElem?_cons_succ] at h
  unfold skipBad at hs
  simp only [Bool.or_eq_false_iff] at hs
  have := skip_at L i x hs.2 h hk
  simp only [List.length_cons]
  omega
theorem ins_fine (x : InsT) (h : insOk x = true) : (x.k = 5 → regOk x.r = true) ∧ (x.k = 6 → 0 ≤ x.n) ∧ ((x.k == 5 || x.k == 6) = !seenB x.k) ∧ ((x.k = 2 ∨ x.k = 4) → regOk x.r = true) := by
 unfold insOk at h
 split at h
 ·
  rename_i hk
  have hk : x.k = 1 := by simpa using hk
  refine ⟨by omega, by omega, by rw [hk]; rfl, by omega⟩
 ·
  split at h
  ·
   rename_i hk
   have hk : x.k = 2 := by simpa using hk
   simp only [Bool.and_eq_true] at h
   exact ⟨by omega, by omega, by rw [hk]; rfl, fun _ => h.1.2⟩
  ·
   split at h
   ·
    rename_i hk
    have hk : x.k = 3 := by simpa using hk
    refine ⟨by omega, by omega, by rw [hk]; rfl, by omega⟩
   ·
    split at h
    ·
     rename_i hk
     have hk : x.k = 4 := by simpa using hk
     simp only [Bool.and_eq_true] at h
     exact ⟨by omega, by omega, by rw [hk]; rfl, fun _ => h.1.1.1.2⟩
    ·
     split at h
     ·
      rename_i hk
      have hk : x.k = 5 := by simpa using hk
      simp only [Bool.and_eq_true] at h
      exact ⟨fun _ => h.1.1.2, by omega, by rw [hk]; rfl, by omega⟩
     ·
      split at h
      ·
       rename_i hk
       have hk : x.k = 6 := by simpa using hk
       simp only [Bool.and_eq_true, decide_eq_true_eq] at h
       exact ⟨by omega, fun _ => h.1.1.2, by rw [hk]; rfl, by omega⟩
      ·
       cases h
end Go.Proofs.YtioiabfheeglgaaGreatDoor

namespace Go.Proofs.YtioiabfheeglgaaGreatDoor
open Go.RowKit

theorem rpl_keeps (LT : List UInt8) (x : InsT) : (rplIns LT x).k = x.k ∧ (rplIns LT x).r = x.r ∧ (rplIns LT x).n = x.n := by
 unfold rplIns
 split <;> exact ⟨rfl, rfl, rfl⟩
theorem of_fine (zs : List Int) (most : Nat) : ∀ L ∈ ofT zs most, fineL L := by
 intro L hL i x hx
 unfold ofT at hL
 obtain ⟨L0, hL0, rfl⟩ := List.mem_map.1 hL
 obtain ⟨⟨h1, _, _⟩, h2⟩ := (thrOf_ok zs most).2 L0 hL0
 unfold rplRow at hx ⊢
 rw [List.getElem?_map, Option.map_eq_some_iff] at hx
 obtain ⟨y, hy, rfl⟩ := hx
 obtain ⟨e1, e2, e3⟩ := rpl_keeps (locsR (smallP zs most)) y
 obtain ⟨f1, f2, f3, f4⟩ := ins_fine y (List.all_eq_true.1 h1 y (List.mem_of_getElem? hy))
 rw [e1, e2, e3]
 refine ⟨⟨f1, fun h6 => ⟨f2 h6, ?_⟩⟩, f3, f4⟩
 rw [List.length_map]
 exact skip_at L0 i y h2 hy h6
theorem of_len (zs : List Int) (most : Nat) : ∀ L ∈ ofT zs most, L.length ≤ 6 := by
 intro L hL
 unfold ofT at hL
 obtain ⟨L0, hL0, rfl⟩ := List.mem_map.1 hL
 unfold rplRow
 rw [List.length_map]
 exact ((thrOf_ok zs most).2 L0 hL0).1.2.1
theorem of_many (zs : List Int) (most : Nat) : 2 ≤ (ofT zs most).length ∧ (ofT zs most).length ≤ 3 := by
 unfold ofT
 rw [List.length_map]
 have := (thrOf_ok zs most).1
 have e : (smallP zs most).thr = (thrOf zs most).1 := rfl
 rw [e]
 omega
theorem thread_len {LL : List (List InsT)} {m : Nat} (h : ∀ L ∈ LL, L.length ≤ m) (t : Int) : (threadP LL t).length ≤ m := by
 unfold threadP
 split
 ·
  rw [List.getD_eq_getElem?_getD]
  cases hq : LL[t.toNat]? with
  | none => simp
  | some M => exact h M (List.mem_of_getElem? hq)
 ·
  simp
theorem of_locs (zs : List Int) (most : Nat) : (locsR (smallP zs most)).length ≤ 26 := outTo_len _ 123
theorem of_inis (zs : List Int) (most : Nat) : (iniVals (locsR (smallP zs most)) (smallP zs most).ini).length = (locsR (smallP zs most)).length := by
 unfold iniVals
 rw [List.length_map]
end Go.Proofs.YtioiabfheeglgaaGreatDoor
