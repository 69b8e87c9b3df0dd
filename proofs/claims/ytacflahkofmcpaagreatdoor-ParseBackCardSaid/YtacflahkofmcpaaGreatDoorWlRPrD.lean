/- A condition's text by its atoms, in plain Lean. -/
import Derived.Test.YtacflahkofmcpaaGreatDoorWlPartP
namespace Go.Proofs.YtacflahkofmcpaaGreatDoor.Wl
open Go.RowKit

/-- Tokens, a blank ahead of each. -/
def jnT (L : List ByteArray) : List UInt8 := L.flatMap fun y => 32 :: y.data.toList
theorem jn_head (h : ByteArray) (L : List ByteArray) : jn (h :: L) = h.data.toList ++ jnT L := by
  unfold jn jnT
  rw [List.map_cons, Lib.join_cons]
  unfold Lib.joinTail
  congr 1
  induction L with
  | nil => rfl
  | cons x L ih =>
    rw [List.map_cons, List.map_cons, List.flatten_cons, ih, List.flatMap_cons]
    rfl
theorem jnT_append (L M : List ByteArray) : jnT (L ++ M) = jnT L ++ jnT M := by unfold jnT; rw [List.flatMap_append]
theorem jnT_cons (x : ByteArray) (L : List ByteArray) : jnT (x :: L) = 32 :: x.data.toList ++ jnT L := by unfold jnT; rw [List.flatMap_cons]
def atomX (x : AtomT) : List UInt8 := if x.t < 0 then 32 :: (locT x.l).data.toList ++ [32, 61, 32] ++ (numT x.v).data.toList else 32 :: (numT x.t).data.toList ++ [32, 58, 32] ++ (regT x.r).data.toList ++ [32, 61, 32] ++ (numT x.v).data.toList
theorem atom_text (x : AtomT) : jnT (atomTk x) = atomX x := by
  unfold atomTk atomX
  split <;> simp [jnT, xEq, xCol]
def rowX (pre : List UInt8) : List AtomT → List UInt8
  | [] => []
  | x :: r => pre ++ (atomX x ++ rowX [32, 38] r)
def anyX (pre : List UInt8) : List (List AtomT) → List UInt8
  | [] => []
  | r :: rs => rowX pre r ++ anyX [32, 124] rs
theorem row_text : ∀ (r : List AtomT), jnT (rowTk xAnd r) = rowX [32, 38] r
  | [] => rfl
  | x :: r => by
    rw [rowTk, jnT_cons, jnT_append, atom_text, row_text r, rowX]
    rfl
theorem row_text2 : ∀ (r : List AtomT), jnT (rowTk xOr r) = rowX [32, 124] r
  | [] => rfl
  | x :: r => by
    rw [rowTk, jnT_cons, jnT_append, atom_text, row_text r, rowX]
    rfl
theorem any_text : ∀ (L : List (List AtomT)), jnT (anyTk xOr L) = anyX [32, 124] L
  | [] => rfl
  | r :: L => by rw [anyTk, jnT_append, row_text2, any_text L, anyX]
theorem cond_text {c : CondT} (h : condOk c = true) (h0 : ¬ c.k = 0) : jn (condTk c) = (if c.k == 1 then xEx else xFa).data.toList ++ (anyX [] c.any ++ [32, 59]) := by
  unfold condOk at h
  unfold condTk
  have e0 : (c.k == 0) = false := by rw [beq_eq_false_iff_ne]; exact h0
  rw [e0] at h ⊢
  simp only [Bool.false_eq_true, if_false] at h ⊢
  split at h
  · rw [Bool.and_eq_true] at h
    obtain ⟨hl, hr⟩ := h
    cases hA : c.any with
    | nil => rw [hA] at hl; exact absurd hl (by decide)
    | cons r rs =>
      rw [hA, List.all_cons, Bool.and_eq_true] at hr
      have h2 := hr.1
      unfold rowOk at h2
      rw [Bool.and_eq_true] at h2
      cases r with
      | nil => exact absurd h2.1 (by decide)
      | cons x r =>
        rw [anyTk, rowTk, List.cons_append, List.cons_append, jn_head, jnT_append, jnT_append, jnT_append, atom_text, row_text, any_text, anyX, rowX]
        simp [jnT, xEnd]
  · cases h
def preI (i : Nat) : List UInt8 := if i = 0 then [] else [32, 124]
def preK (i k : Nat) : List UInt8 := if k = 0 then preI i else [32, 38]
theorem any_drop {L : List (List AtomT)} {i : Nat} {r : List AtomT} (h : L[i]? = some r) : anyX (preI i) (L.drop i) = rowX (preI i) r ++ anyX (preI (i + 1)) (L.drop (i + 1)) := by
  obtain ⟨h1, h2⟩ := List.getElem?_eq_some_iff.1 h
  rw [List.drop_eq_getElem_cons h1, h2, anyX]
  rfl
theorem row_drop {r : List AtomT} {k : Nat} {x : AtomT} (i : Nat) (h : r[k]? = some x) : rowX (preK i k) (r.drop k) = preK i k ++ (atomX x ++ rowX (preK i (k + 1)) (r.drop (k + 1))) := by
  obtain ⟨h1, h2⟩ := List.getElem?_eq_some_iff.1 h
  rw [List.drop_eq_getElem_cons h1, h2, rowX]
  rfl
end Go.Proofs.YtacflahkofmcpaaGreatDoor.Wl
