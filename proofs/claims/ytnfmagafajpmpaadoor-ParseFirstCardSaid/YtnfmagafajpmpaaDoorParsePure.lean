/- A parser's way through a text in plain Lean, of no memory: where it stands, what it takes, what it tells. -/
import Derived.Test.YtnfmagafajpmpaaDoorLexNext
namespace Go.Proofs.YtnfmagafajpmpaaDoor

/-- Where a parser stands: ahead of a good token from a place on, or behind its first error (its number, its place). -/
abbrev St := Except (Nat × Nat) Nat

section
variable (s : ByteArray)
def norm (a : Nat) : St := if eC pB s a = 0 then .ok a else .error (eC pB s a, pl s a)
def tokK : St → Nat
  | .ok a => kd s a
  | .error _ => 0
def tokX : St → ByteArray
  | .ok a => tx s a
  | .error _ => ⟨#[]⟩
def tokP : St → Nat
  | .ok a => pl s a
  | .error _ => 0
def erC : St → Nat
  | .ok _ => 0
  | .error e => e.1
def erP : St → Nat
  | .ok _ => 0
  | .error e => e.2
/-- Behind the token. -/
def nx : St → St
  | .ok a => norm s (to s a)
  | .error e => .error e
/-- An error at the token, if there is none ahead of it. -/
def flS (c : Nat) : St → St
  | .ok a => .error (c, pl s a)
  | .error e => .error e
/-- What may be: a good token ahead, or an error that is one. -/
def Vd : St → Prop
  | .ok a => eC pB s a = 0 ∧ a ≤ s.size
  | .error e => e.1 ≠ 0

theorem norm_ok {a : Nat} (h : eC pB s a = 0) : norm s a = .ok a := by unfold norm; rw [if_pos h]
theorem norm_err {a : Nat} (h : eC pB s a ≠ 0) : norm s a = .error (eC pB s a, pl s a) := by unfold norm; rw [if_neg h]
theorem vd_norm {a : Nat} (h : a ≤ s.size) : Vd s (norm s a) := by
  by_cases h0 : eC pB s a = 0
  · rw [norm_ok s h0]; exact ⟨h0, h⟩
  · rw [norm_err s h0]; exact h0
theorem vd_nx {S : St} (h : Vd s S) : Vd s (nx s S) := by
  cases S with
  | ok a => exact vd_norm s (to_le h.2)
  | error e => exact h
theorem vd_fl {S : St} {c : Nat} (h : Vd s S) (hc : c ≠ 0) : Vd s (flS s c S) := by
  cases S with
  | ok a => exact hc
  | error e => exact h

/-! What is taken: each answers its value and where the parser stands behind it. -/
def isX (x : ByteArray) (S : St) : Bool := (tokX s S).data.toList == x.data.toList
def accS (x : ByteArray) (S : St) : St := if isX s x S then nx s S else S
def expS (x : ByteArray) (S : St) : St := if isX s x S then nx s S else flS s 6 S
def endS (S : St) : St := if tokK s S = 4 then S else flS s 6 S
def nameP (S : St) : ByteArray × St := if tokK s S = 1 then (tokX s S, nx s S) else (⟨#[]⟩, flS s 6 S)
def numP (S : St) : Int × St := if pB (tokX s S) then (pN (tokX s S), nx s S) else (0, flS s 6 S)
/-- A number that is out of bounds. -/
def outB (m : Int) (S : St) : Bool := pB (tokX s S) && (decide (pN (tokX s S) < 0) || decide (m < pN (tokX s S)))
def uptoP (m : Int) (c : Nat) (S : St) : Int × St := if outB s m S then (0, flS s c S) else numP s S
def namedP (v : Int) (ok : Bool) (S : St) : Int × St := if ok then (v, nx s S) else if tokK s S = 1 then (0, flS s 7 S) else (0, flS s 6 S)
end

/-- A register's number, written so; a location's byte. -/
def regB (x : ByteArray) : Bool := x.size == 2 && (bN x 0 == 114 && decide (48 ≤ bN x 1 ∧ bN x 1 ≤ 51))
def regV (x : ByteArray) : Int := if regB x then (bN x 1 : Int) - 48 else 0
def locB (k : Nat) (x : ByteArray) : Bool := k == 1 && x.size == 1
def locV (k : Nat) (x : ByteArray) : Int := if locB k x then (bN x 0 : Int) else 0

structure Opd where
  r : Int
  v : Int
structure InsT where
  k : Int
  r : Int
  l : Int
  a : Opd
  o : Int
  b : Opd
  n : Int
structure AtomT where
  t : Int
  r : Int
  l : Int
  v : Int
structure InitT where
  l : Int
  v : Int
structure CondT where
  k : Int
  any : List (List AtomT)
structure TestT where
  name : ByteArray
  ini : List InitT
  thr : List (List InsT)
  cond : CondT

section
variable (s : ByteArray)
def regP (S : St) : Int × St := namedP s (regV (tokX s S)) (regB (tokX s S)) S
def locP (S : St) : Int × St := namedP s (locV (tokK s S) (tokX s S)) (locB (tokK s S) (tokX s S)) S
def opdP (S : St) : Opd × St := if tokK s S = 2 then (⟨-1, (numP s S).1⟩, (numP s S).2) else (⟨(regP s S).1, 0⟩, (regP s S).2)
end
end Go.Proofs.YtnfmagafajpmpaaDoor
