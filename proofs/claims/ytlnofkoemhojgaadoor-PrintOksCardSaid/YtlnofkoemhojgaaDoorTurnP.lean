/- An instruction with one field turned may not be. Of no memory. -/
import Derived.Test.YtlnofkoemhojgaaDoorTrees
namespace Go.Proofs.YtlnofkoemhojgaaDoor

def turnT (c : Nat) (x : InsT) : InsT :=
  if c = 0 then ⟨7, x.r, x.l, x.a, x.o, x.b, x.n⟩
  else if c = 1 then ⟨x.k, 4, x.l, x.a, x.o, x.b, x.n⟩
  else if c = 2 then ⟨x.k, x.r, 65, x.a, x.o, x.b, x.n⟩
  else if c = 3 then ⟨x.k, x.r, x.l, x.a, 12, x.b, x.n⟩
  else if c = 4 then ⟨x.k, x.r, x.l, x.a, x.o, x.b, -1⟩
  else if c = 5 then ⟨x.k, x.r, x.l, ⟨4, x.a.v⟩, x.o, x.b, x.n⟩
  else if c = 6 then ⟨x.k, x.r, x.l, x.a, x.o, ⟨-2, x.b.v⟩, x.n⟩
  else ⟨0, x.r, x.l, x.a, x.o, x.b, x.n⟩
theorem turn_bad (c : Nat) (x : InsT) : insOk (turnT c x) = false := by
  have l65 : locOk 65 = false := by decide
  have r4 : regOk 4 = false := by decide
  have s12 : signOk 12 = false := by decide
  have o4 : ∀ v, opdOk ⟨4, v⟩ = false := by intro v; simp [opdOk, r4]
  have o2 : ∀ v, opdOk ⟨-2, v⟩ = false := by intro v; simp [opdOk, regOk]
  have s2 : ∀ o v, secOk o ⟨-2, v⟩ = false := by intro o v; unfold secOk; split <;> simp [o2]
  have s1 : ∀ b, secOk 12 b = false := by intro b; simp [secOk, s12]
  unfold turnT
  repeat' split
  all_goals simp [insOk, l65, r4, o4, o2, s2, s1]
theorem thread_bad {L : List InsT} {k : Nat} (h : k < L.length) (c : Nat) (x : InsT) : threadOk (L.set k (turnT c x)) = false := by
  unfold threadOk
  rw [List.all_eq_false]
  exact ⟨turnT c x, List.mem_iff_getElem.2 ⟨k, by simpa using h, by simp⟩, by rw [turn_bad]; simp⟩
end Go.Proofs.YtlnofkoemhojgaaDoor
