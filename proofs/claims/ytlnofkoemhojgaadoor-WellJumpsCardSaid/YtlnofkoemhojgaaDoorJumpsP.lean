/- What Check tells of the tests that WellJumps makes. Of no memory. -/
import Derived.Test.YtlnofkoemhojgaaDoorTrees
namespace Go.Proofs.YtlnofkoemhojgaaDoor

def fenceT : InsT := ⟨3, 0, 0, ⟨0, 0⟩, 0, ⟨0, 0⟩, 0⟩
def skipT (wd : Nat) : InsT := ⟨6, 0, 0, ⟨0, 0⟩, 0, ⟨0, 0⟩, wd⟩
theorem jump_all : ∀ n : Fin 11, ∀ k : Fin 11, ∀ wd : Fin 16, 1 ≤ n.val → k.val < n.val → checkT ⟨⟨#[110]⟩, [], [(List.replicate n.val fenceT).set k.val (skipT wd.val)], ⟨0, []⟩⟩ = if wd.val = 0 ∨ n.val < k.val + 1 + wd.val then 10 else 0 := by decide +kernel
theorem twice_all : ∀ n : Fin 11, ∀ a : Fin 4, ∀ b : Fin 4, 1 ≤ n.val → checkT ⟨⟨#[110]⟩, [⟨97 + (a.val : Int), 0⟩, ⟨97 + (b.val : Int), 3⟩], [List.replicate n.val fenceT], ⟨0, []⟩⟩ = if a.val = b.val then 9 else 0 := by decide +kernel
theorem all_fence {L : List InsT} {n : Nat} (hL : L.length = n) (h : ∀ i x, i < n → L[i]? = some x → x = fenceT) : L = List.replicate n fenceT := by
  apply List.eq_replicate_iff.2
  refine ⟨hL, fun x hx => ?_⟩
  obtain ⟨i, hi, he⟩ := List.mem_iff_getElem.1 hx
  exact h i x (by omega) (by rw [List.getElem?_eq_getElem hi, he])
theorem set_back (n k : Nat) (x : InsT) : ((List.replicate n fenceT).set k x).set k fenceT = List.replicate n fenceT := by
  rw [List.set_set]
  apply List.ext_getElem?
  intro i
  rw [List.getElem?_set]
  split
  · rename_i h
    subst h
    split
    · rename_i h2
      rw [List.getElem?_replicate, if_pos (by simpa using h2)]
    · rename_i h2
      rw [List.getElem?_eq_none (by omega)]
  · rfl
end Go.Proofs.YtlnofkoemhojgaaDoor
