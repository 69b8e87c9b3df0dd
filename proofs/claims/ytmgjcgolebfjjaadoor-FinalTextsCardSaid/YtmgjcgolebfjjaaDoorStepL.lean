/- Instructions and programs as values and in memory: what needs no package of the program. -/
import Derived.Test.YtmgjcgolebfjjaaDoorGen0
import Derived.Test.YtmgjcgolebfjjaaDoorOwnR
import Derived.Test.YtmgjcgolebfjjaaDoorPuts
namespace Go.Proofs.YtmgjcgolebfjjaaDoor
open Go.RowKit

def insV (x : InsT) : Value := .agg #[.int .i64 x.k, .int .i64 x.r, .int .i64 x.l, .int .i64 x.a.r, .int .i64 x.a.v, .int .i64 x.o, .int .i64 x.b.r, .int .i64 x.b.v, .int .i64 x.n]
/-- v is a program with these threads. -/
def ProgRd (w : World) (v : Value) (LL : List (List InsT)) : Prop :=
  ∃ a1 m1 c1 a2 m2 c2 a c, v = .agg #[.slice a1 m1 c1, .slice a2 m2 c2, .slice a LL.length c] ∧ Rd2 insC 9 w (.slice a LL.length c) LL
theorem ProgRd.on {w w' : World} {v : Value} {LL : List (List InsT)} (h : ProgRd w v LL) (k : On w w') : ProgRd w' v LL := by
  obtain ⟨a1, m1, c1, a2, m2, c2, a, c, rfl, r⟩ := h
  exact ⟨a1, m1, c1, a2, m2, c2, a, c, rfl, r.on k⟩
def insZ : InsT := ⟨0, 0, 0, ⟨0, 0⟩, 0, ⟨0, 0⟩, 0⟩
theorem infoInsE : (Tryd.prog.info? 57).map (fun i => (i.zero, i.size, i.bytes)) = some (some (insV insZ), 9, 72) := by kernel_rfl
theorem made_ins (n : Nat) : (madeCells (insV insZ).cells (n * 9)).toList = (List.replicate n insZ).flatMap insC := by
  apply List.ext_getElem?
  intro j
  have hl : ((List.replicate n insZ).flatMap insC).length = n * 9 := by simp [List.length_flatMap, insC]
  by_cases hj : j < n * 9
  · have h1 : (List.replicate n insZ)[j / 9]? = some insZ := by rw [List.getElem?_replicate]; simp; omega
    have h2 := flat_at insC 9 (fun _ => rfl) (List.replicate n insZ) (j / 9) (j % 9) insZ h1 (Nat.mod_lt _ (by decide))
    rw [show j / 9 * 9 + j % 9 = j by omega] at h2
    rw [h2]
    have h3 : (madeCells (insV insZ).cells (n * 9)).toList[j]? = some ((insV insZ).cells[j % (insV insZ).cells.size]!) := by simp [madeCells, hj]
    rw [h3]
    have h4 : ∀ k, k < 9 → some ((insV insZ).cells[k]!) = (insC insZ)[k]? := fun k hk => by
      match k, hk with
      | 0, _ => rfl
      | 1, _ => rfl
      | 2, _ => rfl
      | 3, _ => rfl
      | 4, _ => rfl
      | 5, _ => rfl
      | 6, _ => rfl
      | 7, _ => rfl
      | 8, _ => rfl
    exact h4 (j % 9) (Nat.mod_lt _ (by decide))
  · have h5 : (madeCells (insV insZ).cells (n * 9)).toList[j]? = none := List.getElem?_eq_none (by simp [madeCells]; omega)
    rw [h5, List.getElem?_eq_none (by rw [hl]; omega)]
end Go.Proofs.YtmgjcgolebfjjaaDoor
