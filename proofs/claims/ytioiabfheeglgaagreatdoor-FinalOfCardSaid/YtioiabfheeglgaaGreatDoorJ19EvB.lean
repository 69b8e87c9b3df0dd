/- Blocks told apart by their types. -/
import Derived.Test.YtioiabfheeglgaaGreatDoorJ18RowPut
import Derived.Test.YtioiabfheeglgaaGreatDoorJ13EvA
import Derived.Test.YtioiabfheeglgaaGreatDoorJ15Math
namespace Go.Proofs.YtioiabfheeglgaaGreatDoor
open Go.RowKit

section
variable {w w' : World} {N base k n : Nat} {cs : Array Value} {T e : TypeId} {v : Value} {xs : List Value}
theorem Ty.on (h : w.heap[N]? = some (.cells cs T (0, 0))) (o : On w w') : w'.heap[N]? = some (.cells cs T (0, 0)) := (o.block N (lt_of_block h)).trans h
theorem Ty.grown (h : w.heap[N]? = some (.cells cs T (0, 0))) (ho : w.ownsRow base e k v n xs) (hne : e ≠ T) (hg : w.grownBy w' v.ownBlock) : w'.heap[N]? = some (.cells cs T (0, 0)) := by
 refine (hg.block N (lt_of_block h) (fun eq => ?_)).trans h
 rcases ho.2 with ⟨hv, _⟩ | ⟨g, cap, cur, hv, hb, hh, _⟩
 ·
  rw [hv] at eq; cases eq
 ·
  rw [hv] at eq
  simp only [Value.ownBlock, Option.some.injEq] at eq
  subst eq
  rw [h] at hh
  simp only [Option.some.injEq, Obj.cells.injEq] at hh
  exact hne hh.2.1.symm
theorem own_drew (h : w.ownsRow base e k v n xs) : w.drew.ownsRow base e k v n xs := h
theorem own_setT (ho : w.ownsRow base e k v n xs) (h : w.heap[N]? = some (.cells cs T (0, 0))) (hne : e ≠ T) (i : Nat) (u : Value) : (w.setCell ⟨N, i, none⟩ u).ownsRow base e k v n xs := by
 refine ⟨ho.1, ?_⟩
 rcases ho.2 with h2 | ⟨g, cap, cur, hv, hb, hh, r⟩
 ·
  exact Or.inl h2
 ·
  refine Or.inr ⟨g, cap, cur, hv, hb, (Below.heap_setCell _ _ _ _ ?_).trans hh, r⟩
  show g ≠ N
  rintro rfl
  rw [h] at hh
  simp only [Option.some.injEq, Obj.cells.injEq] at hh
  exact hne hh.2.1.symm
theorem own_putsT {N : Nat} {T : TypeId} (hne : e ≠ T) : ∀ (vs : List Value) (w : World) (cs : List Value) (o : Nat), w.ownsRow base e k v n xs → w.heap[N]? = some (.cells cs.toArray T (0, 0)) → (putCells w N o vs).ownsRow base e k v n xs
 | [], _, _, _, h, _ => h
 | u :: vs, _, _, o, h, ht => own_putsT hne vs _ _ _ (own_setT h ht hne o u) (heap_put ht o u)
theorem news_eq {W : World} {n : Nat} (hn : W.heap.size = n) (cs : Array Value) (e : TypeId) : ∀ (j : Nat) (u : Value), cs.toList[j]? = some u → (W.alloc (.cells cs e)).cell? ((⟨n, 0, none⟩ : Addr).add j) = some u := by
 subst hn
 exact news_at W cs e
end
theorem heap_new_eq {W : World} {n : Nat} (hn : W.heap.size = n) (o : Obj) : (W.alloc o).heap[n]? = some o := by
 subst hn
 exact heap_alloc_new W o
end Go.Proofs.YtioiabfheeglgaaGreatDoor

namespace Go.Proofs.YtioiabfheeglgaaGreatDoor
open Go.RowKit

theorem infoEv : (Tryz.prog.info? 58).map (fun i => (i.zero, i.size, i.bytes)) = some (some (.agg #[.int .i64 0, .int .i64 0, .int .i64 0, .int .i64 0, .int .i64 0, .int .i64 0]), 6, 48) := by kernel_rfl
theorem neEvIns : (58 : TypeId) ≠ 67 := by decide
theorem one_ev (x : EvT) : ∀ u ∈ evC x, u.oneCell' = true := by
 intro u hu
 simp only [evC, List.mem_cons, List.not_mem_nil, or_false] at hu
 rcases hu with rfl | rfl | rfl | rfl | rfl | rfl <;> rfl
/-- The first of a row, and the others. -/
theorem Rd.pop {w : World} {b : Option Addr} {d : Nat} {v : Int} {R : List Int} (h : Rd intC 1 w (.slice b (R.length + 1) d) (v :: R)) :
  ∃ g off cap, b = some ⟨g, off, none⟩ ∧ d = cap + 1 ∧ R.length ≤ cap ∧ g < w.heap.size ∧ w.cell? ⟨g, off, none⟩ = some (.int .i64 v) ∧ Rd intC 1 w (.slice (some ⟨g, off + 1, none⟩) R.length cap) R := by
 obtain ⟨a', c', hv, hc, hm, hr⟩ := h
 simp only [List.length_cons, Value.slice.injEq] at hv hc hm
 obtain ⟨rfl, _, rfl⟩ := hv
 obtain ⟨g, off, ha, hg, hcell⟩ := hr (by simp)
 refine ⟨g, off, d - 1, ha, by omega, by omega, hg, ?_, _, _, rfl, by omega, by omega, fun _ => ⟨g, off + 1, rfl, hg, fun i x j u hi hj => ?_⟩⟩
 ·
  have := hcell 0 v 0 _ rfl rfl
  simpa using this
 ·
  have := hcell (i + 1) x j u (by simpa using hi) hj
  rw [← this]
  congr 2
  omega
theorem Rd.nilAt {α : Type} (C : α → List Value) (k : Nat) (w : World) (a : Option Addr) (c : Nat) : Rd C k w (.slice a 0 c) [] := ⟨a, c, rfl, Nat.zero_le _, by simp, fun h => absurd h (Nat.lt_irrefl 0)⟩
theorem results_scs {fn : Func} {p q u : Tmp} {ty : TypeId} (h : fn.results = #[.tmp p, .cell q ty, .tmp u]) (tmps : Array Value) (P : Program) (w : World) :
  (results fn tmps).run P w = ((asAddr (tmps.getD q undef)).run P w).andThen fun a w₁ => ((loadVar ty a).run P w₁).andThen fun v w₂ => .ok (.tuple #[tmps.getD p undef, v, tmps.getD u undef]) w₂ := by
 simp only [results, h]
 simp [Sem.run_bind, Result.andThen]
end Go.Proofs.YtioiabfheeglgaaGreatDoor
