/- Rows of events that are the same, held against each other. -/
import Derived.Test.YtioiabfheeglgaaGreatDoorJ19EvB
import Derived.Test.YtioiabfheeglgaaGreatDoorJ20Eqs2
import Derived.BigQuiet
import Derived.Test.YtioiabfheeglgaaGreatDoorJ12RDoW
import Derived.Test.YtioiabfheeglgaaGreatDoorJ02RegFin
namespace Go.Proofs.YtioiabfheeglgaaGreatDoor
open Go.RowKit

theorem eqEv_same (w : World) (x0 x1 x2 x3 x4 x5 : Int) :
  (Op.equalIn 10000 58 (.agg #[.int .i64 x0, .int .i64 x1, .int .i64 x2, .int .i64 x3, .int .i64 x4, .int .i64 x5]) (.agg #[.int .i64 x0, .int .i64 x1, .int .i64 x2, .int .i64 x3, .int .i64 x4, .int .i64 x5])).run Tryz.prog w = .ok true w := by
 go_simp
theorem rd_ev {w : World} {E : List EvT} {a : Option Addr} {c : Nat} (h : Rd evC 6 w (.slice a E.length c) E) {n : Nat} {x : EvT} (hx : E[n]? = some x) :
  ∃ g off, a = some ⟨g, off, none⟩ ∧ g < w.heap.size ∧ w.cell? ⟨g, off + n * 6, none⟩ = some (.int .i64 x.t) ∧ w.cell? ⟨g, off + n * 6 + 1, none⟩ = some (.int .i64 x.i) ∧ w.cell? ⟨g, off + n * 6 + 2, none⟩ = some (.int .i64 x.k) ∧ w.cell? ⟨g, off + n * 6 + 3, none⟩ = some (.int .i64 x.l) ∧ w.cell? ⟨g, off + n * 6 + 4, none⟩ = some (.int .i64 x.r) ∧ w.cell? ⟨g, off + n * 6 + 5, none⟩ = some (.int .i64 x.w) := by
 obtain ⟨g, off, ha, hg, hc⟩ := h.at hx
 exact ⟨g, off, ha, hg, hc 0 _ rfl, hc 1 _ rfl, hc 2 _ rfl, hc 3 _ rfl, hc 4 _ rfl, hc 5 _ rfl⟩
end Go.Proofs.YtioiabfheeglgaaGreatDoor

namespace Go.Proofs.YtioiabfheeglgaaGreatDoor
open Go.RowKit

end Go.Proofs.YtioiabfheeglgaaGreatDoor
