/- Numbers, rows of numbers and rows of rows, held against each other: cmp.Compare, cmp.Or, slices.Compare, slices.CompareFunc. -/
import Derived.Test.YtcfohakgokiedaaGreatDoorJ18ExP
import Derived.Test.YtcfohakgokiedaaGreatDoorJ27EvS
import Derived.Test.YtcfohakgokiedaaGreatDoorJ04WaC
import Derived.Test.YtcfohakgokiedaaGreatDoorJ02FinW
namespace Go.Proofs.YtcfohakgokiedaaGreatDoor
open Go.RowKit

end Go.Proofs.YtcfohakgokiedaaGreatDoor

namespace Go.Proofs.YtcfohakgokiedaaGreatDoor
open Go.RowKit

theorem Rd.bk {α : Type} {C : α → List Value} {k : Nat} (hC : ∀ x, (C x).length = k) {w : World} {N : Nat} {L : List α} (h : Bk w N (L.flatMap C).toArray) (c : Nat) (hc : L.length ≤ c) (hm : L.length ≤ 9223372036854775807) : Rd C k w (.slice (some ⟨N, 0, none⟩) L.length c) L := by
 refine ⟨_, c, rfl, hc, hm, fun _ => ⟨N, 0, rfl, h.lt, fun i x j u hi hj => h.at ?_⟩⟩
 have hj' : j < k := by have := (List.getElem?_eq_some_iff.1 hj).1; rwa [hC] at this
 rw [Nat.zero_add, List.getElem?_toArray, flat_at C k hC L i j x hi hj', hj]
theorem Rd2.one {α : Type} {C : α → List Value} {k n : Nat} {w : World} {N : Nat} {L : List α} {a : Option Addr} {c : Nat} (hn : L.length = n) (h : Bk w N #[.slice a n c]) (hr : Rd C k w (.slice a L.length c) L) : Rd2 C k w (.slice (some ⟨N, 0, none⟩) 1 1) [L] := by
 subst hn
 refine ⟨[.slice a L.length c], rfl, Rd.bk (C := oneC) (fun _ => rfl) (L := [.slice a L.length c]) h 1 (Nat.le_refl _) (by simp), fun i u M hi hM => ?_⟩
 match i, hi, hM with
 | 0, hi, hM =>
  simp only [List.getElem?_cons_zero, Option.some.injEq] at hi hM
  subst hi; subst hM
  exact hr
 | i + 1, hi, _ => simp at hi
end Go.Proofs.YtcfohakgokiedaaGreatDoor
