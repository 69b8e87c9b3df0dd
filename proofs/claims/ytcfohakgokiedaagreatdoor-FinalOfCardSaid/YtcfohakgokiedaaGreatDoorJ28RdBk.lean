/- Numbers, rows of numbers and rows of rows, held against each other: cmp.Compare, cmp.Or, slices.Compare, slices.CompareFunc. -/
import Derived.Test.YtcfohakgokiedaaGreatDoorJ18ExP
import Derived.Test.YtcfohakgokiedaaGreatDoorJ27EvS
import Derived.Test.YtcfohakgokiedaaGreatDoorJ04WaC
import Derived.Test.YtcfohakgokiedaaGreatDoorJ02FinW
namespace Go.Proofs.YtcfohakgokiedaaGreatDoor
open Go.RowKit

theorem nan8_is (x : Int) (w : World) : Calls Tryz.prog 103 #[.int .i64 x] w fun e w' => e = .returned (.bool false) ∧ w' = w := by
 have h : ((x : Int) != x) = false := by simp
 go_enter Tryz.func103, Tryz.ntmps103
 go_wp2
 go_ret
 exact ⟨rfl, rfl⟩
set_option maxHeartbeats 1000000 in
theorem cmp8_is (x y : Int) (w : World) : Calls Tryz.prog 89 #[.int .i64 x, .int .i64 y] w fun e w' => e = .returned (.int .i64 (cmpI x y)) ∧ w' = w := by
 have h1 := nan8_is x
 have h2 := nan8_is y
 unfold cmpI
 by_cases a : x < y
 ·
  have da : decide (x < y) = true := decide_eq_true a
  rw [if_pos a]
  go_enter Tryz.func89, Tryz.ntmps89
  go_wp2_with fail
  refine (h1 _).mono ?_
  rintro _ _ ⟨rfl, rfl⟩
  go_wp2_with fail
  refine (h2 _).mono ?_
  rintro _ _ ⟨rfl, rfl⟩
  go_wp2
  go_ret
  exact ⟨rfl, rfl⟩
 ·
  have da : decide (x < y) = false := decide_eq_false a
  rw [if_neg a]
  by_cases b : y < x
  ·
   have db : decide (y < x) = true := decide_eq_true b
   rw [if_pos b]
   go_enter Tryz.func89, Tryz.ntmps89
   go_wp2_with fail
   refine (h1 _).mono ?_
   rintro _ _ ⟨rfl, rfl⟩
   go_wp2_with fail
   refine (h2 _).mono ?_
   rintro _ _ ⟨rfl, rfl⟩
   go_wp2
   go_ret
   exact ⟨rfl, rfl⟩
  ·
   have db : decide (y < x) = false := decide_eq_false b
   rw [if_neg b]
   go_enter Tryz.func89, Tryz.ntmps89
   go_wp2_with fail
   refine (h1 _).mono ?_
   rintro _ _ ⟨rfl, rfl⟩
   go_wp2_with fail
   refine (h2 _).mono ?_
   rintro _ _ ⟨rfl, rfl⟩
   go_wp2
   go_ret
   exact ⟨rfl, rfl⟩
end Go.Proofs.YtcfohakgokiedaaGreatDoor

namespace Go.Proofs.YtcfohakgokiedaaGreatDoor
open Go.RowKit

theorem Rd.bk {α : Type} {C : α → List Value} {k : Nat} (hC : ∀ x, (C x).length = k) {w : World} {N : Nat} {L : List α} (h : Bk w N (L.flatMap C).toArray) (c : Nat) (hc : L.length ≤ c) (hm : L.length ≤ 9223372036854775807) : Rd C k w (.slice (some ⟨N, 0, none⟩) L.length c) L := by
 refine ⟨_, c, rfl, hc, hm, fun _ => ⟨N, 0, rfl, h.lt, fun i x j u hi hj => h.at ?_⟩⟩
 have hj' : j < k := by have := (List.getElem?_eq_some_iff.1 hj).1; rwa [hC] at this
 rw [Nat.zero_add, List.getElem?_toArray, flat_at C k hC L i j x hi hj', hj]
theorem Rd2.one {α : Type} {C : α → List Value} {k n : Nat} {w : World} {N : Nat} {L : List α} {a : Option Addr} {c : Nat} (hn : L.length = n) (h : Bk w N #[.slice a n c]) (hr : Rd C k w (.slice a L.length c) L) : Rd2 C k w (.slice (some ⟨N, 0, none⟩) 1 1) [L] := by
 subst hn
 refine ⟨[.slice a L.length c], rfl, Rd.bk (C := oneC) (fun _ => rfl) (L := [.slice a L.length c]) h 1 (Nat.le_refl _) (by simp), fun i u M hi hM => ?_⟩
 match i, hi, hM with
 | 0, hi, hM =>
  simp only [List.getElem?_cons_zero, Option.some.injEq] at hi hM
  subst hi; subst hM
  exact hr
 | i + 1, hi, _ => simp at hi
end Go.Proofs.YtcfohakgokiedaaGreatDoor
