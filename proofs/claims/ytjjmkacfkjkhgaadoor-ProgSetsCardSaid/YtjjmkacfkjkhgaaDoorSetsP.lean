/- Rows that set registers, in plain Lean; the document's Value. -/
import Derived.Test.YtjjmkacfkjkhgaaDoorStepD
import Derived.Test.YtjjmkacfkjkhgaaDoorRDoW
import Derived.Test.YtjjmkacfkjkhgaaDoorSmallH
namespace Go.Proofs.YtjjmkacfkjkhgaaDoor
open Go.RowKit

def setOk (x : InsT) : Prop := x.k = 5 ∧ regOk x.r = true ∧ 0 ≤ x.o ∧ x.o ≤ 11
set_option maxHeartbeats 1000000 in
theorem rvalue_is (o : Opd) (l : LocT) (w : World) : Calls Tryd.prog 11 #[.agg #[.int .i64 o.r, .int .i64 o.v], locV l] w fun e w' => e = .returned (.int .i64 (valOf o l)) ∧ On w w' := by
  obtain ⟨r, v⟩ := o
  obtain ⟨pc, r0, r1, r2, r3⟩ := l
  unfold valOf locV
  cases h : regOk r with
  | false =>
    by_cases h0 : 0 ≤ r
    · have h3 : decide (r ≤ 3) = false := by unfold regOk at h; simp at h; simp; omega
      go_enter Tryd.func11, Tryd.ntmps11
      go_wp2
      go_ret
      exact ⟨rfl, ((On.refl w).alloc _).alloc _⟩
    · go_enter Tryd.func11, Tryd.ntmps11
      go_wp2
      go_ret
      exact ⟨rfl, ((On.refl w).alloc _).alloc _⟩
  | true =>
    rcases regOk_four h with rfl | rfl | rfl | rfl
    all_goals
      go_enter Tryd.func11, Tryd.ntmps11
      go_wp2
      go_ret
      exact ⟨rfl, ((On.refl w).alloc _).alloc _⟩
/-- A set, seen from a thread that is made normal. -/
theorem settle_set {L : List InsT} {n : Nat} {r0 r1 r2 r3 : Int} {x : InsT} (hx : L[n]? = some x) (hk : x.k = 5) : settleP L ⟨(n : Int), r0, r1, r2, r3⟩ = settleP L (pcTo (withR ⟨(n : Int), r0, r1, r2, r3⟩ x.r (resOf x ⟨(n : Int), r0, r1, r2, r3⟩)) ((n : Int) + 1)) := by
  rw [settle_step (l := ⟨(n : Int), r0, r1, r2, r3⟩) (i := x) (Int.natCast_nonneg n) (by simpa using hx), hk]
  rfl
/-- The last one's second operand is written anew. -/
theorem last_b (S : List InsT) (x : InsT) (p q : Int) : ((((S ++ [x]).flatMap insC).set (S.length * 9 + 6) (.int .i64 p)).set (S.length * 9 + 7) (.int .i64 q)) = (S ++ [(⟨x.k, x.r, x.l, x.a, x.o, ⟨p, q⟩, x.n⟩ : InsT)]).flatMap insC := by
  have hl : (S.flatMap insC).length = S.length * 9 := flat_len (C := insC) (k := 9) (fun _ => rfl) S
  rw [List.flatMap_append, List.flatMap_append, List.set_append_right _ _ (by omega), List.set_append_right _ _ (by omega), hl, Nat.add_sub_cancel_left, Nat.add_sub_cancel_left]
  rfl
end Go.Proofs.YtjjmkacfkjkhgaaDoor
