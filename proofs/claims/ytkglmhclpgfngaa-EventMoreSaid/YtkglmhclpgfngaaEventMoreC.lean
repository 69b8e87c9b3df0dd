/- Proved: for every slice of ints, every number, every slice of int64 and every int64 the law EventMore of layer 10 returns true and leaves its arguments as they were; no package-level variable is listed. -/
import Derived.Test.YtkglmhclpgfngaaLift8
import Derived.Test.YtkglmhclpgfngaaEventMore
namespace Go.Proofs.Ytkglmhclpgfngaa
open Go.ChangeShapes Go.WideShapes Go.ChangeAt Go.WideMaps Go.WideElems Go.RowKit

theorem c_i64s : Try.prog.cellsOf 2 = 1 := by kernel_rfl
theorem c_ints : Try.prog.cellsOf 3 = 1 := by kernel_rfl
theorem laidOutT : laidOutB Try.prog = true := by kernel_rfl
set_option linter.unusedSimpArgs false in
set_option maxRecDepth 100000 in
theorem eventMore_lifted (os : Os) (started : os.Started) (H : Type) (enc : TypeId × Value → H) :
    ReturnsInHanded {} Try.checked os 7 .any (Rows.eventMoreSpec.pre6 enc Try.prog Try.f7 Rows.eventMoreRow.domain false) (Rows.eventMoreSpec.post enc Try.prog Try.f7 false true false false) := by
  refine returnsInHanded_of_change (C := Try.checked) own started (by kernel_rfl) Try.func7
    (ChangeSpec.witness6 (enc := enc) (C := Try.checked) false ⟨#[], #[.slice none 0 0, .int .i64 0, .slice none 0 0, .int .i64 0], []⟩ 8 (by kernel_rfl) (by kernel_rfl) (by kernel_rfl) (by kernel_rfl)) ?_
  intro W base args ds gs before hval0 hW _ _
  have hval : ∀ (j : Nat) t v, Try.f7.params[j]? = some t → args[j]? = some v → Value.okWide Try.prog W .any base t v := hval0
  have hW' := hW
  obtain ⟨p, q, hA0, hV, rfl, hfz, hnd⟩ := hW
  have hA : DataW.TrodAll enc Try.prog W 0 (fun _ => true) true Try.f7.params.toList args.toList ds p := hA0
  rw [Try.params7] at hA hval
  obtain ⟨v0, v1, v2, v3, d0, d1, d2, d3, p0, p1, p2, p3, rfl, rfl, rfl, h0, h1, h2, h3⟩ := trodAll_four hA
  obtain ⟨rfl, rfl⟩ := trodVars_none hV
  obtain ⟨t, rfl, rfl, rfl, wt⟩ := open_int Try.underlying3 (hval 1 3 v1 rfl rfl) h1
  obtain ⟨v, rfl, rfl, rfl, wv⟩ := open_int Try.underlying2 (hval 3 2 v3 rfl rfl) h3
  obtain ⟨a0, len0, cap0, rfl⟩ := okWide_slice Try.underlying27 (hval 0 27 v0 rfl rfl)
  have h0k := h0
  obtain ⟨fuel0, hf0⟩ := h0
  obtain ⟨a2, len2, cap2, rfl⟩ := okWide_slice Try.underlying28 (hval 2 28 v2 rfl rfl)
  have h2k := h2
  obtain ⟨fuel2, hf2⟩ := h2
  clear hA0 hval0
  simp only [List.append_nil, List.nil_append, List.append_assoc] at hW'
  have hlt0 : ∀ x ∈ p0, x.block < W.heap.size := fun x hx => by
    have := hW'.lt x (by simp [hx])
    simpa using this
  have hargs0 : ∀ (W' : World), Below W.heap.size W W' → DataW.Trod enc Try.prog W' 0 (fun b => decide (b < W.heap.size)) true 27 (.slice a0 len0 cap0) d0 p0 :=
    fun W' hn => Below.trod laidOutT (by kernel_rfl) (of_decide_eq_true (by kernel_rfl)) h0k hn hlt0
  obtain ⟨zs0, hzl0, hr0⟩ : ∃ zs : List Int, zs.length = len0 ∧ Rd intC 1 W (.slice a0 zs.length cap0) zs := by
    rcases open_ints Try.underlying27 Try.underlying3 c_ints hf0 with ⟨hcs, hx⟩ | ⟨a, len', cap', zs, hcs, _, hl, hm, hz, hx, hcell, hwz⟩
    · simp [Value.cells] at hcs
      obtain ⟨rfl, rfl, rfl⟩ := hcs
      exact ⟨[], rfl, Rd.nil _ _ _⟩
    · simp [Value.cells] at hcs
      obtain ⟨rfl, rfl, rfl⟩ := hcs
      simp only [Prod.mk.injEq] at hx
      obtain ⟨rfl, rfl⟩ := hx
      simp only [if_true] at hz
      have hlen : (zs.take len0).length = len0 := by rw [List.length_take]; omega
      refine ⟨zs.take len0, hlen, _, cap0, rfl, by omega, by have hm' := hm; unfold maxLen at hm'; omega, fun h => ?_⟩
      obtain ⟨b, off, spot⟩ := a
      have hspot : spot = none := by simpa [Addr.add] using World.cell?_spot (hcell 0 (by omega))
      subst hspot
      refine ⟨b, off, rfl, hlt0 (.cell b off) (MemPlace.mem_row.2 ⟨0, by omega, by simp⟩), fun i x j u hi hj => ?_⟩
      rw [List.getElem?_take] at hi
      split at hi
      · match j, hj with
        | 0, hj =>
          simp only [intC, List.getElem?_cons_zero, Option.some.injEq] at hj
          subst hj
          have hi' : i < zs.length := (List.getElem?_eq_some_iff.1 hi).1
          have hc := hcell i hi'
          rw [add_plain, List.getD_eq_getElem?_getD, hi] at hc
          rw [Nat.mul_one, Nat.add_zero]
          exact hc
        | j + 1, hj => simp [intC] at hj
      · cases hi
  subst hzl0
  obtain ⟨_, _, _, _, hz0⟩ := hr0.slice
  have hlt2 : ∀ x ∈ p2, x.block < W.heap.size := fun x hx => by
    have := hW'.lt x (by simp [hx])
    simpa using this
  have hargs2 : ∀ (W' : World), Below W.heap.size W W' → DataW.Trod enc Try.prog W' 0 (fun b => decide (b < W.heap.size)) true 28 (.slice a2 len2 cap2) d2 p2 :=
    fun W' hn => Below.trod laidOutT (by kernel_rfl) (of_decide_eq_true (by kernel_rfl)) h2k hn hlt2
  obtain ⟨zs2, hzl2, hr2⟩ : ∃ zs : List Int, zs.length = len2 ∧ Rd intC 1 W (.slice a2 zs.length cap2) zs := by
    rcases open_ints Try.underlying28 Try.underlying2 c_i64s hf2 with ⟨hcs, hx⟩ | ⟨a, len', cap', zs, hcs, _, hl, hm, hz, hx, hcell, hwz⟩
    · simp [Value.cells] at hcs
      obtain ⟨rfl, rfl, rfl⟩ := hcs
      exact ⟨[], rfl, Rd.nil _ _ _⟩
    · simp [Value.cells] at hcs
      obtain ⟨rfl, rfl, rfl⟩ := hcs
      simp only [Prod.mk.injEq] at hx
      obtain ⟨rfl, rfl⟩ := hx
      simp only [if_true] at hz
      have hlen : (zs.take len2).length = len2 := by rw [List.length_take]; omega
      refine ⟨zs.take len2, hlen, _, cap2, rfl, by omega, by have hm' := hm; unfold maxLen at hm'; omega, fun h => ?_⟩
      obtain ⟨b, off, spot⟩ := a
      have hspot : spot = none := by simpa [Addr.add] using World.cell?_spot (hcell 0 (by omega))
      subst hspot
      refine ⟨b, off, rfl, hlt2 (.cell b off) (MemPlace.mem_row.2 ⟨0, by omega, by simp⟩), fun i x j u hi hj => ?_⟩
      rw [List.getElem?_take] at hi
      split at hi
      · match j, hj with
        | 0, hj =>
          simp only [intC, List.getElem?_cons_zero, Option.some.injEq] at hj
          subst hj
          have hi' : i < zs.length := (List.getElem?_eq_some_iff.1 hi).1
          have hc := hcell i hi'
          rw [add_plain, List.getD_eq_getElem?_getD, hi] at hc
          rw [Nat.mul_one, Nat.add_zero]
          exact hc
        | j + 1, hj => simp [intC] at hj
      · cases hi
  subst hzl2
  obtain ⟨_, _, _, _, hz2⟩ := hr2.slice
  refine (eventMore_walk a0 zs0 cap0 t a2 zs2 cap2 v W hz0 hr0 hz2 hr2).mono fun e W' ⟨he, hw⟩ => ?_
  subst he
  refine ⟨_, rfl, _, _, _, [], p0 ++ p2, [], hW', ?_, ?_, rfl, Below.frame hw _, fun h => by cases h⟩
  · exact trodAll_mk1 (shut_bool Try.underlying4 _)
  · have hmk := trodAll_mk4 (hargs0 _ hw) (shut_int Try.underlying3 wt) (hargs2 _ hw) (shut_int Try.underlying2 wv)
    try simp only [List.append_nil, List.nil_append, List.append_assoc] at hmk
    exact hmk

theorem eventMore_said : Rows.EventMoreSaid :=
  OpenClaim.holds_of_wide 7 Try.f7 rfl rfl rfl rfl rfl rfl rfl ⟨rfl, rfl, rfl, rfl, rfl⟩ rfl rfl rfl rfl rfl (by kernel_rfl) Try.func7 (by kernel_rfl)
    (of_decide_eq_true (by kernel_rfl)) (by unfold Func.isWrapper; first | (rw [if_pos (by decide +kernel)]; kernel_rfl) | (rw [if_neg (by decide +kernel)]; exact ⟨rfl, rfl⟩))
    (fun os started H enc _ => eventMore_lifted os started H enc)
#print axioms eventMore_said

end Go.Proofs.Ytkglmhclpgfngaa
