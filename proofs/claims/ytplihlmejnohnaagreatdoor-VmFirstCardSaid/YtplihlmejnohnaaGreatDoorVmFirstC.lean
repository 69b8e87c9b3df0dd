/- VmFirst, its whole card: for every three arguments the law holds at the landed commit: stores of a thread come to memory in its order. No condition beside what the card lists (package-level variables read as their initialisers lay them). -/
import Derived.Test.YtplihlmejnohnaaGreatDoorLift16
import Derived.Test.YtplihlmejnohnaaGreatDoorJ52VmFirst
namespace Go.Proofs.YtplihlmejnohnaaGreatDoor
open Go.ChangeShapes Go.WideShapes Go.ChangeAt Go.WideMaps Go.WideElems Go.RowKit

theorem c_ints : Tryz.prog.cellsOf 3 = 1 := by kernel_rfl
theorem laidOutT : laidOutB Tryz.prog = true := by kernel_rfl
set_option linter.unusedSimpArgs false in
set_option maxRecDepth 100000 in
theorem vmFirst_lifted (os : Os) (started : os.Started) (H : Type) (enc : TypeId × Value → H) :
    ReturnsInHanded {} Tryz.checked os 4 .any (fun w args => (Rows.vmFirstSpec.pre enc Tryz.prog Tryz.f4 [] false w args ∧ laidMetH Tryz.prog laidL w) ∧ sizedMet enc Tryz.prog Tryz.f4 (OpenSpec.ofChange Rows.vmFirstSpec) false w args)
      (Rows.vmFirstSpec.post enc Tryz.prog Tryz.f4 false true false false) := by
  refine returnsInHanded_of_change_and (C := Tryz.checked) (X := fun w _ => laidMetH Tryz.prog laidL w) (fun _ _ _ hh h => h.of_heap hh) own started (by kernel_rfl) Tryz.func4
    (ChangeSpec.witness_shaped (enc := enc) (C := Tryz.checked) (os := os) (X := fun w _ => laidMetH Tryz.prog laidL w) false (World.doorLaid Tryz.prog 400 os) #[.slice none 0 0, .int .i64 0, .slice none 0 0] 8 rfl (World.shaped_of_RefB (by kernel_rfl) (by kernel_rfl)) (by kernel_rfl) (by kernel_rfl) (by kernel_rfl) (door_met os _)) ?_
  intro W base args ds gs before hval0 hW _ _ hL _
  have hval : ∀ (j : Nat) t v, Tryz.f4.params[j]? = some t → args[j]? = some v → Value.okWide Tryz.prog W .any base t v := hval0
  have hW' := hW
  obtain ⟨p, q, hA0, hV, rfl, hfz, hnd⟩ := hW
  have hA : DataW.TrodAll enc Tryz.prog W 0 (fun _ => true) true Tryz.f4.params.toList args.toList ds p := hA0
  rw [Tryz.params4] at hA hval
  obtain ⟨v0, v1, v2, d0, d1, d2, p0, p1, p2, rfl, rfl, rfl, h0, h1, h2⟩ := trodAll_three hA
  obtain ⟨rfl, rfl⟩ := trodVars_none hV
  obtain ⟨m, rfl, rfl, rfl, wm⟩ := open_int Tryz.underlying3 (hval 1 3 v1 rfl rfl) h1
  obtain ⟨a0, len0, cap0, rfl⟩ := okWide_slice Tryz.underlying22 (hval 0 22 v0 rfl rfl)
  have h0k := h0
  obtain ⟨fuel0, hf0⟩ := h0
  obtain ⟨a2, len2, cap2, rfl⟩ := okWide_slice Tryz.underlying22 (hval 2 22 v2 rfl rfl)
  have h2k := h2
  obtain ⟨fuel2, hf2⟩ := h2
  clear hA0 hval0
  simp only [List.append_nil, List.nil_append, List.append_assoc] at hW'
  have hlt0 : ∀ x ∈ p0, x.block < W.heap.size := fun x hx => by
    have := hW'.lt x (by simp [hx])
    simpa using this
  have hargs0 : ∀ (W' : World), Below W.heap.size W W' → DataW.Trod enc Tryz.prog W' 0 (fun b => decide (b < W.heap.size)) true 22 (.slice a0 len0 cap0) d0 p0 :=
    fun W' hn => Below.trod laidOutT (by kernel_rfl) (of_decide_eq_true (by kernel_rfl)) h0k hn hlt0
  obtain ⟨zs0, hzl0, hr0⟩ : ∃ zs : List Int, zs.length = len0 ∧ Rd intC 1 W (.slice a0 zs.length cap0) zs := by
    rcases open_ints Tryz.underlying22 Tryz.underlying3 c_ints hf0 with ⟨hcs, hx⟩ | ⟨a, len', cap', zs, hcs, _, hl, hm, hz, hx, hcell, hwz⟩
    · simp [Value.cells] at hcs
      obtain ⟨rfl, rfl, rfl⟩ := hcs
      exact ⟨[], rfl, Rd.nil _ _ _⟩
    · simp [Value.cells] at hcs
      obtain ⟨rfl, rfl, rfl⟩ := hcs
      simp only [Prod.mk.injEq] at hx
      obtain ⟨rfl, rfl⟩ := hx
      simp only [if_true] at hz
      have hlen : (zs.take len0).length = len0 := by rw [List.length_take]; omega
      refine ⟨zs.take len0, hlen, _, cap0, rfl, by omega, by have hm' := hm; unfold maxLen at hm'; omega, fun h => ?_⟩
      obtain ⟨b, off, spot⟩ := a
      have hspot : spot = none := by simpa [Addr.add] using World.cell?_spot (hcell 0 (by omega))
      subst hspot
      refine ⟨b, off, rfl, hlt0 (.cell b off) (MemPlace.mem_row.2 ⟨0, by omega, by simp⟩), fun i x j u hi hj => ?_⟩
      rw [List.getElem?_take] at hi
      split at hi
      · match j, hj with
        | 0, hj =>
          simp only [intC, List.getElem?_cons_zero, Option.some.injEq] at hj
          subst hj
          have hi' : i < zs.length := (List.getElem?_eq_some_iff.1 hi).1
          have hc := hcell i hi'
          rw [add_plain, List.getD_eq_getElem?_getD, hi] at hc
          rw [Nat.mul_one, Nat.add_zero]
          exact hc
        | j + 1, hj => simp [intC] at hj
      · cases hi
  subst hzl0
  obtain ⟨_, _, _, _, hz0⟩ := hr0.slice
  have hlt2 : ∀ x ∈ p2, x.block < W.heap.size := fun x hx => by
    have := hW'.lt x (by simp [hx])
    simpa using this
  have hargs2 : ∀ (W' : World), Below W.heap.size W W' → DataW.Trod enc Tryz.prog W' 0 (fun b => decide (b < W.heap.size)) true 22 (.slice a2 len2 cap2) d2 p2 :=
    fun W' hn => Below.trod laidOutT (by kernel_rfl) (of_decide_eq_true (by kernel_rfl)) h2k hn hlt2
  obtain ⟨zs2, hzl2, hr2⟩ : ∃ zs : List Int, zs.length = len2 ∧ Rd intC 1 W (.slice a2 zs.length cap2) zs := by
    rcases open_ints Tryz.underlying22 Tryz.underlying3 c_ints hf2 with ⟨hcs, hx⟩ | ⟨a, len', cap', zs, hcs, _, hl, hm, hz, hx, hcell, hwz⟩
    · simp [Value.cells] at hcs
      obtain ⟨rfl, rfl, rfl⟩ := hcs
      exact ⟨[], rfl, Rd.nil _ _ _⟩
    · simp [Value.cells] at hcs
      obtain ⟨rfl, rfl, rfl⟩ := hcs
      simp only [Prod.mk.injEq] at hx
      obtain ⟨rfl, rfl⟩ := hx
      simp only [if_true] at hz
      have hlen : (zs.take len2).length = len2 := by rw [List.length_take]; omega
      refine ⟨zs.take len2, hlen, _, cap2, rfl, by omega, by have hm' := hm; unfold maxLen at hm'; omega, fun h => ?_⟩
      obtain ⟨b, off, spot⟩ := a
      have hspot : spot = none := by simpa [Addr.add] using World.cell?_spot (hcell 0 (by omega))
      subst hspot
      refine ⟨b, off, rfl, hlt2 (.cell b off) (MemPlace.mem_row.2 ⟨0, by omega, by simp⟩), fun i x j u hi hj => ?_⟩
      rw [List.getElem?_take] at hi
      split at hi
      · match j, hj with
        | 0, hj =>
          simp only [intC, List.getElem?_cons_zero, Option.some.injEq] at hj
          subst hj
          have hi' : i < zs.length := (List.getElem?_eq_some_iff.1 hi).1
          have hc := hcell i hi'
          rw [add_plain, List.getD_eq_getElem?_getD, hi] at hc
          rw [Nat.mul_one, Nat.add_zero]
          exact hc
        | j + 1, hj => simp [intC] at hj
      · cases hi
  subst hzl2
  obtain ⟨_, _, _, _, hz2⟩ := hr2.slice
  refine (vmFirst_walk a0 zs0 cap0 m a2 zs2 cap2 W hz0 hr0 hz2 hr2 (of_laid hL)).mono fun e W' ⟨he, hw⟩ => ?_
  subst he
  refine ⟨_, rfl, _, _, _, [], p0 ++ p2, [], hW', ?_, ?_, rfl, Below.frame hw _, fun h => by cases h⟩
  · exact trodAll_mk1 (shut_bool Tryz.underlying4 _)
  · have hmk := trodAll_mk3 (hargs0 _ hw) (shut_int Tryz.underlying3 wm) (hargs2 _ hw)
    try simp only [List.append_nil, List.nil_append, List.append_assoc] at hmk
    exact hmk

theorem vmFirst_said : Rows.VmFirstSaid :=
  OpenClaim.holds_of_wide 4 Tryz.f4 rfl rfl rfl rfl rfl rfl rfl ⟨rfl, rfl, rfl, rfl, rfl⟩ rfl rfl rfl rfl rfl (by kernel_rfl) Tryz.func4 (by kernel_rfl)
    (of_decide_eq_true (by kernel_rfl)) (by unfold Func.isWrapper; first | (rw [if_pos (by decide +kernel)]; kernel_rfl) | (rw [if_neg (by decide +kernel)]; exact ⟨rfl, rfl⟩))
    (fun os started H enc _ => vmFirst_lifted os started H enc)

theorem vmFirst_card : Rows.VmFirstCardSaid :=
  Claim7.holds_tied_plain_at .later [] [.data, .data, .data, .data] true (true, "ad6f9247b8e83913357bf0a4732097fdd44d1949e6575d41b197a4783b950a9c") false
    vmFirst_said (fun _ h => by cases h) (by kernel_rfl) (fun _ h => by cases h) vmFirst_row_tie rfl ⟨rfl, rfl⟩ (by kernel_rfl) rfl
    (fun f fn hf hfn => by
      obtain rfl : f = 4 := Option.some.inj ((show Tryz.prog.funcNamed "jacquard/jacquardlaw16.VmFirst" = some 4 by kernel_rfl).symm.trans hf) |>.symm
      obtain rfl : fn = Tryz.f4 := (Option.some.inj (Tryz.func4.symm.trans hfn)).symm
      exact ⟨by kernel_rfl, fun j t ht => by
        rw [Tryz.params4] at ht
        have hm : t ∈ [22, 3, 22] := by simpa using Array.mem_of_getElem? ht
        have hall : ([22, 3, 22].all fun u => !Tryz.prog.wantsStandIn u) = true := by kernel_rfl
        exact (show Tryz.prog.wantsStandIn t = false by simpa using List.all_eq_true.1 hall t hm)⟩)
    (by kernel_rfl)
#print axioms vmFirst_card

end Go.Proofs.YtplihlmejnohnaaGreatDoor
