/- From the row's condition on the listed variables to what the walks of layer 13 ask; one start that fits. -/
import Derived.Test.YtioiabfheeglgaaGreatDoorRows
import Derived.Test.YtioiabfheeglgaaGreatDoorTie
import Derived.Test.YtioiabfheeglgaaGreatDoorCards
import Derived.Test.YtioiabfheeglgaaGreatDoorJ07DoW
import Derived.ProofKit
import Derived.LaidMore
import Derived.OpenShut
import Derived.Stop.Joined
import Derived.Stop.LaidErr
import Derived.Lib.LaidTab
import Derived.SevenTiedAt
import Derived.Carry
import Derived.Test.YtioiabfheeglgaaGreatDoorJ51FinalOf
namespace Go.Proofs.YtioiabfheeglgaaGreatDoor
open Go.ChangeShapes Go.WideShapes Go.ChangeAt Go.WideMaps Go.WideElems Go.RowKit

theorem own : ownKnob Tryz.prog.godebug = none := by kernel_rfl
/-- The rows' list. -/
def laidL : List (String × DataW Unit) := [("math/bits.deBruijn32tab", Rows.laid_math_bits_deBruijn32tab), ("math/bits.deBruijn64tab", Rows.laid_math_bits_deBruijn64tab), ("internal/strconv.uint64pow10", Rows.laid_internal_strconv_uint64pow10)]
/-- The door's own heap meets the condition. -/
theorem door_met (os : Os) (args : Array Value) : laidMetH Tryz.prog laidL ((World.doorLaid Tryz.prog 400 os).forCall (fun _ _ => 0) ⟨#[], args, []⟩).memory :=
 laidMetH_of_parts3 (fuel := 8) (laidMet_of_run' 8 (by kernel_rfl) (by kernel_rfl)) (by kernel_rfl) (by kernel_rfl)
theorem tPw : (Tryz.prog.globals[0]?).map (·.type) = some 152 := by kernel_rfl
theorem cPw : Tryz.prog.cellsOf 152 = 20 := by kernel_rfl
theorem cU64 : Tryz.prog.cellsOf 99 = 1 := by kernel_rfl
theorem of_laid {W : World} (h : laidMetH Tryz.prog laidL W) : Pw W := by
 rw [MakeChecks.laidMetH_plain _ _ _ (by kernel_rfl)] at h
 exact Lib.tabIs_of_head gPw tPw Tryz.underlying152 Tryz.underlying99 cU64 cPw h.tail.tail
end Go.Proofs.YtioiabfheeglgaaGreatDoor

namespace Go.Proofs.YtioiabfheeglgaaGreatDoor
open Go.ChangeShapes Go.WideShapes Go.ChangeAt Go.WideMaps Go.WideElems Go.RowKit

theorem c_ints : Tryz.prog.cellsOf 3 = 1 := by kernel_rfl
theorem laidOutT : laidOutB Tryz.prog = true := by kernel_rfl
set_option linter.unusedSimpArgs false in
set_option maxRecDepth 100000 in
theorem finalOf_lifted (os : Os) (started : os.Started) (H : Type) (enc : TypeId × Value → H) :
  ReturnsInHanded {} Tryz.checked os 3 .any (fun w args => (Rows.finalOfSpec.pre enc Tryz.prog Tryz.f3 [] false w args ∧ laidMetH Tryz.prog laidL w) ∧ sizedMet enc Tryz.prog Tryz.f3 (OpenSpec.ofChange Rows.finalOfSpec) false w args)
   (Rows.finalOfSpec.post enc Tryz.prog Tryz.f3 false true false false) := by
 refine returnsInHanded_of_change_and (C := Tryz.checked) (X := fun w _ => laidMetH Tryz.prog laidL w) (fun _ _ _ hh h => h.of_heap hh) own started (by kernel_rfl) Tryz.func3
  (ChangeSpec.witness_shaped (enc := enc) (C := Tryz.checked) (os := os) (X := fun w _ => laidMetH Tryz.prog laidL w) false (World.doorLaid Tryz.prog 400 os) #[.slice none 0 0] 8 rfl (World.shaped_of_RefB (by kernel_rfl) (by kernel_rfl)) (by kernel_rfl) (by kernel_rfl) (by kernel_rfl) (door_met os _)) ?_
 intro W base args ds gs before hval0 hW _ _ hL _
 have hval : ∀ (j : Nat) t v, Tryz.f3.params[j]? = some t → args[j]? = some v → Value.okWide Tryz.prog W .any base t v := hval0
 have hW' := hW
 obtain ⟨p, q, hA0, hV, rfl, hfz, hnd⟩ := hW
 have hA : DataW.TrodAll enc Tryz.prog W 0 (fun _ => true) true Tryz.f3.params.toList args.toList ds p := hA0
 rw [Tryz.params3] at hA hval
 obtain ⟨v0, d0, rfl, rfl, h0⟩ := trodAll_one hA
 obtain ⟨rfl, rfl⟩ := trodVars_none hV
 obtain ⟨a0, len0, cap0, rfl⟩ := okWide_slice Tryz.underlying22 (hval 0 22 v0 rfl rfl)
 have h0k := h0
 obtain ⟨fuel0, hf0⟩ := h0
 clear hA0 hval0
 simp only [List.append_nil, List.nil_append, List.append_assoc] at hW'
 have hlt0 : ∀ x ∈ p, x.block < W.heap.size := fun x hx => by
  have := hW'.lt x (by simp [hx])
  simpa using this
 have hargs0 : ∀ (W' : World), Below W.heap.size W W' → DataW.Trod enc Tryz.prog W' 0 (fun b => decide (b < W.heap.size)) true 22 (.slice a0 len0 cap0) d0 p :=
  fun W' hn => Below.trod laidOutT (by kernel_rfl) (of_decide_eq_true (by kernel_rfl)) h0k hn hlt0
 obtain ⟨zs0, hzl0, hr0⟩ : ∃ zs : List Int, zs.length = len0 ∧ Rd intC 1 W (.slice a0 zs.length cap0) zs := by
  rcases open_ints Tryz.underlying22 Tryz.underlying3 c_ints hf0 with ⟨hcs, hx⟩ | ⟨a, len', cap', zs, hcs, _, hl, hm, hz, hx, hcell, hwz⟩
  ·
   simp [Value.cells] at hcs
   obtain ⟨rfl, rfl, rfl⟩ := hcs
   exact ⟨[], rfl, Rd.nil _ _ _⟩
  ·
   simp [Value.cells] at hcs
   obtain ⟨rfl, rfl, rfl⟩ := hcs
   simp only [Prod.mk.injEq] at hx
   obtain ⟨rfl, rfl⟩ := hx
   simp only [if_true] at hz
   have hlen : (zs.take len0).length = len0 := by rw [List.length_take]; omega
   refine ⟨zs.take len0, hlen, _, cap0, rfl, by omega, by have hm' := hm; unfold maxLen at hm'; omega, fun h => ?_⟩
   obtain ⟨b, off, spot⟩ := a
   have hspot : spot = none := by simpa [Addr.add] using World.cell?_spot (hcell 0 (by omega))
   subst hspot
   refine ⟨b, off, rfl, hlt0 (.cell b off) (MemPlace.mem_row.2 ⟨0, by omega, by simp⟩), fun i x j u hi hj => ?_⟩
   rw [List.getElem?_take] at hi
   split at hi
   ·
    match j, hj with
    | 0, hj =>
     simp only [intC, List.getElem?_cons_zero, Option.some.injEq] at hj
     subst hj
     have hi' : i < zs.length := (List.getElem?_eq_some_iff.1 hi).1
     have hc := hcell i hi'
     rw [add_plain, List.getD_eq_getElem?_getD, hi] at hc
     rw [Nat.mul_one, Nat.add_zero]
     exact hc
    | j + 1, hj => simp [intC] at hj
   ·
    cases hi
 subst hzl0
 obtain ⟨_, _, _, _, hz0⟩ := hr0.slice
 refine (finalOf_walk a0 zs0 cap0 W hz0 hr0 (of_laid hL)).mono fun e W' ⟨he, hw⟩ => ?_
 subst he
 refine ⟨_, rfl, _, _, _, [], p, [], hW', ?_, ?_, rfl, Below.frame hw _, fun h => by cases h⟩
 ·
  exact trodAll_mk1 (shut_bool Tryz.underlying4 _)
 ·
  have hmk := trodAll_mk1 (hargs0 _ hw)
  try simp only [List.append_nil, List.nil_append, List.append_assoc] at hmk
  exact hmk

theorem finalOf_said : Rows.FinalOfSaid :=
 OpenClaim.holds_of_wide 3 Tryz.f3 rfl rfl rfl rfl rfl rfl rfl ⟨rfl, rfl, rfl, rfl, rfl⟩ rfl rfl rfl rfl rfl (by kernel_rfl) Tryz.func3 (by kernel_rfl)
  (of_decide_eq_true (by kernel_rfl)) (by unfold Func.isWrapper; first | (rw [if_pos (by decide +kernel)]; kernel_rfl) | (rw [if_neg (by decide +kernel)]; exact ⟨rfl, rfl⟩))
  (fun os started H enc _ => finalOf_lifted os started H enc)

theorem finalOf_card : Rows.FinalOfCardSaid :=
 Claim7.holds_tied_plain_at .later [] [.data, .data, .data] true (true, "0a7ef7bbe80136f92099bf41f869c517f31c45681e3315084e48447b8abdc4aa") false
  finalOf_said (fun _ h => by cases h) (by kernel_rfl) (fun _ h => by cases h) finalOf_row_tie rfl ⟨rfl, rfl⟩ (by kernel_rfl) rfl
  (fun f fn hf hfn => by
   obtain rfl : f = 3 := Option.some.inj ((show Tryz.prog.funcNamed "jacquard/jacquardlaw13.FinalOf" = some 3 by kernel_rfl).symm.trans hf) |>.symm
   obtain rfl : fn = Tryz.f3 := (Option.some.inj (Tryz.func3.symm.trans hfn)).symm
   exact ⟨by kernel_rfl, fun j t ht => by
    rw [Tryz.params3] at ht
    have hm : t ∈ [22] := by simpa using Array.mem_of_getElem? ht
    have hall : ([22].all fun u => !Tryz.prog.wantsStandIn u) = true := by kernel_rfl
    exact (show Tryz.prog.wantsStandIn t = false by simpa using List.all_eq_true.1 hall t hm)⟩)
  (by kernel_rfl)
#print axioms finalOf_card

end Go.Proofs.YtioiabfheeglgaaGreatDoor
