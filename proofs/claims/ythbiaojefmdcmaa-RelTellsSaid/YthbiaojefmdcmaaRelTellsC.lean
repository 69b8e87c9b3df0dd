/- RelTells: relations are joined, met, taken from each other, put one behind the other, turned, closed and cut down as the document says. For every two numbers, every two lists of pairs, every set. -/
import Derived.Test.YthbiaojefmdcmaaRelTells
import Derived.Test.YthbiaojefmdcmaaPairArg
import Derived.Test.YthbiaojefmdcmaaLift8
namespace Go.Proofs.Ythbiaojefmdcmaa
open Go.ChangeShapes Go.WideShapes Go.ChangeAt Go.WideMaps Go.WideElems Go.RowKit

theorem relTells_walk (n : Int) (a1 : Option Addr) (L1 : List (Int × Int)) (e1 : Nat) (m : Int) (a2 : Option Addr) (L2 : List (Int × Int)) (e2 : Nat) (s : Nat) (w : World)
    (h1 : Rd pairC 2 w (.slice a1 L1.length e1) L1) (h2 : Rd pairC 2 w (.slice a2 L2.length e2) L2) (hs : s < 18446744073709551616) :
    Calls Try.prog 5 #[.int .i64 n, .slice a1 L1.length e1, .int .i64 m, .slice a2 L2.length e2, .int .u64 s] w fun e w' => e = .returned (.bool true) ∧ On w w' :=
  relTells_core n m _ _ _ _ rfl rfl rfl rfl a1 L1 e1 a2 L2 e2 s w h1 h2 hs
theorem laidOutT : laidOutB Try.prog = true := by kernel_rfl
set_option linter.unusedSimpArgs false in
set_option maxRecDepth 100000 in
theorem relTells_lifted (os : Os) (started : os.Started) (H : Type) (enc : TypeId × Value → H) :
    ReturnsInHanded {} Try.checked os 5 .any (Rows.relTellsSpec.pre6 enc Try.prog Try.f5 Rows.relTellsRow.domain false) (Rows.relTellsSpec.post enc Try.prog Try.f5 false true false false) := by
  refine returnsInHanded_of_change (C := Try.checked) own started (by kernel_rfl) Try.func5
    (ChangeSpec.witness6 (enc := enc) (C := Try.checked) false ⟨#[], #[.int .i64 0, .slice none 0 0, .int .i64 0, .slice none 0 0, .int .u64 0], []⟩ 8 (by kernel_rfl) (by kernel_rfl) (by kernel_rfl) (by kernel_rfl)) ?_
  intro W base args ds gs before hval0 hW _ _
  have hval : ∀ (j : Nat) t v, Try.f5.params[j]? = some t → args[j]? = some v → Value.okWide Try.prog W .any base t v := hval0
  have hW' := hW
  obtain ⟨p, q, hA0, hV, rfl, hfz, hnd⟩ := hW
  have hA : DataW.TrodAll enc Try.prog W 0 (fun _ => true) true Try.f5.params.toList args.toList ds p := hA0
  rw [Try.params5] at hA hval
  obtain ⟨v0, v1, v2, v3, v4, d0, d1, d2, d3, d4, p0, p1, p2, p3, p4, rfl, rfl, rfl, h0, h1, h2, h3, h4⟩ := trodAll_five hA
  obtain ⟨rfl, rfl⟩ := trodVars_none hV
  obtain ⟨n, rfl, rfl, rfl, wn⟩ := open_int Try.underlying3 (hval 0 3 v0 rfl rfl) h0
  obtain ⟨m, rfl, rfl, rfl, wm⟩ := open_int Try.underlying3 (hval 2 3 v2 rfl rfl) h2
  obtain ⟨s, rfl, rfl, rfl, ws⟩ := open_int Try.underlying23 (hval 4 23 v4 rfl rfl) h4
  obtain ⟨s, rfl, s0⟩ := bdu ws
  obtain ⟨a1, len1, cap1, rfl⟩ := okWide_slice Try.underlying22 (hval 1 22 v1 rfl rfl)
  have h1k := h1
  obtain ⟨fuel1, hf1⟩ := h1
  obtain ⟨a3, len3, cap3, rfl⟩ := okWide_slice Try.underlying22 (hval 3 22 v3 rfl rfl)
  have h3k := h3
  obtain ⟨fuel3, hf3⟩ := h3
  clear hA0 hval0
  simp only [List.append_nil, List.nil_append, List.append_assoc] at hW'
  have hlt1 : ∀ x ∈ p1, x.block < W.heap.size := fun x hx => by
    have := hW'.lt x (by simp [hx])
    simpa using this
  have hargs1 : ∀ (W' : World), Below W.heap.size W W' → DataW.Trod enc Try.prog W' 0 (fun b => decide (b < W.heap.size)) true 22 (.slice a1 len1 cap1) d1 p1 :=
    fun W' hn => Below.trod laidOutT (by kernel_rfl) (of_decide_eq_true (by kernel_rfl)) h1k hn hlt1
  obtain ⟨ax1, L1, cx1, hcs1, hr1, hq1⟩ := rd_slice pairC 2 (fun p : Int × Int => I64 p.1 ∧ I64 p.2) Try.underlying22 cPair (by decide) (fun _ => rfl) pair_of hf1
  simp only [Value.cells, List.cons.injEq, Value.slice.injEq, and_true] at hcs1
  obtain ⟨rfl, rfl, rfl⟩ := hcs1
  have hlt3 : ∀ x ∈ p3, x.block < W.heap.size := fun x hx => by
    have := hW'.lt x (by simp [hx])
    simpa using this
  have hargs3 : ∀ (W' : World), Below W.heap.size W W' → DataW.Trod enc Try.prog W' 0 (fun b => decide (b < W.heap.size)) true 22 (.slice a3 len3 cap3) d3 p3 :=
    fun W' hn => Below.trod laidOutT (by kernel_rfl) (of_decide_eq_true (by kernel_rfl)) h3k hn hlt3
  obtain ⟨ax3, L3, cx3, hcs3, hr3, hq3⟩ := rd_slice pairC 2 (fun p : Int × Int => I64 p.1 ∧ I64 p.2) Try.underlying22 cPair (by decide) (fun _ => rfl) pair_of hf3
  simp only [Value.cells, List.cons.injEq, Value.slice.injEq, and_true] at hcs3
  obtain ⟨rfl, rfl, rfl⟩ := hcs3
  refine (relTells_walk n a1 L1 cap1 m a3 L3 cap3 s W hr1 hr3 s0).mono fun e W' ⟨he, hw⟩ => ?_
  subst he
  refine ⟨_, rfl, _, _, _, [], p1 ++ p3, [], hW', ?_, ?_, rfl, Below.frame hw _, fun h => by cases h⟩
  · exact trodAll_mk1 (shut_bool Try.underlying4 _)
  · have hmk := trodAll_mk5 (shut_int Try.underlying3 wn) (hargs1 _ hw) (shut_int Try.underlying3 wm) (hargs3 _ hw) (shut_int Try.underlying23 ws)
    try simp only [List.append_nil, List.nil_append, List.append_assoc] at hmk
    exact hmk

theorem relTells_said : Rows.RelTellsSaid :=
  OpenClaim.holds_of_wide 5 Try.f5 rfl rfl rfl rfl rfl rfl rfl ⟨rfl, rfl, rfl, rfl, rfl⟩ rfl rfl rfl rfl rfl (by kernel_rfl) Try.func5 (by kernel_rfl)
    (of_decide_eq_true (by kernel_rfl)) (by unfold Func.isWrapper; first | (rw [if_pos (by decide +kernel)]; kernel_rfl) | (rw [if_neg (by decide +kernel)]; exact ⟨rfl, rfl⟩))
    (fun os started H enc _ => relTells_lifted os started H enc)
#print axioms relTells_said

end Go.Proofs.Ythbiaojefmdcmaa
