/- A region whose last writers wait for what is taken only by a long chain. -/
import Derived.Test.YtnoeofbjnogkmaaRegFin3
namespace Go.Proofs.Ytnoeofbjnogkmaa
open Go.RowKit

section
variable {P : Program} {ops : Array Oper} {Q : Exit → Act → World → Prop} {md : Region.Mode} {S : World → Prop} {Z : List Nat}
/-- Number z comes behind number i: it waits for it, or for one that has not been and comes behind it. -/
def lateD (md : Region.Mode) (ops : Array Oper) (listed : Array Bool) (i : Nat) : Nat → Nat → Bool
  | 0, z => waitsB md ops z i
  | n + 1, z => waitsB md ops z i || (List.range ops.size).any fun m => waitsB md ops z m && ((listed.getD m true == false) && lateD md ops listed i n m)
theorem lateD_no {listed : Array Bool} {i : Nat} (hi : i ∈ Region.ready md ops listed) : ∀ (n z : Nat), lateD md ops listed i n z = true → z ∉ Region.ready md ops listed
  | 0, z, h => late_no (by unfold lateB; simp only [lateD] at h; rw [h]; rfl) hi
  | n + 1, z, h => by
    intro hz
    obtain ⟨_, oz, hoz, hall⟩ := mem_ready.1 hz
    unfold lateD at h
    simp only [Bool.or_eq_true, List.any_eq_true, List.mem_range, Bool.and_eq_true, beq_iff_eq] at h
    rcases h with h | ⟨m, hm, h2, h3, _⟩
    · obtain ⟨e, he, hb, heq⟩ := waits_spec h hoz
      exact ready_apart hi hz hoz he hb heq
    · obtain ⟨e, he, hb, heq⟩ := waits_spec h2 hoz
      have h1 : listed.getD m false = true := heq ▸ hall e he hb
      unfold Array.getD at h3 h1
      split at h3
      · rename_i hlt
        rw [dif_pos hlt] at h1
        exact absurd (h3.symm.trans h1) (by decide)
      · cases h3
theorem lateD_set {listed : Array Bool} {i j : Nat} (hi : i ∈ Region.ready md ops listed) (hj : j ∈ Region.ready md ops listed) : ∀ (n z : Nat), lateD md ops listed i n z = true → lateD md ops (listed.setIfInBounds j true) i n z = true
  | 0, _, h => h
  | n + 1, z, h => by
    unfold lateD at h ⊢
    simp only [Bool.or_eq_true, List.any_eq_true, List.mem_range, Bool.and_eq_true, beq_iff_eq] at h ⊢
    rcases h with h | ⟨m, hm, h1, h2, h3⟩
    · exact Or.inl h
    · refine Or.inr ⟨m, hm, h1, ?_, lateD_set hi hj n m h3⟩
      have hne : j ≠ m := by
        rintro rfl
        exact lateD_no hi n j h3 hj
      exact (getD_set_ne true hne).trans h2
theorem fzd_first {i : Nat} {oi : Oper} {v : Value} (d : Nat) (hi : ops[i]? = some oi) (hsel : ∀ (j : Nat) (o : Oper) cs b, ops[j]? = some o → o.op ≠ .select cs b)
    (hQ : ∀ c a w, Q (.panic c) (a.put oi.dst v) w → Q (.panic c) a w) :
    ∀ (n : Nat) (listed : Array Bool) (a : Act) (w : World), (∀ z ∈ Z, lateD md ops listed i d z = true) → Free md ops i oi listed → i ∈ Region.ready md ops listed → YieldsIf P ops S oi v a → S w →
      wpFz P md ops Q S Z n (listed.setIfInBounds i true) (a.put oi.dst v) w → wpFz P md ops Q S Z (n + 1) listed a w
  | n, listed, a, w, hz, hF, hr, hy, hS, H => by
    refine ⟨fun h => absurd (h ▸ hr) (by simp), fun j hj => ?_⟩
    rcases Decidable.em (j = i) with rfl | hji
    · exact hy.wpOp hi hS ⟨fun _ => hS, H⟩
    obtain ⟨hun, oj, hoj, _⟩ := mem_ready.1 hj
    have hno : ∀ e ∈ oj.after, Region.binds md e = true → e.on ≠ i := fun e he hb => ready_apart hr hj hoj he hb
    have hjz : j ∉ Z := fun hm => lateD_no hr d j (hz j hm) hj
    match n, H with
    | 0, H => exact absurd (H.1 ▸ ready_mono hj hji) (by simp)
    | n + 1, H =>
      refine wpOp_mono (fun a' w' k => ⟨k.2.1, ?_⟩) (wpOp_putIf hoj (hF j oj hoj hji hun hno) (fun cs b => hsel i oi cs b hi) (fun cs b => hsel j oj cs b hoj) hQ hy (H.2 j (ready_mono hj hji)))
      exact fzd_first d hi hsel hQ n _ a' w' (fun z hm => lateD_set hr hj d z (hz z hm)) (hF.set hun) (ready_mono hr (Ne.symm hji)) k.1 (k.2.1 hjz) (Array.setIfInBounds_comm true true hji ▸ k.2.2)
theorem fzd_take {l rest : List Oper} (d i : Nat) {oi : Oper} {v : Value} {n : Nat} {listed : Array Bool} {a : Act} {w : World} (hi : l.drop i = oi :: rest)
    (hs : Region.noSelect l.toArray = true) (hf : Region.free md l.toArray listed i = true) (hr : (Region.ready md l.toArray listed).contains i = true) (hz : (Z.all fun z => lateD md l.toArray listed i d z) = true)
    (hQ : ∀ c a w, Q (.panic c) (a.put oi.dst v) w → Q (.panic c) a w) (hg : oi.guard = none) (hy : ∀ w, S w → (execOp a.eval oi).run P w = .ok (.value v) w) (hS : S w)
    (h : wpFz P md l.toArray Q S Z n (listed.setIfInBounds i true) (a.put oi.dst v) w) : wpFz P md l.toArray Q S Z (n + 1) listed a w := by
  have hi' := at_of_drop hi
  exact fzd_first d hi' (Region.noSelect_spec hs) hQ n listed a w (fun z hm => List.all_eq_true.1 hz z hm) (Region.free_spec hi' hf) (by simpa using hr) (Or.inl ⟨by simp [Region.wanted, hg], hy⟩) hS h
end
end Go.Proofs.Ytnoeofbjnogkmaa
