/- The same, for operations that are guarded. -/
import Derived.Test.YtnoeofbjnogkmaaRegFin
namespace Go.Proofs.Ytnoeofbjnogkmaa
open Go.RowKit

section
variable {P : Program} {Q : Exit → Act → World → Prop} {md : Region.Mode} {S : World → Prop} {z : Nat}
theorem fin_takeG {l rest : List Oper} (i : Nat) {oi : Oper} {v : Value} {n : Nat} {listed : Array Bool} {a : Act} {w : World} (hi : l.drop i = oi :: rest)
    (hs : Region.noSelect l.toArray = true) (hf : Region.free md l.toArray listed i = true) (hr : (Region.ready md l.toArray listed).contains i = true) (hz : waitsB md l.toArray z i = true)
    (hQ : ∀ c a w, Q (.panic c) (a.put oi.dst v) w → Q (.panic c) a w) (hg : Region.wanted oi (yielded l.toArray a.tmps) = true) (hy : ∀ w, S w → (execOp a.eval oi).run P w = .ok (.value v) w) (hS : S w)
    (h : wpFin P md l.toArray Q S z n (listed.setIfInBounds i true) (a.put oi.dst v) w) : wpFin P md l.toArray Q S z (n + 1) listed a w := by
  have hi' : l.toArray[i]? = some oi := by
    rw [List.getElem?_toArray]
    have := congrArg (·[0]?) hi
    simpa using this
  exact fin_first hi' (Region.noSelect_spec hs) hQ hz n listed a w (Region.free_spec hi' hf) (by simpa using hr) (Or.inl ⟨hg, hy⟩) hS h
theorem fin_takeN {l rest : List Oper} (i : Nat) {oi : Oper} {n : Nat} {listed : Array Bool} {a : Act} {w : World} (hi : l.drop i = oi :: rest)
    (hs : Region.noSelect l.toArray = true) (hf : Region.free md l.toArray listed i = true) (hr : (Region.ready md l.toArray listed).contains i = true) (hz : waitsB md l.toArray z i = true)
    (hQ : ∀ c a w, Q (.panic c) (a.put oi.dst undef) w → Q (.panic c) a w) (hg : Region.wanted oi (yielded l.toArray a.tmps) = false) (hS : S w)
    (h : wpFin P md l.toArray Q S z n (listed.setIfInBounds i true) (a.put oi.dst undef) w) : wpFin P md l.toArray Q S z (n + 1) listed a w := by
  have hi' : l.toArray[i]? = some oi := by
    rw [List.getElem?_toArray]
    have := congrArg (·[0]?) hi
    simpa using this
  exact fin_first hi' (Region.noSelect_spec hs) hQ hz n listed a w (Region.free_spec hi' hf) (by simpa using hr) (Or.inr ⟨hg, rfl⟩) hS h
theorem fin_oneG {l rest : List Oper} (i : Nat) {o : Oper} {n : Nat} {listed : Array Bool} {a : Act} {w : World} (hi : l.drop i = o :: rest) (hg : Region.wanted o (yielded l.toArray a.tmps) = true) (hr : Region.ready md l.toArray listed = [i])
    (h : ∀ K : Act → World → Prop, Hid (∀ a' w', (i ≠ z → S w') → wpFin P md l.toArray Q S z n (listed.setIfInBounds i true) a' w' → K a' w') → o.wp P a w K Q) : wpFin P md l.toArray Q S z (n + 1) listed a w := by
  have hi' : l.toArray[i]? = some o := by
    rw [List.getElem?_toArray]
    have := congrArg (·[0]?) hi
    simpa using this
  refine ⟨fun h0 => (by rw [hr] at h0; cases h0), fun j hj => ?_⟩
  rw [hr] at hj
  obtain rfl : j = i := by simpa using hj
  unfold wpOp
  simp only [hi']
  rw [if_pos hg]
  exact Or.inl (h _ (fun a' w' h1 h2 => ⟨h1, h2⟩))
/-- More may be asked from here on. -/
theorem fin_mono {ops : Array Oper} {S' : World → Prop} (hS : ∀ w, S' w → S w) : ∀ {n : Nat} {listed : Array Bool} {a : Act} {w : World}, wpFin P md ops Q S' z n listed a w → wpFin P md ops Q S z n listed a w
  | 0, _, _, _, h => h
  | _ + 1, _, _, _, h => ⟨h.1, fun i hi => wpOp_mono (fun _ _ h' => ⟨fun hz => hS _ (h'.1 hz), fin_mono hS h'.2⟩) (h.2 i hi)⟩
end
end Go.Proofs.Ytnoeofbjnogkmaa
