/- What BufOrder's Bufs are, in plain Lean. -/
import Derived.Test.YtnoeofbjnogkmaaBufG
namespace Go.Proofs.Ytnoeofbjnogkmaa

def entsL : Nat → List OpT → List EnT
  | _, [] => []
  | k, o :: l => ((loc3 o.l : Int), o.v, (k : Int)) :: entsL (k + 1) l
theorem entsL_len : ∀ (k : Nat) (l : List OpT), (entsL k l).length = l.length
  | _, [] => rfl
  | k, o :: l => by simp [entsL, entsL_len]
theorem entsL_at : ∀ (k : Nat) (l : List OpT) (i : Nat) (o : OpT), l[i]? = some o → (entsL k l)[i]? = some ((loc3 o.l : Int), o.v, ((k + i : Nat) : Int))
  | _, [], i, o, h => by simp at h
  | k, x :: l, 0, o, h => by
    obtain rfl : x = o := by simpa using h
    rfl
  | k, x :: l, i + 1, o, h => by
    have := entsL_at (k + 1) l i o (by simpa using h)
    simp only [entsL, List.getElem?_cons_succ]
    rw [this]
    congr 4
    omega
/-- The law's stores: at most twenty. -/
def EE (L : List OpT) : List EnT := entsL 0 (L.take 20)
theorem EE_len (L : List OpT) : (EE L).length = min L.length 20 := by
  unfold EE
  rw [entsL_len, List.length_take, Nat.min_comm]
theorem EE_at {L : List OpT} {i : Nat} {o : OpT} (hi : i < 20) (h : L[i]? = some o) : (EE L)[i]? = some ((loc3 o.l : Int), o.v, (i : Int)) := by
  have := entsL_at 0 (L.take 20) i o (by rw [List.getElem?_take_of_lt hi]; exact h)
  rw [Nat.zero_add] at this
  exact this
/-- The first loop. -/
structure O1 (L : List OpT) (i : Nat) (t p : BufT) : Prop where
  t1 : BW 2 t ((EE L).take i)
  p1 : BW 3 p ((EE L).take i)
theorem O1.zero (L : List OpT) (h2 : InR 2) (h3 : InR 3) : O1 L 0 (newB 2 h2) (newB 3 h3) := ⟨BW.new 2 h2, BW.new 3 h3⟩
theorem wput_go {m : Int} {w : List EnT} {e : EnT} (hm : m = 2 ∨ m = 3) (h0 : 0 ≤ e.1) (h3 : e.1 ≤ 3) (hl : w.length < 24) : wput m w e = w ++ [e] := if_pos ⟨hm, h0, h3, hl⟩
theorem O1.step {L : List OpT} {i : Nat} {t p : BufT} {o : OpT} (h : O1 L i t p) (hi : i < 20) (ho : L[i]? = some o) (he : EnIn ((loc3 o.l : Int), o.v, (i : Int))) : O1 L (i + 1) (putB t _ he) (putB p _ he) := by
  have e := EE_at hi ho
  have hq := loc3_lt o.l
  have hlen : ((EE L).take i).length < 24 := by rw [List.length_take]; omega
  have e2 : (EE L).take (i + 1) = (EE L).take i ++ [((loc3 o.l : Int), o.v, (i : Int))] := by rw [List.take_add_one, e]; rfl
  rw [show (O1 L (i + 1) (putB t _ he) (putB p _ he)) = (O1 L (i + 1) (putB t _ he) (putB p _ he)) from rfl]
  constructor
  · rw [e2, ← wput_go (m := 2) (Or.inl rfl) (by show (0 : Int) ≤ (loc3 o.l : Int); omega) (by show (loc3 o.l : Int) ≤ 3; omega) hlen]
    exact h.t1.put he
  · rw [e2, ← wput_go (m := 3) (Or.inr rfl) (by show (0 : Int) ≤ (loc3 o.l : Int); omega) (by show (loc3 o.l : Int) ≤ 3; omega) hlen]
    exact h.p1.put he
/-- The second loop. -/
def O2 (L : List OpT) (i : Nat) (t : BufT) : Prop := BW 2 t ((EE L).drop i)
theorem fst_two (w : List EnT) (c : Int) : fstN 2 w c = 0 := by
  unfold fstN
  cases w with
  | nil => rfl
  | cons x w => exact twN_false rfl
theorem O2.zero {L : List OpT} {n : Nat} {t p : BufT} (h : O1 L n t p) (hn : n = min L.length 20) : O2 L 0 t := by
  have := h.t1
  rw [List.take_of_length_le (by rw [EE_len]; omega)] at this
  exact this
theorem O2.old {L : List OpT} {i : Nat} {t : BufT} {o : OpT} (h : O2 L i t) (hi : i < 20) (ho : L[i]? = some o) : oldB t 0 = some ((loc3 o.l : Int), o.v, (i : Int)) := by
  rw [BW.old h, fst_two, List.getElem?_drop, Nat.add_zero]
  exact EE_at hi ho
theorem O2.step {L : List OpT} {i : Nat} {t : BufT} {o : OpT} (h : O2 L i t) (hi : i < 20) (ho : L[i]? = some o) : O2 L (i + 1) (dropB t 0) := by
  have h1 := BW.drop h 0
  have hlt : i < (EE L).length := (List.getElem?_eq_some_iff.1 (EE_at hi ho)).1
  have e : wcut 2 ((EE L).drop i) 0 = (EE L).drop (i + 1) := by
    unfold wcut
    rw [fst_two, if_pos (by rw [List.length_drop]; omega)]
    unfold cutL
    rw [List.take_zero, List.nil_append, List.drop_drop]
  rw [e] at h1
  exact h1
theorem O2.nil {L : List OpT} {n : Nat} {t : BufT} (h : O2 L n t) (hn : n = min L.length 20) : t.l.length = 0 ∧ (dropB t 0).l.length = 0 := by
  have e : (EE L).drop n = [] := List.drop_eq_nil_of_le (by rw [EE_len]; omega)
  unfold O2 at h
  rw [e] at h
  refine ⟨by rw [h.1]; rfl, ?_⟩
  have := (BW.drop h 0).1
  rw [this]
  rfl
/-- The third and the fourth. -/
def O3 (L : List OpT) (c i : Nat) (p : BufT) : Prop := S3 p ∧ ∀ d : Int, 0 ≤ d → p.l.filter (atC d) = if d < c then [] else if d = c then ((EE L).drop i).filter (atC d) else (EE L).filter (atC d)
theorem O3.zero {L : List OpT} {n : Nat} {t p : BufT} (h : O1 L n t p) (hn : n = min L.length 20) : O3 L 0 0 p := by
  have h1 := h.p1
  rw [List.take_of_length_le (by rw [EE_len]; omega)] at h1
  obtain ⟨_, ⟨q, _⟩ | ⟨_, q, r⟩ | ⟨_, q, _⟩⟩ := h1
  · cases q
  · refine ⟨q, fun d hd => ?_⟩
    rw [r d, List.drop_zero, if_neg (by omega)]
    split <;> rfl
  · exact absurd rfl q
theorem O3.here {L : List OpT} {c i : Nat} {p : BufT} (h : O3 L c i p) : p.l.filter (atC c) = ((EE L).drop i).filter (atC c) := by
  rw [h.2 c (by omega), if_neg (by omega), if_pos rfl]
theorem EE_drop {L : List OpT} {i : Nat} {o : OpT} (hi : i < 20) (ho : L[i]? = some o) : (EE L).drop i = ((loc3 o.l : Int), o.v, (i : Int)) :: (EE L).drop (i + 1) := by
  obtain ⟨hlt, hg⟩ := List.getElem?_eq_some_iff.1 (EE_at hi ho)
  rw [List.drop_eq_getElem_cons hlt, hg]
theorem O3.skip {L : List OpT} {c i : Nat} {p : BufT} {o : OpT} (h : O3 L c i p) (hi : i < 20) (ho : L[i]? = some o) (hne : loc3 o.l ≠ c) : O3 L c (i + 1) p := by
  refine ⟨h.1, fun d hd => ?_⟩
  rw [h.2 d hd]
  split
  · rfl
  · split
    · rw [EE_drop hi ho, List.filter_cons, if_neg (by unfold atC; simp; omega)]
    · rfl
theorem O3.old {L : List OpT} {c i : Nat} {p : BufT} {o : OpT} (h : O3 L c i p) (hi : i < 20) (ho : L[i]? = some o) (he : loc3 o.l = c) : oldB p c = some ((c : Int), o.v, (i : Int)) := by
  unfold oldB
  rw [h.1.row, h.here, EE_drop hi ho, List.filter_cons, if_pos (by unfold atC; simp; omega), he]
  rfl
theorem O3.step {L : List OpT} {c i : Nat} {p : BufT} {o : OpT} (h : O3 L c i p) (hi : i < 20) (ho : L[i]? = some o) (he : loc3 o.l = c) : O3 L c (i + 1) (dropB p c) := by
  obtain ⟨q1, _, q3⟩ := h.1.drop c
  refine ⟨q1, fun d hd => ?_⟩
  rw [q3 d]
  by_cases hdc : d = c
  · subst hdc
    rw [if_pos rfl, h.here, if_neg (by omega), if_pos rfl, EE_drop hi ho, List.filter_cons, if_pos (by unfold atC; simp; omega)]
    rfl
  · rw [if_neg hdc, h.2 d hd]
    split
    · rfl
    · rfl
theorem O3.next {L : List OpT} {c n : Nat} {p : BufT} (h : O3 L c n p) (hn : n = min L.length 20) : O3 L (c + 1) 0 p := by
  refine ⟨h.1, fun d hd => ?_⟩
  rw [h.2 d hd, List.drop_zero]
  by_cases h1 : d < (c : Int)
  · rw [if_pos h1, if_pos (by omega)]
  · rw [if_neg h1]
    by_cases h2 : d = (c : Int)
    · rw [if_pos h2, if_pos (by omega), List.drop_eq_nil_of_le (by rw [EE_len]; omega)]
      rfl
    · rw [if_neg h2, if_neg (by omega)]
      split <;> rfl
theorem O3.nil {L : List OpT} {i : Nat} {p : BufT} (h : O3 L 4 i p) : p.l.length = 0 := by
  rw [h.1.nil (fun c h0 h4 => by rw [h.2 c h0, if_pos (by omega)])]
  rfl
end Go.Proofs.Ytnoeofbjnogkmaa
