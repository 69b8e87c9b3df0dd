/- A test's text in plain Lean: its tokens one behind the other, and what stands behind each. Of no memory. -/
import Derived.Test.YtlfeihgemdicfaaDoorJ00OkLeaf
import Derived.Lib.ItoaNum
namespace Go.Proofs.YtlfeihgemdicfaaDoor
open Go.RowKit

def numT (n : Int) : ByteArray := ⟨(Lib.itoa n).toArray⟩
def regT (r : Int) : ByteArray := ⟨#[114, UInt8.ofNat (48 + r.toNat)]⟩
def locT (l : Int) : ByteArray := ⟨#[UInt8.ofNat l.toNat]⟩
def opdT (o : Opd) : ByteArray := if o.r < 0 then numT o.v else regT o.r
def sgnT (k : Int) : ByteArray := [⟨#[]⟩, ⟨#[43]⟩, ⟨#[45]⟩, ⟨#[42]⟩, ⟨#[38]⟩, ⟨#[124]⟩, ⟨#[94]⟩, ⟨#[60, 60]⟩, ⟨#[62, 62]⟩, ⟨#[61, 61]⟩, ⟨#[33, 61]⟩, ⟨#[60]⟩].getD k.toNat ⟨#[]⟩
def xEq : ByteArray := ⟨#[61]⟩
def xEnd : ByteArray := ⟨#[59]⟩
def xOp : ByteArray := ⟨#[123]⟩
def xCl : ByteArray := ⟨#[125]⟩
def xStore : ByteArray := ⟨#[115, 116, 111, 114, 101]⟩
def xLoad : ByteArray := ⟨#[108, 111, 97, 100]⟩
def xFence : ByteArray := ⟨#[102, 101, 110, 99, 101]⟩
def xCas : ByteArray := ⟨#[99, 97, 115]⟩
def xSkip : ByteArray := ⟨#[115, 107, 105, 112]⟩
def xIf : ByteArray := ⟨#[105, 102]⟩
def xEqs : ByteArray := ⟨#[61, 61]⟩
def xTst : ByteArray := ⟨#[116, 101, 115, 116]⟩
def xIni : ByteArray := ⟨#[105, 110, 105, 116]⟩
def xThr : ByteArray := ⟨#[116, 104, 114, 101, 97, 100]⟩
def xEx : ByteArray := ⟨#[101, 120, 105, 115, 116, 115]⟩
def xFa : ByteArray := ⟨#[102, 111, 114, 97, 108, 108]⟩
def xAnd : ByteArray := ⟨#[38]⟩
def xOr : ByteArray := ⟨#[124]⟩
def xCol : ByteArray := ⟨#[58]⟩

def iniTk (x : InitT) : List ByteArray := [locT x.l, xEq, numT x.v, xEnd]
def insTk (x : InsT) : List ByteArray :=
  if x.k == 1 then [xStore, locT x.l, opdT x.a, xEnd]
  else if x.k == 2 then [regT x.r, xEq, xLoad, locT x.l, xEnd]
  else if x.k == 3 then [xFence, xEnd]
  else if x.k == 4 then [regT x.r, xEq, xCas, locT x.l, opdT x.a, opdT x.b, xEnd]
  else if x.k == 6 then [xSkip, numT x.n, xIf, opdT x.a, xEqs, opdT x.b, xEnd]
  else if x.o == 0 then [regT x.r, xEq, opdT x.a, xEnd]
  else [regT x.r, xEq, opdT x.a, sgnT x.o, opdT x.b, xEnd]
def atomTk (x : AtomT) : List ByteArray := if x.t < 0 then [locT x.l, xEq, numT x.v] else [numT x.t, xCol, regT x.r, xEq, numT x.v]
def rowTk (ahead : ByteArray) : List AtomT → List ByteArray
  | [] => []
  | x :: r => ahead :: (atomTk x ++ rowTk xAnd r)
/-- What stands ahead of the next row: an empty row leaves the bar as well. -/
def anyTk (ahead : ByteArray) : List (List AtomT) → List ByteArray
  | [] => []
  | r :: rs => rowTk ahead r ++ anyTk xOr rs
def condTk (c : CondT) : List ByteArray := if c.k == 0 then [] else anyTk (if c.k == 1 then xEx else xFa) c.any ++ [xEnd]
def blockTk {α : Type} (head : ByteArray) (f : α → List ByteArray) (L : List α) : List ByteArray := [head, xOp] ++ L.flatMap f ++ [xCl]
def testTk (t : TestT) : List ByteArray :=
  [xTst, t.name, xOp] ++ (if 0 < t.ini.length then blockTk xIni iniTk t.ini else []) ++ t.thr.flatMap (blockTk xThr insTk) ++ condTk t.cond ++ [xCl]
def endTk (x : ByteArray) : Bool := x.data.toList == [123] || x.data.toList == [59] || x.data.toList == [125]
def gapB (x : ByteArray) : UInt8 := if endTk x then 10 else 32
def chunk (x : ByteArray) : List UInt8 := x.data.toList ++ [gapB x]
def textL (t : TestT) : List UInt8 := (testTk t).flatMap chunk

/-! Tokens: none is empty, and none but the three that end a line has such a byte, or a blank. -/
def isEnd (b : UInt8) : Bool := b == 123 || b == 59 || b == 125
def plainB (b : UInt8) : Bool := !(b == 10 || b == 32 || isEnd b)
def plainTk (x : ByteArray) : Bool := decide (0 < x.data.toList.length) && x.data.toList.all plainB
def goodTk (x : ByteArray) : Bool := plainTk x || endTk x
def fineL (s : List UInt8) : Prop := ∀ (i : Nat) (c : UInt8), s[i]? = some c → (c = 10 → ∃ d, 1 ≤ i ∧ s[i - 1]? = some d ∧ isEnd d = true) ∧ (c = 32 → ∃ d, 1 ≤ i ∧ s[i - 1]? = some d ∧ d ≠ 32 ∧ d ≠ 10)
theorem fine_nil : fineL [] := fun i c h => by simp at h
theorem fine_append {s t : List UInt8} (h : fineL s) (k : fineL t) : fineL (s ++ t) := by
  intro i c hc
  rcases Nat.lt_or_ge i s.length with hi | hi
  · rw [List.getElem?_append_left hi] at hc
    obtain ⟨h1, h2⟩ := h i c hc
    refine ⟨fun e => ?_, fun e => ?_⟩
    · obtain ⟨d, hd, he, hf⟩ := h1 e
      exact ⟨d, hd, by rw [List.getElem?_append_left (by omega)]; exact he, hf⟩
    · obtain ⟨d, hd, he, hf⟩ := h2 e
      exact ⟨d, hd, by rw [List.getElem?_append_left (by omega)]; exact he, hf⟩
  · rw [List.getElem?_append_right hi] at hc
    obtain ⟨h1, h2⟩ := k (i - s.length) c hc
    refine ⟨fun e => ?_, fun e => ?_⟩
    · obtain ⟨d, hd, he, hf⟩ := h1 e
      exact ⟨d, by omega, by rw [List.getElem?_append_right (by omega), show i - 1 - s.length = i - s.length - 1 by omega]; exact he, hf⟩
    · obtain ⟨d, hd, he, hf⟩ := h2 e
      exact ⟨d, by omega, by rw [List.getElem?_append_right (by omega), show i - 1 - s.length = i - s.length - 1 by omega]; exact he, hf⟩
theorem plain_no {b : UInt8} (h : plainB b = true) : b ≠ 10 ∧ b ≠ 32 ∧ isEnd b = false := by
  unfold plainB at h
  simp only [Bool.not_eq_true', Bool.or_eq_false_iff, beq_eq_false_iff_ne] at h
  exact ⟨h.1.1, h.1.2, h.2⟩
theorem plain_gap {x : ByteArray} (h : plainTk x = true) : gapB x = 32 := by
  unfold plainTk at h
  rw [Bool.and_eq_true, List.all_eq_true] at h
  unfold gapB
  rw [if_neg]
  intro hx
  unfold endTk at hx
  simp only [Bool.or_eq_true, beq_iff_eq] at hx
  rcases hx with (e | e) | e
  · exact absurd (h.2 123 (by rw [e]; decide)) (by decide)
  · exact absurd (h.2 59 (by rw [e]; decide)) (by decide)
  · exact absurd (h.2 125 (by rw [e]; decide)) (by decide)
theorem end_chunk {x : ByteArray} (h : endTk x = true) : chunk x = [123, 10] ∨ chunk x = [59, 10] ∨ chunk x = [125, 10] := by
  have hg : gapB x = 10 := by unfold gapB; rw [if_pos h]
  unfold endTk at h
  simp only [Bool.or_eq_true, beq_iff_eq] at h
  unfold chunk
  rw [hg]
  rcases h with (e | e) | e
  · exact Or.inl (by rw [e]; rfl)
  · exact Or.inr (Or.inl (by rw [e]; rfl))
  · exact Or.inr (Or.inr (by rw [e]; rfl))
theorem fine_chunk {x : ByteArray} (h : goodTk x = true) : fineL (chunk x) := by
  unfold goodTk at h
  rw [Bool.or_eq_true] at h
  rcases h with h | h
  · have hg := plain_gap h
    unfold plainTk at h
    rw [Bool.and_eq_true, List.all_eq_true, decide_eq_true_eq] at h
    obtain ⟨h0, h1⟩ := h
    intro i c hc
    unfold chunk at hc ⊢
    rw [hg] at hc ⊢
    rcases Nat.lt_or_ge i x.data.toList.length with hi | hi
    · rw [List.getElem?_append_left hi] at hc
      have := plain_no (h1 c (List.mem_of_getElem? hc))
      exact ⟨fun e => absurd e this.1, fun e => absurd e this.2.1⟩
    · rw [List.getElem?_append_right hi] at hc
      have hz : i - x.data.toList.length = 0 := by
        rcases Nat.eq_zero_or_pos (i - x.data.toList.length) with h | h
        · exact h
        · rw [List.getElem?_eq_none (by rw [List.length_singleton]; omega)] at hc
          cases hc
      rw [hz] at hc
      simp only [List.getElem?_cons_zero, Option.some.injEq] at hc
      subst hc
      have hl : (x.data.toList)[i - 1]? = some (x.data.toList[i - 1]'(by omega)) := List.getElem?_eq_getElem (by omega)
      have hp := plain_no (h1 _ (List.mem_of_getElem? hl))
      refine ⟨fun e => absurd e (by decide), fun _ => ⟨_, by omega, ?_, hp.2.1, hp.1⟩⟩
      rw [List.getElem?_append_left (by omega)]
      exact hl
  · have key : ∀ b : UInt8, isEnd b = true → b ≠ 10 → b ≠ 32 → fineL [b, 10] := by
      intro b hb h1 h2 i c hc
      match i, hc with
      | 0, hc =>
        simp only [List.getElem?_cons_zero, Option.some.injEq] at hc
        subst hc
        exact ⟨fun e => absurd e h1, fun e => absurd e h2⟩
      | 1, hc =>
        simp only [List.getElem?_cons_succ, List.getElem?_cons_zero, Option.some.injEq] at hc
        subst hc
        exact ⟨fun _ => ⟨b, by omega, rfl, hb⟩, fun e => absurd e (by decide)⟩
      | i + 2, hc => simp at hc
    rcases end_chunk h with e | e | e <;> rw [e]
    · exact key 123 (by decide) (by decide) (by decide)
    · exact key 59 (by decide) (by decide) (by decide)
    · exact key 125 (by decide) (by decide) (by decide)
theorem fine_text : ∀ L : List ByteArray, (∀ x ∈ L, goodTk x = true) → fineL (L.flatMap chunk)
  | [], _ => fine_nil
  | x :: L, h => by
    rw [List.flatMap_cons]
    exact fine_append (fine_chunk (h x (by simp))) (fine_text L fun y hy => h y (by simp [hy]))
/-- As many lines as bytes that end one. -/
def nlB (b : UInt8) : Bool := b == 10
theorem cnt_chunk {x : ByteArray} (h : goodTk x = true) : (chunk x).countP nlB = (chunk x).countP isEnd := by
  unfold goodTk at h
  rw [Bool.or_eq_true] at h
  rcases h with h | h
  · have hg := plain_gap h
    unfold plainTk at h
    rw [Bool.and_eq_true, List.all_eq_true] at h
    unfold chunk
    rw [hg, List.countP_append, List.countP_append]
    have z1 : x.data.toList.countP nlB = 0 := List.countP_eq_zero.2 fun b hb => by simpa [nlB] using (plain_no (h.2 b hb)).1
    have z2 : x.data.toList.countP isEnd = 0 := List.countP_eq_zero.2 fun b hb => by simpa using (plain_no (h.2 b hb)).2.2
    rw [z1, z2]
    decide
  · rcases end_chunk h with e | e | e <;> rw [e] <;> decide
theorem cnt_text : ∀ L : List ByteArray, (∀ x ∈ L, goodTk x = true) → (L.flatMap chunk).countP nlB = (L.flatMap chunk).countP isEnd
  | [], _ => rfl
  | x :: L, h => by
    rw [List.flatMap_cons, List.countP_append, List.countP_append, cnt_chunk (h x (by simp)), cnt_text L fun y hy => h y (by simp [hy])]
/-! Every token of a test that may be is a good one. -/
theorem plain_dig {d : Nat} (h : d < 10) : plainB (UInt8.ofNat (48 + d)) = true := by
  have : ∀ d : Fin 10, plainB (UInt8.ofNat (48 + d.val)) = true := by decide
  exact this ⟨d, h⟩
theorem plain_digits (u : Nat) : Lib.decDigits u ≠ [] ∧ ∀ c ∈ Lib.decDigits u, plainB c = true := by
  induction u using Nat.strongRecOn with
  | ind u ih =>
    rw [Lib.decDigits]
    split
    · rename_i h
      exact ⟨by simp, fun c hc => by rw [List.mem_singleton] at hc; subst hc; exact plain_dig h⟩
    · rename_i h
      refine ⟨by simp, fun c hc => ?_⟩
      rw [List.mem_append, List.mem_singleton] at hc
      rcases hc with hc | rfl
      · exact (ih (u / 10) (by omega)).2 c hc
      · exact plain_dig (Nat.mod_lt _ (by omega))
theorem good_num (n : Int) : goodTk (numT n) = true := by
  unfold goodTk plainTk numT
  rw [Bool.or_eq_true, Bool.and_eq_true, decide_eq_true_eq, List.all_eq_true]
  refine Or.inl ?_
  show 0 < (Lib.itoa n).length ∧ ∀ c ∈ Lib.itoa n, plainB c = true
  unfold Lib.itoa
  split
  · refine ⟨by simp, fun c hc => ?_⟩
    rw [List.mem_cons] at hc
    rcases hc with rfl | hc
    · decide
    · exact (plain_digits _).2 c hc
  · exact ⟨List.length_pos_iff.2 (plain_digits _).1, (plain_digits _).2⟩
theorem good_reg {r : Int} (h : regOk r = true) : goodTk (regT r) = true := by
  unfold regOk at h
  rw [Bool.and_eq_true, decide_eq_true_eq, decide_eq_true_eq] at h
  have : ∀ d : Fin 10, goodTk ⟨#[114, UInt8.ofNat (48 + d.val)]⟩ = true := by decide
  exact this ⟨r.toNat, by omega⟩
theorem good_loc {l : Int} (h : locOk l = true) : goodTk (locT l) = true := by
  unfold locOk at h
  rw [Bool.and_eq_true, decide_eq_true_eq, decide_eq_true_eq] at h
  have : ∀ d : Fin 26, goodTk ⟨#[UInt8.ofNat (97 + d.val)]⟩ = true := by decide
  have k := this ⟨(l - 97).toNat, by omega⟩
  unfold locT
  rw [show l.toNat = 97 + (l - 97).toNat by omega]
  exact k
theorem good_opd {o : Opd} (h : opdOk o = true) : goodTk (opdT o) = true := by
  unfold opdT
  split
  · exact good_num _
  · rename_i hr
    unfold opdOk at h
    rw [Bool.or_eq_true, Bool.and_eq_true, beq_iff_eq] at h
    rcases h with h | h
    · omega
    · exact good_reg h.2
theorem good_sgn {k : Int} (h : signOk k = true) : goodTk (sgnT k) = true := by
  unfold signOk at h
  rw [Bool.and_eq_true, decide_eq_true_eq, decide_eq_true_eq] at h
  have : ∀ d : Fin 11, goodTk (sgnT ((d.val : Int) + 1)) = true := by decide
  have k' := this ⟨(k - 1).toNat, by omega⟩
  rw [show (((k - 1).toNat : Nat) : Int) + 1 = k by omega] at k'
  exact k'
theorem good_ini {x : InitT} (h : initOk x = true) : ∀ y ∈ iniTk x, goodTk y = true := by
  intro y hy
  unfold iniTk at hy
  simp only [List.mem_cons, List.not_mem_nil, or_false] at hy
  rcases hy with rfl | rfl | rfl | rfl
  · exact good_loc h
  · decide
  · exact good_num _
  · decide
theorem good_ins {x : InsT} (h : insOk x = true) : ∀ y ∈ insTk x, goodTk y = true := by
  intro y hy
  unfold insOk at h
  unfold insTk at hy
  by_cases h1 : x.k = 1
  · simp only [h1, Bool.and_eq_true, beq_self_eq_true, if_true] at h hy
    simp only [List.mem_cons, List.not_mem_nil, or_false] at hy
    rcases hy with rfl | rfl | rfl | rfl
    · decide
    · exact good_loc h.1.2
    · exact good_opd h.2
    · decide
  by_cases h2 : x.k = 2
  · simp [h2] at h hy
    rcases hy with rfl | rfl | rfl | rfl | rfl
    · exact good_reg h.1.2
    · decide
    · decide
    · exact good_loc h.2
    · decide
  by_cases h3 : x.k = 3
  · simp [h3] at h hy
    rcases hy with rfl | rfl <;> decide
  by_cases h4 : x.k = 4
  · simp [h4] at h hy
    rcases hy with rfl | rfl | rfl | rfl | rfl | rfl | rfl
    · exact good_reg h.1.1.1.2
    · decide
    · decide
    · exact good_loc h.1.1.2
    · exact good_opd h.1.2
    · exact good_opd h.2
    · decide
  by_cases h5 : x.k = 5
  · simp [h5] at h hy
    obtain ⟨⟨⟨_, hr⟩, ha⟩, hs⟩ := h
    unfold secOk at hs
    by_cases h0 : x.o = 0
    · simp [h0] at hy
      rcases hy with rfl | rfl | rfl | rfl
      · exact good_reg hr
      · decide
      · exact good_opd ha
      · decide
    · simp [h0] at hs hy
      rcases hy with rfl | rfl | rfl | rfl | rfl | rfl
      · exact good_reg hr
      · decide
      · exact good_opd ha
      · exact good_sgn hs.1
      · exact good_opd hs.2
      · decide
  by_cases h6 : x.k = 6
  · simp [h6] at h hy
    rcases hy with rfl | rfl | rfl | rfl | rfl | rfl | rfl
    · decide
    · exact good_num _
    · decide
    · exact good_opd h.1.2
    · decide
    · exact good_opd h.2
    · decide
  simp [h1, h2, h3, h4, h5, h6] at h
theorem good_atom {x : AtomT} (h : atomOk x = true) : ∀ y ∈ atomTk x, goodTk y = true := by
  intro y hy
  unfold atomOk at h
  unfold atomTk at hy
  by_cases ht : x.t = -1
  · simp [ht] at h hy
    rcases hy with rfl | rfl | rfl
    · exact good_loc h.2
    · decide
    · exact good_num _
  · simp [ht] at h
    have hn : ¬ x.t < 0 := by omega
    simp [hn] at hy
    rcases hy with rfl | rfl | rfl | rfl | rfl
    · exact good_num _
    · decide
    · exact good_reg h.2
    · decide
    · exact good_num _
theorem good_row : ∀ (L : List AtomT) (a : ByteArray), goodTk a = true → L.all atomOk = true → ∀ y ∈ rowTk a L, goodTk y = true
  | [], _, _, _, y, hy => by simp [rowTk] at hy
  | x :: r, a, ha, h, y, hy => by
    rw [List.all_cons, Bool.and_eq_true] at h
    rw [rowTk, List.mem_cons, List.mem_append] at hy
    rcases hy with rfl | hy | hy
    · exact ha
    · exact good_atom h.1 y hy
    · exact good_row r xAnd (by decide) h.2 y hy
theorem good_any : ∀ (L : List (List AtomT)) (a : ByteArray), goodTk a = true → L.all rowOk = true → ∀ y ∈ anyTk a L, goodTk y = true
  | [], _, _, _, y, hy => by simp [anyTk] at hy
  | x :: r, a, ha, h, y, hy => by
    rw [List.all_cons, Bool.and_eq_true] at h
    rw [anyTk, List.mem_append] at hy
    rcases hy with hy | hy
    · unfold rowOk at h
      exact good_row x a ha (by have := h.1; rw [Bool.and_eq_true] at this; exact this.2) y hy
    · exact good_any r xOr (by decide) h.2 y hy
theorem good_cond {c : CondT} (h : condOk c = true) : ∀ y ∈ condTk c, goodTk y = true := by
  intro y hy
  unfold condOk at h
  unfold condTk at hy
  by_cases h0 : c.k = 0
  · simp [h0] at hy
  · have e0 : (c.k == 0) = false := by rw [beq_eq_false_iff_ne]; exact h0
    rw [e0] at h hy
    simp only [Bool.false_eq_true, if_false] at h hy
    rw [List.mem_append, List.mem_singleton] at hy
    rcases hy with hy | rfl
    · split at h
      · rw [Bool.and_eq_true] at h
        exact good_any c.any _ (by split <;> decide) h.2 y hy
      · cases h
    · decide
theorem good_block {α : Type} {f : α → List ByteArray} {L : List α} {hd : ByteArray} (hh : goodTk hd = true) (hf : ∀ x ∈ L, ∀ y ∈ f x, goodTk y = true) : ∀ y ∈ blockTk hd f L, goodTk y = true := by
  intro y hy
  unfold blockTk at hy
  simp only [List.mem_append, List.mem_cons, List.not_mem_nil, or_false, List.mem_flatMap] at hy
  rcases hy with ((rfl | rfl) | ⟨x, hx, hy⟩) | rfl
  · exact hh
  · decide
  · exact hf x hx y hy
  · decide
theorem plain_chs : ∀ (l : List UInt8) (i : Nat), chsOk i l = true → ∀ c ∈ l, plainB c = true
  | [], _, _, c, hc => by simp at hc
  | b :: r, i, h, c, hc => by
    rw [chsOk, Bool.and_eq_true] at h
    rw [List.mem_cons] at hc
    rcases hc with rfl | hc
    · have := h.1
      unfold chOk locOk at this
      simp only [Bool.or_eq_true, Bool.and_eq_true, decide_eq_true_eq] at this
      replace this := this.imp id And.right
      unfold plainB isEnd
      simp only [Bool.not_eq_true', Bool.or_eq_false_iff, beq_eq_false_iff_ne]
      refine ⟨⟨?_, ?_⟩, ⟨?_, ?_⟩, ?_⟩ <;> (rintro rfl; revert this; decide)
    · exact plain_chs r (i + 1) h.2 c hc
theorem good_name {s : ByteArray} (h : wordOk s = true) : goodTk s = true := by
  unfold wordOk at h
  rw [Bool.and_eq_true, decide_eq_true_eq] at h
  unfold goodTk plainTk
  rw [Bool.or_eq_true, Bool.and_eq_true, decide_eq_true_eq, List.all_eq_true]
  exact Or.inl ⟨by have := h.2; rw [ByteArray.size] at this; simpa using this, plain_chs _ 0 h.1⟩
theorem good_test {t : TestT} (h : testOk t = true) : ∀ y ∈ testTk t, goodTk y = true := by
  intro y hy
  unfold testOk at h
  simp only [Bool.and_eq_true, List.all_eq_true] at h
  obtain ⟨⟨⟨h1, h2⟩, h3⟩, h4⟩ := h
  unfold testTk at hy
  simp only [List.mem_append, List.mem_cons, List.not_mem_nil, or_false, List.mem_flatMap] at hy
  rcases hy with ((((rfl | rfl | rfl) | hy) | ⟨L, hL, hy⟩) | hy) | rfl
  · decide
  · exact good_name h1
  · decide
  · split at hy
    · exact good_block (by decide) (fun x hx => good_ini (h2 x hx)) y hy
    · simp at hy
  · have := h3 L hL
    unfold threadOk at this
    rw [List.all_eq_true] at this
    exact good_block (by decide) (fun x hx => good_ins (this x hx)) y hy
  · exact good_cond h4 y hy
  · decide
/-- What PrintLines looks for, of every test that may be. -/
theorem text_fine {t : TestT} (h : testOk t = true) : fineL (textL t) := fine_text _ (good_test h)
theorem text_cnt {t : TestT} (h : testOk t = true) : (textL t).countP nlB = (textL t).countP isEnd := cnt_text _ (good_test h)
theorem text_last (t : TestT) : ∃ r, textL t = r ++ [125, 10] := by
  unfold textL testTk
  rw [List.flatMap_append]
  exact ⟨_, rfl⟩
end Go.Proofs.YtlfeihgemdicfaaDoor
