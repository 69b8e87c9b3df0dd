/- A test's text by its parts, in plain Lean: an instruction's tokens joined by blanks, and a line's end. -/
import Derived.Test.YtacflahkofmcpaaGreatDoorJ16BackP
import Derived.Test.YtacflahkofmcpaaGreatDoorJ17WlSmallP
import Derived.Lib.Join
namespace Go.Proofs.YtacflahkofmcpaaGreatDoor.Wl
open Go.RowKit

theorem gap_plain {y : ByteArray} (h : ∀ c ∈ y.data.toList, plainB c = true) : gapB y = 32 := by
  unfold gapB
  split
  · rename_i he
    unfold endTk at he
    simp only [Bool.or_eq_true, beq_iff_eq] at he
    rcases he with (e | e) | e <;> rw [e] at h <;> exact absurd (h _ (List.mem_singleton.2 rfl)) (by decide)
  · rfl
theorem gap_num (n : Int) : gapB (numT n) = 32 := by
  refine gap_plain ?_
  show ∀ c ∈ Lib.itoa n, plainB c = true
  unfold Lib.itoa
  split
  · intro c hc
    rw [List.mem_cons] at hc
    rcases hc with rfl | hc
    · decide
    · exact (plain_digits _).2 c hc
  · exact (plain_digits _).2
theorem gap_reg {r : Int} (h : regOk r = true) : gapB (regT r) = 32 := by
  unfold regOk at h
  rw [Bool.and_eq_true, decide_eq_true_eq, decide_eq_true_eq] at h
  have : ∀ d : Fin 10, gapB ⟨#[114, UInt8.ofNat (48 + d.val)]⟩ = 32 := by decide
  exact this ⟨r.toNat, by omega⟩
theorem gap_loc {l : Int} (h : locOk l = true) : gapB (locT l) = 32 := by
  unfold locOk at h
  rw [Bool.and_eq_true, decide_eq_true_eq, decide_eq_true_eq] at h
  have : ∀ d : Fin 26, gapB ⟨#[UInt8.ofNat (97 + d.val)]⟩ = 32 := by decide
  have k := this ⟨(l - 97).toNat, by omega⟩
  unfold locT
  rw [show l.toNat = 97 + (l - 97).toNat by omega]
  exact k
theorem gap_opd {o : Opd} (h : opdOk o = true) : gapB (opdT o) = 32 := by
  unfold opdT
  split
  · exact gap_num _
  · rename_i hr
    unfold opdOk at h
    rw [Bool.or_eq_true, Bool.and_eq_true, beq_iff_eq] at h
    rcases h with h | h
    · omega
    · exact gap_reg h.2
theorem gap_sgn {k : Int} (h : signOk k = true) : gapB (sgnT k) = 32 := by
  unfold signOk at h
  rw [Bool.and_eq_true, decide_eq_true_eq, decide_eq_true_eq] at h
  have : ∀ d : Fin 11, gapB (sgnT ((d.val : Int) + 1)) = 32 := by decide
  have k' := this ⟨(k - 1).toNat, by omega⟩
  rw [show (((k - 1).toNat : Nat) : Int) + 1 = k by omega] at k'
  exact k'
/-- Tokens joined by blanks. -/
def jn (L : List ByteArray) : List UInt8 := Lib.join (L.map (·.data.toList)) [32]
theorem jn_cons (x y : ByteArray) (r : List ByteArray) : jn (x :: y :: r) = x.data.toList ++ 32 :: jn (y :: r) := by
  unfold jn
  rw [List.map_cons, List.map_cons, Lib.join_cons, Lib.join_cons]
  unfold Lib.joinTail
  rw [List.map_cons, List.flatten_cons, List.append_assoc]
  rfl
theorem line_text : ∀ L : List ByteArray, (∀ y ∈ L, gapB y = 32) → (L ++ [xEnd]).flatMap chunk = jn (L ++ [xEnd]) ++ [10]
  | [], _ => by decide
  | [x], h => by
    show chunk x ++ [59, 10] = jn [x, xEnd] ++ [10]
    rw [jn_cons]
    unfold chunk
    rw [h x (List.mem_singleton.2 rfl)]
    show x.data.toList ++ [32] ++ [59, 10] = x.data.toList ++ 32 :: [59] ++ [10]
    simp
  | x :: z :: L, h => by
    have ih := line_text (z :: L) (fun y hy => h y (List.mem_cons_of_mem _ hy))
    rw [List.cons_append] at ih
    rw [List.cons_append, List.flatMap_cons, List.cons_append, ih, jn_cons]
    unfold chunk
    rw [h x (List.mem_cons_self ..)]
    simp
/-- A line: tokens that end none, and the sign that ends it. -/
def isLine (L : List ByteArray) : Prop := ∃ R, L = R ++ [xEnd] ∧ ∀ y ∈ R, gapB y = 32
theorem isLine.text {L : List ByteArray} (h : isLine L) : L.flatMap chunk = jn L ++ [10] := by
  obtain ⟨R, rfl, hR⟩ := h
  exact line_text R hR
theorem line_ins {x : InsT} (h : insOk x = true) : isLine (insTk x) := by
  unfold insOk at h
  unfold insTk
  by_cases h1 : x.k = 1
  · simp only [h1, Bool.and_eq_true, beq_self_eq_true, if_true] at h ⊢
    refine ⟨[xStore, locT x.l, opdT x.a], rfl, fun y hy => ?_⟩
    simp only [List.mem_cons, List.not_mem_nil, or_false] at hy
    rcases hy with rfl | rfl | rfl
    · decide
    · exact gap_loc h.1.2
    · exact gap_opd h.2
  by_cases h2 : x.k = 2
  · simp [h2] at h ⊢
    refine ⟨[regT x.r, xEq, xLoad, locT x.l], rfl, fun y hy => ?_⟩
    simp only [List.mem_cons, List.not_mem_nil, or_false] at hy
    rcases hy with rfl | rfl | rfl | rfl
    · exact gap_reg h.1.2
    · decide
    · decide
    · exact gap_loc h.2
  by_cases h3 : x.k = 3
  · simp only [h3] at h ⊢
    refine ⟨[xFence], rfl, fun y hy => ?_⟩
    rw [List.mem_singleton] at hy
    subst hy
    decide
  by_cases h4 : x.k = 4
  · simp [h4] at h ⊢
    refine ⟨[regT x.r, xEq, xCas, locT x.l, opdT x.a, opdT x.b], rfl, fun y hy => ?_⟩
    simp only [List.mem_cons, List.not_mem_nil, or_false] at hy
    rcases hy with rfl | rfl | rfl | rfl | rfl | rfl
    · exact gap_reg h.1.1.1.2
    · decide
    · decide
    · exact gap_loc h.1.1.2
    · exact gap_opd h.1.2
    · exact gap_opd h.2
  by_cases h5 : x.k = 5
  · simp [h5] at h ⊢
    obtain ⟨⟨⟨_, hr⟩, ha⟩, hs⟩ := h
    unfold secOk at hs
    by_cases h0 : x.o = 0
    · simp [h0]
      refine ⟨[regT x.r, xEq, opdT x.a], rfl, fun y hy => ?_⟩
      simp only [List.mem_cons, List.not_mem_nil, or_false] at hy
      rcases hy with rfl | rfl | rfl
      · exact gap_reg hr
      · decide
      · exact gap_opd ha
    · simp [h0] at hs ⊢
      refine ⟨[regT x.r, xEq, opdT x.a, sgnT x.o, opdT x.b], rfl, fun y hy => ?_⟩
      simp only [List.mem_cons, List.not_mem_nil, or_false] at hy
      rcases hy with rfl | rfl | rfl | rfl | rfl
      · exact gap_reg hr
      · decide
      · exact gap_opd ha
      · exact gap_sgn hs.1
      · exact gap_opd hs.2
  by_cases h6 : x.k = 6
  · simp [h6] at h ⊢
    refine ⟨[xSkip, numT x.n, xIf, opdT x.a, xEqs, opdT x.b], rfl, fun y hy => ?_⟩
    simp only [List.mem_cons, List.not_mem_nil, or_false] at hy
    rcases hy with rfl | rfl | rfl | rfl | rfl | rfl
    · decide
    · exact gap_num _
    · decide
    · exact gap_opd h.1.2
    · decide
    · exact gap_opd h.2
  simp [h1, h2, h3, h4, h5, h6] at h
theorem line_atom {x : AtomT} (h : atomOk x = true) : ∀ y ∈ atomTk x, gapB y = 32 := by
  intro y hy
  unfold atomOk at h
  unfold atomTk at hy
  by_cases ht : x.t = -1
  · simp [ht] at h hy
    rcases hy with rfl | rfl | rfl
    · exact gap_loc h.2
    · decide
    · exact gap_num _
  · simp [ht] at h
    have hn : ¬ x.t < 0 := by omega
    simp [hn] at hy
    rcases hy with rfl | rfl | rfl | rfl | rfl
    · exact gap_num _
    · decide
    · exact gap_reg h.2
    · decide
    · exact gap_num _
theorem line_row : ∀ (L : List AtomT) (a : ByteArray), gapB a = 32 → L.all atomOk = true → ∀ y ∈ rowTk a L, gapB y = 32
  | [], _, _, _, y, hy => by simp [rowTk] at hy
  | x :: r, a, ha, h, y, hy => by
    rw [List.all_cons, Bool.and_eq_true] at h
    rw [rowTk, List.mem_cons, List.mem_append] at hy
    rcases hy with rfl | hy | hy
    · exact ha
    · exact line_atom h.1 y hy
    · exact line_row r xAnd (by decide) h.2 y hy
theorem line_any : ∀ (L : List (List AtomT)) (a : ByteArray), gapB a = 32 → L.all rowOk = true → ∀ y ∈ anyTk a L, gapB y = 32
  | [], _, _, _, y, hy => by simp [anyTk] at hy
  | x :: r, a, ha, h, y, hy => by
    rw [List.all_cons, Bool.and_eq_true] at h
    rw [anyTk, List.mem_append] at hy
    rcases hy with hy | hy
    · unfold rowOk at h
      exact line_row x a ha (by have := h.1; rw [Bool.and_eq_true] at this; exact this.2) y hy
    · exact line_any r xOr (by decide) h.2 y hy
theorem line_cond {c : CondT} (h : condOk c = true) (h0 : ¬ c.k = 0) : isLine (condTk c) := by
  unfold condOk at h
  unfold condTk
  have e0 : (c.k == 0) = false := by rw [beq_eq_false_iff_ne]; exact h0
  rw [e0] at h ⊢
  simp only [Bool.false_eq_true, if_false] at h ⊢
  refine ⟨_, rfl, ?_⟩
  split at h
  · rw [Bool.and_eq_true] at h
    exact line_any c.any _ (by split <;> decide) h.2
  · cases h
/-- The text of an instruction, of a thread. -/
def insX (x : InsT) : List UInt8 := jn (insTk x) ++ [10]
def thrX (L : List InsT) : List UInt8 := [116, 104, 114, 101, 97, 100, 32, 123, 10] ++ (L.flatMap insX ++ [125, 10])
def condX (c : CondT) : List UInt8 := if c.k = 0 then [] else jn (condTk c) ++ [10]
theorem ins_rows (L : List InsT) (h : ∀ x ∈ L, insOk x = true) : (L.flatMap insTk).flatMap chunk = L.flatMap insX := by
  induction L with
  | nil => rfl
  | cons x L ih =>
    rw [List.flatMap_cons, List.flatMap_append, List.flatMap_cons, ih (fun y hy => h y (List.mem_cons_of_mem _ hy)), (line_ins (h x (List.mem_cons_self ..))).text]
    rfl
theorem thr_text (L : List InsT) (h : ∀ x ∈ L, insOk x = true) : (blockTk xThr insTk L).flatMap chunk = thrX L := by
  unfold blockTk thrX
  rw [List.flatMap_append, List.flatMap_append, ins_rows L h, List.append_assoc]
  rfl
theorem thr_rows (T : List (List InsT)) (h : ∀ L ∈ T, ∀ x ∈ L, insOk x = true) : (T.flatMap (blockTk xThr insTk)).flatMap chunk = T.flatMap thrX := by
  induction T with
  | nil => rfl
  | cons L T ih => rw [List.flatMap_cons, List.flatMap_append, List.flatMap_cons, ih (fun y hy => h y (List.mem_cons_of_mem _ hy)), thr_text L (h L (List.mem_cons_self ..))]
def iniX (l : List Int) : List UInt8 := if nxtV l 2 % 4 = 0 then [105, 110, 105, 116, 32, 123, 10, 120, 32, 61, 32] ++ Lib.itoa (nxtV l 3 % 3 : Nat) ++ [32, 59, 10, 125, 10] else []
theorem ini_text (l : List Int) : (if 0 < (iniOf l).length then blockTk xIni iniTk (iniOf l) else []).flatMap chunk = iniX l := by
  unfold iniOf iniX
  split
  · rw [if_pos (by rw [List.length_singleton]; exact Nat.zero_lt_one)]
    unfold blockTk iniTk
    show chunk xIni ++ (chunk xOp ++ (chunk (locT 120) ++ (chunk xEq ++ (chunk (numT _) ++ (chunk xEnd ++ (chunk xCl ++ [])))))) = _
    have e : ∀ n : Int, chunk (numT n) = Lib.itoa n ++ [32] := fun n => by
      unfold chunk
      rw [gap_num]
      rfl
    rw [e]
    show [105, 110, 105, 116, 32] ++ ([123, 10] ++ ([120, 32] ++ ([61, 32] ++ (Lib.itoa _ ++ [32] ++ ([59, 10] ++ ([125, 10] ++ [])))))) = _
    simp
  · rfl
theorem small_parts (l : List Int) (most : Nat) : textL (smallP l most) = [116, 101, 115, 116, 32, 116, 32, 123, 10] ++ (iniX l ++ ((smallP l most).thr.flatMap thrX ++ (condX (smallP l most).cond ++ [125, 10]))) := by
  have hc := (condOf_ok (nxtV l (thrOf l most).2)).1
  have ht : ∀ L ∈ (smallP l most).thr, ∀ x ∈ L, insOk x = true := fun L hL x hx => List.all_eq_true.1 ((thrOf_ok l most).2 L hL).1.1 x hx
  have e3 := thr_rows _ ht
  have e2 := ini_text l
  have e4 : (condTk (smallP l most).cond).flatMap chunk = condX (smallP l most).cond := by
    unfold condX
    split
    · rename_i h0
      unfold condTk
      rw [h0]
      rfl
    · rename_i h0
      exact (line_cond hc h0).text
  unfold textL testTk
  rw [List.flatMap_append, List.flatMap_append, List.flatMap_append, List.flatMap_append, e3, e4, List.append_assoc, List.append_assoc, List.append_assoc]
  show _ ++ ((if 0 < (iniOf l).length then blockTk xIni iniTk (iniOf l) else []).flatMap chunk ++ _) = _
  rw [e2]
  rfl
end Go.Proofs.YtacflahkofmcpaaGreatDoor.Wl
