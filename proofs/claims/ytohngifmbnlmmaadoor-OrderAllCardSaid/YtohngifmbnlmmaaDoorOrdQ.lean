/- Rows that keep a relation, in plain Lean: which rows there are; when there is one; the next row as the program steps. -/
import Derived.Test.YtohngifmbnlmmaaDoorOrdC
namespace Go.Proofs.YtohngifmbnlmmaaDoor

/-- Numbers as they lie in memory. -/
abbrev ints (l : List Nat) : List Int := l.map (fun a : Nat => (a : Int))
def mskN (t : Nat) (l : List Nat) : Nat := ofI t (ints l)
theorem msk_lt (l : List Nat) (t : Nat) (h : t < 18446744073709551616) : mskN t l < 18446744073709551616 := of_lt _ t h
theorem msk_cons (t a : Nat) (l : List Nat) : mskN t (a :: l) = mskN (withI t (a : Int)) l := rfl
theorem msk_append (t : Nat) (p l : List Nat) : mskN t (p ++ l) = mskN (mskN t p) l := by unfold mskN ofI ints; rw [List.map_append, List.foldl_append]
theorem msk_bit : ∀ (l : List Nat) (t j : Nat), (∀ a ∈ l, a < 64) → (mskN t l).testBit j = (t.testBit j || decide (j ∈ l))
  | [], t, j, _ => by simp [mskN, ofI, ints]
  | a :: l, t, j, h => by
    have ha : a < 64 := h a (by simp)
    rw [msk_cons, msk_bit l _ j (fun b hb => h b (by simp [hb])), with_bit]
    by_cases hj : j = a
    · subst hj; simp [ha]
    · have : ¬ ((a : Int) = (j : Int) ∧ j < 64) := by omega
      simp [this, hj]
section
variable {n : Nat} {D : Nat → Nat}
theorem okS_append : ∀ (p l : List Nat) (t : Nat), okS n D t (p ++ l) = (okS n D t p && okS n D (mskN t p) l)
  | [], l, t => by simp [okS, mskN, ofI, ints]
  | a :: p, l, t => by
    rw [List.cons_append, okS, okS_append p l, okS, msk_cons, Bool.and_assoc]
theorem okS_lt : ∀ (l : List Nat) (t : Nat), okS n D t l = true → ∀ a ∈ l, a < n
  | [], _, _, a, ha => by simp at ha
  | b :: l, t, h, a, ha => by
    rw [okS, Bool.and_eq_true] at h
    rcases List.mem_cons.1 ha with rfl | ha
    · exact may_lt h.1
    · exact okS_lt l _ h.2 a ha
theorem okS_outs (hn : n ≤ 64) : ∀ (l : List Nat) (t : Nat), okS n D t l = true → outs n t = outs n (mskN t l) + l.length
  | [], t, _ => rfl
  | a :: l, t, h => by
    rw [okS, Bool.and_eq_true] at h
    rw [outs_may hn h.1, okS_outs hn l _ h.2, msk_cons, List.length_cons]
    omega
theorem mem_exts (hn : n ≤ 64) : ∀ (k t : Nat), t < 18446744073709551616 → ∀ l, l ∈ exts n D k t ↔ l.length = k ∧ okS n D t l = true
  | 0, t, _, l => by
    rw [exts, List.mem_singleton]
    constructor
    · rintro rfl; exact ⟨rfl, rfl⟩
    · intro h; exact List.eq_nil_of_length_eq_zero h.1
  | k + 1, t, ht, l => by
    rw [exts, List.mem_flatMap]
    constructor
    · rintro ⟨a, ha, hl⟩
      obtain ⟨m, hm, rfl⟩ := List.mem_map.1 hl
      obtain ⟨h1, h2⟩ := (mem_exts hn k _ (with_lt _ _ ht) m).1 hm
      exact ⟨by simp [h1], by rw [okS, (mem_free hn ht).1 ha, h2]; rfl⟩
    · rintro ⟨h1, h2⟩
      match l, h1, h2 with
      | a :: m, h1, h2 =>
        rw [okS, Bool.and_eq_true] at h2
        exact ⟨a, (mem_free hn ht).2 h2.1, List.mem_map.2 ⟨m, (mem_exts hn k _ (with_lt _ _ ht) m).2 ⟨by simpa using h1, h2.2⟩, rfl⟩⟩
theorem okS_mem (hn : n ≤ 64) {l : List Nat} (hl : l.length = n) (h : okS n D 0 l = true) (a : Nat) (ha : a < n) : a ∈ l := by
  have h1 := okS_outs hn l 0 h
  rw [outs_zero] at h1
  have h2 := outs_none (by omega : outs n (mskN 0 l) = 0) a ha
  rw [msk_bit l 0 a (fun b hb => by have := okS_lt l 0 h b hb; omega)] at h2
  simpa using h2
theorem first_out (t : Nat) : ∀ (l : List Nat), (∃ a ∈ l, t.testBit a = false) → ∃ p x s, l = p ++ x :: s ∧ t.testBit x = false ∧ ∀ y ∈ p, t.testBit y = true
  | [], h => by obtain ⟨a, ha, _⟩ := h; simp at ha
  | a :: l, h => by
    cases hb : t.testBit a with
    | false => exact ⟨[], a, l, rfl, hb, fun y hy => by simp at hy⟩
    | true =>
      obtain ⟨b, hbm, hb2⟩ := h
      have : b ∈ l := by
        rcases List.mem_cons.1 hbm with rfl | h
        · rw [hb] at hb2; cases hb2
        · exact h
      obtain ⟨p, x, s, h1, h2, h3⟩ := first_out t l ⟨b, this, hb2⟩
      exact ⟨a :: p, x, s, by rw [h1]; rfl, h2, fun y hy => by
        rcases List.mem_cons.1 hy with rfl | hy
        · exact hb
        · exact h3 y hy⟩
theorem sub_zero {x t : Nat} (hx : x < 18446744073709551616) (ht : t < 18446744073709551616) : (x &&& (18446744073709551615 - t) = 0) ↔ ∀ b, x.testBit b = true → t.testBit b = true := by
  constructor
  · intro h b hb
    have := congrArg (fun m => m.testBit b) h
    simp only [Nat.testBit_and, Nat.zero_testBit, hb, Bool.true_and] at this
    rw [not_bit t b ht] at this
    have hb6 : b < 64 := by
      rcases Nat.lt_or_ge b 64 with h | h
      · exact h
      · rw [Nat.testBit_lt_two_pow (Nat.lt_of_lt_of_le hx (Nat.pow_le_pow_right (n := 2) (i := 64) (by decide) h))] at hb; cases hb
    simpa [hb6] using this
  · intro h
    apply Nat.eq_of_testBit_eq
    intro b
    rw [Nat.testBit_and, Nat.zero_testBit, not_bit t b ht]
    cases hb : x.testBit b with
    | false => rfl
    | true => rw [h b hb]; simp
theorem may_iff (hD : ∀ a, D a < 18446744073709551616) {t a : Nat} (ht : t < 18446744073709551616) : mayP n D t a = true ↔ a < n ∧ t.testBit a = false ∧ ∀ b, (D a).testBit b = true → t.testBit b = true := by
  unfold mayP
  simp only [Bool.and_eq_true, decide_eq_true_eq, Bool.not_eq_true', beq_iff_eq]
  rw [sub_zero (hD a) ht, and_assoc]
theorem full_of_ok (hn : n ≤ 64) (hD : ∀ a, D a < 18446744073709551616) {l : List Nat} (hl : l.length = n) (h : okS n D 0 l = true) : Full n D := by
  intro t ht ⟨a, ha, hb⟩ h0
  obtain ⟨p, x, s, rfl, hx, hp⟩ := first_out t l ⟨a, okS_mem hn hl h a ha, hb⟩
  rw [okS_append, okS, Bool.and_eq_true, Bool.and_eq_true] at h
  have hm := (may_iff hD (msk_lt p 0 (by decide))).1 h.2.1
  have hm2 : mayP n D t x = true := (may_iff hD ht).2 ⟨hm.1, hx, fun b hb => by
    have h1 := hm.2.2 b hb
    rw [msk_bit p 0 b (fun c hc => by have := okS_lt p 0 h.1 c hc; omega)] at h1
    simp only [Nat.zero_testBit, Bool.false_or, decide_eq_true_eq] at h1
    exact hp b h1⟩
  have h3 := free_bit n D t x hn ht
  rw [h0, hm2, Nat.zero_testBit] at h3
  cases h3
end
section
variable (n : Nat) (D : Nat → Nat)
/-- Always the one that is picked of those that may come. -/
def greedyP (pick : Nat → Nat) : Nat → Nat → Option (List Nat)
  | 0, _ => some []
  | k + 1, t => if freeN n D t = 0 then none else (greedyP pick k (withI t (pick (freeN n D t) : Int))).map (pick (freeN n D t) :: ·)
end
theorem fold_better (R : List Int) : ∀ (L : List Nat) (b : Nat), L.foldl (betterN R) b ∈ b :: L
  | [], b => by simp
  | a :: L, b => by
    rw [List.foldl_cons]
    have := fold_better R L (betterN R b a)
    have h2 : betterN R b a = a ∨ betterN R b a = b := by unfold betterN; split <;> simp
    rcases List.mem_cons.1 this with h | h
    · rw [h]
      rcases h2 with h2 | h2 <;> rw [h2] <;> simp
    · simp [h]
theorem best_mem (R : List Int) (s : Nat) (hs : s < 18446744073709551616) (h0 : s ≠ 0) : bestN R s ∈ bits64 s := by
  obtain ⟨cs, hcs⟩ := bits_ne hs h0
  have := fold_better R (bits64 s) (Lib.ctz 64 s)
  unfold bestN
  rcases List.mem_cons.1 this with h | h
  · rw [h, hcs]; simp
  · exact h
theorem best_nil (s : Nat) : bestN [] s = Lib.ctz 64 s := by
  unfold bestN
  generalize bits64 s = L
  generalize Lib.ctz 64 s = b
  induction L with
  | nil => rfl
  | cons a L ih =>
    rw [List.foldl_cons]
    have : betterN [] b a = b := by unfold betterN; simp
    rw [this, ih]
section
variable {n : Nat} {D : Nat → Nat} (hn : n ≤ 64) {pick : Nat → Nat} (hp : ∀ s, s < 18446744073709551616 → s ≠ 0 → pick s ∈ bits64 s)
include hn hp
theorem greedy_ok : ∀ (k t : Nat), t < 18446744073709551616 → ∀ l, greedyP n D pick k t = some l → okS n D t l = true ∧ l.length = k
  | 0, t, _, l, h => by
    obtain rfl : [] = l := Option.some.inj h
    exact ⟨rfl, rfl⟩
  | k + 1, t, ht, l, h => by
    rw [greedyP] at h
    split at h
    · cases h
    · rename_i h0
      obtain ⟨m, hm, rfl⟩ := Option.map_eq_some_iff.1 h
      obtain ⟨h1, h2⟩ := greedy_ok k _ (with_lt _ _ ht) m hm
      exact ⟨by rw [okS, (mem_free hn ht).1 (hp _ (free_lt n D t) h0), h1]; rfl, by simp [h2]⟩
theorem greedy_full (hF : Full n D) : ∀ (k t : Nat), t < 18446744073709551616 → outs n t = k → ∃ l, greedyP n D pick k t = some l
  | 0, t, _, _ => ⟨[], rfl⟩
  | k + 1, t, ht, ho => by
    have h0 := hF t ht (outs_pos (by omega))
    have hm := (mem_free hn ht).1 (hp _ (free_lt n D t) h0)
    obtain ⟨l, hl⟩ := greedy_full hF k (withI t (pick (freeN n D t) : Int)) (with_lt _ _ ht) (by have := outs_may hn hm; omega)
    exact ⟨pick (freeN n D t) :: l, by rw [greedyP, if_neg h0, hl]; rfl⟩
theorem greedy_iff (hD : ∀ a, D a < 18446744073709551616) : (∃ l, greedyP n D pick n 0 = some l) ↔ Full n D := by
  constructor
  · rintro ⟨l, hl⟩
    obtain ⟨h1, h2⟩ := greedy_ok hn hp n 0 (by decide) l hl
    exact full_of_ok hn hD h2 h1
  · intro hF
    exact greedy_full hn hp hF n 0 (by decide) (outs_zero n)
end
theorem greedy_fin (n : Nat) (D : Nat → Nat) : ∀ (k t : Nat) (l : List Nat), greedyP n D (bestN []) k t = some l → l = finN n D k t
  | 0, t, l, h => (Option.some.inj h).symm
  | k + 1, t, l, h => by
    rw [greedyP] at h
    split at h
    · cases h
    · obtain ⟨m, hm, rfl⟩ := Option.map_eq_some_iff.1 h
      rw [best_nil] at hm ⊢
      rw [finN, greedy_fin n D k _ m hm]
theorem exts_none {n : Nat} {D : Nat → Nat} (hn : n ≤ 64) (hD : ∀ a, D a < 18446744073709551616) (h : greedyP n D (bestN []) n 0 = none) : exts n D n 0 = [] := by
  rcases List.eq_nil_or_concat (exts n D n 0) with h1 | ⟨p, l, h1⟩
  · exact h1
  · have hm : l ∈ exts n D n 0 := by rw [h1]; simp
    obtain ⟨h2, h3⟩ := (mem_exts hn n 0 (by decide) l).1 hm
    obtain ⟨m, hm2⟩ := (greedy_iff hn (fun s h h0 => best_mem [] s h h0) hD).2 (full_of_ok hn hD h2 h3)
    rw [h] at hm2
    cases hm2
/-- The first row, and those behind it. -/
theorem exts_first {n : Nat} {D : Nat → Nat} (hn : n ≤ 64) (hD : ∀ a, D a < 18446744073709551616) {l : List Nat} (h : greedyP n D (bestN []) n 0 = some l) : Full n D ∧ exts n D n 0 = l :: afterS n D 0 l ∧ okS n D 0 l = true ∧ l.length = n := by
  have hF : Full n D := (greedy_iff hn (fun s h h0 => best_mem [] s h h0) hD).1 ⟨l, h⟩
  have e := greedy_fin n D n 0 l h
  subst e
  exact ⟨hF, exts_fin hn hF n 0 (by decide) (outs_zero n)⟩
section
variable (n : Nat) (D : Nat → Nat)
def findS : Nat → List Nat → Nat → Option (Nat × Nat)
  | _, [], _ => none
  | t, a :: l, b => match findS (withI t (a : Int)) l (b + 1) with
    | some r => some r
    | none => if greatN n D t a = 0 then none else some (b, greatN n D t a)
end
theorem less_with {t a : Nat} (ht : t < 18446744073709551616) (ha : a < 64) (hb : t.testBit a = false) : lessI (withI t (a : Int)) (a : Int) = t := by
  apply Nat.eq_of_testBit_eq
  intro j
  rw [less_bit _ _ _ (with_lt _ _ ht), with_bit]
  by_cases hj : j = a
  · subst hj; simp [ha, hb]
  · have : ¬ ((a : Int) = (j : Int) ∧ j < 64) := by omega
    simp [this]
section
variable {n : Nat} {D : Nat → Nat} (hn : n ≤ 64)
include hn
theorem stepF_find : ∀ (l p : List Nat), okS n D 0 (p ++ l) = true → stepF n D (ints (p ++ l)) (p.length + l.length) (mskN 0 (p ++ l)) = match findS n D (mskN 0 p) l p.length with
    | some r => some r
    | none => stepF n D (ints (p ++ l)) p.length (mskN 0 p)
  | [], p, _ => by simp [findS]
  | a :: l, p, h => by
    have e1 : p ++ a :: l = (p ++ [a]) ++ l := by simp
    have e2 : p.length + (a :: l).length = (p ++ [a]).length + l.length := by simp; omega
    rw [e1] at h
    rw [e1, e2, stepF_find l (p ++ [a]) h, ← e1, findS]
    have e3 : mskN 0 (p ++ [a]) = withI (mskN 0 p) (a : Int) := by rw [msk_append]; rfl
    have e4 : (p ++ [a]).length = p.length + 1 := by simp
    rw [e3, e4]
    cases findS n D (withI (mskN 0 p) (a : Int)) l (p.length + 1) with
    | some r => rfl
    | none =>
      rw [okS_append, okS_append, okS, okS] at h
      simp only [Bool.and_eq_true, and_true] at h
      have ha := may_lt h.1.2
      have hb := may_new h.1.2
      have hg : (ints (p ++ a :: l)).getD p.length 0 = (a : Int) := by
        unfold ints
        rw [List.getD_eq_getElem?_getD, List.getElem?_map, List.getElem?_append_right (Nat.le_refl _)]
        simp
      simp only
      rw [stepF, hg, less_with (msk_lt p 0 (by decide)) (by omega) hb]
      show (if greatN n D (mskN 0 p) a = 0 then _ else some (p.length, greatN n D (mskN 0 p) a)) = _
      split <;> rfl
omit hn in
theorem find_next : ∀ (l : List Nat) (t b : Nat), (findS n D t l b = none → nextS n D t l = none) ∧ ∀ i g, findS n D t l b = some (i, g) → b ≤ i ∧ i < b + l.length ∧ g ≠ 0 ∧ (∃ a, l[i - b]? = some a ∧ g = greatN n D (mskN t (l.take (i - b))) a) ∧
      nextS n D t l = some (l.take (i - b) ++ Lib.ctz 64 g :: finN n D (l.length - (i - b + 1)) (withI (mskN t (l.take (i - b))) (Lib.ctz 64 g : Int)))
  | [], t, b => ⟨fun _ => rfl, fun i g h => by simp [findS] at h⟩
  | a :: l, t, b => by
    obtain ⟨h1, h2⟩ := find_next l (withI t (a : Int)) (b + 1)
    cases hf : findS n D (withI t (a : Int)) l (b + 1) with
    | some r =>
      obtain ⟨i0, g0⟩ := r
      obtain ⟨j1, j2, j3, ⟨y, hy, hg⟩, j4⟩ := h2 i0 g0 hf
      have e : findS n D t (a :: l) b = some (i0, g0) := by rw [findS, hf]
      refine ⟨fun h => (by rw [e] at h; cases h), fun i g h => ?_⟩
      rw [e] at h
      simp only [Option.some.injEq, Prod.mk.injEq] at h
      obtain ⟨rfl, rfl⟩ := h
      have e2 : i0 - b = (i0 - (b + 1)) + 1 := by omega
      refine ⟨by omega, by simp only [List.length_cons]; omega, j3, ⟨y, by rw [e2, List.getElem?_cons_succ]; exact hy, by rw [e2, List.take_succ_cons, msk_cons]; exact hg⟩, ?_⟩
      rw [nextS, j4, e2, List.take_succ_cons, msk_cons, List.cons_append, List.length_cons]
      have e3 : l.length + 1 - (i0 - (b + 1) + 1 + 1) = l.length - (i0 - (b + 1) + 1) := by omega
      rw [e3]
    | none =>
      have h3 := h1 hf
      by_cases h0 : greatN n D t a = 0
      · have e : findS n D t (a :: l) b = none := by rw [findS, hf]; simp [h0]
        exact ⟨fun _ => (by rw [nextS, h3]; simp [h0]), fun i g h => (by rw [e] at h; cases h)⟩
      · have e : findS n D t (a :: l) b = some (b, greatN n D t a) := by rw [findS, hf]; simp [h0]
        refine ⟨fun h => (by rw [e] at h; cases h), fun i g h => ?_⟩
        rw [e] at h
        simp only [Option.some.injEq, Prod.mk.injEq] at h
        obtain ⟨rfl, rfl⟩ := h
        have e2 : b - b = 0 := Nat.sub_self b
        rw [e2]
        refine ⟨Nat.le_refl _, by simp, h0, ⟨a, rfl, rfl⟩, ?_⟩
        rw [nextS, h3]
        simp [h0, mskN, ofI, ints]
theorem finI_fin (hF : Full n D) : ∀ (k t : Nat), t < 18446744073709551616 → outs n t = k → finI n D k t = ints (finN n D k t)
  | 0, _, _, _ => rfl
  | k + 1, t, ht, ho => by
    have h0 := hF t ht (outs_pos (by omega))
    obtain ⟨cs, hb⟩ := bits_ne (free_lt n D t) h0
    have hm : mayP n D t (Lib.ctz 64 (freeN n D t)) = true := (mem_free hn ht).1 (by rw [hb]; simp)
    have hf : firstN (freeN n D t) = (Lib.ctz 64 (freeN n D t) : Nat) := by unfold firstN; rw [if_neg h0]
    rw [finI, hf, finI_fin hF k _ (with_lt _ _ ht) (by have := outs_may hn hm; omega), finN]
    rfl
theorem step_next (hF : Full n D) {l : List Nat} (hl : l.length = n) (h : okS n D 0 l = true) : stepI n D (ints l) = (nextS n D 0 l).map ints := by
  have hm : mskN 0 l = uptoI n := by
    apply Nat.eq_of_testBit_eq
    intro j
    rw [msk_bit l 0 j (fun b hb => by have := okS_lt l 0 h b hb; omega), upto_bit n j hn, Nat.zero_testBit, Bool.false_or]
    rw [Bool.eq_iff_iff, decide_eq_true_iff, decide_eq_true_iff]
    exact ⟨fun hj => okS_lt l 0 h j hj, fun hj => okS_mem hn hl h j hj⟩
  have hs := stepF_find hn l [] h
  have hz : mskN 0 [] = 0 := rfl
  simp only [List.nil_append, List.length_nil, Nat.zero_add, hz] at hs
  have hil : (ints l).length = l.length := by simp
  unfold stepI
  rw [hil, ← hm, hs]
  obtain ⟨h1, h2⟩ := find_next l (n := n) (D := D) 0 0
  cases hf : findS n D 0 l 0 with
  | none =>
    rw [h1 hf]
    rfl
  | some r =>
    obtain ⟨i, g⟩ := r
    obtain ⟨_, j2, j3, ⟨a, ha, hg⟩, j4⟩ := h2 i g hf
    rw [j4]
    simp only [Nat.sub_zero, Nat.zero_add] at ha hg j2 ⊢
    have hok : okS n D 0 (l.take i) = true := by
      have := okS_append (n := n) (D := D) (l.take i) (l.drop i) 0
      rw [List.take_append_drop, h] at this
      have := this.symm
      rw [Bool.and_eq_true] at this
      exact this.1
    have ha64 : a < 64 := by have := okS_lt l 0 h a (List.mem_of_getElem? ha); omega
    have hgl : g < 18446744073709551616 := by rw [hg]; exact great_lt n D _ a
    obtain ⟨cs, hb⟩ := bits_ne hgl j3
    have hmem : Lib.ctz 64 g ∈ bits64 (freeN n D (mskN 0 (l.take i))) := by
      have : Lib.ctz 64 g ∈ bits64 g := by rw [hb]; simp
      rw [hg, great_bits n D _ a ha64, ← hg] at this
      exact (List.mem_filter.1 this).1
    have hmay := (mem_free hn (msk_lt (l.take i) 0 (by decide))).1 hmem
    have ho := okS_outs hn (l.take i) 0 hok
    rw [outs_zero, outs_may hn hmay, List.length_take] at ho
    have hfg : firstN g = (Lib.ctz 64 g : Nat) := by unfold firstN; rw [if_neg j3]
    simp only [Option.map_some, Option.some.injEq, hfg]
    have e1 : (ints l).take i = ints (l.take i) := by unfold ints; rw [List.map_take]
    have e2 : ofI 0 (ints (l.take i) ++ [((Lib.ctz 64 g : Nat) : Int)]) = withI (mskN 0 (l.take i)) (Lib.ctz 64 g : Int) := by
      unfold mskN ofI
      rw [List.foldl_append]
      rfl
    rw [e1, e2, finI_fin hn hF _ _ (with_lt _ _ (msk_lt (l.take i) 0 (by decide))) (by omega)]
    unfold ints
    rw [List.map_append, List.map_cons]
end
end Go.Proofs.YtohngifmbnlmmaaDoor
