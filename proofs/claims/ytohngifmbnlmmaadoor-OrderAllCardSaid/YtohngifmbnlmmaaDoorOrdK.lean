/- Which rows are orders, in plain Lean: step by step, and by who stands where. -/
import Derived.Test.YtohngifmbnlmmaaDoorJKeep
namespace Go.Proofs.YtohngifmbnlmmaaDoor

theorem D_bit {r : RelT} (hr : Wf r) (a b : Nat) : (DL2D (needL r) a).testBit b = H r b a := by
  rw [need_D hr]
  exact inv_H hr a b
theorem hasI_free {n : Nat} {D : Nat → Nat} (hn : n ≤ 64) {t : Nat} (ht : t < 18446744073709551616) (x : Int) : hasI (freeN n D t) x = true ↔ ∃ a : Nat, x = a ∧ mayP n D t a = true := by
  rw [has_bit, Bool.and_eq_true, decide_eq_true_eq]
  constructor
  · rintro ⟨h1, h2⟩
    rw [free_bit n D t _ hn ht] at h2
    exact ⟨x.toNat, by omega, h2⟩
  · rintro ⟨a, rfl, h⟩
    have := may_lt h
    refine ⟨by omega, ?_⟩
    rw [Int.toNat_natCast, free_bit n D t _ hn ht]
    exact h
theorem goK_iff {n : Nat} {D : Nat → Nat} (hn : n ≤ 64) : ∀ (L : List Int) (t : Nat), t < 18446744073709551616 → (goK n D t L = true ↔ ∃ l, L = ints l ∧ okS n D t l = true)
  | [], t, _ => by
    constructor
    · intro _; exact ⟨[], rfl, rfl⟩
    · intro _; rfl
  | x :: L, t, ht => by
    rw [goK, Bool.and_eq_true, hasI_free hn ht]
    constructor
    · rintro ⟨⟨a, rfl, ha⟩, hg⟩
      obtain ⟨l, rfl, hl⟩ := (goK_iff hn L _ (with_lt _ _ ht)).1 hg
      exact ⟨a :: l, rfl, by rw [okS, ha, hl]; rfl⟩
    · rintro ⟨l, hl, ho⟩
      match l, hl, ho with
      | a :: l, hl, ho =>
        simp only [ints, List.map_cons, List.cons.injEq] at hl
        obtain ⟨rfl, rfl⟩ := hl
        rw [okS, Bool.and_eq_true] at ho
        exact ⟨⟨a, rfl, ho.1⟩, (goK_iff hn _ _ (with_lt _ _ ht)).2 ⟨l, rfl, ho.2⟩⟩
theorem keepI_iff {n : Nat} {D : Nat → Nat} (hn : n ≤ 64) (L : List Int) : keepI n D L = true ↔ ∃ l, L = ints l ∧ l.length = n ∧ okS n D 0 l = true := by
  unfold keepI
  rw [Bool.and_eq_true, decide_eq_true_eq, goK_iff hn L 0 (by decide)]
  constructor
  · rintro ⟨h1, l, rfl, h2⟩
    exact ⟨l, rfl, by simpa using h1, h2⟩
  · rintro ⟨l, rfl, h1, h2⟩
    exact ⟨by simpa using h1, l, rfl, h2⟩
/-- Where each stands. -/
def posN (p : List Nat) (j : Nat) : Int := if j ∈ p then (p.idxOf j : Nat) else if j < 64 then -1 else 0
theorem pos_nil : posN [] = lessF 64 := by
  funext j
  unfold posN lessF
  simp
theorem pos_snoc {p : List Nat} {x : Nat} (h : x ∉ p) : updI (posN p) x p.length = posN (p ++ [x]) := by
  funext j
  unfold updI posN
  by_cases hj : j = x
  · subst hj
    have hm : j ∈ p ++ [j] := by simp
    rw [if_pos rfl, if_pos hm, List.idxOf_append, if_neg h, List.idxOf_cons_self]
    simp
  · rw [if_neg hj]
    by_cases hm : j ∈ p
    · have hm2 : j ∈ p ++ [x] := by simp [hm]
      rw [if_pos hm, if_pos hm2, List.idxOf_append, if_pos hm]
    · have hm2 : ¬ j ∈ p ++ [x] := by simp [hm, hj]
      rw [if_neg hm, if_neg hm2]
theorem pos_neg {p : List Nat} {k : Nat} (hk : k < 64) : 0 ≤ posN p k ↔ k ∈ p := by
  unfold posN
  by_cases h : k ∈ p
  · rw [if_pos h]
    simp [h]
  · rw [if_neg h, if_pos hk]
    simp [h]
theorem place_some {n : Nat} (hn : n ≤ 64) : ∀ (L : List Int) (p : List Nat) (f : Nat → Int), placeD n L p.length (posN p) = some f → ∃ l, L = ints l ∧ (∀ x ∈ l, x < n) ∧ (∀ x ∈ l, x ∉ p) ∧ l.Nodup ∧ f = posN (p ++ l)
  | [], p, f, h => by
    obtain rfl : posN p = f := Option.some.inj h
    exact ⟨[], rfl, by simp, by simp, List.nodup_nil, by simp⟩
  | x :: L, p, f, h => by
    rw [placeD] at h
    split at h
    · cases h
    · rename_i hc
      obtain ⟨k, rfl⟩ : ∃ k : Nat, x = k := ⟨x.toNat, by omega⟩
      rw [Int.toNat_natCast] at h hc
      have hk : k < n := by omega
      have hkp : k ∉ p := fun hm => hc (Or.inr (Or.inr ((pos_neg (by omega)).2 hm)))
      rw [pos_snoc hkp, show p.length + 1 = (p ++ [k]).length by simp] at h
      obtain ⟨l, rfl, h1, h2, h3, rfl⟩ := place_some hn L (p ++ [k]) f h
      refine ⟨k :: l, rfl, ?_, ?_, ?_, by simp⟩
      · intro y hy
        rcases List.mem_cons.1 hy with rfl | hy
        · exact hk
        · exact h1 y hy
      · intro y hy
        rcases List.mem_cons.1 hy with rfl | hy
        · exact hkp
        · exact fun hm => h2 y hy (by simp [hm])
      · rw [List.nodup_cons]
        exact ⟨fun hm => h2 k hm (by simp), h3⟩
theorem place_of {n : Nat} (hn : n ≤ 64) : ∀ (l p : List Nat), (∀ x ∈ l, x < n) → (∀ x ∈ l, x ∉ p) → l.Nodup → placeD n (ints l) p.length (posN p) = some (posN (p ++ l))
  | [], p, _, _, _ => by simp [placeD, ints]
  | k :: l, p, h1, h2, h3 => by
    have hk := h1 k (by simp)
    have hkp := h2 k (by simp)
    rw [List.nodup_cons] at h3
    show placeD n ((k : Int) :: ints l) _ _ = _
    rw [placeD, if_neg, Int.toNat_natCast, pos_snoc hkp, show p.length + 1 = (p ++ [k]).length by simp, place_of hn l (p ++ [k]) (fun x hx => h1 x (by simp [hx])) (fun x hx hm => ?_) h3.2]
    · simp
    · rcases List.mem_append.1 hm with hm | hm
      · exact h2 x (by simp [hx]) hm
      · simp only [List.mem_cons, List.not_mem_nil, or_false] at hm
        subst hm
        exact h3.1 hx
    · rw [Int.toNat_natCast, pos_neg (by omega)]
      rintro (h | h | h)
      · omega
      · omega
      · exact hkp h
theorem pairsTo_iff (r : RelT) (f : Nat → Int) (a : Nat) : ∀ n, pairsTo r f a n = true ↔ ∀ b, b < n → pairOk r f a b = true
  | 0 => by simp [pairsTo]
  | n + 1 => by
    rw [pairsTo, Bool.and_eq_true, pairsTo_iff r f a n]
    constructor
    · rintro ⟨h1, h2⟩ b hb
      rcases Nat.lt_or_ge b n with h | h
      · exact h1 b h
      · obtain rfl : b = n := by omega
        exact h2
    · intro h
      exact ⟨fun b hb => h b (by omega), h n (by omega)⟩
theorem rowsTo_iff (r : RelT) (f : Nat → Int) (n : Nat) : ∀ m, rowsTo r f n m = true ↔ ∀ a, a < m → ∀ b, b < n → pairOk r f a b = true
  | 0 => by simp [rowsTo]
  | m + 1 => by
    rw [rowsTo, Bool.and_eq_true, rowsTo_iff r f n m, pairsTo_iff]
    constructor
    · rintro ⟨h1, h2⟩ a ha
      rcases Nat.lt_or_ge a m with h | h
      · exact h1 a h
      · obtain rfl : a = m := by omega
        exact h2
    · intro h
      exact ⟨fun a ha => h a (by omega), h m (by omega)⟩
theorem pairOk_iff (r : RelT) (f : Nat → Int) (a b : Nat) : pairOk r f a b = true ↔ (H r a b = true → f a < f b) := by
  unfold pairOk
  cases H r a b with
  | false => simp
  | true =>
    simp only [Bool.true_and, Bool.not_eq_true', decide_eq_false_iff_not, forall_const]
    omega
/-- All numbers, each once, and who leads stands ahead. -/
structure Stands (r : RelT) (l : List Nat) : Prop where
  len : l.length = r.n
  lt : ∀ x ∈ l, x < r.n
  nd : l.Nodup
  ord : ∀ a b, a < r.n → b < r.n → H r a b = true → posN l a < posN l b
theorem keepD_iff {r : RelT} (hr : Wf r) (L : List Int) : keepD r L = true ↔ ∃ l, L = ints l ∧ Stands r l := by
  unfold keepD
  rw [Bool.and_eq_true, decide_eq_true_eq, ← pos_nil]
  constructor
  · rintro ⟨h1, h2⟩
    cases hp : placeD r.n L 0 (posN []) with
    | none => rw [hp] at h2; cases h2
    | some f =>
      rw [hp] at h2
      obtain ⟨l, rfl, h3, _, h5, rfl⟩ := place_some hr.n L [] f hp
      refine ⟨l, rfl, by simpa using h1, h3, h5, fun a b ha hb hab => ?_⟩
      have := (pairOk_iff r _ a b).1 ((rowsTo_iff r _ _ _).1 h2 a ha b hb) hab
      simpa using this
  · rintro ⟨l, rfl, h1, h2, h3, h4⟩
    refine ⟨by simpa using h1, ?_⟩
    have := place_of hr.n l [] h2 (fun x _ => by simp) h3
    rw [show (0 : Nat) = ([] : List Nat).length from rfl, this]
    refine (rowsTo_iff r _ _ _).2 fun a ha b hb => (pairOk_iff r _ a b).2 fun hab => ?_
    simpa using h4 a b ha hb hab
/-- Step by step: who must stand ahead does. -/
def okP (r : RelT) (p l : List Nat) : Prop := ∀ q x s, l = q ++ x :: s → x < r.n ∧ x ∉ p ++ q ∧ ∀ b, H r b x = true → b ∈ p ++ q
theorem may_mem {r : RelT} (hr : Wf r) {p : List Nat} (hp : ∀ x ∈ p, x < 64) (a : Nat) : mayP r.n (DL2D (needL r)) (mskN 0 p) a = true ↔ a < r.n ∧ a ∉ p ∧ ∀ b, H r b a = true → b ∈ p := by
  rw [may_iff (D_lt (need_x hr)) (msk_lt p 0 (by decide)), msk_bit p 0 a hp]
  simp only [Nat.zero_testBit, Bool.false_or, decide_eq_false_iff_not, D_bit hr]
  constructor
  · rintro ⟨h1, h2, h3⟩
    refine ⟨h1, h2, fun b hb => ?_⟩
    have := h3 b hb
    rw [msk_bit p 0 b hp] at this
    simpa using this
  · rintro ⟨h1, h2, h3⟩
    refine ⟨h1, h2, fun b hb => ?_⟩
    rw [msk_bit p 0 b hp]
    simpa using h3 b hb
theorem okS_okP {r : RelT} (hr : Wf r) : ∀ (l p : List Nat), (∀ x ∈ p, x < 64) → (okS r.n (DL2D (needL r)) (mskN 0 p) l = true ↔ okP r p l)
  | [], p, _ => by
    constructor
    · intro _ q x s h
      simp at h
    · intro _; rfl
  | a :: l, p, hp => by
    have hn := hr.n
    rw [okS, Bool.and_eq_true, may_mem hr hp, show withI (mskN 0 p) (a : Int) = mskN 0 (p ++ [a]) by rw [msk_append]; rfl]
    constructor
    · rintro ⟨h1, h2⟩ q x s hq
      have h3 := (okS_okP hr l (p ++ [a]) (fun x hx => by
        rcases List.mem_append.1 hx with hx | hx
        · exact hp x hx
        · simp only [List.mem_cons, List.not_mem_nil, or_false] at hx
          omega)).1 h2
      match q, hq with
      | [], hq =>
        simp only [List.nil_append, List.cons.injEq] at hq
        obtain ⟨rfl, rfl⟩ := hq
        simpa using h1
      | b :: q, hq =>
        simp only [List.cons_append, List.cons.injEq] at hq
        obtain ⟨rfl, rfl⟩ := hq
        have := h3 q x s rfl
        simpa using this
    · intro h
      have h1 := h [] a l rfl
      simp only [List.append_nil] at h1
      refine ⟨h1, (okS_okP hr l (p ++ [a]) (fun x hx => by
        rcases List.mem_append.1 hx with hx | hx
        · exact hp x hx
        · simp only [List.mem_cons, List.not_mem_nil, or_false] at hx
          omega)).2 fun q x s hq => ?_⟩
      have := h (a :: q) x s (by rw [hq]; rfl)
      simpa using this
theorem okP_nodup {r : RelT} : ∀ (l p : List Nat), okP r p l → l.Nodup ∧ ∀ x ∈ l, x ∉ p
  | [], _, _ => ⟨List.nodup_nil, by simp⟩
  | a :: l, p, h => by
    have h1 := h [] a l rfl
    simp only [List.append_nil] at h1
    obtain ⟨h2, h3⟩ := okP_nodup l (p ++ [a]) (fun q x s hq => by
      have := h (a :: q) x s (by rw [hq]; rfl)
      simpa using this)
    refine ⟨List.nodup_cons.2 ⟨fun hm => h3 a hm (by simp), h2⟩, fun x hx => ?_⟩
    rcases List.mem_cons.1 hx with rfl | hx
    · exact h1.2.1
    · exact fun hm => h3 x hx (by simp [hm])
theorem outs_new {n t a : Nat} (hn : n ≤ 64) (ha : a < n) (hb : t.testBit a = false) : outs n t = outs n (withI t (a : Int)) + 1 := by
  unfold outs
  refine countP_flip _ _ a n ha (by simp [hb]) ?_ fun b hne => ?_
  · rw [with_bit]
    have : (a : Int) = (a : Int) ∧ a < 64 := ⟨rfl, by omega⟩
    simp [this]
  · rw [with_bit]
    have : ¬ ((a : Int) = (b : Int) ∧ b < 64) := by omega
    simp [this]
theorem nodup_outs {n : Nat} (hn : n ≤ 64) : ∀ (l : List Nat) (t : Nat), (∀ x ∈ l, x < n) → l.Nodup → (∀ x ∈ l, t.testBit x = false) → outs n t = outs n (mskN t l) + l.length
  | [], t, _, _, _ => rfl
  | a :: l, t, h1, h2, h3 => by
    rw [List.nodup_cons] at h2
    have ha := h1 a (by simp)
    rw [outs_new hn ha (h3 a (by simp)), nodup_outs hn l _ (fun x hx => h1 x (by simp [hx])) h2.2 (fun x hx => ?_), msk_cons, List.length_cons]
    · omega
    · rw [with_bit, h3 x (by simp [hx])]
      have : ¬ ((a : Int) = (x : Int) ∧ x < 64) := fun h => h2.1 (by have : a = x := by omega
                                                                     rw [this]; exact hx)
      simp [this]
theorem nodup_all {n : Nat} (hn : n ≤ 64) {l : List Nat} (h0 : l.length = n) (h1 : ∀ x ∈ l, x < n) (h2 : l.Nodup) (a : Nat) (ha : a < n) : a ∈ l := by
  have h := nodup_outs hn l 0 h1 h2 (fun x _ => by simp)
  rw [outs_zero] at h
  have h3 := outs_none (by omega : outs n (mskN 0 l) = 0) a ha
  rw [msk_bit l 0 a (fun b hb => by have := h1 b hb; omega)] at h3
  simpa using h3
theorem stands_iff {r : RelT} (hr : Wf r) (l : List Nat) : Stands r l ↔ l.length = r.n ∧ okS r.n (DL2D (needL r)) 0 l = true := by
  have hn := hr.n
  have key := okS_okP hr l [] (by simp)
  have hz : mskN 0 [] = 0 := rfl
  rw [hz] at key
  constructor
  · rintro ⟨h1, h2, h3, h4⟩
    refine ⟨h1, key.2 fun q x s hq => ?_⟩
    have hx : x ∈ l := by rw [hq]; simp
    have hxn := h2 x hx
    have hxq : x ∉ q := by
      rw [hq, List.nodup_append] at h3
      exact fun hm => h3.2.2 x hm x (by simp) rfl
    refine ⟨hxn, by simpa using hxq, fun b hb => ?_⟩
    have hbn := (hr.b b x hb).1
    have hbl := nodup_all hn h1 h2 h3 b hbn
    have h5 := h4 b x hbn hxn hb
    unfold posN at h5
    rw [if_pos hbl, if_pos hx, hq, List.idxOf_append, List.idxOf_append, if_neg hxq, List.idxOf_cons_self] at h5
    simp only [List.nil_append]
    by_cases hbq : b ∈ q
    · exact hbq
    · rw [if_neg hbq] at h5
      omega
  · rintro ⟨h1, h2⟩
    have hp := key.1 h2
    have hall := okS_mem hn h1 h2
    refine ⟨h1, okS_lt l 0 h2, (okP_nodup l [] hp).1, fun a b ha hb hab => ?_⟩
    obtain ⟨q, s, hq, hbq⟩ := List.eq_append_cons_of_mem (hall b hb)
    have h3 := hp q b s hq
    have haq : a ∈ q := by simpa using h3.2.2 a hab
    have hbl := hall b hb
    have hal := hall a ha
    have hlt := List.idxOf_lt_length_of_mem haq
    unfold posN
    rw [if_pos hal, if_pos hbl, hq, List.idxOf_append, List.idxOf_append, if_pos haq, if_neg hbq, List.idxOf_cons_self]
    omega
theorem keep_same {r : RelT} (hr : Wf r) (L : List Int) : keepI (needL r).length (DL2D (needL r)) L = keepD r L := by
  rw [Bool.eq_iff_iff, need_len, keepI_iff hr.n, keepD_iff hr]
  constructor
  · rintro ⟨l, h1, h2, h3⟩
    exact ⟨l, h1, (stands_iff hr l).2 ⟨h2, h3⟩⟩
  · rintro ⟨l, h1, h2⟩
    exact ⟨l, h1, (stands_iff hr l).1 h2⟩
theorem keepD_of {r : RelT} (hr : Wf r) {l : List Nat} (h : l ∈ ordsR r) : keepD r (ints l) = true := by
  unfold ordsR at h
  rw [need_len] at h
  exact (keepD_iff hr _).2 ⟨l, rfl, (stands_iff hr l).2 ((mem_exts hr.n _ 0 (by decide) l).1 h)⟩
theorem mem_ords {r : RelT} (hr : Wf r) (l : List Nat) : l ∈ ordsR r ↔ Stands r l := by
  unfold ordsR
  rw [need_len, stands_iff hr]
  exact mem_exts hr.n _ 0 (by decide) l
end Go.Proofs.YtohngifmbnlmmaaDoor
