/- Orders in plain Lean: when there is one; as rows stand; a pair more; by ranks. -/
import Derived.Test.YtohngifmbnlmmaaDoorOrdK
import Derived.Test.YtohngifmbnlmmaaDoorOrdR
namespace Go.Proofs.YtohngifmbnlmmaaDoor

theorem countP_lt (p q : Nat → Bool) : ∀ L : List Nat, (∀ x ∈ L, p x = true → q x = true) → (∃ x ∈ L, q x = true ∧ p x = false) → L.countP p < L.countP q
  | [], _, h => by obtain ⟨x, hx, _⟩ := h; simp at hx
  | a :: L, h, ⟨x, hx, h1, h2⟩ => by
    rw [List.countP_cons, List.countP_cons]
    have hle : L.countP p ≤ L.countP q := List.countP_mono_left fun y hy hp => h y (by simp [hy]) hp
    rcases List.mem_cons.1 hx with rfl | hx
    · rw [if_pos h1, if_neg (by rw [h2]; decide)]
      omega
    · have := countP_lt p q L (fun y hy => h y (by simp [hy])) ⟨x, hx, h1, h2⟩
      have ha := h a (by simp)
      cases hp : p a with
      | false =>
        rw [if_neg (by decide)]
        split <;> omega
      | true =>
        rw [if_pos rfl, if_pos (ha hp)]
        omega
theorem full_of_acyc {r : RelT} (hr : Wf r) (h : acycR r = true) : Full r.n (DL2D (needL r)) := by
  have hD := D_lt (need_x hr)
  rw [acyc_iff hr] at h
  intro t ht ⟨a0, ha0, hb0⟩ h0
  have key : ∀ (k a : Nat), a < r.n → t.testBit a = false → (List.range r.n).countP (fun c => !t.testBit c && H (closeR r) c a) ≤ k → ∃ x, mayP r.n (DL2D (needL r)) t x = true := by
    intro k
    induction k with
    | zero =>
      intro a ha hb hc
      refine ⟨a, (may_iff hD ht).2 ⟨ha, hb, fun b hbb => ?_⟩⟩
      rw [D_bit hr] at hbb
      cases hbt : t.testBit b with
      | true => rfl
      | false =>
        have hbn := (hr.b b a hbb).1
        have := List.countP_eq_zero.1 (by omega : (List.range r.n).countP (fun c => !t.testBit c && H (closeR r) c a) = 0) b (by simpa using hbn)
        rw [hbt, close_has hr b a hbb] at this
        exact absurd rfl this
    | succ k ih =>
      intro a ha hb hc
      by_cases hall : ∀ b, H r b a = true → t.testBit b = true
      · exact ⟨a, (may_iff hD ht).2 ⟨ha, hb, fun b hbb => hall b (by rw [D_bit hr] at hbb; exact hbb)⟩⟩
      · obtain ⟨b, hb2⟩ := Classical.not_forall.1 hall
        have hba : H r b a = true := Classical.byContradiction fun hn => hb2 fun h => absurd h hn
        have hbt : t.testBit b = false := by
          cases hq : t.testBit b with
          | false => rfl
          | true => exact absurd (fun _ => hq) hb2
        have hbn := (hr.b b a hba).1
        refine ih b hbn hbt ?_
        have hlt := countP_lt (fun c => !t.testBit c && H (closeR r) c b) (fun c => !t.testBit c && H (closeR r) c a) (List.range r.n) (fun c _ hcc => by
          rw [Bool.and_eq_true] at hcc ⊢
          exact ⟨hcc.1, close_trans hr c b a hcc.2 (close_has hr b a hba)⟩) ⟨b, by simpa using hbn, by rw [hbt, close_has hr b a hba]; rfl, by rw [h b hbn]; simp⟩
        omega
  obtain ⟨x, hx⟩ := key _ a0 ha0 hb0 (Nat.le_refl _)
  have := free_bit r.n (DL2D (needL r)) t x hr.n ht
  rw [h0, hx, Nat.zero_testBit] at this
  cases this
theorem acyc_of_stands {r : RelT} (hr : Wf r) {l : List Nat} (h : Stands r l) : acycR r = true := by
  rw [acyc_iff hr]
  intro a ha
  cases hc : H (closeR r) a a with
  | false => rfl
  | true =>
    have := close_least hr (fun a b => a < r.n ∧ b < r.n ∧ posN l a < posN l b) (fun a b c h1 h2 => ⟨h1.1, h2.2.1, by have := h1.2.2; have := h2.2.2; omega⟩) (fun a b hab => by
      obtain ⟨h1, h2⟩ := hr.b a b hab
      exact ⟨h1, h2, h.ord a b h1 h2 hab⟩) a a hc
    omega
theorem acyc_full {r : RelT} (hr : Wf r) : acycR r = true ↔ Full r.n (DL2D (needL r)) := by
  constructor
  · exact full_of_acyc hr
  · intro hF
    obtain ⟨h1, h2, h3⟩ := exts_fin hr.n hF r.n 0 (by decide) (outs_zero _)
    exact acyc_of_stands hr ((stands_iff hr _).2 ⟨h3, h2⟩)
/-- The greedy row, by any rank. -/
def grdR (r : RelT) (R : List Int) : Option (List Nat) := greedyP (needL r).length (DL2D (needL r)) (bestN R) (needL r).length 0
theorem grd_some {r : RelT} (hr : Wf r) (R : List Int) {l : List Nat} (h : grdR r R = some l) : Stands r l ∧ acycR r = true := by
  unfold grdR at h
  rw [need_len] at h
  obtain ⟨h1, h2⟩ := greedy_ok hr.n (fun s h h0 => best_mem R s h h0) r.n 0 (by decide) l h
  have hs := (stands_iff hr l).2 ⟨h2, h1⟩
  exact ⟨hs, acyc_of_stands hr hs⟩
theorem grd_none {r : RelT} (hr : Wf r) (R : List Int) (h : grdR r R = none) : acycR r = false ∧ ordsR r = [] := by
  unfold grdR at h
  rw [need_len] at h
  have hnf : ¬ Full r.n (DL2D (needL r)) := fun hF => by
    obtain ⟨l, hl⟩ := greedy_full hr.n (fun s h h0 => best_mem R s h h0) hF r.n 0 (by decide) (outs_zero _)
    rw [h] at hl
    cases hl
  have ha : acycR r = false := by
    cases hc : acycR r with
    | false => rfl
    | true => exact absurd ((acyc_full hr).1 hc) hnf
  refine ⟨ha, ?_⟩
  rcases List.eq_nil_or_concat (ordsR r) with h1 | ⟨p, l, h1⟩
  · exact h1
  · have hm : l ∈ ordsR r := by rw [h1]; simp
    have := acyc_of_stands hr ((mem_ords hr l).1 hm)
    rw [ha] at this
    cases this
theorem grd_first {r : RelT} (hr : Wf r) {l : List Nat} (h : grdR r [] = some l) : ∃ ls, ordsR r = l :: ls := by
  unfold grdR at h
  have hn : (needL r).length ≤ 64 := by rw [need_len]; exact hr.n
  exact ⟨_, (exts_first hn (D_lt (need_x hr)) h).2.1⟩
/-- As rows stand. -/
def lexN : List Nat → List Nat → Prop
  | a :: l, b :: m => a < b ∨ (a = b ∧ lexN l m)
  | _, _ => False
theorem lex_irr : ∀ l, ¬ lexN l l
  | [] => fun h => h
  | a :: l => fun h => by
    rcases h with h | h
    · exact absurd h (Nat.lt_irrefl a)
    · exact lex_irr l h.2
theorem exts_sorted {n : Nat} {D : Nat → Nat} : ∀ (k t : Nat), (exts n D k t).Pairwise lexN
  | 0, _ => List.pairwise_singleton _ _
  | k + 1, t => by
    rw [exts, List.pairwise_flatMap]
    refine ⟨fun a _ => ?_, ?_⟩
    · rw [List.pairwise_map]
      exact (exts_sorted k _).imp fun h => Or.inr ⟨rfl, h⟩
    · refine (bits_sorted _).imp fun {a b} hab x hx y hy => ?_
      obtain ⟨x', _, rfl⟩ := List.mem_map.1 hx
      obtain ⟨y', _, rfl⟩ := List.mem_map.1 hy
      exact Or.inl hab
theorem ords_sorted (r : RelT) : (ordsR r).Pairwise lexN := exts_sorted _ _
theorem ords_nodup (r : RelT) : (ordsR r).Nodup := (ords_sorted r).imp fun {a b} h e => by
  subst e
  exact lex_irr _ h
/-- The first place where two rows are not the same. -/
theorem lex_first : ∀ (l m : List Nat), lexN l m → ∃ k a b : Nat, l[k]? = some a ∧ m[k]? = some b ∧ a < b ∧ ∀ j, j < k → l[j]? = m[j]?
  | [], _, h => by cases h
  | _ :: _, [], h => by cases h
  | a :: l, b :: m, h => by
    rcases h with h | ⟨rfl, h⟩
    · exact ⟨0, a, b, rfl, rfl, h, fun j hj => by omega⟩
    · obtain ⟨k, x, y, h1, h2, h3, h4⟩ := lex_first l m h
      exact ⟨k + 1, x, y, by simpa using h1, by simpa using h2, h3, fun j hj => by
        match j with
        | 0 => rfl
        | j + 1 => simpa using h4 j (by omega)⟩
theorem stands_mem {r : RelT} (hr : Wf r) {l : List Nat} (h : Stands r l) (a : Nat) (ha : a < r.n) : a ∈ l := nodup_all hr.n h.len h.lt h.nd a ha
theorem stands_add {r : RelT} (hr : Wf r) {a b : Nat} (ha : a < r.n) (hb : b < r.n) (l : List Nat) : Stands (addR r a b) l ↔ Stands r l ∧ posN l a < posN l b := by
  have hn : (addR r (a : Int) (b : Int)).n = r.n := add_n r _ _
  have hoa : overR r (a : Int) = true := by unfold overR; simp; omega
  have hob : overR r (b : Int) = true := by unfold overR; simp; omega
  have hH : ∀ x y, H (addR r (a : Int) (b : Int)) x y = (H r x y || (decide (x = a) && decide (y = b))) := fun x y => by
    rw [add_H hr, hoa, hob]
    have e1 : decide ((x : Int) = (a : Int)) = decide (x = a) := by congr 1; apply propext; omega
    have e2 : decide ((y : Int) = (b : Int)) = decide (y = b) := by congr 1; apply propext; omega
    rw [e1, e2]
    rfl
  constructor
  · rintro ⟨h1, h2, h3, h4⟩
    rw [hn] at h1 h2 h4
    refine ⟨⟨h1, h2, h3, fun x y hx hy hxy => h4 x y hx hy (by rw [hH, hxy]; rfl)⟩, h4 a b ha hb (by rw [hH]; simp)⟩
  · rintro ⟨⟨h1, h2, h3, h4⟩, h5⟩
    refine ⟨by rw [hn]; exact h1, by rw [hn]; exact h2, h3, fun x y hx hy hxy => ?_⟩
    rw [hn] at hx hy
    rw [hH] at hxy
    simp only [Bool.or_eq_true, Bool.and_eq_true, decide_eq_true_eq] at hxy
    rcases hxy with hxy | ⟨rfl, rfl⟩
    · exact h4 x y hx hy hxy
    · exact h5
theorem pos_ne {r : RelT} (hr : Wf r) {l : List Nat} (h : Stands r l) {a b : Nat} (ha : a < r.n) (hb : b < r.n) (hab : a ≠ b) : posN l a ≠ posN l b := by
  have h1 := stands_mem hr h a ha
  have h2 := stands_mem hr h b hb
  unfold posN
  rw [if_pos h1, if_pos h2]
  intro e
  have e2 : l.idxOf a = l.idxOf b := by omega
  have h3 := List.getElem_idxOf (List.idxOf_lt_length_of_mem h1)
  have h4 := List.getElem_idxOf (List.idxOf_lt_length_of_mem h2)
  apply hab
  rw [← h3, ← h4]
  congr 1
theorem ords_add {r : RelT} (hr : Wf r) {a b : Nat} (ha : a < r.n) (hb : b < r.n) : (ordsR (addR r a b)).length = (ordsR r).countP (fun l => decide (posN l a < posN l b)) := by
  rw [List.countP_eq_length_filter]
  refine List.Perm.length_eq ((List.perm_ext_iff_of_nodup (ords_nodup _) ((ords_nodup r).sublist List.filter_sublist)).2 fun l => ?_)
  rw [mem_ords (add_wf hr _ _), stands_add hr ha hb, List.mem_filter, mem_ords hr]
  simp
theorem ords_both {r : RelT} (hr : Wf r) {a b : Nat} (ha : a < r.n) (hb : b < r.n) (hab : a ≠ b) : (ordsR (addR r a b)).length + (ordsR (addR r b a)).length = (ordsR r).length := by
  rw [ords_add hr ha hb, ords_add hr hb ha, List.length_eq_countP_add_countP (fun l => decide (posN l a < posN l b)) (l := ordsR r)]
  congr 1
  refine List.countP_congr fun l hl => ?_
  have := pos_ne hr ((mem_ords hr l).1 hl) ha hb hab
  simp only [decide_eq_true_eq]
  omega
theorem ords_fewer {r : RelT} (hr : Wf r) {a b : Nat} (ha : a < r.n) (hb : b < r.n) : (ordsR (addR r a b)).length ≤ (ordsR r).length := by
  rw [ords_add hr ha hb]
  exact List.countP_le_length
theorem fold_best (R : List Int) (m : Nat) : ∀ (L : List Nat) (b : Nat), m ∈ b :: L → (∀ y ∈ b :: L, y ≠ m → R.getD m 0 < R.getD y 0) → m < R.length → L.foldl (betterN R) b = m
  | [], b, h, _, _ => by
    simp only [List.mem_cons, List.not_mem_nil, or_false] at h
    exact h.symm
  | a :: L, b, h, hlt, hm => by
    rw [List.foldl_cons]
    have hb : betterN R b a = b ∨ betterN R b a = a := by unfold betterN; split <;> simp
    have hmem : m ∈ betterN R b a :: L := by
      rcases List.mem_cons.1 h with rfl | h
      · have : betterN R m a = m := by
          unfold betterN
          by_cases ham : a = m
          · subst ham; simp
          · have := hlt a (by simp) ham
            rw [if_neg]
            omega
        rw [this]; simp
      · rcases List.mem_cons.1 h with rfl | h
        · have : betterN R b m = m := by
            unfold betterN
            by_cases hbm : b = m
            · subst hbm; simp
            · have := hlt b (by simp) hbm
              rw [if_pos ⟨hm, this⟩]
          rw [this]; simp
        · simp [h]
    exact fold_best R m L _ hmem (fun y hy hne => hlt y (by
      rcases List.mem_cons.1 hy with rfl | hy
      · rcases hb with hb | hb <;> rw [hb] <;> simp
      · simp [hy]) hne) hm
theorem best_is (R : List Int) (s m : Nat) (hs : s < 18446744073709551616) (hm : m ∈ bits64 s) (hlt : ∀ y ∈ bits64 s, y ≠ m → R.getD m 0 < R.getD y 0) (hl : m < R.length) : bestN R s = m := by
  have h0 : s ≠ 0 := fun h => by rw [h, b64_zero] at hm; simp at hm
  obtain ⟨cs, hcs⟩ := bits_ne hs h0
  unfold bestN
  refine fold_best R m (bits64 s) _ (by simp [hm]) (fun y hy hne => hlt y ?_ hne) hl
  rcases List.mem_cons.1 hy with rfl | hy
  · rw [hcs]; simp
  · exact hy
/-- Ranked by a row that keeps the relation the greedy row is that row. -/
theorem grd_rank {r : RelT} (hr : Wf r) {x : List Nat} (hx : Stands r x) (R : List Int) (hl : R.length = r.n) (hR : ∀ a ∈ x, R.getD a 0 = (x.idxOf a : Nat)) : grdR r R = some x := by
  obtain ⟨hlen, hok⟩ := (stands_iff hr x).1 hx
  unfold grdR
  rw [need_len]
  have key : ∀ (l p : List Nat), x = p ++ l → greedyP r.n (DL2D (needL r)) (bestN R) l.length (mskN 0 p) = some l := by
    intro l
    induction l with
    | nil => intro p _; rfl
    | cons a l ih =>
      intro p hp
      have hpl : ∀ y ∈ p, y < 64 := fun y hy => by have := hx.lt y (by rw [hp]; simp [hy]); have := hr.n; omega
      have hok2 : okS r.n (DL2D (needL r)) 0 (p ++ a :: l) = true := by rw [← hp]; exact hok
      rw [okS_append, okS, Bool.and_eq_true, Bool.and_eq_true] at hok2
      have hmay := hok2.2.1
      have htl := msk_lt p 0 (by decide)
      have hmem := (mem_free hr.n htl).2 hmay
      have hax : a ∈ x := by rw [hp]; simp
      have hap : a ∉ p := ((may_mem hr hpl a).1 hmay).2.1
      have hia : x.idxOf a = p.length := by rw [hp, List.idxOf_append, if_neg hap, List.idxOf_cons_self]; omega
      have hbest : bestN R (freeN r.n (DL2D (needL r)) (mskN 0 p)) = a := by
        refine best_is R _ a (free_lt _ _ _) hmem (fun y hy hne => ?_) (by rw [hl]; exact hx.lt a hax)
        have hy2 := (mem_free hr.n htl).1 hy
        obtain ⟨hyn, hyp, _⟩ := (may_mem hr hpl y).1 hy2
        have hyx := stands_mem hr hx y hyn
        rw [hR a hax, hR y hyx, hia]
        have hiy : x.idxOf y ≠ p.length := fun e => by
          have h3 := List.getElem_idxOf (List.idxOf_lt_length_of_mem hyx)
          have h4 := List.getElem_idxOf (List.idxOf_lt_length_of_mem hax)
          apply hne
          rw [← h3, ← h4]
          congr 1
          omega
        have hge : p.length ≤ x.idxOf y := by
          rw [hp, List.idxOf_append, if_neg hyp]
          omega
        omega
      have h0 : freeN r.n (DL2D (needL r)) (mskN 0 p) ≠ 0 := fun h => by rw [h, b64_zero] at hmem; simp at hmem
      rw [List.length_cons, greedyP, if_neg h0, hbest, show withI (mskN 0 p) (a : Int) = mskN 0 (p ++ [a]) by rw [msk_append]; rfl, ih (p ++ [a]) (by rw [hp]; simp)]
      rfl
  have := key x [] rfl
  rw [hlen] at this
  exact this
end Go.Proofs.YtohngifmbnlmmaaDoor
