/- The letters by marks are the letters by bits, in plain Lean; a made test has at most three. -/
import Derived.Test.YtmgjcgolebfjjaaDoorRComp
import Derived.Test.YtmgjcgolebfjjaaDoorSmallP
namespace Go.Proofs.YtmgjcgolebfjjaaDoor
open Go.RowKit

def fairL (l : Int) : Prop := l = 0 ∨ (97 ≤ l ∧ l ≤ 122)
theorem fair_loc {l : Int} (h : locOk l = true) : fairL l := by
  unfold locOk at h
  simp only [Bool.and_eq_true, decide_eq_true_eq] at h
  exact Or.inr h
theorem fair_zero {l : Int} (h : (l == 0) = true) : fairL l := Or.inl (by simpa using h)
theorem fair_ins (x : InsT) (h : insOk x = true) : fairL x.l := by
  unfold insOk at h
  split at h
  · simp only [Bool.and_eq_true] at h; exact fair_loc h.1.2
  · split at h
    · simp only [Bool.and_eq_true] at h; exact fair_loc h.2
    · split at h
      · simp only [Bool.and_eq_true] at h; exact fair_zero h.1.1.1.1.1.1.2
      · split at h
        · simp only [Bool.and_eq_true] at h; exact fair_loc h.1.1.2
        · split at h
          · simp only [Bool.and_eq_true] at h; exact fair_zero h.1.1.1.1
          · split at h
            · simp only [Bool.and_eq_true] at h; exact fair_zero h.1.1.1.1.2
            · cases h
theorem fair_atom (x : AtomT) (h : atomOk x = true) : fairL x.l := by
  unfold atomOk at h
  split at h
  · simp only [Bool.and_eq_true] at h; exact fair_loc h.2
  · simp only [Bool.and_eq_true] at h; exact fair_zero h.1.1.1
theorem fair_all (t : TestT) (h : testOk t = true) : ∀ l ∈ allLs t, fairL l := by
  unfold testOk at h
  simp only [Bool.and_eq_true] at h
  obtain ⟨⟨⟨_, hi⟩, ht⟩, hc⟩ := h
  intro l hl
  unfold allLs at hl
  rw [List.append_nil, List.mem_append, List.mem_append] at hl
  rcases hl with hl | hl | hl
  · obtain ⟨x, hx, rfl⟩ := List.mem_map.1 hl
    exact fair_loc (List.all_eq_true.1 hi x hx)
  · obtain ⟨L, hL, hl⟩ := List.mem_flatMap.1 hl
    obtain ⟨x, hx, rfl⟩ := List.mem_map.1 hl
    exact fair_ins x (List.all_eq_true.1 (List.all_eq_true.1 ht L hL) x hx)
  · obtain ⟨L, hL, hl⟩ := List.mem_flatMap.1 hl
    obtain ⟨x, hx, rfl⟩ := List.mem_map.1 hl
    unfold condOk at hc
    split at hc
    · have : t.cond.any.length = 0 := by simpa using hc
      have : t.cond.any = [] := List.eq_nil_of_length_eq_zero this
      rw [this] at hL
      cases hL
    · split at hc
      · simp only [Bool.and_eq_true] at hc
        have := List.all_eq_true.1 hc.2 L hL
        unfold rowOk at this
        simp only [Bool.and_eq_true] at this
        exact fair_atom x (List.all_eq_true.1 this.2 x hx)
      · cases hc
theorem mark_bits : ∀ (L : List Int) (f : Nat → Bool) (n : Nat), (∀ l ∈ L, fairL l) → (∀ i, i < 26 → f (97 + i) = n.testBit i) → ∀ i, i < 26 → markI L f (97 + i) = (L.foldl withL n).testBit i
  | [], _, _, _, h, i, hi => h i hi
  | l :: L, f, n, hf, h, i, hi => by
    rw [markI, List.foldl_cons, List.foldl_cons]
    refine mark_bits L (upd f (idxL l)) (withL n l) (fun x hx => hf x (List.mem_cons_of_mem _ hx)) (fun j hj => ?_) i hi
    rcases hf l (List.mem_cons_self ..) with rfl | ⟨h0, h1⟩
    · have e1 : withL n 0 = n := by unfold withL; rw [if_neg (by omega)]
      have e2 : upd f (idxL 0) (97 + j) = f (97 + j) := by
        unfold upd
        rw [if_neg]
        have : idxL 0 = 0 := by decide
        omega
      rw [e1, e2]
      exact h j hj
    · have e1 : withL n l = n ||| 2 ^ (l - 97).toNat := by unfold withL; rw [if_pos ⟨h0, h1⟩]
      have e2 : idxL l = l.toNat := by unfold idxL; omega
      rw [e1, e2, Nat.testBit_or, Nat.testBit_two_pow]
      unfold upd
      by_cases hj2 : 97 + j = l.toNat
      · rw [if_pos hj2, decide_eq_true (show (l - 97).toNat = j by omega), Bool.or_true]
      · rw [if_neg hj2, decide_eq_false (show ¬ (l - 97).toNat = j by omega), Bool.or_false]
        exact h j hj
theorem fold_map {α : Type} (f : α → Int) : ∀ (L : List α) (n : Nat), L.foldl (fun n x => withL n (f x)) n = (L.map f).foldl withL n
  | [], _ => rfl
  | _ :: L, _ => fold_map f L _
theorem fold_thr : ∀ (LL : List (List InsT)) (n : Nat), locThr n LL = (LL.flatMap insLs).foldl withL n
  | [], _ => rfl
  | L :: LL, n => by
    rw [locThr, List.foldl_cons, List.flatMap_cons, List.foldl_append]
    exact (fold_thr LL _).trans (by rw [locRow, fold_map InsT.l]; rfl)
theorem fold_any : ∀ (LL : List (List AtomT)) (n : Nat), locAny n LL = (LL.flatMap atmLs).foldl withL n
  | [], _ => rfl
  | L :: LL, n => by
    rw [locAny, List.foldl_cons, List.flatMap_cons, List.foldl_append]
    exact (fold_any LL _).trans (by rw [locAts, fold_map AtomT.l]; rfl)
theorem locs_fold (t : TestT) : locsN t = (allLs t).foldl withL 0 := by
  unfold locsN allLs
  rw [List.append_nil, List.foldl_append, List.foldl_append, fold_any, fold_thr, locIni, fold_map InitT.l]
/-- The document's letters are the program's. -/
theorem out_letters (t : TestT) (h : testOk t = true) : outTo (markI (allLs t) (fun _ => false)) 123 = lettersN (locsN t) := by
  have hm := mark_bits (allLs t) (fun _ => false) 0 (fair_all t h) (fun i _ => (Nat.zero_testBit i).symm)
  rw [← locs_fold] at hm
  unfold outTo lettersN
  show ((List.range 26).filter _).map _ = _
  congr 1
  apply List.filter_congr
  intro i hi
  exact hm i (by simpa using hi)
theorem of_locs3 (zs : List Int) (most : Nat) : (locsR (smallP zs most)).length ≤ 3 := by
  unfold locsR
  rw [out_letters _ (small_ok zs most)]
  have := cnt_hi (small_locs zs most)
  unfold cntN at this
  unfold lettersN
  rw [List.length_map]
  exact this
theorem locsR_low (t : TestT) : ∀ b ∈ locsR t, 97 ≤ b.toNat := by
  intro b hb
  unfold locsR outTo at hb
  obtain ⟨i, hi, rfl⟩ := List.mem_map.1 hb
  have := List.mem_range.1 (List.mem_filter.1 hi).1
  rw [UInt8.toNat_ofNat']
  omega
theorem locsR_no (t : TestT) : (32 : UInt8) ∉ locsR t := fun h => absurd (locsR_low t _ h) (by decide)
end Go.Proofs.YtmgjcgolebfjjaaDoor
