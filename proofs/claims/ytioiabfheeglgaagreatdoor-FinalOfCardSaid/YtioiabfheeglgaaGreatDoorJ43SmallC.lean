/- The letters by marks are the letters by bits, in plain Lean; a made test has at most three. -/
import Derived.Test.YtioiabfheeglgaaGreatDoorJ37RComp
import Derived.Test.YtioiabfheeglgaaGreatDoorJ16SmallP
import Derived.Test.YtioiabfheeglgaaGreatDoorJ18RowPut
import Derived.Deep.DeepCutAuto
import Derived.Laws.ResultCell
namespace Go.Proofs.YtioiabfheeglgaaGreatDoor
open Go.RowKit

def fairL (l : Int) : Prop := l = 0 ∨ (97 ≤ l ∧ l ≤ 122)
theorem fair_loc {l : Int} (h : locOk l = true) : fairL l := by
 unfold locOk at h
 simp only [Bool.and_eq_true, decide_eq_true_eq] at h
 exact Or.inr h
theorem fair_zero {l : Int} (h : (l == 0) = true) : fairL l := Or.inl (by simpa using h)
theorem fair_ins (x : InsT) (h : insOk x = true) : fairL x.l := by
 unfold insOk at h
 split at h
 ·
  simp only [Bool.and_eq_true] at h; exact fair_loc h.1.2
 ·
  split at h
  ·
   simp only [Bool.and_eq_true] at h; exact fair_loc h.2
  ·
   split at h
   ·
    simp only [Bool.and_eq_true] at h; exact fair_zero h.1.1.1.1.1.1.2
   ·
    split at h
    ·
     simp only [Bool.and_eq_true] at h; exact fair_loc h.1.1.2
    ·
     split at h
     ·
      simp only [Bool.and_eq_true] at h; exact fair_zero h.1.1.1.1
     ·
      split at h
      ·
       simp only [Bool.and_eq_true] at h; exact fair_zero h.1.1.1.1.2
      ·
       cases h
theorem fair_atom (x : AtomT) (h : atomOk x = true) : fairL x.l := by
 unfold atomOk at h
 split at h
 ·
  simp only [Bool.and_eq_true] at h; exact fair_loc h.2
 ·
  simp only [Bool.and_eq_true] at h; exact fair_zero h.1.1.1
theorem fair_all (t : TestT) (h : testOk t = true) : ∀ l ∈ allLs t, fairL l := by
 unfold testOk at h
 simp only [Bool.and_eq_true] at h
 obtain ⟨⟨⟨_, hi⟩, ht⟩, hc⟩ := h
 intro l hl
 unfold allLs at hl
 rw [List.append_nil, List.mem_append, List.mem_append] at hl
 rcases hl with hl | hl | hl
 ·
  obtain ⟨x, hx, rfl⟩ := List.mem_map.1 hl
  exact fair_loc (List.all_eq_true.1 hi x hx)
 ·
  obtain ⟨L, hL, hl⟩ := List.mem_flatMap.1 hl
  obtain ⟨x, hx, rfl⟩ := List.mem_map.1 hl
  exact fair_ins x (List.all_eq_true.1 (List.all_eq_true.1 ht L hL) x hx)
 ·
  obtain ⟨L, hL, hl⟩ := List.mem_flatMap.1 hl
  obtain ⟨x, hx, rfl⟩ := List.mem_map.1 hl
  unfold condOk at hc
  split at hc
  ·
   have : t.cond.any.length = 0 := by simpa using hc
   have : t.cond.any = [] := List.eq_nil_of_length_eq_zero this
   rw [this] at hL
   cases hL
  ·
   split at hc
   ·
    simp only [Bool.and_eq_true] at hc
    have := List.all_eq_true.1 hc.2 L hL
    unfold rowOk at this
    simp only [Bool.and_eq_true] at this
    exact fair_atom x (List.all_eq_true.1 this.2 x hx)
   ·
    cases hc
theorem mark_bits : ∀ (L : List Int) (f : Nat → Bool) (n : Nat), (∀ l ∈ L, fairL l) → (∀ i, i < 26 → f (97 + i) = n.testBit i) → ∀ i, i < 26 → markI L f (97 + i) = (L.foldl withL n).testBit i
 | [], _, _, _, h, i, hi => h i hi
 | l :: L, f, n, hf, h, i, hi => by
  rw [markI, List.foldl_cons, List.foldl_cons]
  refine mark_bits L (upd f (idxL l)) (withL n l) (fun x hx => hf x (List.mem_cons_of_mem _ hx)) (fun j hj => ?_) i hi
  rcases hf l (List.mem_cons_self ..) with rfl | ⟨h0, h1⟩
  ·
   have e1 : withL n 0 = n := by unfold withL; rw [if_neg (by omega)]
   have e2 : upd f (idxL 0) (97 + j) = f (97 + j) := by
    unfold upd
    rw [if_neg]
    have : idxL 0 = 0 := by decide
    omega
   rw [e1, e2]
   exact h j hj
  ·
   have e1 : withL n l = n ||| 2 ^ (l - 97).toNat := by unfold withL; rw [if_pos ⟨h0, h1⟩]
   have e2 : idxL l = l.toNat := by unfold idxL; omega
   rw [e1, e2, Nat.testBit_or, Nat.testBit_two_pow]
   unfold upd
   by_cases hj2 : 97 + j = l.toNat
   ·
    rw [if_pos hj2, decide_eq_true (show (l - 97).toNat = j by omega), Bool.or_true]
   ·
    rw [if_neg hj2, decide_eq_false (show ¬ (l - 97).toNat = j by omega), Bool.or_false]
    exact h j hj
theorem fold_map {α : Type} (f : α → Int) : ∀ (L : List α) (n : Nat), L.foldl (fun n x => withL n (f x)) n = (L.map f).foldl withL n
 | [], _ => rfl
 | _ :: L, _ => fold_map f L _
theorem fold_thr : ∀ (LL : List (List InsT)) (n : Nat), locThr n LL = (LL.flatMap insLs).foldl withL n
 | [], _ => rfl
 | L :: LL, n => by
  rw [locThr, List.foldl_cons, List.flatMap_cons, List.foldl_append]
  exact (fold_thr LL _).trans (by rw [locRow, fold_map InsT.l]; rfl)
theorem fold_any : ∀ (LL : List (List AtomT)) (n : Nat), locAny n LL = (LL.flatMap atmLs).foldl withL n
 | [], _ => rfl
 | L :: LL, n => by
  rw [locAny, List.foldl_cons, List.flatMap_cons, List.foldl_append]
  exact (fold_any LL _).trans (by rw [locAts, fold_map AtomT.l]; rfl)
theorem locs_fold (t : TestT) : locsN t = (allLs t).foldl withL 0 := by
 unfold locsN allLs
 rw [List.append_nil, List.foldl_append, List.foldl_append, fold_any, fold_thr, locIni, fold_map InitT.l]
/-- The document's letters are the program's. -/
theorem out_letters (t : TestT) (h : testOk t = true) : outTo (markI (allLs t) (fun _ => false)) 123 = lettersN (locsN t) := by
 have hm := mark_bits (allLs t) (fun _ => false) 0 (fair_all t h) (fun i _ => (Nat.zero_testBit i).symm)
 rw [← locs_fold] at hm
 unfold outTo lettersN
 show ((List.range 26).filter _).map _ = _
 congr 1
 apply List.filter_congr
 intro i hi
 exact hm i (by simpa using hi)
theorem of_locs3 (zs : List Int) (most : Nat) : (locsR (smallP zs most)).length ≤ 3 := by
 unfold locsR
 rw [out_letters _ (small_ok zs most)]
 have := cnt_hi (small_locs zs most)
 unfold cntN at this
 unfold lettersN
 rw [List.length_map]
 exact this
theorem locsR_low (t : TestT) : ∀ b ∈ locsR t, 97 ≤ b.toNat := by
 intro b hb
 unfold locsR outTo at hb
 obtain ⟨i, hi, rfl⟩ := List.mem_map.1 hb
 have := List.mem_range.1 (List.mem_filter.1 hi).1
 rw [UInt8.toNat_ofNat']
 omega
theorem locsR_no (t : TestT) : (32 : UInt8) ∉ locsR t := fun h => absurd (locsR_low t _ h) (by decide)
end Go.Proofs.YtioiabfheeglgaaGreatDoor

namespace Go.Proofs.YtioiabfheeglgaaGreatDoor
open Go.RowKit

theorem arm_0 {locs x m1 m5 : Nat} {ro vo : Int} (hm1 : Hid (m1 = x / 16 % locs)) (hm5 : Hid (m5 = x / 2048 % 2)) (h6 : Hid (x % 12 = 0)) (hro : Hid (opdOf x = ⟨ro, vo⟩)) : insOf locs x = [(⟨1, 0, (120 + (m1 : Int)), ⟨(ro), (vo)⟩, 0, ⟨0, 0⟩, 0⟩ : InsT)] := by
 have e1 := hm1.out
 have e5 := hm5.out
 have e6 := h6.out
 have eo := hro.out
 unfold insOf locOf regOf
 rw [← e1, ← e5, eo, e6]
 simp
theorem arm_1 {locs x m1 m5 : Nat} {ro vo : Int} (hm1 : Hid (m1 = x / 16 % locs)) (hm5 : Hid (m5 = x / 2048 % 2)) (h6 : Hid (x % 12 = 1)) (hro : Hid (opdOf x = ⟨ro, vo⟩)) : insOf locs x = [(⟨1, 0, (120 + (m1 : Int)), ⟨(ro), (vo)⟩, 0, ⟨0, 0⟩, 0⟩ : InsT)] := by
 have e1 := hm1.out
 have e5 := hm5.out
 have e6 := h6.out
 have eo := hro.out
 unfold insOf locOf regOf
 rw [← e1, ← e5, eo, e6]
 simp
theorem arm_2 {locs x m1 m5 : Nat} {ro vo : Int} (hm1 : Hid (m1 = x / 16 % locs)) (hm5 : Hid (m5 = x / 2048 % 2)) (h6 : Hid (x % 12 = 2)) (hro : Hid (opdOf x = ⟨ro, vo⟩)) : insOf locs x = [(⟨1, 0, (120 + (m1 : Int)), ⟨(ro), (vo)⟩, 0, ⟨0, 0⟩, 0⟩ : InsT)] := by
 have e1 := hm1.out
 have e5 := hm5.out
 have e6 := h6.out
 have eo := hro.out
 unfold insOf locOf regOf
 rw [← e1, ← e5, eo, e6]
 simp
theorem arm_3 {locs x m1 m5 : Nat} {ro vo : Int} (hm1 : Hid (m1 = x / 16 % locs)) (hm5 : Hid (m5 = x / 2048 % 2)) (h6 : Hid (x % 12 = 3)) (hro : Hid (opdOf x = ⟨ro, vo⟩)) : insOf locs x = [(⟨1, 0, (120 + (m1 : Int)), ⟨(ro), (vo)⟩, 0, ⟨0, 0⟩, 0⟩ : InsT)] := by
 have e1 := hm1.out
 have e5 := hm5.out
 have e6 := h6.out
 have eo := hro.out
 unfold insOf locOf regOf
 rw [← e1, ← e5, eo, e6]
 simp
theorem arm_4 {locs x m1 m5 : Nat} {ro vo : Int} (hm1 : Hid (m1 = x / 16 % locs)) (hm5 : Hid (m5 = x / 2048 % 2)) (h6 : Hid (x % 12 = 4)) (hro : Hid (opdOf x = ⟨ro, vo⟩)) : insOf locs x = [(⟨2, (m5 : Int), (120 + (m1 : Int)), ⟨0, 0⟩, 0, ⟨0, 0⟩, 0⟩ : InsT)] := by
 have e1 := hm1.out
 have e5 := hm5.out
 have e6 := h6.out
 have eo := hro.out
 unfold insOf locOf regOf
 rw [← e1, ← e5, eo, e6]
 simp
theorem arm_5 {locs x m1 m5 : Nat} {ro vo : Int} (hm1 : Hid (m1 = x / 16 % locs)) (hm5 : Hid (m5 = x / 2048 % 2)) (h6 : Hid (x % 12 = 5)) (hro : Hid (opdOf x = ⟨ro, vo⟩)) : insOf locs x = [(⟨2, (m5 : Int), (120 + (m1 : Int)), ⟨0, 0⟩, 0, ⟨0, 0⟩, 0⟩ : InsT)] := by
 have e1 := hm1.out
 have e5 := hm5.out
 have e6 := h6.out
 have eo := hro.out
 unfold insOf locOf regOf
 rw [← e1, ← e5, eo, e6]
 simp
theorem arm_6 {locs x m1 m5 : Nat} {ro vo : Int} (hm1 : Hid (m1 = x / 16 % locs)) (hm5 : Hid (m5 = x / 2048 % 2)) (h6 : Hid (x % 12 = 6)) (hro : Hid (opdOf x = ⟨ro, vo⟩)) : insOf locs x = [(⟨2, (m5 : Int), (120 + (m1 : Int)), ⟨0, 0⟩, 0, ⟨0, 0⟩, 0⟩ : InsT)] := by
 have e1 := hm1.out
 have e5 := hm5.out
 have e6 := h6.out
 have eo := hro.out
 unfold insOf locOf regOf
 rw [← e1, ← e5, eo, e6]
 simp
theorem arm_7 {locs x m1 m5 : Nat} {ro vo : Int} (hm1 : Hid (m1 = x / 16 % locs)) (hm5 : Hid (m5 = x / 2048 % 2)) (h6 : Hid (x % 12 = 7)) (hro : Hid (opdOf x = ⟨ro, vo⟩)) : insOf locs x = [(⟨2, (m5 : Int), (120 + (m1 : Int)), ⟨0, 0⟩, 0, ⟨0, 0⟩, 0⟩ : InsT)] := by
 have e1 := hm1.out
 have e5 := hm5.out
 have e6 := h6.out
 have eo := hro.out
 unfold insOf locOf regOf
 rw [← e1, ← e5, eo, e6]
 simp
theorem arm_8 {locs x m1 m5 : Nat} {ro vo : Int} (hm1 : Hid (m1 = x / 16 % locs)) (hm5 : Hid (m5 = x / 2048 % 2)) (h6 : Hid (x % 12 = 8)) (hro : Hid (opdOf x = ⟨ro, vo⟩)) : insOf locs x = [(⟨3, 0, 0, ⟨0, 0⟩, 0, ⟨0, 0⟩, 0⟩ : InsT)] := by
 have e1 := hm1.out
 have e5 := hm5.out
 have e6 := h6.out
 have eo := hro.out
 unfold insOf locOf regOf
 rw [← e1, ← e5, eo, e6]
 simp
theorem arm_9 {locs x m1 m5 : Nat} {ro vo : Int} (hm1 : Hid (m1 = x / 16 % locs)) (hm5 : Hid (m5 = x / 2048 % 2)) (h6 : Hid (x % 12 = 9)) (hro : Hid (opdOf x = ⟨ro, vo⟩)) : insOf locs x = [(⟨4, (m5 : Int), (120 + (m1 : Int)), ⟨(ro), (vo)⟩, 0, ⟨-1, 1⟩, 0⟩ : InsT)] := by
 have e1 := hm1.out
 have e5 := hm5.out
 have e6 := h6.out
 have eo := hro.out
 unfold insOf locOf regOf
 rw [← e1, ← e5, eo, e6]
 simp
theorem arm_10 {locs x m1 m5 : Nat} {ro vo : Int} (hm1 : Hid (m1 = x / 16 % locs)) (hm5 : Hid (m5 = x / 2048 % 2)) (h6 : Hid (x % 12 = 10)) (hro : Hid (opdOf x = ⟨ro, vo⟩)) : insOf locs x = [(⟨5, (m5 : Int), 0, ⟨(ro), (vo)⟩, 6, ⟨-1, 1⟩, 0⟩ : InsT)] := by
 have e1 := hm1.out
 have e5 := hm5.out
 have e6 := h6.out
 have eo := hro.out
 unfold insOf locOf regOf
 rw [← e1, ← e5, eo, e6]
 simp
theorem arm_11 {locs x m1 m5 : Nat} {ro vo : Int} (hm1 : Hid (m1 = x / 16 % locs)) (hm5 : Hid (m5 = x / 2048 % 2)) (h6 : Hid (x % 12 = 11)) (hro : Hid (opdOf x = ⟨ro, vo⟩)) : insOf locs x = [(⟨6, 0, 0, ⟨(ro), (vo)⟩, 0, ⟨-1, 0⟩, 1⟩ : InsT), (⟨1, 0, (120 + (m1 : Int)), ⟨-1, 2⟩, 0, ⟨0, 0⟩, 0⟩ : InsT)] := by
 have e1 := hm1.out
 have e5 := hm5.out
 have e6 := h6.out
 have eo := hro.out
 unfold insOf locOf regOf
 rw [← e1, ← e5, eo, e6]
 simp
set_option maxHeartbeats 16000000 in
set_option maxRecDepth 8000 in
theorem small_is (zs : List Int) (a : Option Addr) (cap most : Nat) (w : World) (hz : zs.length ≤ 9223372036854775807) (hr : Rd intC 1 w (.slice a zs.length cap) zs) :
  Calls Tryz.prog 12 #[.slice a zs.length cap, .int .i64 (most : Int)] w fun e w' => ∃ v, e = .returned v ∧ TOwn w' w.heap.size v (smallP zs most) ∧ On w w' := by
 obtain ⟨i0, hi, hz0, hz1, hz2⟩ := info_parts infoInit
 have HS := sx_start w zs a cap 22 50 50 3
 have b0 := nxtV_lt zs 0
 have b1 := nxtV_lt zs 1
 have b2 := nxtV_lt zs 2
 have b3 := nxtV_lt zs 3
 obtain ⟨n, hn, qn⟩ : ∃ n : Nat, Hid (n = nxtV zs 0 % 2 + 2) ∧ (nxtV zs 0 : Int) % 2 + 2 = (n : Int) := ⟨_, rfl, by omega⟩
 obtain ⟨locs, hl, ql⟩ : ∃ n : Nat, Hid (n = nxtV zs 1 % 2 + 2) ∧ (nxtV zs 1 : Int) % 2 + 2 = (n : Int) := ⟨_, rfl, by omega⟩
 go_enter Tryz.func12, Tryz.ntmps12
 go_wp2_with fail
 refine (HS.next (by decide) hz hr).mono ?_
 rintro e w1 ⟨rfl, h1, k1⟩
 go_wp2_with fail
 refine (h1.next (by decide) hz hr).mono ?_
 rintro e w2 ⟨rfl, h2, k2⟩
 go_wp2_with fail
 refine (h2.next (by decide) hz hr).mono ?_
 rintro e w3 ⟨rfl, h3, k3⟩
 clear HS h1 h2 k1 k2 k3
 obtain ⟨bq, hbq, qb⟩ : ∃ bq : Bool, Hid (bq = decide (nxtV zs 2 % 4 = 0)) ∧ ((nxtV zs 2 : Int) % 4 == 0) = bq := ⟨_, rfl, by rw [Bool.eq_iff_iff]; simp; omega⟩
 go_upto_if 32 with fail
 go_cut [8, 9] (fun u8 u9 wc => ∃ c1, u8 = .int .i64 (n : Int) ∧ u9 = .int .i64 (locs : Int) ∧ Sx w zs a cap c1 (.slice none 0 0) (iniTo zs) wc ∧ iniO wc (w.heap.size + 1 + 1 + 1 + 1) c1 (iniOf zs))
 case first =>
  cases bq with
  | true =>
   have hq : nxtV zs 2 % 4 = 0 := of_decide_eq_true hbq.out.symm
   have qv : (nxtV zs 3 : Int) % 3 = ((nxtV zs 3 % 3 : Nat) : Int) := by omega
   obtain ⟨V, hV⟩ : ∃ V : Nat, V = nxtV zs 3 % 3 := ⟨_, rfl⟩
   rw [← hV] at qv
   have qt : ((nxtV zs 3 : Nat) : Int).tmod 3 = (V : Int) := by rw [Int.tmod_eq_emod_of_nonneg (Int.natCast_nonneg _)]; exact qv
   have HV : Hid (V = nxtV zs 3 % 3) := hV
   clear hV
   have y3 := h3.bt.at (i := 1) rfl
   have z3 := h3.bt.lt
   have hN : Hid (w.heap.size + 1 + 1 + 1 < w.heap.size + 1 + 1 + 1 + 1) := Nat.lt_succ_self _
   have hC : Hid ((2 : Int) + 1 ≤ 999) := by show _ ≤ _; decide
   have HB : ∀ W : World, Sx w zs a cap (.slice none 0 0) (.slice none 0 0) (0 + 1 + 1 + 1 + 1) W → w.heap.size + 1 + 1 + 1 + 1 ≤ W.heap.size := fun W h => h.size
   go_wp2
   go_region_law (first | (refine step_append_own rfl (.tmp 34) (.tmp 39) 45 rfl (w.heap.size + 1 + 1 + 1 + 1) 82 i0 (.agg #[.int .i64 0, .int .i64 0]) 2 16 Tryz.underlying45 hi hz0 hz1 hz2 rfl (by decide) (.slice none 0 0) 0 [] (by simp [Act.eval]) (World.ownsRow_nil _ _ _ _) ⟨w4.heap.size, 0, none⟩ 1 1 (iniC ⟨120, V⟩) (by simp [Act.eval]) rfl (news_at w4 #[.int .i64 120, .int .i64 V] 82) (one_ini 120 V) one_max one_bytes (base_alloc (HB w4 h4) _) ?_; intro v' w5 hown5 hg5; obtain ⟨a5, c5, rfl⟩ := own_slice hown5; have h5 := Sx.grown (Sx.alloc h4 (.cells #[.int .i64 120, .int .i64 V] 82)) hg5 hN.out none_own; have q5 := Bk.at (i := 1) h5.bt rfl; have f5 := Bk.fr h5.bt 1; have l5 := Bk.lt h5.bt) | (go_simp; refine ((Sx.drew h3).next (by decide) hz hr).mono ?_; rintro e w4 ⟨rfl, h4, k4⟩; have q4 := Bk.at (i := 1) h4.bt rfl; have l4 := Bk.lt h4.bt))
   all_goals (try go_wp2)
   all_goals go_meet
   all_goals
    refine ⟨.slice a5 1 c5, rfl, rfl, ?_, ?_⟩
    ·
     unfold iniTo; rw [if_pos hq]; exact h5.put1 _
    ·
     unfold iniOf; rw [if_pos hq, ← HV.out]; exact own_set (by simpa using hown5) (by omega) _ _
  | false =>
   have hq : ¬ nxtV zs 2 % 4 = 0 := of_decide_eq_false hbq.out.symm
   go_wp2
   go_meet
   case rel =>
    refine ⟨.slice none 0 0, rfl, rfl, ?_, ?_⟩
    ·
     unfold iniTo; rw [if_neg hq]; exact h3
    ·
     unfold iniOf; rw [if_neg hq]; exact World.ownsRow_nil _ _ _ _
 case rest =>
  clear h3 qb hbq b0 b1 b2 b3 hi hz0 hz1 hz2 qn ql
  obtain ⟨c1, rfl, rfl, hS, hI⟩ := hcut
  obtain ⟨i1, j1, y0, y1, y2⟩ := info_parts infoIns
  have hn3 : 2 ≤ n ∧ n ≤ 3 := by have := hn.out; omega
  have hl3 : 2 ≤ locs ∧ locs ≤ 3 := by have := hl.out; omega
  have hS4 : iniTo zs ≤ 4 := by unfold iniTo; split <;> omega
  have HT : Hid (([] ++ (thrFrom zs most locs (n - 0) (iniTo zs) 0).1, (thrFrom zs most locs (n - 0) (iniTo zs) 0).2) = thrOf zs most) := by
   show _ = _
   unfold thrOf
   rw [← hn.out, ← hl.out]; simp
  go_wp2
  go_loopg [10, 11] n (fun gg u10 u11 wr => ∃ (i mem at' : Nat) (c2 : Value) (TL : List (List InsT)), i ≤ n ∧ gg = n - i ∧ u11 = .int .i64 (i : Int) ∧ u10 = .int .i64 (mem : Int) ∧ mem ≤ 3 * i ∧ at' ≤ 4 + 4 * i ∧ TL.length = i ∧ Sx w zs a cap c1 c2 at' wr ∧ iniO wr (w.heap.size + 1 + 1 + 1 + 1) c1 (iniOf zs) ∧ thrO wr (w.heap.size + 1 + 1 + 1 + 1) c2 TL ∧ Hid ((TL ++ (thrFrom zs most locs (n - i) at' mem).1, (thrFrom zs most locs (n - i) at' mem).2) = thrOf zs most))
  case atStart => exact ⟨0, 0, iniTo zs, .slice none 0 0, [], Nat.zero_le _, rfl, rfl, rfl, Nat.le_refl _, by omega, rfl, hS, hI, Own2.nil _ _ _ _ _ _, HT⟩
  case round =>
   clear HT hS hI
   obtain ⟨i, mem, at', c2, TL, hin, hg, rfl, rfl, hmem, hat, hTL, hS, hI, hT, HT⟩ := hrel
   have HTL : Hid (TL.length = i) := hTL
   clear hTL
   rcases Nat.lt_or_ge i n with hlt | hge
   ·
    go_wp2_with fail
    refine (hS.next (by omega) hz hr).mono ?_
    rintro e W1 ⟨rfl, h1, k1⟩
    have hI1 := own_wa hI k1 (Nat.lt_succ_self _)
    have hT1 := hT.wa k1 (Nat.lt_succ_self _)
    have b1 := nxtV_lt zs at'
    obtain ⟨k0, HK, qk⟩ : ∃ k : Nat, Hid (k = nxtV zs at' % 3 + 1) ∧ (nxtV zs at' : Int) % 3 + 1 = (k : Int) := ⟨_, rfl, by omega⟩
    have hk03 : k0 ≤ 3 := by have := HK.out; omega
    have hW1 := h1.size
    have HR0 : Hid (([] ++ (rowFrom zs most locs k0 (at' + 1) mem).1, (rowFrom zs most locs k0 (at' + 1) mem).2) = rowFrom zs most locs k0 (at' + 1) mem) := by show _ = _; simp
    clear hS hI hT k1
    go_wp2
    go_loopg [10, 12, 13] k0 (fun gg u10 u12 u13 wq => ∃ (k mem' at'' : Nat) (L : List InsT), gg = k ∧ u13 = .int .i64 (k : Int) ∧ u10 = .int .i64 (mem' : Int) ∧ k ≤ k0 ∧ mem' + k ≤ mem + k0 ∧ at'' + k = at' + 1 + k0 ∧ Sx w zs a cap c1 c2 at'' wq ∧ Wa (w.heap.size + 1 + 1 + 1) W1 wq ∧ wq.ownsRow W1.heap.size 67 9 u12 L.length (L.flatMap insC) ∧ L.length + 2 * k ≤ 6 ∧ Hid ((L ++ (rowFrom zs most locs k at'' mem').1, (rowFrom zs most locs k at'' mem').2) = rowFrom zs most locs k0 (at' + 1) mem))
    case atStart => exact ⟨k0, mem, at' + 1, [], rfl, rfl, rfl, Nat.le_refl _, Nat.le_refl _, rfl, h1, Wa.refl _ _, World.ownsRow_nil _ _ _ _, by simp; omega, HR0⟩
    case round =>
     clear HR0 h1 qk b1
     obtain ⟨k', mem', at'', L, hgk, rfl, rfl, hkk, hmm, haa, hS, HW, hown, hL6, HR⟩ := hrel
     have hlt' : ∀ g, u12.ownBlock = some g → W1.heap.size ≤ g := fun g hg => (hown.lt g hg).1
     by_cases hend : k' = 0 ∨ ¬ mem' < most
     ·
      have HE : Hid (rowFrom zs most locs k' at'' mem' = ([], at'', mem')) := by
       show _ = _
       rcases hend with rfl | h
       ·
        rfl
       ·
        cases k' with
        | zero => rfl
        | succ k => rw [rowFrom, if_neg h]
      have HR1 : Hid (rowFrom zs most locs k0 (at' + 1) mem = (L, at'', mem')) := by
       show _ = _
       rw [← HR.out, HE.out]; simp
      have HT2 : Hid ((TL ++ [L] ++ (thrFrom zs most locs (n - (i + 1)) at'' mem').1, (thrFrom zs most locs (n - (i + 1)) at'' mem').2) = thrOf zs most) := by
       show _ = _
       rw [← HT.out, show n - i = (n - (i + 1)) + 1 by omega, thrFrom, ← HK.out, HR1.out]
       simp
      have hI4 := own_wa hI1 HW (Nat.lt_succ_self _)
      obtain ⟨vs, hvl, hov, hin⟩ := hT1.wa HW (Nat.lt_succ_self _)
      obtain ⟨a2, cc2, rfl⟩ := own_slice hov
      obtain ⟨a12, c12, rfl⟩ := own_slice hown
      have g2 := hS.bt.at (i := 2) rfl
      have l2 := hS.bt.lt
      have hsz4 := hS.size
      have hbase : ∀ g, (Value.slice a2 TL.length cc2).ownBlock = some g → w.heap.size + 1 + 1 + 1 + 1 ≤ g := fun g hg => (hov.lt g hg).1
      have HOW : Hid (wr.ownsRow (w.heap.size + 1 + 1 + 1 + 1) 67 9 (.slice a12 L.length c12) L.length (L.flatMap insC)) := own_mono hown hW1
      have HB0 : Hid (w.heap.size + 1 + 1 + 1 < w.heap.size + 1 + 1 + 1 + 1) := Nat.lt_succ_self _
      obtain ⟨i2, j2, u0, u1, u2⟩ := info_parts infoThr
      have s1 : Hid (TL.length + 1 ≤ maxLen) := by show _ ≤ _; have := HTL.out; unfold maxLen; omega
      have s2 : Hid ((TL.length + 1) * 24 ≤ 140737488355328) := by show _ ≤ _; have := HTL.out; omega
      have s3 : Hid (w.heap.size + 1 + 1 + 1 + 1 ≤ wr.heap.size) := hsz4
      clear HT HR HE HR1 HW hown hI1 hT1 hlt'
      rcases (show k' = 0 ∨ ((0 : Int) < (k' : Int) ∧ ¬ (mem' : Int) < (most : Int)) by omega) with rfl | ⟨hkp, hmp⟩
      all_goals
       clear hend
       go_wp2_with (at_builtin; refine wpList_append_own _ rfl _ _ 25 rfl (w.heap.size + 1 + 1 + 1 + 1) 68 i2 (.slice none 0 0) 1 24 Tryz.underlying25 j2 u0 u1 u2 rfl (by decide) _ _ _ rfl (hov.alloc _) ⟨wr.heap.size, 0, none⟩ 1 1 [.slice a12 L.length c12] rfl rfl (news_at wr #[.slice a12 L.length c12] 68) (one_slice _ _ _) s1.out s2.out (base_alloc s3.out _) ?_)
       intro v' w5 hown5 hg5 _
       obtain ⟨a5, c5, rfl⟩ := own_slice hown5
       have h5 := (hS.alloc (.cells #[.slice a12 L.length c12] 68)).grown hg5 HB0.out hbase
       have q5 := h5.bt.at (i := 2) rfl
       have f5 := h5.bt.fr 2
       have l5 := h5.bt.lt
       go_wp2
       go_roundg (n - (i + 1))
       case measure => omega
       case rel =>
        refine ⟨i + 1, mem', at'', _, TL ++ [L], by omega, rfl, by go_num, rfl, by omega, by omega, by rw [List.length_append, HTL.out]; rfl, h5.put2 _, ?_, ?_, HT2⟩
        ·
         exact own_set (own_far (hI4.alloc _) (hov.alloc _) (by decide) hg5) (by omega) _ _
        ·
         exact Own2.set (Own2.snoc hvl (hov.alloc _) (fun i u M a b => (hin i u M a b).alloc _) (by decide) hg5 (by simpa using hown5) (HOW.out.alloc _)) (by omega) _ _
     ·
      obtain ⟨k, rfl⟩ : ∃ k, k' = k + 1 := ⟨k' - 1, by omega⟩
      have hm : mem' < most := by omega
      have hmi : (mem' : Int) < (most : Int) := by omega
      clear hend
      go_wp2_with fail
      refine (hS.next (by omega) hz hr).mono ?_
      rintro e w4 ⟨rfl, h4, k4⟩
      have hown4 := own_wa hown k4 hW1
      have HW4 : Hid (Wa (w.heap.size + 1 + 1 + 1) W1 w4) := HW.trans k4
      have hw4 : W1.heap.size ≤ w4.heap.size := HW4.out.size
      have HB0 : Hid (w.heap.size + 1 + 1 + 1 < W1.heap.size) := hW1
      have bx := nxtV_lt zs at''
      have HR1 : Hid (rowFrom zs most locs (k + 1) at'' mem' = (insOf locs (nxtV zs at'') ++ (rowFrom zs most locs k (at'' + 1) (mem' + memOf (nxtV zs at''))).1, (rowFrom zs most locs k (at'' + 1) (mem' + memOf (nxtV zs at''))).2)) := by show _ = _; rw [rowFrom, if_pos hm]
      generalize nxtV zs at'' = x at *
      have HR2 : Hid ((L ++ insOf locs x ++ (rowFrom zs most locs k (at'' + 1) (mem' + memOf x)).1, (rowFrom zs most locs k (at'' + 1) (mem' + memOf x)).2) = rowFrom zs most locs k0 (at' + 1) mem) := by
       show _ = _
       rw [← HR.out, HR1.out, List.append_assoc]
      obtain ⟨m1, hm1, q1⟩ : ∃ m : Nat, Hid (m = x / 16 % locs) ∧ (x : Int) / 16 % (locs : Int) = (m : Int) := ⟨_, rfl, by push_cast; rfl⟩
      obtain ⟨m2, hm2, q2⟩ : ∃ m : Nat, Hid (m = x / 64 % 3) ∧ (x : Int) / 64 % 3 = (m : Int) := ⟨_, rfl, by omega⟩
      obtain ⟨m4, hm4, q4⟩ : ∃ m : Nat, Hid (m = x / 1024 % 2) ∧ bits .and .i64 ((x : Int) / 1024) 1 = (m : Int) := ⟨_, rfl, by rw [i64_and1]; omega⟩
      obtain ⟨m5, hm5, q5⟩ : ∃ m : Nat, Hid (m = x / 2048 % 2) ∧ bits .and .i64 ((x : Int) / 2048) 1 = (m : Int) := ⟨_, rfl, by rw [i64_and1]; omega⟩
      have bm1 : m1 < 3 := by have := hm1.out; have : x / 16 % locs < locs := Nat.mod_lt _ (by omega); omega
      have bm2 : m2 < 3 := by have := hm2.out; omega
      obtain ⟨b3, q3n', q3⟩ : ∃ b : Bool, Hid (decide (x / 256 % 3 = 0) = b) ∧ ((x : Int) / 256 % 3 == 0) = b := ⟨_, rfl, by rw [Bool.eq_iff_iff]; simp; omega⟩
      obtain ⟨c, q6n', q6⟩ : ∃ c : Nat, Hid (x % 12 = c) ∧ (x : Int) % 12 = (c : Int) := ⟨_, rfl, by omega⟩
      have hc12 : c < 12 := by have := q6n'.out; omega
      clear HR HR1 hown hS HW k4
      obtain ⟨ro, vo, hro⟩ : ∃ ro vo : Int, Hid (opdOf x = ⟨ro, vo⟩) := ⟨(opdOf x).r, (opdOf x).v, rfl⟩
      go_upto_if 74 with fail
      go_cut [16] (fun u16 wc => u16 = .pointer (some ⟨w4.heap.size, 0, none⟩) ∧ wc = w4.alloc (.cells #[.int .i64 ro, .int .i64 vo] 65))
      case first =>
       have ho := hro.out
       unfold opdOf at ho
       cases b3 with
       | true =>
        rw [if_pos (of_decide_eq_true q3n'.out), ← hm4.out] at ho
        obtain ⟨rfl, rfl⟩ := Opd.mk.inj ho
        go_wp2
        go_meet
        case rel => exact ⟨rfl, rfl⟩
       | false =>
        rw [if_neg (of_decide_eq_false q3n'.out), ← hm2.out] at ho
        obtain ⟨rfl, rfl⟩ := Opd.mk.inj ho
        go_wp2
        go_meet
        case rel => exact ⟨rfl, rfl⟩
      case rest =>
      obtain ⟨rfl, rfl⟩ := hcut
      have hcc : c = 0 ∨ c = 1 ∨ c = 2 ∨ c = 3 ∨ c = 4 ∨ c = 5 ∨ c = 6 ∨ c = 7 ∨ c = 8 ∨ c = 9 ∨ c = 10 ∨ c = 11 := by omega
      clear hc12 q3 q3n' q2 q4 hm2 hm4 bm2 q1
      rcases hcc with rfl | rfl | rfl | rfl | rfl | rfl | rfl | rfl | rfl | rfl | rfl | rfl
      ·
       -- arm 0
       have HI : Hid (insOf locs x = [(⟨1, 0, (120 + (m1 : Int)), ⟨(ro), (vo)⟩, 0, ⟨0, 0⟩, 0⟩ : InsT)]) := arm_0 hm1 hm5 q6n' hro
       have q6a : (x : Int) % 12 = 0 := q6
       have HM : Hid (memOf x = 1) := by show memOf x = 1; unfold memOf; rw [q6n'.out]; decide
       clear q6
       go_wp2_with (at_builtin; refine wpList_append_own _ rfl _ _ 68 rfl W1.heap.size 67 i1 zIns 9 72 Tryz.underlying68 j1 y0 y1 y2 rfl (by decide) _ _ _ rfl ((hown4.alloc _).alloc _) ⟨w4.heap.size + 1, 0, none⟩ 1 1 (insC (⟨1, 0, (120 + (m1 : Int)), ⟨(ro), (vo)⟩, 0, ⟨0, 0⟩, 0⟩ : InsT)) rfl rfl ?c1 ?c2 ?c3 ?c4 ?c5 ?_)
       case c1 => exact news_two w4 _ #[.int .i64 1, .int .i64 0, .int .i64 (120 + (m1 : Int)), .int .i64 (ro), .int .i64 (vo), .int .i64 0, .int .i64 0, .int .i64 0, .int .i64 0] 67
       case c2 => exact one_ins _
       case c3 => unfold maxLen; omega
       case c4 => omega
       case c5 => simp only [World.size_alloc]; omega
       intro v' w5 hown5 hg5 _
       go_wp2
       go_roundg k
       case measure => omega
       case rel =>
        refine ⟨k, mem' + memOf x, at'' + 1, L ++ insOf locs x, rfl, by go_num, by rw [HM.out]; go_num, by omega, by rw [HM.out]; omega, by omega, ((h4.alloc _).alloc _).grown hg5 HB0.out hlt', ((HW4.out.alloc _).alloc _).grown hg5 hlt', ?_, ?_, ?_⟩
        ·
         rw [HI.out]; simpa using hown5
        ·
         rw [HI.out]; simp; omega
        ·
         exact HR2.out
      ·
       -- arm 1
       have HI : Hid (insOf locs x = [(⟨1, 0, (120 + (m1 : Int)), ⟨(ro), (vo)⟩, 0, ⟨0, 0⟩, 0⟩ : InsT)]) := arm_1 hm1 hm5 q6n' hro
       have q6a : (x : Int) % 12 = 1 := q6
       have HM : Hid (memOf x = 1) := by show memOf x = 1; unfold memOf; rw [q6n'.out]; decide
       clear q6
       go_wp2_with (at_builtin; refine wpList_append_own _ rfl _ _ 68 rfl W1.heap.size 67 i1 zIns 9 72 Tryz.underlying68 j1 y0 y1 y2 rfl (by decide) _ _ _ rfl ((hown4.alloc _).alloc _) ⟨w4.heap.size + 1, 0, none⟩ 1 1 (insC (⟨1, 0, (120 + (m1 : Int)), ⟨(ro), (vo)⟩, 0, ⟨0, 0⟩, 0⟩ : InsT)) rfl rfl ?c1 ?c2 ?c3 ?c4 ?c5 ?_)
       case c1 => exact news_two w4 _ #[.int .i64 1, .int .i64 0, .int .i64 (120 + (m1 : Int)), .int .i64 (ro), .int .i64 (vo), .int .i64 0, .int .i64 0, .int .i64 0, .int .i64 0] 67
       case c2 => exact one_ins _
       case c3 => unfold maxLen; omega
       case c4 => omega
       case c5 => simp only [World.size_alloc]; omega
       intro v' w5 hown5 hg5 _
       go_wp2
       go_roundg k
       case measure => omega
       case rel =>
        refine ⟨k, mem' + memOf x, at'' + 1, L ++ insOf locs x, rfl, by go_num, by rw [HM.out]; go_num, by omega, by rw [HM.out]; omega, by omega, ((h4.alloc _).alloc _).grown hg5 HB0.out hlt', ((HW4.out.alloc _).alloc _).grown hg5 hlt', ?_, ?_, ?_⟩
        ·
         rw [HI.out]; simpa using hown5
        ·
         rw [HI.out]; simp; omega
        ·
         exact HR2.out
      ·
       -- arm 2
       have HI : Hid (insOf locs x = [(⟨1, 0, (120 + (m1 : Int)), ⟨(ro), (vo)⟩, 0, ⟨0, 0⟩, 0⟩ : InsT)]) := arm_2 hm1 hm5 q6n' hro
       have q6a : (x : Int) % 12 = 2 := q6
       have HM : Hid (memOf x = 1) := by show memOf x = 1; unfold memOf; rw [q6n'.out]; decide
       clear q6
       go_wp2_with (at_builtin; refine wpList_append_own _ rfl _ _ 68 rfl W1.heap.size 67 i1 zIns 9 72 Tryz.underlying68 j1 y0 y1 y2 rfl (by decide) _ _ _ rfl ((hown4.alloc _).alloc _) ⟨w4.heap.size + 1, 0, none⟩ 1 1 (insC (⟨1, 0, (120 + (m1 : Int)), ⟨(ro), (vo)⟩, 0, ⟨0, 0⟩, 0⟩ : InsT)) rfl rfl ?c1 ?c2 ?c3 ?c4 ?c5 ?_)
       case c1 => exact news_two w4 _ #[.int .i64 1, .int .i64 0, .int .i64 (120 + (m1 : Int)), .int .i64 (ro), .int .i64 (vo), .int .i64 0, .int .i64 0, .int .i64 0, .int .i64 0] 67
       case c2 => exact one_ins _
       case c3 => unfold maxLen; omega
       case c4 => omega
       case c5 => simp only [World.size_alloc]; omega
       intro v' w5 hown5 hg5 _
       go_wp2
       go_roundg k
       case measure => omega
       case rel =>
        refine ⟨k, mem' + memOf x, at'' + 1, L ++ insOf locs x, rfl, by go_num, by rw [HM.out]; go_num, by omega, by rw [HM.out]; omega, by omega, ((h4.alloc _).alloc _).grown hg5 HB0.out hlt', ((HW4.out.alloc _).alloc _).grown hg5 hlt', ?_, ?_, ?_⟩
        ·
         rw [HI.out]; simpa using hown5
        ·
         rw [HI.out]; simp; omega
        ·
         exact HR2.out
      ·
       -- arm 3
       have HI : Hid (insOf locs x = [(⟨1, 0, (120 + (m1 : Int)), ⟨(ro), (vo)⟩, 0, ⟨0, 0⟩, 0⟩ : InsT)]) := arm_3 hm1 hm5 q6n' hro
       have q6a : (x : Int) % 12 = 3 := q6
       have HM : Hid (memOf x = 1) := by show memOf x = 1; unfold memOf; rw [q6n'.out]; decide
       clear q6
       go_wp2_with (at_builtin; refine wpList_append_own _ rfl _ _ 68 rfl W1.heap.size 67 i1 zIns 9 72 Tryz.underlying68 j1 y0 y1 y2 rfl (by decide) _ _ _ rfl ((hown4.alloc _).alloc _) ⟨w4.heap.size + 1, 0, none⟩ 1 1 (insC (⟨1, 0, (120 + (m1 : Int)), ⟨(ro), (vo)⟩, 0, ⟨0, 0⟩, 0⟩ : InsT)) rfl rfl ?c1 ?c2 ?c3 ?c4 ?c5 ?_)
       case c1 => exact news_two w4 _ #[.int .i64 1, .int .i64 0, .int .i64 (120 + (m1 : Int)), .int .i64 (ro), .int .i64 (vo), .int .i64 0, .int .i64 0, .int .i64 0, .int .i64 0] 67
       case c2 => exact one_ins _
       case c3 => unfold maxLen; omega
       case c4 => omega
       case c5 => simp only [World.size_alloc]; omega
       intro v' w5 hown5 hg5 _
       go_wp2
       go_roundg k
       case measure => omega
       case rel =>
        refine ⟨k, mem' + memOf x, at'' + 1, L ++ insOf locs x, rfl, by go_num, by rw [HM.out]; go_num, by omega, by rw [HM.out]; omega, by omega, ((h4.alloc _).alloc _).grown hg5 HB0.out hlt', ((HW4.out.alloc _).alloc _).grown hg5 hlt', ?_, ?_, ?_⟩
        ·
         rw [HI.out]; simpa using hown5
        ·
         rw [HI.out]; simp; omega
        ·
         exact HR2.out
      ·
       -- arm 4
       have HI : Hid (insOf locs x = [(⟨2, (m5 : Int), (120 + (m1 : Int)), ⟨0, 0⟩, 0, ⟨0, 0⟩, 0⟩ : InsT)]) := arm_4 hm1 hm5 q6n' hro
       have q6a : (x : Int) % 12 = 4 := q6
       have HM : Hid (memOf x = 1) := by show memOf x = 1; unfold memOf; rw [q6n'.out]; decide
       clear q6
       go_wp2_with (at_builtin; refine wpList_append_own _ rfl _ _ 68 rfl W1.heap.size 67 i1 zIns 9 72 Tryz.underlying68 j1 y0 y1 y2 rfl (by decide) _ _ _ rfl ((hown4.alloc _).alloc _) ⟨w4.heap.size + 1, 0, none⟩ 1 1 (insC (⟨2, (m5 : Int), (120 + (m1 : Int)), ⟨0, 0⟩, 0, ⟨0, 0⟩, 0⟩ : InsT)) rfl rfl ?c1 ?c2 ?c3 ?c4 ?c5 ?_)
       case c1 => exact news_two w4 _ #[.int .i64 2, .int .i64 (m5 : Int), .int .i64 (120 + (m1 : Int)), .int .i64 0, .int .i64 0, .int .i64 0, .int .i64 0, .int .i64 0, .int .i64 0] 67
       case c2 => exact one_ins _
       case c3 => unfold maxLen; omega
       case c4 => omega
       case c5 => simp only [World.size_alloc]; omega
       intro v' w5 hown5 hg5 _
       go_wp2
       go_roundg k
       case measure => omega
       case rel =>
        refine ⟨k, mem' + memOf x, at'' + 1, L ++ insOf locs x, rfl, by go_num, by rw [HM.out]; go_num, by omega, by rw [HM.out]; omega, by omega, ((h4.alloc _).alloc _).grown hg5 HB0.out hlt', ((HW4.out.alloc _).alloc _).grown hg5 hlt', ?_, ?_, ?_⟩
        ·
         rw [HI.out]; simpa using hown5
        ·
         rw [HI.out]; simp; omega
        ·
         exact HR2.out
      ·
       -- arm 5
       have HI : Hid (insOf locs x = [(⟨2, (m5 : Int), (120 + (m1 : Int)), ⟨0, 0⟩, 0, ⟨0, 0⟩, 0⟩ : InsT)]) := arm_5 hm1 hm5 q6n' hro
       have q6a : (x : Int) % 12 = 5 := q6
       have HM : Hid (memOf x = 1) := by show memOf x = 1; unfold memOf; rw [q6n'.out]; decide
       clear q6
       go_wp2_with (at_builtin; refine wpList_append_own _ rfl _ _ 68 rfl W1.heap.size 67 i1 zIns 9 72 Tryz.underlying68 j1 y0 y1 y2 rfl (by decide) _ _ _ rfl ((hown4.alloc _).alloc _) ⟨w4.heap.size + 1, 0, none⟩ 1 1 (insC (⟨2, (m5 : Int), (120 + (m1 : Int)), ⟨0, 0⟩, 0, ⟨0, 0⟩, 0⟩ : InsT)) rfl rfl ?c1 ?c2 ?c3 ?c4 ?c5 ?_)
       case c1 => exact news_two w4 _ #[.int .i64 2, .int .i64 (m5 : Int), .int .i64 (120 + (m1 : Int)), .int .i64 0, .int .i64 0, .int .i64 0, .int .i64 0, .int .i64 0, .int .i64 0] 67
       case c2 => exact one_ins _
       case c3 => unfold maxLen; omega
       case c4 => omega
       case c5 => simp only [World.size_alloc]; omega
       intro v' w5 hown5 hg5 _
       go_wp2
       go_roundg k
       case measure => omega
       case rel =>
        refine ⟨k, mem' + memOf x, at'' + 1, L ++ insOf locs x, rfl, by go_num, by rw [HM.out]; go_num, by omega, by rw [HM.out]; omega, by omega, ((h4.alloc _).alloc _).grown hg5 HB0.out hlt', ((HW4.out.alloc _).alloc _).grown hg5 hlt', ?_, ?_, ?_⟩
        ·
         rw [HI.out]; simpa using hown5
        ·
         rw [HI.out]; simp; omega
        ·
         exact HR2.out
      ·
       -- arm 6
       have HI : Hid (insOf locs x = [(⟨2, (m5 : Int), (120 + (m1 : Int)), ⟨0, 0⟩, 0, ⟨0, 0⟩, 0⟩ : InsT)]) := arm_6 hm1 hm5 q6n' hro
       have q6a : (x : Int) % 12 = 6 := q6
       have HM : Hid (memOf x = 1) := by show memOf x = 1; unfold memOf; rw [q6n'.out]; decide
       clear q6
       go_wp2_with (at_builtin; refine wpList_append_own _ rfl _ _ 68 rfl W1.heap.size 67 i1 zIns 9 72 Tryz.underlying68 j1 y0 y1 y2 rfl (by decide) _ _ _ rfl ((hown4.alloc _).alloc _) ⟨w4.heap.size + 1, 0, none⟩ 1 1 (insC (⟨2, (m5 : Int), (120 + (m1 : Int)), ⟨0, 0⟩, 0, ⟨0, 0⟩, 0⟩ : InsT)) rfl rfl ?c1 ?c2 ?c3 ?c4 ?c5 ?_)
       case c1 => exact news_two w4 _ #[.int .i64 2, .int .i64 (m5 : Int), .int .i64 (120 + (m1 : Int)), .int .i64 0, .int .i64 0, .int .i64 0, .int .i64 0, .int .i64 0, .int .i64 0] 67
       case c2 => exact one_ins _
       case c3 => unfold maxLen; omega
       case c4 => omega
       case c5 => simp only [World.size_alloc]; omega
       intro v' w5 hown5 hg5 _
       go_wp2
       go_roundg k
       case measure => omega
       case rel =>
        refine ⟨k, mem' + memOf x, at'' + 1, L ++ insOf locs x, rfl, by go_num, by rw [HM.out]; go_num, by omega, by rw [HM.out]; omega, by omega, ((h4.alloc _).alloc _).grown hg5 HB0.out hlt', ((HW4.out.alloc _).alloc _).grown hg5 hlt', ?_, ?_, ?_⟩
        ·
         rw [HI.out]; simpa using hown5
        ·
         rw [HI.out]; simp; omega
        ·
         exact HR2.out
      ·
       -- arm 7
       have HI : Hid (insOf locs x = [(⟨2, (m5 : Int), (120 + (m1 : Int)), ⟨0, 0⟩, 0, ⟨0, 0⟩, 0⟩ : InsT)]) := arm_7 hm1 hm5 q6n' hro
       have q6a : (x : Int) % 12 = 7 := q6
       have HM : Hid (memOf x = 1) := by show memOf x = 1; unfold memOf; rw [q6n'.out]; decide
       clear q6
       go_wp2_with (at_builtin; refine wpList_append_own _ rfl _ _ 68 rfl W1.heap.size 67 i1 zIns 9 72 Tryz.underlying68 j1 y0 y1 y2 rfl (by decide) _ _ _ rfl ((hown4.alloc _).alloc _) ⟨w4.heap.size + 1, 0, none⟩ 1 1 (insC (⟨2, (m5 : Int), (120 + (m1 : Int)), ⟨0, 0⟩, 0, ⟨0, 0⟩, 0⟩ : InsT)) rfl rfl ?c1 ?c2 ?c3 ?c4 ?c5 ?_)
       case c1 => exact news_two w4 _ #[.int .i64 2, .int .i64 (m5 : Int), .int .i64 (120 + (m1 : Int)), .int .i64 0, .int .i64 0, .int .i64 0, .int .i64 0, .int .i64 0, .int .i64 0] 67
       case c2 => exact one_ins _
       case c3 => unfold maxLen; omega
       case c4 => omega
       case c5 => simp only [World.size_alloc]; omega
       intro v' w5 hown5 hg5 _
       go_wp2
       go_roundg k
       case measure => omega
       case rel =>
        refine ⟨k, mem' + memOf x, at'' + 1, L ++ insOf locs x, rfl, by go_num, by rw [HM.out]; go_num, by omega, by rw [HM.out]; omega, by omega, ((h4.alloc _).alloc _).grown hg5 HB0.out hlt', ((HW4.out.alloc _).alloc _).grown hg5 hlt', ?_, ?_, ?_⟩
        ·
         rw [HI.out]; simpa using hown5
        ·
         rw [HI.out]; simp; omega
        ·
         exact HR2.out
      ·
       -- arm 8
       have HI : Hid (insOf locs x = [(⟨3, 0, 0, ⟨0, 0⟩, 0, ⟨0, 0⟩, 0⟩ : InsT)]) := arm_8 hm1 hm5 q6n' hro
       have q6a : (x : Int) % 12 = 8 := q6
       have HM : Hid (memOf x = 0) := by show memOf x = 0; unfold memOf; rw [q6n'.out]; decide
       clear q6
       go_wp2_with (at_builtin; refine wpList_append_own _ rfl _ _ 68 rfl W1.heap.size 67 i1 zIns 9 72 Tryz.underlying68 j1 y0 y1 y2 rfl (by decide) _ _ _ rfl ((hown4.alloc _).alloc _) ⟨w4.heap.size + 1, 0, none⟩ 1 1 (insC (⟨3, 0, 0, ⟨0, 0⟩, 0, ⟨0, 0⟩, 0⟩ : InsT)) rfl rfl ?c1 ?c2 ?c3 ?c4 ?c5 ?_)
       case c1 => exact news_two w4 _ #[.int .i64 3, .int .i64 0, .int .i64 0, .int .i64 0, .int .i64 0, .int .i64 0, .int .i64 0, .int .i64 0, .int .i64 0] 67
       case c2 => exact one_ins _
       case c3 => unfold maxLen; omega
       case c4 => omega
       case c5 => simp only [World.size_alloc]; omega
       intro v' w5 hown5 hg5 _
       go_wp2
       go_roundg k
       case measure => omega
       case rel =>
        refine ⟨k, mem' + memOf x, at'' + 1, L ++ insOf locs x, rfl, by go_num, by rw [HM.out]; rfl, by omega, by rw [HM.out]; omega, by omega, ((h4.alloc _).alloc _).grown hg5 HB0.out hlt', ((HW4.out.alloc _).alloc _).grown hg5 hlt', ?_, ?_, ?_⟩
        ·
         rw [HI.out]; simpa using hown5
        ·
         rw [HI.out]; simp; omega
        ·
         exact HR2.out
      ·
       -- arm 9
       have HI : Hid (insOf locs x = [(⟨4, (m5 : Int), (120 + (m1 : Int)), ⟨(ro), (vo)⟩, 0, ⟨-1, 1⟩, 0⟩ : InsT)]) := arm_9 hm1 hm5 q6n' hro
       have q6a : (x : Int) % 12 = 9 := q6
       have HM : Hid (memOf x = 1) := by show memOf x = 1; unfold memOf; rw [q6n'.out]; decide
       clear q6
       go_wp2_with (at_builtin; refine wpList_append_own _ rfl _ _ 68 rfl W1.heap.size 67 i1 zIns 9 72 Tryz.underlying68 j1 y0 y1 y2 rfl (by decide) _ _ _ rfl ((hown4.alloc _).alloc _) ⟨w4.heap.size + 1, 0, none⟩ 1 1 (insC (⟨4, (m5 : Int), (120 + (m1 : Int)), ⟨(ro), (vo)⟩, 0, ⟨-1, 1⟩, 0⟩ : InsT)) rfl rfl ?c1 ?c2 ?c3 ?c4 ?c5 ?_)
       case c1 => exact news_two w4 _ #[.int .i64 4, .int .i64 (m5 : Int), .int .i64 (120 + (m1 : Int)), .int .i64 (ro), .int .i64 (vo), .int .i64 0, .int .i64 (-1), .int .i64 1, .int .i64 0] 67
       case c2 => exact one_ins _
       case c3 => unfold maxLen; omega
       case c4 => omega
       case c5 => simp only [World.size_alloc]; omega
       intro v' w5 hown5 hg5 _
       go_wp2
       go_roundg k
       case measure => omega
       case rel =>
        refine ⟨k, mem' + memOf x, at'' + 1, L ++ insOf locs x, rfl, by go_num, by rw [HM.out]; go_num, by omega, by rw [HM.out]; omega, by omega, ((h4.alloc _).alloc _).grown hg5 HB0.out hlt', ((HW4.out.alloc _).alloc _).grown hg5 hlt', ?_, ?_, ?_⟩
        ·
         rw [HI.out]; simpa using hown5
        ·
         rw [HI.out]; simp; omega
        ·
         exact HR2.out
      ·
       -- arm 10
       have HI : Hid (insOf locs x = [(⟨5, (m5 : Int), 0, ⟨(ro), (vo)⟩, 6, ⟨-1, 1⟩, 0⟩ : InsT)]) := arm_10 hm1 hm5 q6n' hro
       have q6a : (x : Int) % 12 = 10 := q6
       have HM : Hid (memOf x = 0) := by show memOf x = 0; unfold memOf; rw [q6n'.out]; decide
       clear q6
       go_wp2_with (at_builtin; refine wpList_append_own _ rfl _ _ 68 rfl W1.heap.size 67 i1 zIns 9 72 Tryz.underlying68 j1 y0 y1 y2 rfl (by decide) _ _ _ rfl ((hown4.alloc _).alloc _) ⟨w4.heap.size + 1, 0, none⟩ 1 1 (insC (⟨5, (m5 : Int), 0, ⟨(ro), (vo)⟩, 6, ⟨-1, 1⟩, 0⟩ : InsT)) rfl rfl ?c1 ?c2 ?c3 ?c4 ?c5 ?_)
       case c1 => exact news_two w4 _ #[.int .i64 5, .int .i64 (m5 : Int), .int .i64 0, .int .i64 (ro), .int .i64 (vo), .int .i64 6, .int .i64 (-1), .int .i64 1, .int .i64 0] 67
       case c2 => exact one_ins _
       case c3 => unfold maxLen; omega
       case c4 => omega
       case c5 => simp only [World.size_alloc]; omega
       intro v' w5 hown5 hg5 _
       go_wp2
       go_roundg k
       case measure => omega
       case rel =>
        refine ⟨k, mem' + memOf x, at'' + 1, L ++ insOf locs x, rfl, by go_num, by rw [HM.out]; rfl, by omega, by rw [HM.out]; omega, by omega, ((h4.alloc _).alloc _).grown hg5 HB0.out hlt', ((HW4.out.alloc _).alloc _).grown hg5 hlt', ?_, ?_, ?_⟩
        ·
         rw [HI.out]; simpa using hown5
        ·
         rw [HI.out]; simp; omega
        ·
         exact HR2.out
      ·
       -- arm 11
       have HI : Hid (insOf locs x = [(⟨6, 0, 0, ⟨(ro), (vo)⟩, 0, ⟨-1, 0⟩, 1⟩ : InsT), (⟨1, 0, (120 + (m1 : Int)), ⟨-1, 2⟩, 0, ⟨0, 0⟩, 0⟩ : InsT)]) := arm_11 hm1 hm5 q6n' hro
       have q6a : (x : Int) % 12 = 11 := q6
       have HM : Hid (memOf x = 1) := by show memOf x = 1; unfold memOf; rw [q6n'.out]; decide
       clear q6
       go_wp2_with (at_builtin; refine wpList_append_own _ rfl _ _ 68 rfl W1.heap.size 67 i1 zIns 9 72 Tryz.underlying68 j1 y0 y1 y2 rfl (by decide) _ _ _ rfl ((hown4.alloc _).alloc _) ⟨w4.heap.size + 1, 0, none⟩ 2 2 (insC (⟨6, 0, 0, ⟨(ro), (vo)⟩, 0, ⟨-1, 0⟩, 1⟩ : InsT) ++ insC (⟨1, 0, (120 + (m1 : Int)), ⟨-1, 2⟩, 0, ⟨0, 0⟩, 0⟩ : InsT)) rfl rfl ?c1 ?c2 ?c3 ?c4 ?c5 ?_)
       case c1 => exact news_two w4 _ #[.int .i64 6, .int .i64 0, .int .i64 0, .int .i64 (ro), .int .i64 (vo), .int .i64 0, .int .i64 (-1), .int .i64 0, .int .i64 1, .int .i64 1, .int .i64 0, .int .i64 (120 + (m1 : Int)), .int .i64 (-1), .int .i64 2, .int .i64 0, .int .i64 0, .int .i64 0, .int .i64 0] 67
       case c2 => exact one_ins2 _ _
       case c3 => unfold maxLen; omega
       case c4 => omega
       case c5 => simp only [World.size_alloc]; omega
       intro v' w5 hown5 hg5 _
       go_wp2
       go_roundg k
       case measure => omega
       case rel =>
        refine ⟨k, mem' + memOf x, at'' + 1, L ++ insOf locs x, rfl, by go_num, by rw [HM.out]; go_num, by omega, by rw [HM.out]; omega, by omega, ((h4.alloc _).alloc _).grown hg5 HB0.out hlt', ((HW4.out.alloc _).alloc _).grown hg5 hlt', ?_, ?_, ?_⟩
        ·
         rw [HI.out]; simpa using hown5
        ·
         rw [HI.out]; simp; omega
        ·
         exact HR2.out
   ·
    obtain rfl : i = n := by omega
    have HT2 : Hid ((TL, at') = thrOf zs most) := by
     show _ = _
     rw [← HT.out, Nat.sub_self, thrFrom]; simp
    clear HT
    have b1 := nxtV_lt zs at'
    obtain ⟨vs, hvl, hov, hin'⟩ := hT
    obtain ⟨a2, cc2, rfl⟩ := own_slice hov
    obtain ⟨a1, cc1, rfl⟩ := own_slice hI
    go_wp2_with fail
    refine (hS.next (by omega) hz hr).mono ?_
    rintro e w4 ⟨rfl, h4, k4⟩
    have hI4 := own_wa hI k4 (Nat.lt_succ_self _)
    have hT4 : thrO w4 (w.heap.size + 1 + 1 + 1 + 1) (.slice a2 TL.length cc2) TL := Own2.wa ⟨vs, hvl, hov, hin'⟩ k4 (Nat.lt_succ_self _)
    clear hS hI hov hin' k4 hvl
    have HX : Hid (condOf (nxtV zs at') = (smallP zs most).cond) := by
     show condOf _ = condOf _
     rw [← HT2.out]
    have HP : Hid (smallP zs most = ⟨⟨#[116]⟩, iniOf zs, TL, condOf (nxtV zs at')⟩) := by
     show _ = _
     unfold smallP
     rw [← HT2.out]
    have t0 := h4.bt.at (i := 0) rfl
    have t1 := h4.bt.at (i := 1) rfl
    have t2 := h4.bt.at (i := 2) rfl
    have t3 := h4.bt.at (i := 3) rfl
    have t4 := h4.bt.at (i := 4) rfl
    have tf := fun j => h4.bt.fr j
    have tl := h4.bt.lt
    have r0 := h4.br.at (i := 0) rfl
    have r1 := h4.br.at (i := 1) rfl
    have r2 := h4.br.at (i := 2) rfl
    have r3 := h4.br.at (i := 3) rfl
    have r4 := h4.br.at (i := 4) rfl
    have rf := fun j => h4.br.fr j
    have rl := h4.br.lt
    have tl1 := Nat.lt_succ_of_lt tl
    have tl2 := Nat.lt_succ_of_lt tl1
    have rl1 := Nat.lt_succ_of_lt rl
    have rl2 := Nat.lt_succ_of_lt rl1
    have tl3 := Nat.lt_succ_of_lt tl2
    have rl3 := Nat.lt_succ_of_lt rl2
    generalize nxtV zs at' = x at *
    by_cases hx3 : x % 3 = 0
    ·
     have q : ((x : Int) % 3 == 0) = true := by simp; omega
     obtain ⟨m0, hm0, q0⟩ : ∃ m : Nat, Hid (m = x / 3 % 2 + 1) ∧ (x : Int) / 3 % 2 + 1 = (m : Int) := ⟨_, rfl, by omega⟩
     obtain ⟨m1, hm1, q1⟩ : ∃ m : Nat, Hid (m = x / 8 % 2) ∧ bits .and .i64 ((x : Int) / 8) 1 = (m : Int) := ⟨_, rfl, by rw [i64_and1]; omega⟩
     obtain ⟨m2, hm2, q2⟩ : ∃ m : Nat, Hid (m = x / 16 % 2) ∧ bits .and .i64 ((x : Int) / 16) 1 = (m : Int) := ⟨_, rfl, by rw [i64_and1]; omega⟩
     obtain ⟨m3, hm3, q3⟩ : ∃ m : Nat, Hid (m = x / 32 % 3) ∧ (x : Int) / 32 % 3 = (m : Int) := ⟨_, rfl, by omega⟩
     obtain ⟨m4, hm4, q4⟩ : ∃ m : Nat, Hid (m = x / 128 % 2) ∧ bits .and .i64 ((x : Int) / 128) 1 = (m : Int) := ⟨_, rfl, by rw [i64_and1]; omega⟩
     have HC : Hid (condOf x = ⟨(m0 : Int), [[⟨0, m1, 0, m2⟩], [⟨-1, 0, 120, m3⟩, ⟨1, 0, 0, m4⟩]]⟩) := by
      show condOf x = _
      unfold condOf anyOf
      rw [if_pos hx3, ← hm0.out, ← hm1.out, ← hm2.out, ← hm3.out, ← hm4.out]
     go_wp2
     refine bodyPost_ret (v := .agg #[.string ⟨#[116]⟩, .slice a1 (iniOf zs).length cc1, .slice a2 TL.length cc2, .int .i64 (m0 : Int), .slice (some ⟨w4.heap.size + 1 + 1, 0, none⟩) 2 2]) ?_ rfl ⟨_, rfl, ?_, ?_⟩
     ·
      rw [results_cell rfl]
      go_simp
     ·
      rw [HP.out, HC.out]
      have hP1 := own_puts (N := w.heap.size + 1) [.string ⟨#[116]⟩, .slice a1 (iniOf zs).length cc1, .slice a2 TL.length cc2, .int .i64 (m0 : Int), .slice (some ⟨w4.heap.size + 1 + 1, 0, none⟩) 2 2] _ 0 (own_puts (N := w.heap.size + 1 + 1) [.int .i64 (m0 : Int), .slice (some ⟨w4.heap.size + 1 + 1, 0, none⟩) 2 2] w4 3 hI4 (by omega)) (by omega)
      have hP2 := Own2.puts (N := w.heap.size + 1) [.string ⟨#[116]⟩, .slice a1 (iniOf zs).length cc1, .slice a2 TL.length cc2, .int .i64 (m0 : Int), .slice (some ⟨w4.heap.size + 1 + 1, 0, none⟩) 2 2] _ 0 (Own2.puts (N := w.heap.size + 1 + 1) [.int .i64 (m0 : Int), .slice (some ⟨w4.heap.size + 1 + 1, 0, none⟩) 2 2] w4 3 hT4 (by omega)) (by omega)
      have hs4 := h4.size
      have hP3 := any_new (putCells (putCells w4 (w.heap.size + 1 + 1) 3 [.int .i64 (m0 : Int), .slice (some ⟨w4.heap.size + 1 + 1, 0, none⟩) 2 2]) (w.heap.size + 1) 0 [.string ⟨#[116]⟩, .slice a1 (iniOf zs).length cc1, .slice a2 TL.length cc2, .int .i64 (m0 : Int), .slice (some ⟨w4.heap.size + 1 + 1, 0, none⟩) 2 2]) w4.heap.size w.heap.size (by rw [size_puts, size_puts]) (by omega) [⟨0, m1, 0, m2⟩] [⟨-1, 0, 120, m3⟩, ⟨1, 0, 0, m4⟩] (by show 1 ≤ maxLen; decide) (by show 2 ≤ maxLen; decide) 88 87
      exact ⟨a1, cc1, a2, cc2, _, 2, rfl, own_mono (((hP1.alloc _).alloc _).alloc _) (by omega), Own2.mono (hP2.on ((((On.refl _).alloc _).alloc _).alloc _)) (by omega), hP3⟩
     ·
      exact (((On.puts (N := w.heap.size + 1) (by omega) [.string ⟨#[116]⟩, .slice a1 (iniOf zs).length cc1, .slice a2 TL.length cc2, .int .i64 (m0 : Int), .slice (some ⟨w4.heap.size + 1 + 1, 0, none⟩) 2 2] _ 0 (On.puts (N := w.heap.size + 1 + 1) (by omega) [.int .i64 (m0 : Int), .slice (some ⟨w4.heap.size + 1 + 1, 0, none⟩) 2 2] w4 3 h4.on)).alloc _).alloc _).alloc _
    ·
     have q : ((x : Int) % 3 == 0) = false := by simp; omega
     have HC : Hid (condOf x = ⟨0, []⟩) := by
      show condOf x = _
      unfold condOf
      rw [if_neg hx3]
     go_wp2
     refine bodyPost_ret (v := .agg #[.string ⟨#[116]⟩, .slice a1 (iniOf zs).length cc1, .slice a2 TL.length cc2, .int .i64 0, .slice none 0 0]) ?_ rfl ⟨_, rfl, ?_, ?_⟩
     ·
      rw [results_cell rfl]
      go_simp
     ·
      rw [HP.out, HC.out]
      refine ⟨a1, cc1, a2, cc2, none, 0, rfl, own_mono (own_puts [.string ⟨#[116]⟩, .slice a1 (iniOf zs).length cc1, .slice a2 TL.length cc2, .int .i64 0, .slice none 0 0] w4 0 hI4 (N := w.heap.size + 1) (by omega)) (by omega), Own2.mono (Own2.puts [.string ⟨#[116]⟩, .slice a1 (iniOf zs).length cc1, .slice a2 TL.length cc2, .int .i64 0, .slice none 0 0] w4 0 hT4 (N := w.heap.size + 1) (by omega)) (by omega), Own2.nil _ _ _ _ _ _⟩
     ·
      exact On.puts (N := w.heap.size + 1) (by omega) [.string ⟨#[116]⟩, .slice a1 (iniOf zs).length cc1, .slice a2 TL.length cc2, .int .i64 0, .slice none 0 0] w4 0 h4.on
end Go.Proofs.YtioiabfheeglgaaGreatDoor
