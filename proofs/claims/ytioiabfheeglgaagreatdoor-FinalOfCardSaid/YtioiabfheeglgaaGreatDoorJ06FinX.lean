/- final.Has, final.Minus, final.Sort: for every row of ends. -/
import Derived.Test.YtioiabfheeglgaaGreatDoorJ02RegFin
import Derived.Test.YtioiabfheeglgaaGreatDoorJ04FinS
import Derived.Test.YtioiabfheeglgaaGreatDoorShelfFin
import Derived.Lib.ItoaNum
import Derived.Lib.ParseIntB
import Derived.Lib.Atoi
import Derived.Test.YtioiabfheeglgaaGreatDoorJ00Trees
namespace Go.Proofs.YtioiabfheeglgaaGreatDoor
open Go.RowKit

theorem any_mem (L : List FinT) (f : FinT) : (L.any fun y => decide (f = y)) = decide (f ∈ L) := by
 induction L with
 | nil => simp
 | cons y L ih =>
  rw [List.any_cons, ih]
  simp
set_option maxHeartbeats 1000000 in
theorem cont_nil (a : Option Addr) (c : Nat) (f : FinT) (w : World) : Calls Tryz.prog 53 #[.slice a 0 c, .agg (finA f)] w fun e w' => e = .returned (.int .i64 (-1)) ∧ On w w' := by
 have HO : Hid (On w (w.alloc (.cells (finA f) 36))) := (On.refl w).alloc _
 go_enter Tryz.func53, Tryz.ntmps53
 go_wp2
 go_loopg [8] 0 (fun gg s8 wq => gg = 0 ∧ s8 = .int .i64 0 ∧ Hid (On w wq))
 case atStart => exact ⟨rfl, rfl, HO⟩
 case round =>
  obtain ⟨hk, rfl, HO⟩ := hrel
  go_wp2
  go_ret
  exact ⟨rfl, HO.out⟩
set_option maxHeartbeats 1000000 in
theorem contains_is (L : List FinT) (f : FinT) (a : Option Addr) (c : Nat) (w : World) (h : Rd finC 20 w (.slice a L.length c) L) :
  Calls Tryz.prog 35 #[.slice a L.length c, .agg (finA f)] w fun e w' => e = .returned (.bool (decide (f ∈ L))) ∧ On w w' := by
 rcases Nat.eq_zero_or_pos L.length with h0 | h0
 ·
  obtain rfl := List.eq_nil_of_length_eq_zero h0
  have hI := fun W => cont_nil a c f W
  have b1 := (Bk.new w (finA f) 36).range
  have HO : Hid (On w (w.alloc (.cells (finA f) 36))) := (On.refl w).alloc _
  simp only [List.length_nil, List.not_mem_nil, decide_false]
  clear h h0
  go_enter Tryz.func35, Tryz.ntmps35
  go_wp2_with (refine wpList_fld rfl rfl rfl b1 ?_)
  refine (hI _).mono ?_
  rintro _ w1 ⟨rfl, k1⟩
  go_wp2
  go_ret
  exact ⟨rfl, HO.out.trans k1⟩
 ·
  obtain ⟨a', c', hv, hc', hm, hr⟩ := h
  obtain ⟨g, off, ha, hg, hcell⟩ := hr h0
  simp only [Value.slice.injEq] at hv
  obtain ⟨rfl, _, rfl⟩ := hv
  subst ha
  have inhF : Inhabited FinT := ⟨finZ⟩
  have := AnyQ.slices_Contains Tryz.laysHas 20 Tryz.isAgg36 Tryz.sizeOf36 finC finC_len (fun x y => decide (x = y)) eqlAt_fin g off L.length c L f w (Nat.le_refl _) hm (fun j hj i v hv => by
   refine hcell j L[j] i v (List.getElem?_eq_getElem hj) ?_
   rwa [List.getElem!_eq_getElem?_getD, List.getElem?_eq_getElem hj] at hv)
  rw [List.take_length, any_mem] at this
  exact this
set_option maxHeartbeats 1000000 in
theorem has_is (L : List FinT) (f : FinT) (a : Option Addr) (c : Nat) (w : World) (h : Rd finC 20 w (.slice a L.length c) L) :
  Calls Tryz.prog 20 #[.slice a L.length c, .agg (finA f)] w fun e w' => e = .returned (.bool (decide (f ∈ L))) ∧ On w w' := by
 have hI := fun W (o : On w W) => contains_is L f a c W (h.on o)
 have b1 := (Bk.new w (finA f) 36).range
 have HO : Hid (On w (w.alloc (.cells (finA f) 36))) := (On.refl w).alloc _
 have hI2 := hI _ HO.out
 generalize decide (f ∈ L) = R at *
 clear h hI
 go_enter Tryz.func20, Tryz.ntmps20
 go_wp2_with (refine wpList_fld rfl rfl rfl b1 ?_)
 refine hI2.mono ?_
 rintro _ w1 ⟨rfl, k1⟩
 go_wp2
 go_ret
 exact ⟨rfl, HO.out.trans k1⟩
section
variable [Inhabited FinT]
open Go.Sort in
theorem cmpLays_fin (blk off size : Nat) (w : World) : CmpLays Tryz.prog 52 #[] finC 20 finCmp blk off size w := by
 intro m os dk _ x y
 refine (fcmp_is x y _).mono ?_
 rintro e w' ⟨rfl, q, rfl⟩
 exact ⟨rfl, q, #[.cells (finA x) 36] ++ #[.cells (finA y) 36], by rw [alloc_eq_grow, alloc_eq_grow, grow_grow]; rfl⟩
end
theorem ltOf_fin (x y : FinT) : ltOf finCmp x y = decide (finCmp x y < 0) := rfl
open Go.Sort in
theorem swo_fin : SWO (ltOf finCmp) where
 irrefl x := by rw [ltOf_fin]; exact decide_eq_false (fin_lt_irr x)
 trans x y z h1 h2 := by
  rw [ltOf_fin] at *
  exact decide_eq_true (ord_fin.trans x y z (of_decide_eq_true h1) (of_decide_eq_true h2))
 ntrans x y z h1 h2 := by
  rw [ltOf_fin] at *
  refine decide_eq_false fun h => ?_
  have h1 := of_decide_eq_false h1
  have h2 := of_decide_eq_false h2
  rcases Int.lt_trichotomy (finCmp x y) 0 with e | e | e
  ·
   exact h1 e
  ·
   rw [(ord_fin.eq x y).1 e] at h
   exact h2 h
  ·
   have e' : finCmp y x < 0 := by rw [ord_fin.anti x y]; omega
   exact h2 (ord_fin.trans y x z e' h)
theorem tot_fin (x y : FinT) (h1 : ltOf finCmp x y = false) (h2 : ltOf finCmp y x = false) : x = y := by
 rw [ltOf_fin] at h1 h2
 have h1 := of_decide_eq_false h1
 have h2 := of_decide_eq_false h2
 rw [ord_fin.anti x y] at h2
 exact (ord_fin.eq x y).1 (by omega)
theorem ris_sort (L : List FinT) (h : L.Nodup) : Ris (L.mergeSort fun x y => !(ltOf finCmp) y x) := by
 have hp := List.pairwise_mergeSort (le := fun x y => !(ltOf finCmp) y x) (fun a b c h1 h2 => by
  simp only [ltOf_fin, Bool.not_eq_true', decide_eq_false_iff_not] at *
  intro hc
  have e1 := ord_fin.anti a b
  have e2 := ord_fin.anti b c
  have e3 := ord_fin.anti a c
  rcases Int.lt_trichotomy (finCmp a b) 0 with e | e | e
  ·
   rcases Int.lt_trichotomy (finCmp b c) 0 with e' | e' | e'
   ·
    have := ord_fin.trans a b c e e'
    omega
   ·
    rw [(ord_fin.eq b c).1 e'] at e
    omega
   ·
    omega
  ·
   rw [(ord_fin.eq a b).1 e] at e3 hc
   omega
  ·
   omega) (fun a b => by
  simp only [ltOf_fin]
  have := ord_fin.anti a b
  by_cases h1 : finCmp b a < 0 <;> simp [h1]
  omega) L
 have hn : (L.mergeSort fun x y => !(ltOf finCmp) y x).Nodup := (List.mergeSort_perm L _).nodup_iff.2 h
 refine pw_map ?_ (pw_both hp hn)
 rintro a b ⟨h1, h2⟩
 simp only [ltOf_fin, Bool.not_eq_true', decide_eq_false_iff_not] at h1
 have h3 : ¬ finCmp a b = 0 := fun e => h2 ((ord_fin.eq a b).1 e)
 have := ord_fin.anti a b
 omega
theorem get_bang {α : Type} [Inhabited α] (L : List α) {j : Nat} {x : α} (h : L[j]? = some x) : L.toArray[j]! = x := by
 rw [Array.getElem!_eq_getD, Array.getD_eq_getD_getElem?, List.getElem?_toArray, h]
 rfl
section
variable [Inhabited FinT]
theorem holds_own {w : World} {base : Nat} {g cap : Nat} {X : List FinT} (h : w.ownsRow base 36 20 (.slice (some ⟨g, 0, none⟩) X.length cap) X.length (X.flatMap finC)) : Sort.HoldsK finC 20 w g 0 X.toArray := by
 intro t ht
 simp only [Sort.size_flatK, List.size_toArray] at ht
 rw [Sort.get_flatK finC 20 X.toArray t (by simpa using ht)]
 have hq : t / 20 < X.length := by omega
 obtain ⟨x, hx⟩ : ∃ x, X[t / 20]? = some x := ⟨_, List.getElem?_eq_getElem hq⟩
 rw [get_bang X hx]
 obtain ⟨u, hu⟩ : ∃ u, (finC x)[t % 20]? = some u := ⟨_, List.getElem?_eq_getElem (by rw [finC_len]; omega)⟩
 have hu' : (finC x)[t % 20]! = u := by rw [List.getElem!_eq_getElem?_getD, hu]; rfl
 rw [hu', Nat.zero_add]
 have hf := flat_at finC 20 finC_len X (t / 20) (t % 20) x hx (by omega)
 rw [show t / 20 * 20 + t % 20 = t by omega, hu] at hf
 rcases h.2 with ⟨hv, _⟩ | ⟨g', cap', cur, hv, hb, hh, hc, hm, hs, hxs⟩
 ·
  cases hv
 ·
  simp only [Value.slice.injEq, Option.some.injEq, Addr.mk.injEq] at hv
  obtain ⟨⟨rfl, _⟩, _, rfl⟩ := hv
  constructor
  ·
   obtain ⟨g2, cap2, hv2, _, _, _, hcell⟩ := own_cells h (by omega)
   simp only [Value.slice.injEq, Option.some.injEq, Addr.mk.injEq] at hv2
   obtain ⟨⟨rfl, _⟩, _⟩ := hv2
   exact hcell t u hf
  ·
   simp [World.frozen?, hh]
theorem rd_holds {w : World} {g cap : Nat} {M : List FinT} (h : Sort.HoldsK finC 20 w g 0 M.toArray) (hg : g < w.heap.size) (hc : M.length ≤ cap) (hm : M.length ≤ 9223372036854775807) : Rd finC 20 w (.slice (some ⟨g, 0, none⟩) M.length cap) M := by
 refine ⟨_, cap, rfl, hc, hm, fun _ => ⟨g, 0, rfl, hg, fun i x j u hi hj => ?_⟩⟩
 have hi' := (List.getElem?_eq_some_iff.1 hi).1
 have hj' := (List.getElem?_eq_some_iff.1 hj).1
 rw [finC_len] at hj'
 have ht := (h (i * 20 + j) (by simp only [Sort.size_flatK, List.size_toArray]; omega)).1
 rw [Sort.get_flatK finC 20 M.toArray _ (by simp only [List.size_toArray]; omega), show (i * 20 + j) / 20 = i by omega, show (i * 20 + j) % 20 = j by omega, get_bang M hi] at ht
 rw [List.getElem!_eq_getElem?_getD, hj] at ht
 rw [Nat.add_assoc]
 exact ht
open Go.Sort in
theorem On.sorted {w x : World} {g n : Nat} {d : Array FinT} {os : Array Obj} (h : On w x) (hg : w.heap.size ≤ g) : On w (sortWorldK finC 20 x g 0 n d os) := by
 have e : ∀ j, j < x.heap.size → j ≠ g → (sortWorldK finC 20 x g 0 n d os).heap[j]? = x.heap[j]? := by
  intro j hj hne
  unfold sortWorldK grow putRowK putRow mapBlock
  simp only
  rw [Array.getElem?_append_left (by simpa [Sort.ahead] using hj)]
  simp only [Sort.ahead]
  rw [Array.getElem?_modify, if_neg (Ne.symm hne)]
 refine ⟨h.os, h.tape, h.output, ?_, fun j hj => ?_⟩
 ·
  have := size_sortWorldK_c finC 20 x g 0 n d os
  exact Nat.le_trans h.size this
 ·
  rw [e j (Nat.lt_of_lt_of_le hj h.size) (by omega)]
  exact h.block j hj
end
set_option maxRecDepth 8000 in
set_option maxHeartbeats 2000000 in
theorem minus_is (A B : List FinT) (a b : Option Addr) (c d : Nat) (w : World) (hA : Rd finC 20 w (.slice a A.length c) A) (hB : Rd finC 20 w (.slice b B.length d) B) (la : A.length ≤ 100000) (lb : B.length ≤ 100000) :
  Calls Tryz.prog 34 #[.slice a A.length c, .slice b B.length d] w fun e w' => ∃ (v : Value) (M : List FinT), e = .returned v ∧ On w w' ∧ Rd finC 20 w' v M ∧ Ris M ∧ M.length ≤ A.length ∧ ∀ x, x ∈ M ↔ x ∈ A ∧ x ∉ B := by
 have HA : Hid (Rd finC 20 w (.slice a A.length c) A) := hA
 have HB : Hid (Rd finC 20 w (.slice b B.length d) B) := hB
 have HO : Hid (On w (w.alloc (.map #[] 0))) := (On.refl w).alloc _
 have HS : Hid (FSet (w.alloc (.map #[] 0)) w.heap.size 0 []) := FSet.new w
 have LA : Hid (A.length ≤ 100000) := la
 have LB : Hid (B.length ≤ 100000) := lb
 have ma : A.length ≤ 9223372036854775807 := by omega
 have mb : B.length ≤ 9223372036854775807 := by omega
 have hmk := fun W => run_fmap (B.length : Int) W
 clear hA hB la lb
 go_enter Tryz.func34, Tryz.ntmps34
 go_wp2
 clear hmk
 go_loopg [18] B.length (fun gg s18 wq => ∃ n : Nat, n ≤ B.length ∧ gg = B.length - n ∧ s18 = .int .i64 n ∧ Hid (On w wq) ∧ Hid (FSet wq w.heap.size n (B.take n)))
 case atStart => exact ⟨0, Nat.zero_le _, rfl, rfl, HO, HS⟩
 case round =>
  clear HO HS
  obtain ⟨n, hn, hk, rfl, HO, HS⟩ := hrel
  rcases Nat.lt_or_ge n B.length with hlt | hge
  ·
   obtain ⟨f, hf⟩ : ∃ f, B[n]? = some f := ⟨_, List.getElem?_eq_getElem hlt⟩
   obtain ⟨g1, o1, rfl, hg1, hc⟩ := (HB.out.on HO.out).at hf
   have r1 : wr.rangeAt g1 (o1 + n * 20) (finC f) := hc
   have bn0 : (0 : Int) ≤ (n : Int) := by omega
   have bn1 : (n : Int) < (B.length : Int) := by omega
   have r2 := (Bk.new wr (finA f) 36).range
   have s2 := HS.out.alloc (.cells (finA f) 36)
   have hmx : n < 9223372036854775807 := by omega
   have ht : B.take n ++ [f] = B.take (n + 1) := by rw [List.take_add_one, hf]; rfl
   have hs := HO.out.size
   have HT : Hid (B.take n ++ [f] = B.take (n + 1)) := ht
   have HZ : Hid (w.heap.size ≤ w.heap.size) := Nat.le_refl _
   clear hc ht hf
   go_wp2_with (first | (refine wpList_fld rfl rfl rfl r1 ?_) | (refine wpList_fst rfl rfl rfl rfl rfl ?_) | (refine wpList_fld rfl rfl rfl r2 ?_) | (refine wpList_fput rfl rfl rfl s2 hmx rfl rfl ?_; intro w3 S3 T3))
   go_roundg (B.length - (n + 1))
   case measure => omega
   case rel => exact ⟨n + 1, by omega, rfl, by go_num, (HO.out.alloc _).turned T3 (Nat.le_refl _), by rw [← HT.out]; exact S3⟩
  ·
   obtain rfl : n = B.length := by omega
   have HSB : Hid (FSet wr w.heap.size B.length B) := by
    have := HS.out
    rwa [List.take_length] at this
   have HO2 : Hid (On w wr) := HO
   have HN : Hid (wr.ownsRow (w.heap.size + 1) 36 20 (.slice none 0 0) 0 []) := World.ownsRow_nil _ _ _ _
   clear HS HO
   go_wp2
   obtain ⟨wo, hwo⟩ : ∃ wo, wo = wr := ⟨_, rfl⟩
   subst hwo
   go_loopg [8, 28] A.length (fun gg s8 s28 wq => ∃ (n : Nat) (X : List FinT), n ≤ A.length ∧ gg = A.length - n ∧ s28 = .int .i64 n ∧ X.length ≤ n ∧ Hid (On w wq) ∧ Hid (FSet wq w.heap.size (B.length + X.length) (B ++ X)) ∧ Hid (wq.ownsRow (w.heap.size + 1) 36 20 s8 X.length (X.flatMap finC)) ∧ Hid X.Nodup ∧ Hid (∀ x, x ∈ X ↔ x ∈ A.take n ∧ x ∉ B))
   case atStart => exact ⟨0, [], Nat.zero_le _, rfl, rfl, Nat.le_refl _, HO2, by rw [List.append_nil]; exact HSB, HN, List.nodup_nil, fun x => by simp⟩
   case round =>
    clear HO2 HSB HN
    obtain ⟨n, X, hn, hk, rfl, hX, HO, HS, HN, HD, HM⟩ := hrel
    have hbX : X.length ≤ 100000 := by have := LA.out; omega
    have HbX : Hid (X.length ≤ 100000) := hbX
    have hlb := LB.out
    have hmx : B.length + X.length < 9223372036854775807 := by omega
    have HE : Hid (w.heap.size + 1 ≤ wr.heap.size) := by have := HS.out.lt; show _ ≤ _; omega
    clear hbX hlb
    rcases Nat.lt_or_ge n A.length with hlt | hge
    ·
     obtain ⟨f, hf⟩ : ∃ f, A[n]? = some f := ⟨_, List.getElem?_eq_getElem hlt⟩
     obtain ⟨g1, o1, rfl, hg1, hc⟩ := (HA.out.on HO.out).at hf
     have r1 : wr.rangeAt g1 (o1 + n * 20) (finC f) := hc
     have bn0 : (0 : Int) ≤ (n : Int) := by omega
     have bn1 : (n : Int) < (A.length : Int) := by omega
     have r2 := (Bk.new wr (finA f) 36).range
     have s2 := HS.out.alloc (.cells (finA f) 36)
     have HT : Hid (A.take (n + 1) = A.take n ++ [f]) := by show _ = _; rw [List.take_add_one, hf]; rfl
     clear hc hf
     by_cases hm : f ∈ B ++ X
     ·
      have hb : decide (f ∈ B ++ X) = true := decide_eq_true hm
      have HM2 : Hid (∀ x, x ∈ X ↔ x ∈ A.take (n + 1) ∧ x ∉ B) := by
       intro x
       rw [HT.out, HM.out x, List.mem_append]
       constructor
       ·
        rintro ⟨h1, h2⟩
        exact ⟨Or.inl h1, h2⟩
       ·
        rintro ⟨h1 | h1, h2⟩
        ·
         exact ⟨h1, h2⟩
        ·
         rw [List.mem_singleton] at h1
         subst h1
         rcases List.mem_append.1 hm with h3 | h3
         ·
          exact absurd h3 h2
         ·
          exact (HM.out x).1 h3
      clear hm HT HM
      go_wp2_with (first | (refine wpList_fld rfl rfl rfl r1 ?_) | (refine wpList_fst rfl rfl rfl rfl rfl ?_) | (refine wpList_fld rfl rfl rfl r2 ?_) | (refine wpList_flook rfl rfl rfl s2 rfl ?_; rw [hb]))
      go_roundg (A.length - (n + 1))
      case measure => omega
      case rel => exact ⟨n + 1, X, by omega, rfl, by go_num, by omega, (HO.out.alloc _).alloc _, (HS.out.alloc _).alloc _, (HN.out.alloc _).alloc _, HD, HM2⟩
     ·
      have hb : decide (f ∈ B ++ X) = false := decide_eq_false hm
      have HM2 : Hid (∀ x, x ∈ X ++ [f] ↔ x ∈ A.take (n + 1) ∧ x ∉ B) := by
       intro x
       rw [HT.out, List.mem_append, HM.out x, List.mem_append, List.mem_singleton]
       constructor
       ·
        rintro (⟨h1, h2⟩ | h1)
        ·
         exact ⟨Or.inl h1, h2⟩
        ·
         subst h1
         exact ⟨Or.inr rfl, fun h => hm (List.mem_append.2 (Or.inl h))⟩
       ·
        rintro ⟨h1 | h1, h2⟩
        ·
         exact Or.inl ⟨h1, h2⟩
        ·
         exact Or.inr h1
      have HD2 : Hid (X ++ [f]).Nodup := by
       refine List.nodup_append.2 ⟨HD.out, by simp, fun x hx y hy => ?_⟩
       rw [List.mem_singleton] at hy
       subst hy
       intro e
       subst e
       exact hm (List.mem_append.2 (Or.inr hx))
      have r3 := ((Bk.new wr (finA f) 36).alloc (.cells #[] 109)).range
      have B3 := (Bk.new wr (finA f) 36).alloc (.cells #[] 109)
      have HB3 : Hid (Bk ((wr.alloc (.cells (finA f) 36)).alloc (.cells #[] 109)) wr.heap.size (finA f)) := B3
      have s3 := s2.alloc (.cells #[] 109)
      have hlt1 : ∀ g, u8.ownBlock = some g → w.heap.size + 1 ≤ g := fun g hg => (HN.out.lt g hg).1
      have HL1 : Hid (∀ g, u8.ownBlock = some g → w.heap.size + 1 ≤ g) := hlt1
      have HN3 : Hid (((wr.alloc (.cells (finA f) 36)).alloc (.cells #[] 109)).ownsRow (w.heap.size + 1) 36 20 u8 X.length (X.flatMap finC)) := (HN.out.alloc _).alloc _
      have hne3 : wr.heap.size ≠ w.heap.size := by have := HE.out; omega
      have F4 : Hid (∀ w3, FSet w3 w.heap.size (B.length + X.length + 1) (B ++ X ++ [f]) → ((wr.alloc (.cells (finA f) 36)).alloc (.cells #[] 109)).mapTurned w3 w.heap.size → w3.rangeAt wr.heap.size 0 (finC f) ∧ (w3.alloc (.cells (finA f) 36)).ownsRow (w.heap.size + 1) 36 20 u8 X.length (X.flatMap finC) ∧ w.heap.size + 1 ≤ (w3.alloc (.cells (finA f) 36)).heap.size ∧ Hid (On w w3)) := by
       intro w3 S3 T3
       have K3 : Wa w.heap.size _ w3 := T3.grown
       refine ⟨(HB3.out.wa K3 hne3).range, (own_wa HN3.out K3 (by omega)).alloc _, ?_, ((HO.out.alloc _).alloc _).turned T3 (Nat.le_refl _)⟩
       have := S3.lt
       rw [World.size_alloc]
       omega
      have HL4 : Hid (X.length + [f].length ≤ 1000000) := by
       have := HbX.out
       show _ ≤ _
       simp only [List.length_cons, List.length_nil]
       omega
      clear hm HT HM HD B3 hlt1 HN3 HN hne3
      go_wp2_with (first | (refine wpList_fld rfl rfl rfl r1 ?_) | (refine wpList_fst rfl rfl rfl rfl rfl ?_) | (refine wpList_fld rfl rfl rfl r2 ?_) | (refine wpList_flook rfl rfl rfl s2 rfl ?_; rw [hb]) | (refine wpList_fld rfl rfl rfl r3 ?_) | (refine wpList_fput rfl rfl rfl s3 hmx rfl rfl ?_; intro w3 S3 T3; obtain ⟨r4, N4, hb4, HO3⟩ := F4.out w3 S3 T3) | (refine wpList_fld rfl rfl rfl r4 ?_) | (refine wpList_fslice rfl rfl rfl ?_) | (refine wpList_fapp rfl rfl rfl rfl N4 (rd_one (Bk.new w3 (finA f) 36)) HL4.out hb4 ?_; intro v5 w5 N5 G5))
      go_roundg (A.length - (n + 1))
      case measure => omega
      case rel =>
       have eL : B.length + (X ++ [f]).length = B.length + X.length + 1 := by simp; omega
       refine ⟨n + 1, X ++ [f], by omega, rfl, by go_num, by simp; omega, (HO3.out.alloc _).grown G5 (fun g hg => by have := HL1.out g hg; omega), ?_, N5, HD2, HM2⟩
       rw [eL, ← List.append_assoc]
       exact (S3.alloc _).grown G5 (fun e => by have := HL1.out w.heap.size e.symm; omega)
    ·
     obtain rfl : n = A.length := by omega
     have HM2 : Hid (∀ x, x ∈ X ↔ x ∈ A ∧ x ∉ B) := by
      have := HM.out
      rw [List.take_length] at this
      exact this
     clear HM
     rcases Nat.eq_zero_or_pos X.length with h0 | h0
     ·
      obtain rfl := List.eq_nil_of_length_eq_zero h0
      obtain ⟨a8, c8, rfl⟩ : ∃ a8 c8, u8 = .slice a8 0 c8 := by
       rcases HN.out.2 with ⟨hv, _⟩ | ⟨g, cap, cur, hv, _⟩
       ·
        exact ⟨_, _, hv⟩
       ·
        exact ⟨_, _, hv⟩
      have hZ := fun fv W => AnyF.slices_SortFunc_none Tryz.laysSort a8 c8 fv W
      have hZ2 : ∀ fv W, Calls Tryz.prog 51 #[.slice a8 0 c8, fv] W fun e w' => e = .returned (.tuple #[]) ∧ w' = W := hZ
      have HR : Hid (Rd finC 20 wr (.slice a8 0 c8) []) := Rd.own (L := ([] : List FinT)) finC_len HN.out
      clear hZ h0
      go_wp2_with fail
      refine (hZ2 _ _).mono ?_
      rintro _ _ ⟨rfl, rfl⟩
      go_wp2
      go_ret
      exact ⟨_, [], rfl, HO.out, HR.out, Ris.nil, Nat.zero_le _, HM2.out⟩
     ·
      obtain ⟨g8, c8, rfl, hc8, hb8, hg8, _⟩ := own_cells HN.out h0
      have inhF : Inhabited FinT := ⟨finZ⟩
      have hH := holds_own HN.out
      have hsz : X.toArray.size < 4611686018427387904 := by have := HbX.out; simp; omega
      have eg : ∀ args w, (callFunc 52 args).run Tryz.prog w = .ok (.enter 52 args) w := enters_of Tryz.func52 (by kernel_rfl) rfl
      have hT := AnyQ.slices_SortFunc_total Tryz.laysSort 20 Tryz.isAgg36 Tryz.sizeOf36 finC finC_len finC_one finCmp swo_fin 52 #[] g8 0 c8 X.toArray wr eg (cmpLays_fin g8 0 _ wr) hH hg8 hsz tot_fin
      have hT2 : Calls Tryz.prog 51 #[.slice (some ⟨g8, 0, none⟩) X.length c8, .func (.func 52) #[] #[]] wr fun e w' => e = .returned (.tuple #[]) ∧ ∃ n os, w' = sortWorldK finC 20 wr g8 0 n (X.mergeSort fun x y => !(ltOf finCmp) y x).toArray os := hT
      have HH : Hid (Sort.HoldsK finC 20 wr g8 0 X.toArray) := hH
      clear hT hH hsz eg h0
      go_wp2_with fail
      refine hT2.mono ?_
      rintro _ w9 ⟨rfl, n9, os9, hw9⟩
      have eM : (X.mergeSort fun x y => !(ltOf finCmp) y x).length = X.length := List.length_mergeSort X
      have HR : Hid (Rd finC 20 w9 (.slice (some ⟨g8, 0, none⟩) (X.mergeSort fun x y => !(ltOf finCmp) y x).length c8) (X.mergeSort fun x y => !(ltOf finCmp) y x)) := by
       refine rd_holds ?_ ?_ (by rw [eM]; exact hc8) (by rw [eM]; have := HbX.out; omega)
       ·
        rw [hw9]
        exact holdsK_sortWorldK_c finC 20 wr g8 0 X.toArray _ n9 os9 HH.out hg8 (by simp [eM])
       ·
        rw [hw9]
        exact Nat.lt_of_lt_of_le hg8 (size_sortWorldK_c finC 20 wr g8 0 n9 _ os9)
      rw [eM] at HR
      have HO9 : Hid (On w w9) := by
       show On w w9
       rw [hw9]
       exact HO.out.sorted (by omega)
      clear hw9
      go_wp2
      go_ret
      exact ⟨_, _, rfl, HO9.out, HR.out, ris_sort X HD.out, by rw [eM]; exact hX, fun x => by rw [List.mem_mergeSort]; exact HM2.out x⟩
set_option maxHeartbeats 1000000 in
theorem fsort_is (A : List FinT) (a : Option Addr) (c : Nat) (w : World) (hA : Rd finC 20 w (.slice a A.length c) A) (la : A.length ≤ 100000) :
  Calls Tryz.prog 19 #[.slice a A.length c] w fun e w' => ∃ (v : Value) (M : List FinT), e = .returned v ∧ On w w' ∧ Rd finC 20 w' v M ∧ Ris M ∧ M.length ≤ A.length ∧ ∀ x, x ∈ M ↔ x ∈ A := by
 have hM : Calls Tryz.prog 34 #[.slice a A.length c, .slice none 0 0] w fun e w' => ∃ (v : Value) (M : List FinT), e = .returned v ∧ On w w' ∧ Rd finC 20 w' v M ∧ Ris M ∧ M.length ≤ A.length ∧ ∀ x, x ∈ M ↔ x ∈ A := by
  refine (minus_is A [] a none c 0 w hA (Rd.nil _ _ _) la (by simp)).mono ?_
  rintro e w' ⟨v, M, he, h1, h2, h3, h4, h5⟩
  exact ⟨v, M, he, h1, h2, h3, h4, fun x => by rw [h5]; simp⟩
 clear hA la
 go_enter Tryz.func19, Tryz.ntmps19
 go_wp2_with fail
 refine hM.mono ?_
 rintro _ w1 ⟨v, M, rfl, h1, h2, h3, h4, h5⟩
 go_wp2
 go_ret
 exact ⟨v, M, rfl, h1, h2, h3, h4, h5⟩
end Go.Proofs.YtioiabfheeglgaaGreatDoor

namespace Go.Proofs.YtioiabfheeglgaaGreatDoor

theorem nDigits_le : ∀ (k u : Nat), u < 10 ^ (k + 1) → Lib.nDigits u ≤ k + 1
 | 0, u, h => by rw [Lib.nDigits_small (by simpa using h)]; exact Nat.le_refl _
 | k + 1, u, h => by
  by_cases hs : u < 10
  ·
   rw [Lib.nDigits_small hs]; omega
  ·
   rw [Lib.nDigits_big hs]
   have := nDigits_le k (u / 10) (by rw [Nat.pow_succ] at h; omega)
   omega

theorem digits_head (u : Nat) : ∃ d r, Lib.decDigits u = d :: r ∧ 48 ≤ d.toNat ∧ d.toNat ≤ 57 ∧ (10 ≤ u → r ≠ []) := by
 induction u using Nat.strongRecOn with
 | _ u ih =>
  by_cases h : u < 10
  ·
   refine ⟨_, [], Lib.decDigits_one h, ?_, ?_, fun h' => by omega⟩
   ·
    rw [UInt8.toNat_ofNat']; omega
   ·
    rw [UInt8.toNat_ofNat']; omega
  ·
   obtain ⟨d, r, e, h1, h2, _⟩ := ih (u / 10) (by omega)
   refine ⟨d, r ++ [UInt8.ofNat (48 + u % 10)], ?_, h1, h2, fun _ => by simp⟩
   rw [Lib.decDigits, dif_neg h, e]; rfl

/-- What NumLess asks of a number's text. -/
theorem itoa_shape (a : Int) (h0 : -9223372036854775808 ≤ a) (h1 : a ≤ 9223372036854775807) :
  1 ≤ (Lib.itoa a).length ∧ (Lib.itoa a).length ≤ 20 ∧ (a < 0 → (Lib.itoa a).head? = some 45 ∧ (Lib.itoa a).length ≠ 1)
   ∧ (0 ≤ a → ∃ d, (Lib.itoa a).head? = some d ∧ 48 ≤ d.toNat ∧ d.toNat ≤ 57) ∧ (0 ≤ a → a < 10 → (Lib.itoa a).length = 1) ∧ (10 ≤ a → (Lib.itoa a).length ≠ 1) ∧ (a = 0 → Lib.itoa a = [48]) := by
 by_cases hn : a < 0
 ·
  have e : Lib.itoa a = 45 :: Lib.decDigits a.natAbs := by unfold Lib.itoa; rw [if_pos hn]
  have hl := Lib.decDigits_length a.natAbs
  have hp := Lib.nDigits_pos a.natAbs
  have hle := nDigits_le 18 a.natAbs (by omega)
  rw [e]
  refine ⟨by simp, by rw [List.length_cons]; omega, fun _ => ⟨rfl, by rw [List.length_cons]; omega⟩, by omega, by omega, by omega, by omega⟩
 ·
  have e : Lib.itoa a = Lib.decDigits a.toNat := by unfold Lib.itoa; rw [if_neg hn]
  have hl := Lib.decDigits_length a.toNat
  have hp := Lib.nDigits_pos a.toNat
  have hle := nDigits_le 18 a.toNat (by omega)
  obtain ⟨d, r, ed, b1, b2, _⟩ := digits_head a.toNat
  rw [e]
  refine ⟨by omega, by omega, by omega, fun _ => ⟨d, by rw [ed]; rfl, b1, b2⟩, fun _ h => ?_, fun h => ?_, fun h => ?_⟩
  ·
   rw [hl, Lib.nDigits_small (by omega)]
  ·
   rw [hl, Lib.nDigits_big (by omega)]
   have := Lib.nDigits_pos (a.toNat / 10)
   omega
  ·
   subst h; simp [Lib.decDigits]
end Go.Proofs.YtioiabfheeglgaaGreatDoor

namespace Go.Proofs.YtioiabfheeglgaaGreatDoor

theorem dig_toNat (u : Nat) (h : u < 10) : (UInt8.ofNat (48 + u)).toNat = 48 + u := by rw [UInt8.toNat_ofNat']; omega
theorem dig_of {c : UInt8} (h1 : 48 ≤ c.toNat) (h2 : c.toNat ≤ 57) : UInt8.ofNat (48 + (c.toNat - 48)) = c := by
 apply UInt8.toNat_inj.1
 rw [dig_toNat _ (by omega)]
 omega
theorem digitVal_dig (u : Nat) (h : u < 10) : Lib.digitVal (UInt8.ofNat (48 + u)) = some u := by
 unfold Lib.digitVal
 rw [dig_toNat u h, if_pos (by omega)]
 congr 1
 omega

theorem decFrom_snoc (l : List UInt8) (c : UInt8) : ∀ acc, Lib.decFrom acc (l ++ [c]) = (Lib.decFrom acc l).bind fun n => (Lib.digitVal c).map fun d => n * 10 + d := by
 induction l with
 | nil =>
  intro acc
  simp only [List.nil_append, Lib.decFrom, Option.bind_some]
  cases Lib.digitVal c <;> rfl
 | cons a r ih =>
  intro acc
  simp only [List.cons_append, Lib.decFrom]
  cases Lib.digitVal a with
  | none => rfl
  | some d => exact ih _

theorem parseUintM_snoc (M : Nat) (l : List UInt8) (c : UInt8) : ∀ acc, Lib.parseUintM M acc (l ++ [c]) = match Lib.parseUintM M acc l with
  | .ok a => Lib.parseUintM M a [c]
  | e => e := by
 induction l with
 | nil => intro acc; simp only [List.nil_append, Lib.parseUintM]
 | cons a r ih =>
  intro acc
  simp only [List.cons_append]
  rw [Lib.parseUintM, Lib.parseUintM]
  by_cases h1 : 48 ≤ a.toNat ∧ a.toNat ≤ 57
  ·
   simp only [h1, and_self, if_true]
   by_cases h2 : 1844674407370955162 ≤ acc
   ·
    simp only [h2, if_true]
   ·
    simp only [h2, if_false]
    by_cases h3 : M < acc * 10 + (a.toNat - 48)
    ·
     simp only [h3, if_true]
    ·
     simp only [h3, if_false]
     exact ih _
  ·
   simp only [h1, if_false]

/-- A number's digits spell it. -/
theorem decFrom_digits (u : Nat) : Lib.decFrom 0 (Lib.decDigits u) = some u := by
 induction u using Nat.strongRecOn with
 | _ u ih =>
  by_cases h : u < 10
  ·
   rw [Lib.decDigits_one h]
   simp only [Lib.decFrom, digitVal_dig u h, Nat.zero_mul, Nat.zero_add]
  ·
   rw [Lib.decDigits, dif_neg h, decFrom_snoc, ih (u / 10) (by omega), digitVal_dig _ (by omega)]
   simp only [Option.map_some, Option.bind_some, Option.some.injEq]
   omega

theorem parseUintM_digits (M : Nat) (hM : M < 18446744073709551616) (u : Nat) (hu : u ≤ M) : Lib.parseUintM M 0 (Lib.decDigits u) = .ok u := by
 induction u using Nat.strongRecOn with
 | _ u ih =>
  by_cases h : u < 10
  ·
   rw [Lib.decDigits_one h, Lib.parseUintM, dig_toNat u h]
   simp only [Lib.parseUintM]
   rw [if_pos (by omega), if_neg (by omega), if_neg (by omega)]
   congr 1
   omega
  ·
   rw [Lib.decDigits, dif_neg h, parseUintM_snoc, ih (u / 10) (by omega) (by omega)]
   simp only [Lib.parseUintM]
   rw [dig_toNat _ (by omega), if_pos (by omega), if_neg (by omega), if_neg (by omega)]
   congr 1
   omega

/-- A number's numeral is read back. -/
theorem parse_itoa (v : Int) (h0 : -9223372036854775808 ≤ v) (h1 : v ≤ 9223372036854775807) : Lib.parseIntB 64 (Lib.itoa v) = .ok v := by
 by_cases hn : v < 0
 ·
  have e : Lib.itoa v = 45 :: Lib.decDigits v.natAbs := by unfold Lib.itoa; rw [if_pos hn]
  obtain ⟨d, r, ed, _⟩ := digits_head v.natAbs
  have hp := parseUintM_digits 18446744073709551615 (by omega) v.natAbs (by omega)
  have hB : Lib.parseUintB 64 (Lib.decDigits v.natAbs) = .ok v.natAbs := by
   unfold Lib.parseUintB
   rw [if_neg (by rw [ed]; simp)]
   exact hp
  rw [e]
  unfold Lib.parseIntB
  simp only [show ((45 : UInt8).toNat = 45) = True from by decide, or_true, if_true, hB, not_true, false_and, if_false, true_and]
  rw [if_neg (by omega)]
  congr 1
  omega
 ·
  have e : Lib.itoa v = Lib.decDigits v.toNat := by unfold Lib.itoa; rw [if_neg hn]
  obtain ⟨d, r, ed, b1, b2, _⟩ := digits_head v.toNat
  have hp := parseUintM_digits 18446744073709551615 (by omega) v.toNat (by omega)
  have hB : Lib.parseUintB 64 (d :: r) = .ok v.toNat := by
   unfold Lib.parseUintB
   rw [if_neg (by simp), ← ed]
   exact hp
  rw [e, ed]
  unfold Lib.parseIntB
  have g1 : ¬ d.toNat = 43 := by omega
  have g2 : ¬ d.toNat = 45 := by omega
  simp only [g1, g2, or_self, if_false, hB, not_false_eq_true, true_and, false_and]
  rw [if_neg (by omega)]
  congr 1
  omega

/-- The leading digit of a number that is not nought is not nought. -/
theorem digits_lead (u : Nat) (h : 1 ≤ u) : ∃ d r, Lib.decDigits u = d :: r ∧ 49 ≤ d.toNat ∧ d.toNat ≤ 57 := by
 induction u using Nat.strongRecOn with
 | _ u ih =>
  by_cases hs : u < 10
  ·
   exact ⟨_, [], Lib.decDigits_one hs, by rw [dig_toNat u hs]; omega, by rw [dig_toNat u hs]; omega⟩
  ·
   obtain ⟨d, r, e, b1, b2⟩ := ih (u / 10) (by omega) (by omega)
   exact ⟨d, r ++ [UInt8.ofNat (48 + u % 10)], by rw [Lib.decDigits, dif_neg hs, e]; rfl, b1, b2⟩

/-- Digits without a nought ahead are their number's numeral, and it is not nought. -/
theorem digits_of (n : Nat) : ∀ (l : List UInt8) (u : Nat), l.length = n + 1 → Lib.decFrom 0 l = some u → (∀ c r, l = c :: r → c.toNat ≠ 48) → Lib.decDigits u = l ∧ 1 ≤ u := by
 induction n with
 | zero =>
  intro l u hl h hc
  match l, hl with
  | [c], _ =>
   have h48 := hc c [] rfl
   simp only [Lib.decFrom] at h
   cases hd : Lib.digitVal c with
   | none => rw [hd] at h; cases h
   | some d =>
    rw [hd] at h
    simp only [Option.some.injEq, Nat.zero_mul, Nat.zero_add] at h
    unfold Lib.digitVal at hd
    split at hd
    ·
     rename_i hb
     obtain rfl := Option.some.inj hd
     subst h
     refine ⟨?_, by omega⟩
     rw [Lib.decDigits_one (by omega), dig_of hb.1 hb.2]
    ·
     cases hd
 | succ n ih =>
  intro l u hl h hc
  obtain ⟨l', c, rfl⟩ : ∃ l' c, l = l' ++ [c] := ⟨l.dropLast, l.getLast (by intro e; simp [e] at hl), (List.dropLast_concat_getLast _).symm⟩
  have hl' : l'.length = n + 1 := by simpa using hl
  rw [decFrom_snoc] at h
  cases h' : Lib.decFrom 0 l' with
  | none => rw [h'] at h; cases h
  | some m =>
   rw [h'] at h
   simp only [Option.bind_some] at h
   obtain ⟨e, hm⟩ := ih l' m hl' h' (fun a r hh => hc a (r ++ [c]) (by rw [hh]; rfl))
   cases hd : Lib.digitVal c with
   | none => rw [hd] at h; cases h
   | some d =>
    rw [hd] at h
    simp only [Option.map_some, Option.some.injEq] at h
    unfold Lib.digitVal at hd
    split at hd
    ·
     rename_i hb
     obtain rfl := Option.some.inj hd
     subst h
     refine ⟨?_, by omega⟩
     rw [Lib.decDigits, dif_neg (by omega), show (m * 10 + (c.toNat - 48)) / 10 = m by omega, show (m * 10 + (c.toNat - 48)) % 10 = c.toNat - 48 by omega, e, dig_of hb.1 hb.2]
    ·
     cases hd

/-- No numeral has a nought ahead. -/
theorem itoa_lead (v : Int) (r : List UInt8) (h : Lib.itoa v = 48 :: r) : r = [] := by
 by_cases hn : v < 0
 ·
  unfold Lib.itoa at h
  rw [if_pos hn] at h
  simp at h
 ·
  unfold Lib.itoa at h
  rw [if_neg hn] at h
  by_cases h0 : v.toNat = 0
  ·
   rw [h0, Lib.decDigits_one (by omega)] at h
   simpa using h.symm
  ·
   obtain ⟨d, r', e, b1, _⟩ := digits_lead v.toNat (by omega)
   rw [e] at h
   obtain ⟨rfl, _⟩ := List.cons.inj h
   simp at b1
theorem itoa_minus (v : Int) (r : List UInt8) : Lib.itoa v ≠ 45 :: 48 :: r := by
 intro h
 by_cases hn : v < 0
 ·
  unfold Lib.itoa at h
  rw [if_pos hn] at h
  obtain ⟨d, r', e, b1, _⟩ := digits_lead v.natAbs (by omega)
  rw [e] at h
  simp only [List.cons.injEq, true_and] at h
  rw [h.1] at b1
  simp at b1
 ·
  unfold Lib.itoa at h
  rw [if_neg hn] at h
  obtain ⟨d, r', e, b1, b2, _⟩ := digits_head v.toNat
  rw [e] at h
  obtain ⟨rfl, _⟩ := List.cons.inj h
  simp at b1
end Go.Proofs.YtioiabfheeglgaaGreatDoor

namespace Go.Proofs.YtioiabfheeglgaaGreatDoor

/-- A text, and behind it, parted by a blank, a name and its number. -/
def partT (s name : List UInt8) (n : Int) : List UInt8 := (if s.length = 0 then s else s ++ [32]) ++ name ++ [61] ++ Lib.itoa n
def nameT (t r : Nat) : List UInt8 := Lib.itoa (t : Int) ++ [58, 114] ++ Lib.itoa (r : Int)
/-- The names of T threads' registers and of some locations, each with its number's place. -/
def partsT (T : Nat) (L : List UInt8) : List (List UInt8 × Nat) := (List.range (T * 4)).map (fun k => (nameT (k / 4) (k % 4), k)) ++ L.zipIdx.map (fun x => ([x.1], 16 + x.2))
def foldT (f : FinT) (ps : List (List UInt8 × Nat)) : List UInt8 := ps.foldl (fun s p => partT s p.1 (f.l.getD p.2 0)) []
def finTx (T : Nat) (L : List UInt8) (f : FinT) : List UInt8 := foldT f (partsT T L)
theorem foldT_snoc (f : FinT) (ps : List (List UInt8 × Nat)) (p : List UInt8 × Nat) : foldT f (ps ++ [p]) = partT (foldT f ps) p.1 (f.l.getD p.2 0) := by
 unfold foldT
 rw [List.foldl_append]
 rfl
theorem foldT_take (f : FinT) (ps : List (List UInt8 × Nat)) {k : Nat} {p : List UInt8 × Nat} (h : ps[k]? = some p) : foldT f (ps.take (k + 1)) = partT (foldT f (ps.take k)) p.1 (f.l.getD p.2 0) := by
 rw [List.take_add_one, h]
 exact foldT_snoc f _ p
theorem partsT_len (T : Nat) (L : List UInt8) : (partsT T L).length = T * 4 + L.length := by simp [partsT]
theorem partsT_reg (T : Nat) (L : List UInt8) {t r : Nat} (ht : t < T) (hr : r < 4) : (partsT T L)[t * 4 + r]? = some (nameT t r, t * 4 + r) := by
 unfold partsT
 rw [List.getElem?_append_left (by simp; omega), List.getElem?_map, List.getElem?_range (by omega)]
 simp only [Option.map_some, Option.some.injEq, Prod.mk.injEq, and_true]
 rw [show (t * 4 + r) / 4 = t by omega, show (t * 4 + r) % 4 = r by omega]
theorem partsT_loc (T : Nat) (L : List UInt8) {c : Nat} {x : UInt8} (h : L[c]? = some x) : (partsT T L)[T * 4 + c]? = some ([x], 16 + c) := by
 unfold partsT
 rw [List.getElem?_append_right (by simp), List.getElem?_map, List.length_map, List.length_range, show T * 4 + c - T * 4 = c by omega, List.getElem?_zipIdx, h]
 simp
theorem getD_in (f : FinT) (k : Nat) : -9223372036854775808 ≤ f.l.getD k 0 ∧ f.l.getD k 0 ≤ 9223372036854775807 := by
 rw [List.getD_eq_getElem?_getD]
 cases h : f.l[k]? with
 | none => simp
 | some x => exact f.b x (List.mem_of_getElem? h)
theorem itoa_len (f : FinT) (k : Nat) : (Lib.itoa (f.l.getD k 0)).length ≤ 20 := (itoa_shape _ (getD_in f k).1 (getD_in f k).2).2.1
theorem digit_len {k : Nat} (h : k < 4) : (Lib.itoa (k : Int)).length = 1 := (itoa_shape (k : Int) (by omega) (by omega)).2.2.2.2.1 (by omega) (by omega)
theorem nameT_len {t r : Nat} (ht : t < 4) (hr : r < 4) : (nameT t r).length = 4 := by
 unfold nameT
 simp [digit_len ht, digit_len hr]
theorem partT_len (s name : List UInt8) (n : Int) : (partT s name n).length ≤ s.length + name.length + (Lib.itoa n).length + 2 := by
 unfold partT
 split <;> simp <;> omega
theorem parts_short {T : Nat} {L : List UInt8} (hT : T ≤ 4) : ∀ p ∈ partsT T L, p.1.length ≤ 4 := by
 intro p hp
 unfold partsT at hp
 rcases List.mem_append.1 hp with h | h
 ·
  obtain ⟨k, hk, rfl⟩ := List.mem_map.1 h
  rw [nameT_len (by have := List.mem_range.1 hk; omega) (by omega)]
  omega
 ·
  obtain ⟨x, _, rfl⟩ := List.mem_map.1 h
  simp
theorem foldT_from (f : FinT) : ∀ (ps : List (List UInt8 × Nat)) (s : List UInt8), (∀ p ∈ ps, p.1.length ≤ 4) → (ps.foldl (fun s p => partT s p.1 (f.l.getD p.2 0)) s).length ≤ s.length + ps.length * 26
 | [], s, _ => by simp
 | p :: ps, s, h => by
  rw [List.foldl_cons]
  have h1 := partT_len s p.1 (f.l.getD p.2 0)
  have h2 := foldT_from f ps (partT s p.1 (f.l.getD p.2 0)) (fun q hq => h q (List.mem_cons_of_mem _ hq))
  have h3 := h p List.mem_cons_self
  have h4 := itoa_len f p.2
  rw [List.length_cons]
  omega
theorem foldT_len (f : FinT) (ps : List (List UInt8 × Nat)) (h : ∀ p ∈ ps, p.1.length ≤ 4) : (foldT f ps).length ≤ ps.length * 26 := by
 have := foldT_from f ps [] h
 rw [List.length_nil, Nat.zero_add] at this
 exact this
theorem foldT_bound (f : FinT) {T : Nat} {L : List UInt8} (hT : T ≤ 4) (hL : L.length ≤ 4) (k : Nat) : (foldT f ((partsT T L).take k)).length ≤ 520 := by
 have h := foldT_len f ((partsT T L).take k) (fun p hp => parts_short hT p (List.mem_of_mem_take hp))
 have h2 : ((partsT T L).take k).length ≤ 20 := by
  rw [List.length_take, partsT_len]
  omega
 omega
end Go.Proofs.YtioiabfheeglgaaGreatDoor
