/- The document's Check is the program's, in plain Lean: letters by marks and letters by bits. -/
import Derived.Test.YtmnpcbcnjnklnaaGreatDoorWlRChkB
import Derived.Test.YtmnpcbcnjnklnaaGreatDoorJ43WlRiseW
namespace Go.Proofs.YtmnpcbcnjnklnaaGreatDoor.Wl
open Go.RowKit

def fairL (l : Int) : Prop := l = 0 ∨ (97 ≤ l ∧ l ≤ 122)
theorem fair_loc {l : Int} (h : locOk l = true) : fairL l := by
  unfold locOk at h
  simp only [Bool.and_eq_true, decide_eq_true_eq] at h
  exact Or.inr h
theorem fair_zero {l : Int} (h : (l == 0) = true) : fairL l := Or.inl (by simpa using h)
theorem fair_ins (x : InsT) (h : insOk x = true) : fairL x.l := by
  unfold insOk at h
  split at h
  · simp only [Bool.and_eq_true] at h; exact fair_loc h.1.2
  · split at h
    · simp only [Bool.and_eq_true] at h; exact fair_loc h.2
    · split at h
      · simp only [Bool.and_eq_true] at h; exact fair_zero h.1.1.1.1.1.1.2
      · split at h
        · simp only [Bool.and_eq_true] at h; exact fair_loc h.1.1.2
        · split at h
          · simp only [Bool.and_eq_true] at h; exact fair_zero h.1.1.1.1
          · split at h
            · simp only [Bool.and_eq_true] at h; exact fair_zero h.1.1.1.1.2
            · cases h
theorem fair_atom (x : AtomT) (h : atomOk x = true) : fairL x.l := by
  unfold atomOk at h
  split at h
  · simp only [Bool.and_eq_true] at h; exact fair_loc h.2
  · simp only [Bool.and_eq_true] at h; exact fair_zero h.1.1.1
theorem fair_all (t : TestT) (h : testOk t = true) : ∀ l ∈ allLs t, fairL l := by
  unfold testOk at h
  simp only [Bool.and_eq_true] at h
  obtain ⟨⟨⟨_, hi⟩, ht⟩, hc⟩ := h
  intro l hl
  unfold allLs at hl
  rw [List.append_nil, List.mem_append, List.mem_append] at hl
  rcases hl with hl | hl | hl
  · obtain ⟨x, hx, rfl⟩ := List.mem_map.1 hl
    exact fair_loc (List.all_eq_true.1 hi x hx)
  · obtain ⟨L, hL, hl⟩ := List.mem_flatMap.1 hl
    obtain ⟨x, hx, rfl⟩ := List.mem_map.1 hl
    exact fair_ins x (List.all_eq_true.1 (List.all_eq_true.1 ht L hL) x hx)
  · obtain ⟨L, hL, hl⟩ := List.mem_flatMap.1 hl
    obtain ⟨x, hx, rfl⟩ := List.mem_map.1 hl
    unfold condOk at hc
    split at hc
    · have : t.cond.any.length = 0 := by simpa using hc
      have : t.cond.any = [] := List.eq_nil_of_length_eq_zero this
      rw [this] at hL
      cases hL
    · split at hc
      · simp only [Bool.and_eq_true] at hc
        have := List.all_eq_true.1 hc.2 L hL
        unfold rowOk at this
        simp only [Bool.and_eq_true] at this
        exact fair_atom x (List.all_eq_true.1 this.2 x hx)
      · cases hc
theorem mark_bits : ∀ (L : List Int) (f : Nat → Bool) (n : Nat), (∀ l ∈ L, fairL l) → (∀ i, i < 26 → f (97 + i) = n.testBit i) → ∀ i, i < 26 → markI L f (97 + i) = (L.foldl withL n).testBit i
  | [], _, _, _, h, i, hi => h i hi
  | l :: L, f, n, hf, h, i, hi => by
    rw [markI, List.foldl_cons, List.foldl_cons]
    refine mark_bits L (upd f (idxL l)) (withL n l) (fun x hx => hf x (List.mem_cons_of_mem _ hx)) (fun j hj => ?_) i hi
    rcases hf l (List.mem_cons_self ..) with rfl | ⟨h0, h1⟩
    · have e1 : withL n 0 = n := by unfold withL; rw [if_neg (by omega)]
      have e2 : upd f (idxL 0) (97 + j) = f (97 + j) := by
        unfold upd
        rw [if_neg]
        have : idxL 0 = 0 := by decide
        omega
      rw [e1, e2]
      exact h j hj
    · have e1 : withL n l = n ||| 2 ^ (l - 97).toNat := by unfold withL; rw [if_pos ⟨h0, h1⟩]
      have e2 : idxL l = l.toNat := by unfold idxL; omega
      rw [e1, e2, Nat.testBit_or, Nat.testBit_two_pow]
      unfold upd
      by_cases hj2 : 97 + j = l.toNat
      · rw [if_pos hj2, decide_eq_true (show (l - 97).toNat = j by omega), Bool.or_true]
      · rw [if_neg hj2, decide_eq_false (show ¬ (l - 97).toNat = j by omega), Bool.or_false]
        exact h j hj
theorem fold_map {α : Type} (f : α → Int) : ∀ (L : List α) (n : Nat), L.foldl (fun n x => withL n (f x)) n = (L.map f).foldl withL n
  | [], _ => rfl
  | _ :: L, _ => fold_map f L _
theorem fold_thr : ∀ (LL : List (List InsT)) (n : Nat), locThr n LL = (LL.flatMap insLs).foldl withL n
  | [], _ => rfl
  | L :: LL, n => by
    rw [locThr, List.foldl_cons, List.flatMap_cons, List.foldl_append]
    exact (fold_thr LL _).trans (by rw [locRow, fold_map InsT.l]; rfl)
theorem fold_any : ∀ (LL : List (List AtomT)) (n : Nat), locAny n LL = (LL.flatMap atmLs).foldl withL n
  | [], _ => rfl
  | L :: LL, n => by
    rw [locAny, List.foldl_cons, List.flatMap_cons, List.foldl_append]
    exact (fold_any LL _).trans (by rw [locAts, fold_map AtomT.l]; rfl)
theorem locs_fold (t : TestT) : locsN t = (allLs t).foldl withL 0 := by
  unfold locsN allLs
  rw [List.append_nil, List.foldl_append, List.foldl_append, fold_any, fold_thr, locIni, fold_map InitT.l]
/-- The document's letters are the program's. -/
theorem out_letters (t : TestT) (h : testOk t = true) : outTo (markI (allLs t) (fun _ => false)) 123 = lettersN (locsN t) := by
  have hm := mark_bits (allLs t) (fun _ => false) 0 (fair_all t h) (fun i _ => (Nat.zero_testBit i).symm)
  rw [← locs_fold] at hm
  unfold outTo lettersN
  show ((List.range 26).filter _).map _ = _
  congr 1
  apply List.filter_congr
  intro i hi
  exact hm i (by simpa using hi)
theorem rlen_cnt (t : TestT) (h : testOk t = true) : rlen t = cntN (locsN t) := by
  unfold rlen
  rw [out_letters t h]
  unfold lettersN cntN
  rw [List.length_map]
theorem tw_from : ∀ (R : List InitT) (S : List Int) (n : Nat), (∀ x ∈ R, initOk x = true) → (∀ l, 97 ≤ l → l ≤ 122 → n.testBit (l - 97).toNat = S.any (fun y => y == l)) → twF S R = twiceFrom n R
  | [], _, _, _, _ => rfl
  | x :: R, S, n, hR, hS => by
    have hx := hR x (List.mem_cons_self ..)
    unfold initOk locOk at hx
    simp only [Bool.and_eq_true, decide_eq_true_eq] at hx
    have hb := hS x.l hx.1 hx.2
    have e1 : withL n x.l = n ||| 2 ^ (x.l - 97).toNat := by unfold withL; rw [if_pos hx]
    unfold twF twiceFrom
    cases hc : S.any (fun y => y == x.l) with
    | true =>
      rw [hc] at hb
      have : withL n x.l = n := by
        rw [e1]
        apply Nat.eq_of_testBit_eq
        intro i
        rw [Nat.testBit_or, Nat.testBit_two_pow]
        by_cases hi : (x.l - 97).toNat = i
        · rw [← hi, hb]; rfl
        · rw [decide_eq_false hi, Bool.or_false]
      rw [this]
      simp
    | false =>
      rw [hc] at hb
      have : (withL n x.l == n) = false := by
        rw [beq_eq_false_iff_ne]
        intro he
        have := congrArg (fun m => m.testBit (x.l - 97).toNat) he
        rw [e1] at this
        simp only [Nat.testBit_or, Nat.testBit_two_pow_self, Bool.or_true] at this
        rw [hb] at this
        cases this
      rw [this, Bool.false_or, if_neg (by decide)]
      refine tw_from R (S ++ [x.l]) (withL n x.l) (fun y hy => hR y (List.mem_cons_of_mem _ hy)) (fun l h0 h1 => ?_)
      rw [e1, Nat.testBit_or, Nat.testBit_two_pow, hS l h0 h1, List.any_append]
      congr 1
      simp only [List.any_cons, List.any_nil, Bool.or_false]
      rw [Bool.eq_iff_iff]
      simp
      omega
theorem sum_min : ∀ (LL : List (List InsT)) (n : Nat), (∀ L ∈ LL, L.length ≤ 10) → sumM n LL = LL.foldl (fun n L => n + L.length) n
  | [], _, _ => rfl
  | L :: LL, n, h => by
    have h1 := h L (List.mem_cons_self ..)
    rw [sumM, List.foldl_cons, List.foldl_cons, show min L.length 100 = L.length by omega]
    exact sum_min LL _ (fun M hM => h M (List.mem_cons_of_mem _ hM))
theorem big_same (t : TestT) (h : testOk t = true) (p1 : ¬ t.thr.length < 1) (p2 : ¬ 4 < t.thr.length) (p3 : ¬ 20 < t.name.size) (p4 : ¬ 8 < t.cond.any.length) (p5 : ¬ 4 < rlen t) : bigR t.thr t.cond.any = bigT t := by
  rw [rlen_cnt t h] at p5
  unfold bigT thrBig condBig bigR
  rw [decide_eq_false p3, decide_eq_false p2, decide_eq_false p5, decide_eq_false p4, show (t.thr.length == 0) = false by simpa using (by intro h0; rw [h0] at p1; simp at p1 : t.thr ≠ [])]
  simp only [Bool.false_or, Bool.or_false]
  cases hb : t.thr.any (fun L => decide (10 < L.length)) with
  | true => simp
  | false =>
    have : sumM 0 t.thr = sumL t.thr := sum_min t.thr 0 (fun L hL => by
      have := List.any_eq_false.1 hb L hL
      simpa using this)
    rw [this, Bool.false_or, Bool.or_comm]
    rfl
set_option maxHeartbeats 4000000 in
set_option maxRecDepth 8000 in
theorem rbad (t : TestT) (v : Value) (w : World) (h : TestRd w v t) (htest : testOk t = false) :
    Calls Tryz.prog 11 #[v] w fun e w' => e = .returned (.int .i64 1) ∧ On w w' := by
  obtain ⟨a1, c1, a2, c2, a3, c3, rfl, hnm, r1, r2, r3⟩ := h.ex
  have hTO := fun (W : World) (k : On w W) => rtestOk_is t _ W (h.on k)
  rw [htest] at hTO
  clear h htest r1 r2 r3 hnm
  generalize t.name = nm at *
  generalize t.cond.k = kk at *
  generalize t.ini.length = n1 at *
  generalize t.thr.length = n2 at *
  generalize t.cond.any.length = n3 at *
  go_enter Tryz.func11, Tryz.ntmps11
  go_wp2_with fail
  go_at_call 33
  refine (hTO _ ((On.refl w).alloc _)).mono ?_
  rintro e w2 ⟨rfl, k2⟩
  have HO : Hid (On w w2) := ((On.refl w).alloc _).trans k2
  go_wp2
  go_ret
  exact ⟨rfl, HO.out⟩
/-- The document's Check of every test that lies in memory. -/
theorem rcheck_is (t : TestT) (v : Value) (w : World) (h : TestRd w v t) :
    Calls Tryz.prog 11 #[v] w fun e w' => e = .returned (.int .i64 (checkT t)) ∧ On w w' := by
  cases ht : testOk t with
  | false =>
    have : checkT t = 1 := by unfold checkT; rw [ht]; rfl
    rw [this]
    exact rbad t v w h ht
  | true =>
    have e8 : bigT t = true → checkT t = 8 := fun hb => by unfold checkT; rw [ht, hb]; rfl
    by_cases p1 : t.thr.length < 1
    · rw [e8 (by unfold bigT thrBig; rw [show (t.thr.length == 0) = true by simpa using (List.eq_nil_of_length_eq_zero (by omega) : t.thr = [])]; simp)]
      exact rbig1 t v w h ht p1
    by_cases p2 : 4 < t.thr.length
    · rw [e8 (by unfold bigT thrBig; rw [decide_eq_true p2]; simp)]
      exact rbig2 t v w h ht p1 p2
    by_cases p3 : 20 < t.name.size
    · rw [e8 (by unfold bigT; rw [decide_eq_true p3]; simp)]
      exact rbig3 t v w h ht p1 p2 p3
    by_cases p4 : 8 < t.cond.any.length
    · rw [e8 (by unfold bigT condBig; rw [decide_eq_true p4]; simp)]
      exact rbig4 t v w h ht p1 p2 p3 p4
    by_cases p5 : 4 < rlen t
    · rw [e8 (by unfold bigT; rw [← rlen_cnt t ht, decide_eq_true p5]; simp)]
      exact rbig5 t v w h ht p1 p2 p3 p4 p5
    have := rchk_rest t v w h ht p1 p2 p3 p4 p5
    have hini : ∀ x ∈ t.ini, initOk x = true := by
      have h' := ht
      unfold testOk at h'
      simp only [Bool.and_eq_true] at h'
      exact List.all_eq_true.1 h'.1.1.2
    rw [big_same t ht p1 p2 p3 p4 p5, tw_from t.ini [] 0 hini (fun l _ _ => by simp)] at this
    have e : checkT t = (if bigT t then 8 else if twiceFrom 0 t.ini then 9 else if t.thr.any skipBad || t.cond.any.any (fun L => L.any (farAtom t.thr.length)) then 10 else 0) := by
      unfold checkT nowhere
      rw [ht]
      rfl
    rw [e]
    exact this
/-- The document's Locs of a test that may be. -/
theorem rlocs_ok (t : TestT) (v : Value) (w : World) (h : TestRd w v t) (ht : testOk t = true) :
    Calls Tryz.prog 34 #[v] w fun e w' => ∃ a c, e = .returned (.slice a (lettersN (locsN t)).length c) ∧ w'.ownsRow w.heap.size 5 1 (.slice a (lettersN (locsN t)).length c) (lettersN (locsN t)).length ((lettersN (locsN t)).map byteV) ∧ On w w' := by
  have := rlocs_is t v w h
  rw [out_letters t ht] at this
  exact this
end Go.Proofs.YtmnpcbcnjnklnaaGreatDoor.Wl

namespace Go.Proofs.YtmnpcbcnjnklnaaGreatDoor.Wl
open Go.RowKit

theorem TestRd.bare (w : World) (nm : ByteArray) (h : nm.size ≤ 9223372036854775807) : TestRd w (.agg #[.string nm, .slice none 0 0, .slice none 0 0, .int .i64 0, .slice none 0 0]) ⟨nm, [], [], ⟨0, []⟩⟩ :=
  ⟨none, 0, none, 0, none, 0, rfl, h, Rd.nil _ _ _, Rd2.nil _ _ _, Rd2.nil _ _ _⟩
theorem byte_cells {w : World} {base n : Nat} {e : TypeId} {a : Option Addr} {c : Nat} {l : List UInt8} (h : w.ownsRow base e 1 (.slice a n c) n (l.map byteV)) (h0 : 0 < n) :
    ∃ ad : Addr, a = some ad ∧ ∀ j (hj : j < l.length), w.cell? (ad.add j) = some (.int .u8 (l[j].toNat : Int)) := by
  obtain ⟨g, cap, hv, hc, _, hg, hcell⟩ := own_cells h h0
  simp only [Value.slice.injEq] at hv
  refine ⟨⟨g, 0, none⟩, hv.1, fun j hj => ?_⟩
  rw [Addr.add_lit, Nat.zero_add]
  refine hcell j _ ?_
  rw [List.getElem?_map, List.getElem?_eq_getElem hj]
  rfl
theorem check_a : checkT ⟨⟨#[97]⟩, [], [], ⟨0, []⟩⟩ = 8 := by decide +kernel
theorem check_e : checkT ⟨⟨#[]⟩, [], [], ⟨0, []⟩⟩ = 1 := by decide +kernel
theorem locs_yx : lettersN (locsN ⟨⟨#[97]⟩, [⟨121, 0⟩, ⟨120, 0⟩], [], ⟨0, []⟩⟩) = [120, 121] := by decide +kernel
theorem rd_yx (w : World) (T : TypeId) : Rd iniC 2 (w.alloc (.cells #[.int .i64 121, .int .i64 0, .int .i64 120, .int .i64 0] T)) (.slice (some ⟨w.heap.size, 0, none⟩) 2 2) [⟨121, 0⟩, ⟨120, 0⟩] := by
  refine ⟨_, 2, rfl, Nat.le_refl _, by decide, fun _ => ⟨w.heap.size, 0, rfl, by simp, fun i x j u hi hj => ?_⟩⟩
  have h := heap_alloc_new w (.cells #[.int .i64 121, .int .i64 0, .int .i64 120, .int .i64 0] T)
  have key : (w.alloc (.cells #[.int .i64 121, .int .i64 0, .int .i64 120, .int .i64 0] T)).cell? ⟨w.heap.size, 0 + i * 2 + j, none⟩ = #[Value.int .i64 121, .int .i64 0, .int .i64 120, .int .i64 0][0 + i * 2 + j]? := by
    unfold World.cell?
    simp only [h]
    rfl
  rw [key]
  match i, hi with
  | 0, hi =>
    simp only [List.getElem?_cons_zero, Option.some.injEq] at hi
    subst hi
    match j, hj with
    | 0, hj => exact hj
    | 1, hj => exact hj
    | j + 2, hj => simp [iniC] at hj
  | 1, hi =>
    simp only [List.getElem?_cons_succ, List.getElem?_cons_zero, Option.some.injEq] at hi
    subst hi
    match j, hj with
    | 0, hj => exact hj
    | 1, hj => exact hj
    | j + 2, hj => simp [iniC] at hj
  | i + 2, hi => simp at hi

set_option maxHeartbeats 2000000 in
set_option maxRecDepth 8000 in
theorem awake5_is (w : World) (lw : Lw w) (hd : Db w) :
    Calls Tryz.prog 7 #[] w fun e w' => e = .returned (.bool true) ∧ On w w' := by
  have hA := fun W (k : On w W) => check_is _ _ W (lw.on k) (TestRd.bare W ⟨#[97]⟩ (by decide))
  have hE := fun W (k : On w W) => check_is _ _ W (lw.on k) (TestRd.bare W ⟨#[]⟩ (by decide))
  obtain ⟨W0, hW0⟩ : ∃ W0, W0 = w.alloc (.cells #[.string ⟨#[97]⟩, .slice none 0 0, .slice none 0 0, .int .i64 0, .slice none 0 0] 28) := ⟨_, rfl⟩
  have hS0 : W0.heap.size = w.heap.size + 1 := by rw [hW0]; simp
  have K0 : Hid (On w W0) := by rw [hW0]; exact (On.refl w).alloc _
  have B0 : Bk W0 w.heap.size #[.string ⟨#[97]⟩, .slice none 0 0, .slice none 0 0, .int .i64 0, .slice none 0 0] := by rw [hW0]; exact Bk.new w _ _
  have hR := rd_yx W0 40
  rw [hS0] at hR
  have hL := locs_is ⟨⟨#[97]⟩, [⟨121, 0⟩, ⟨120, 0⟩], [], ⟨0, []⟩⟩ (.agg #[.string ⟨#[97]⟩, .slice (some ⟨w.heap.size + 1, 0, none⟩) 2 2, .slice none 0 0, .int .i64 0, .slice none 0 0]) _ (hd.on (K0.out.alloc (.cells #[.int .i64 121, .int .i64 0, .int .i64 120, .int .i64 0] 40))) ⟨_, 2, none, 0, none, 0, rfl, by decide, hR, Rd2.nil _ _ _, Rd2.nil _ _ _⟩
  rw [locs_yx] at hL
  rw [check_a] at hA
  rw [check_e] at hE
  clear lw hd hR
  rw [hW0] at hL
  go_enter Tryz.func7, Tryz.ntmps7
  go_wp2_with fail
  refine hL.mono ?_
  rintro e w1 ⟨a, c, rfl, ho, k1⟩
  rw [← hW0] at k1
  have K1 : Hid (On w w1) := (K0.out.alloc _).trans k1
  have B1 := (B0.alloc _).on k1
  have x0 := B1.at (i := 0) rfl
  have x1 := B1.at (i := 1) rfl
  have x2 := B1.at (i := 2) rfl
  have x3 := B1.at (i := 3) rfl
  have x4 := B1.at (i := 4) rfl
  have s1 := B1.lt
  have HO : Hid _ := own_mono ho (Nat.zero_le _)
  clear hL ho k1 B0 B1 hW0 hS0 K0
  simp only [List.length_cons, List.length_nil] at HO ⊢
  go_wp2_with fail
  refine (hA _ K1.out).mono ?_
  rintro e w2 ⟨rfl, k2⟩
  have K2 : Hid (On w w2) := K1.out.trans k2
  obtain ⟨ad, rfl, hcell⟩ := byte_cells (l := [120, 121]) (own_on HO.out k2) (by decide)
  have hback := run_convert_bytes_back (P := Tryz.prog) w2 46 9 5 ad c [120, 121] Tryz.underlying46 Tryz.underlying5 Tryz.underlying9 hcell
  simp only [List.length_cons, List.length_nil] at hback
  clear hA x0 x1 x2 x3 x4 s1 HO hcell k2 K1
  go_wp2_with fail
  refine (hE _ K2.out).mono ?_
  rintro e w3 ⟨rfl, k3⟩
  go_wp2
  go_ret
  exact ⟨rfl, K2.out.trans k3⟩
end Go.Proofs.YtmnpcbcnjnklnaaGreatDoor.Wl
