/- OrderGreedy, walked. -/
import Derived.Test.YtohngifmbnlmmaaDoorOrderKeeps
import Derived.Test.YtohngifmbnlmmaaDoorOrdL
import Derived.Test.YtohngifmbnlmmaaDoorMarksP
namespace Go.Proofs.YtohngifmbnlmmaaDoor
open Go.RowKit

def lessK (R : List Int) (a b : Nat) : Bool := decide (a < R.length ∧ R.getD a 0 < R.getD b 0)
set_option maxHeartbeats 1000000 in
theorem less9_is (R : List Int) (v : Value) (a b : Nat) (hba : b < a) (w : World) (hR : Rd intC 1 w v R) :
    Calls Tryd.prog 21 #[v, .int .i64 a, .int .i64 b] w fun e w' => e = .returned (.bool (lessK R a b)) ∧ On w w' := by
  obtain ⟨ar, cr, rfl, hcr, hmr⟩ := hR.slice
  have hab : decide (a < b) = false := decide_eq_false (by omega)
  by_cases h1 : a < R.length
  · obtain ⟨ra, hra⟩ : ∃ ra, R[a]? = some ra := ⟨_, List.getElem?_eq_getElem h1⟩
    obtain ⟨rb, hrb⟩ : ∃ rb, R[b]? = some rb := ⟨_, List.getElem?_eq_getElem (by omega)⟩
    obtain ⟨gr, or, hra2, hgr, u0⟩ := hR.at hra
    obtain ⟨gr2, or2, hrb2, hgr2, u1⟩ := hR.at hrb
    have hca := u0 0 _ rfl
    have hcb := u1 0 _ rfl
    subst hra2
    simp only [Option.some.injEq, Addr.mk.injEq, and_true] at hrb2
    obtain ⟨rfl, rfl⟩ := hrb2
    simp only [Nat.mul_one, Nat.add_zero] at hca hcb
    have ga : R.getD a 0 = ra := by rw [List.getD_eq_getElem?_getD, hra]; rfl
    have gb : R.getD b 0 = rb := by rw [List.getD_eq_getElem?_getD, hrb]; rfl
    have hbR : b < R.length := by omega
    have hd1 : decide (a < R.length) = true := decide_eq_true h1
    have hd2 : decide (b < R.length) = true := decide_eq_true hbR
    have hl : lessK R a b = decide (ra < rb) := by unfold lessK; rw [ga, gb]; simp [h1]
    rw [hl]
    clear u0 u1 hgr2 hra hrb hR ga gb hl hcr
    generalize R.length = rl at *
    by_cases h2 : ra = rb
    · subst h2
      have hn : decide (ra < ra) = false := by simp
      rw [hn]
      go_enter Tryd.func21, Tryd.ntmps21
      go_wp2
      go_quiet (fail)
      have HO : Hid (On w (w.drewN nq)) := (On.refl w).drewN nq
      clear hca hcb
      go_wp2
      go_ret
      exact ⟨rfl, HO.out⟩
    · have hn : (ra == rb) = false := by simpa using h2
      obtain ⟨B, hB⟩ : ∃ B, B = decide (ra < rb) := ⟨_, rfl⟩
      rw [← hB]
      have hB2 : decide (ra < rb) = B := hB.symm
      clear hB h2
      go_enter Tryd.func21, Tryd.ntmps21
      go_wp2
      go_quiet (fail)
      obtain ⟨wq, hwq⟩ : ∃ wq, wq = w.drewN nq := ⟨_, rfl⟩
      have kq : On w wq := by rw [hwq]; exact (On.refl w).drewN nq
      rw [← hwq]
      have hca' := (kq.cell (p := ⟨gr, or + a, none⟩) hgr).trans hca
      have hcb' := (kq.cell (p := ⟨gr, or + b, none⟩) hgr).trans hcb
      have hgr' : gr < wq.heap.size := Nat.lt_of_lt_of_le hgr kq.size
      clear hwq hca hcb hgr
      go_wp2
      go_quiet (fail)
      have HO : Hid (On w (wq.drewN nq)) := kq.drewN nq
      go_wp2
      go_ret
      exact ⟨rfl, HO.out⟩
  · have hd1 : decide (a < R.length) = false := decide_eq_false h1
    have hl : lessK R a b = false := by unfold lessK; simp [h1]
    rw [hl]
    clear hR hl hcr
    generalize R.length = rl at *
    go_enter Tryd.func21, Tryd.ntmps21
    go_wp2
    go_quiet (fail)
    have HO : Hid (On w (w.drewN nq)) := (On.refl w).drewN nq
    go_wp2
    go_ret
    exact ⟨rfl, HO.out⟩
/-- May k come next? As the law asks it. -/
def frT (r : RelT) (t k : Nat) : Nat → Bool
  | 0 => !t.testBit k
  | j + 1 => frT r t k j && (t.testBit j || !H r j k)
theorem frT_iff (r : RelT) (t k : Nat) : ∀ j, frT r t k j = true ↔ t.testBit k = false ∧ ∀ b, b < j → H r b k = true → t.testBit b = true
  | 0 => by simp [frT]
  | j + 1 => by
    rw [frT, Bool.and_eq_true, frT_iff r t k j]
    constructor
    · rintro ⟨⟨h1, h2⟩, h3⟩
      refine ⟨h1, fun b hb hh => ?_⟩
      rcases Nat.lt_or_ge b j with h | h
      · exact h2 b h hh
      · obtain rfl : b = j := by omega
        rw [hh] at h3
        simpa using h3
    · rintro ⟨h1, h2⟩
      refine ⟨⟨h1, fun b hb hh => h2 b (by omega) hh⟩, ?_⟩
      cases hh : H r j k with
      | false => simp
      | true => rw [h2 j (by omega) hh]; rfl
theorem frT_may {r : RelT} (hr : Wf r) {t k : Nat} (ht : t < 18446744073709551616) (hk : k < r.n) : frT r t k r.n = mayP r.n (DL2D (needL r)) t k := by
  rw [Bool.eq_iff_iff, frT_iff, may_iff (D_lt (need_x hr)) ht]
  constructor
  · rintro ⟨h1, h2⟩
    exact ⟨hk, h1, fun b hb => by rw [D_bit hr] at hb; exact h2 b (hr.b b k hb).1 hb⟩
  · rintro ⟨_, h2, h3⟩
    exact ⟨h2, fun b _ hb => h3 b (by rw [D_bit hr]; exact hb)⟩
def bestJ (n : Nat) (D : Nat → Nat) (R : List Int) (t : Nat) : Nat → Option Nat
  | 0 => none
  | k + 1 => if mayP n D t k = true then (match bestJ n D R t k with | none => some k | some b => some (betterN R b k)) else bestJ n D R t k
def headF (R : List Int) : List Nat → Option Nat
  | [] => none
  | c :: cs => some (cs.foldl (betterN R) c)
theorem headF_snoc (R : List Int) (L : List Nat) (k : Nat) : headF R (L ++ [k]) = (match headF R L with | none => some k | some b => some (betterN R b k)) := by
  cases L with
  | nil => rfl
  | cons c cs => simp [headF]
theorem bestJ_head (n : Nat) (D : Nat → Nat) (R : List Int) (t : Nat) : ∀ k, bestJ n D R t k = headF R ((List.range k).filter (mayP n D t))
  | 0 => rfl
  | k + 1 => by
    rw [bestJ, bestJ_head n D R t k, List.range_succ, List.filter_append]
    cases h : mayP n D t k with
    | true =>
      rw [if_pos rfl, List.filter_cons, h, if_pos rfl, List.filter_nil, headF_snoc]
    | false =>
      rw [if_neg (by decide), List.filter_cons, h, if_neg (by decide), List.filter_nil, List.append_nil]
theorem better_self (R : List Int) (c : Nat) : betterN R c c = c := by unfold betterN; simp
theorem bestJ_best {n : Nat} {D : Nat → Nat} (R : List Int) {t : Nat} (hn : n ≤ 64) (ht : t < 18446744073709551616) (h0 : freeN n D t ≠ 0) : bestJ n D R t n = some (bestN R (freeN n D t)) := by
  have e : (List.range n).filter (mayP n D t) = bits64 (freeN n D t) := by
    unfold bits64
    have e1 : (List.range 64).filter (fun i => (freeN n D t).testBit i) = (List.range 64).filter (mayP n D t) := List.filter_congr fun a _ => free_bit n D t a hn ht
    rw [e1]
    obtain ⟨d, hd⟩ : ∃ d, 64 = n + d := ⟨64 - n, by omega⟩
    rw [hd, List.range_add, List.filter_append]
    have e2 : (List.map (fun x => n + x) (List.range d)).filter (mayP n D t) = [] := List.filter_eq_nil_iff.2 fun a ha h => by
      obtain ⟨b, _, rfl⟩ := List.mem_map.1 ha
      have := may_lt h
      omega
    rw [e2, List.append_nil]
  rw [bestJ_head, e]
  obtain ⟨cs, hcs⟩ := bits_ne (free_lt n D t) h0
  unfold bestN
  rw [hcs, headF, List.foldl_cons, better_self]
theorem bestJ_lt (n : Nat) (D : Nat → Nat) (R : List Int) (t : Nat) : ∀ k b, bestJ n D R t k = some b → b < k
  | 0, b, h => by simp [bestJ] at h
  | k + 1, b, h => by
    rw [bestJ] at h
    split at h
    · cases hj : bestJ n D R t k with
      | none =>
        rw [hj] at h
        simp only [Option.some.injEq] at h
        omega
      | some c =>
        rw [hj] at h
        have := bestJ_lt n D R t k c hj
        simp only [Option.some.injEq] at h
        unfold betterN at h
        split at h <;> omega
    · have := bestJ_lt n D R t k b h
      omega
theorem greedy_at {n : Nat} {D : Nat → Nat} (pick : Nat → Nat) : ∀ (k t : Nat) (l : List Nat), greedyP n D pick k t = some l → ∀ i a, l[i]? = some a → freeN n D (mskN t (l.take i)) ≠ 0 ∧ a = pick (freeN n D (mskN t (l.take i)))
  | 0, t, l, h, i, a, ha => by
    obtain rfl : [] = l := Option.some.inj h
    simp at ha
  | k + 1, t, l, h, i, a, ha => by
    rw [greedyP] at h
    split at h
    · cases h
    · rename_i h0
      obtain ⟨m, hm, rfl⟩ := Option.map_eq_some_iff.1 h
      match i, ha with
      | 0, ha =>
        simp only [List.getElem?_cons_zero, Option.some.injEq] at ha
        subst ha
        exact ⟨h0, rfl⟩
      | i + 1, ha =>
        rw [List.getElem?_cons_succ] at ha
        have := greedy_at pick k _ m hm i a ha
        rw [List.take_succ_cons, msk_cons]
        exact this
/-- What the law looks for at each place. -/
theorem grd_at {r : RelT} (hr : Wf r) (R : List Int) {l : List Nat} (h : grdR r R = some l) (i a : Nat) (ha : l[i]? = some a) : bestJ r.n (DL2D (needL r)) R (mskN 0 (l.take i)) r.n = some a := by
  unfold grdR at h
  rw [need_len] at h
  obtain ⟨h1, h2⟩ := greedy_at _ _ _ _ h i a ha
  rw [bestJ_best R hr.n (msk_lt _ 0 (by decide)) h1, ← h2]
def bestV : Option Nat → Int
  | none => -1
  | some b => b
theorem zero_marks9 : marksA 0 = #[.bool false, .bool false, .bool false, .bool false, .bool false, .bool false, .bool false, .bool false, .bool false, .bool false, .bool false, .bool false, .bool false, .bool false, .bool false, .bool false, .bool false, .bool false, .bool false, .bool false, .bool false, .bool false, .bool false, .bool false, .bool false, .bool false, .bool false, .bool false, .bool false, .bool false, .bool false, .bool false, .bool false, .bool false, .bool false, .bool false, .bool false, .bool false, .bool false, .bool false, .bool false, .bool false, .bool false, .bool false, .bool false, .bool false, .bool false, .bool false, .bool false, .bool false, .bool false, .bool false, .bool false, .bool false, .bool false, .bool false, .bool false, .bool false, .bool false, .bool false, .bool false, .bool false, .bool false, .bool false] := by kernel_rfl
theorem marks_new9 (w : World) (T : TypeId) : Bk (w.alloc (.cells #[.bool false, .bool false, .bool false, .bool false, .bool false, .bool false, .bool false, .bool false, .bool false, .bool false, .bool false, .bool false, .bool false, .bool false, .bool false, .bool false, .bool false, .bool false, .bool false, .bool false, .bool false, .bool false, .bool false, .bool false, .bool false, .bool false, .bool false, .bool false, .bool false, .bool false, .bool false, .bool false, .bool false, .bool false, .bool false, .bool false, .bool false, .bool false, .bool false, .bool false, .bool false, .bool false, .bool false, .bool false, .bool false, .bool false, .bool false, .bool false, .bool false, .bool false, .bool false, .bool false, .bool false, .bool false, .bool false, .bool false, .bool false, .bool false, .bool false, .bool false, .bool false, .bool false, .bool false, .bool false] T)) w.heap.size (marksA 0) := by rw [zero_marks9]; exact Bk.new w _ T
set_option maxHeartbeats 2000000 in
set_option maxRecDepth 8000 in
theorem ogreedy_core (n p : Int) (m : Nat) (hp : (if n < 0 then (0 : Int) else n) = p) (hpc : (if 64 < p then (64 : Int) else p) = (m : Int)) (hm6 : m ≤ 64) (a1 : Option Addr) (L1 : List (Int × Int)) (c1 : Nat) (a2 : Option Addr) (zs : List Int) (c2 : Nat) (w : World)
    (h1 : Rd pairC 2 w (.slice a1 L1.length c1) L1) (hzm : zs.length ≤ 9223372036854775807) (h2 : Rd intC 1 w (.slice a2 zs.length c2) zs) (hd : Dt w) :
    Calls Tryd.prog 8 #[.int .i64 n, .slice a1 L1.length c1, .slice a2 zs.length c2] w fun e w' => e = .returned (.bool true) ∧ On w w' := by
  obtain ⟨hz, _⟩ := zero_of_info rel_info
  obtain ⟨hzw, _⟩ := zero_of_info rel_infow
  have hO1 := fun W (k : On w W) => pairs_is m L1 _ W (h1.on k)
  have hr := of_wf m L1
  have hrn : (ofR m L1).n = m := by rw [of_n]; omega
  have xA := fun W (k : On w W) => awake9_is W (hd.on k)
  clear h1
  generalize ofR m L1 = r at *
  have y1 : ∀ W, On w W → Calls Tryd.prog 17 #[.agg (relA r), .slice a2 zs.length c2] W (GrPost (grdR r zs) W) := fun W k => greedy_is r hr zs _ W (h2.on k) (hd.on k)
  have y2 := fun W => acyc_is r hr.wr W
  have HLS : Hid (∀ (a b : Nat), b < a → a < 64 → ∀ W, On w W → Calls Tryd.prog 21 #[.slice a2 zs.length c2, .int .i64 a, .int .i64 b] W fun e w' => e = .returned (.bool (lessK zs a b)) ∧ On W w') := fun a b hba _ W k => less9_is zs _ a b hba W (h2.on k)
  have HH : Hid (∀ (a b : Nat) W, Calls Tryd.prog 20 #[.agg (relA r), .int .i64 a, .int .i64 b] W fun e w' => e = .returned (.bool (H r a b)) ∧ On W w') := fun a b W => by
    have := rhas_is r hr.wr a b W
    rwa [has_nat2 hr] at this
  have hgn := fun h => (grd_none hr zs h).1
  have hgs := fun l h => grd_some hr zs (l := l) h
  have HAT : Hid (∀ l, grdR r zs = some l → ∀ i a, l[i]? = some a → bestJ m (DL2D (needL r)) zs (mskN 0 (l.take i)) m = some a) := fun l h i a ha => by
    have := grd_at hr zs h i a ha
    rwa [hrn] at this
  have HJK : Hid (∀ l, Stands r l → ∀ v W, Rd intC 1 W v (ints l) → Calls Tryd.prog 11 #[.agg (relA r), v] W fun e w' => e = .returned (.bool true) ∧ On W w') := fun l hl v W hv => by
    have h := jkeeps_is r hr (ints l) v W hv
    rwa [(keepD_iff hr _).2 ⟨l, rfl, hl⟩] at h
  have HFR : Hid (∀ t k, t < 18446744073709551616 → k < m → frT r t k m = mayP m (DL2D (needL r)) t k) := fun t k ht hk => by
    have := frT_may hr ht (by omega : k < r.n)
    rwa [hrn] at this
  clear h2 hd hr
  generalize DL2D (needL r) = D at *
  generalize hlen : zs.length = len at *
  clear hlen
  by_cases hl : 200 < len
  · have hd1 : decide (200 < len) = true := decide_eq_true hl
    go_enter Tryd.func8, Tryd.ntmps8
    go_wp2_with fail
    refine (xA _ (On.refl _)).mono ?_
    rintro _ w1 ⟨rfl, k1⟩
    go_wp2
    go_ret
    exact ⟨rfl, k1⟩
  have hd1 : decide (200 < len) = false := decide_eq_false hl
  cases hG : grdR r zs with
  | none =>
    have hac := hgn hG
    rw [hG] at y1
    rw [hac] at y2
    clear hG hgn hgs hac HAT HJK HFR HLS HH
    go_enter Tryd.func8, Tryd.ntmps8
    go_wp2_with (fail)
    refine (hO1 _ (On.refl _)).mono ?_
    rintro _ w1 ⟨rfl, k1⟩
    have K1 := (On.refl w).trans k1
    have B1a := (Bk.new w1 (relA zeroR) 27).alloc (.cells (relA zeroR) 30)
    have B1b : Bk ((w1.alloc (.cells (relA zeroR) 27)).alloc (.cells (relA zeroR) 30)) (w1.heap.size + 1) (relA zeroR) := by
      have := Bk.new (w1.alloc (.cells (relA zeroR) 27)) (relA zeroR) 30
      rwa [World.size_alloc] at this
    have B1c := B1b.rowFar (N := w1.heap.size) (by omega) (relA r)
    obtain ⟨W1, hW1⟩ : ∃ W1, W1 = (((w1.alloc (.cells (relA zeroR) 27)).alloc (.cells (relA zeroR) 30)).setRow w1.heap.size (relA r)).setRow (w1.heap.size + 1) (relA r) := ⟨_, rfl⟩
    have HW1 : Hid (W1 = (((w1.alloc (.cells (relA zeroR) 27)).alloc (.cells (relA zeroR) 30)).setRow w1.heap.size (relA r)).setRow (w1.heap.size + 1) (relA r)) := hW1
    have B1r : Bk W1 w1.heap.size (relA r) := by rw [hW1]; exact (B1a.row _).rowFar (by omega) _
    have B1w : Bk W1 (w1.heap.size + 1) (relA r) := by rw [hW1]; exact B1c.row _
    have KK1 : On w W1 := by rw [hW1]; exact (((K1.alloc _).alloc _).row K1.size _).row (by have := K1.size; omega) _
    clear hW1
    go_wp2_with (first | (refine wpList_st rfl rfl rfl rfl B1a ?_) | (refine wpList_stw rfl rfl rfl rfl B1c ?_; rw [← HW1.out]; clear HW1 B1a B1b B1c) | refine wpList_ld rfl rfl rfl B1r ?_)
    refine (y1 _ KK1).mono ?_
    rintro _ w3 ⟨rfl, k3⟩
    have K3 := KK1.trans k3
    have R3 := B1r.on k3
    go_wp2_with (refine wpList_ld rfl rfl rfl R3 ?_)
    refine (y2 _).mono ?_
    rintro _ w4 ⟨rfl, k4⟩
    have K4 := K3.trans k4
    go_wp2_with fail
    refine (xA _ K4).mono ?_
    rintro _ w5 ⟨rfl, k5⟩
    go_wp2
    go_ret
    exact ⟨rfl, K4.trans k5⟩
  | some l =>
    obtain ⟨hst, hac⟩ := hgs l hG
    have HB : Hid (∀ i a, l[i]? = some a → bestJ m D zs (mskN 0 (l.take i)) m = some a) := HAT.out l hG
    have hjk := HJK.out l hst
    have hll : l.length = m := hst.len.trans hrn
    have HLT : Hid (∀ a ∈ l, a < m) := fun a ha => by have := hst.lt a ha; omega
    rw [hG] at y1
    rw [hac] at y2
    rw [show (GrPost (some l)) = (fun w e w' => ∃ g c, e = .returned (.tuple #[.slice (some ⟨g, 0, none⟩) m c, .bool true]) ∧ w.heap.size ≤ g ∧ m ≤ c ∧ Rw w' g (ints l) ∧ On w w') by rw [← hll]; rfl] at y1
    have HLL : Hid (l.length = m) := hll
    have HIL : Hid ((ints l).length = m) := by show _ = _; rw [ints_len]; exact hll
    clear hG hgn hgs hac HAT HJK hst hll hrn
    go_enter Tryd.func8, Tryd.ntmps8
    go_wp2_with (fail)
    refine (hO1 _ (On.refl _)).mono ?_
    rintro _ w1 ⟨rfl, k1⟩
    have K1 := (On.refl w).trans k1
    have B1a := (Bk.new w1 (relA zeroR) 27).alloc (.cells (relA zeroR) 30)
    have B1b : Bk ((w1.alloc (.cells (relA zeroR) 27)).alloc (.cells (relA zeroR) 30)) (w1.heap.size + 1) (relA zeroR) := by
      have := Bk.new (w1.alloc (.cells (relA zeroR) 27)) (relA zeroR) 30
      rwa [World.size_alloc] at this
    have B1c := B1b.rowFar (N := w1.heap.size) (by omega) (relA r)
    obtain ⟨W1, hW1⟩ : ∃ W1, W1 = (((w1.alloc (.cells (relA zeroR) 27)).alloc (.cells (relA zeroR) 30)).setRow w1.heap.size (relA r)).setRow (w1.heap.size + 1) (relA r) := ⟨_, rfl⟩
    have HW1 : Hid (W1 = (((w1.alloc (.cells (relA zeroR) 27)).alloc (.cells (relA zeroR) 30)).setRow w1.heap.size (relA r)).setRow (w1.heap.size + 1) (relA r)) := hW1
    have B1r : Bk W1 w1.heap.size (relA r) := by rw [hW1]; exact (B1a.row _).rowFar (by omega) _
    have B1w : Bk W1 (w1.heap.size + 1) (relA r) := by rw [hW1]; exact B1c.row _
    have KK1 : On w W1 := by rw [hW1]; exact (((K1.alloc _).alloc _).row K1.size _).row (by have := K1.size; omega) _
    clear hW1
    go_wp2_with (first | (refine wpList_st rfl rfl rfl rfl B1a ?_) | (refine wpList_stw rfl rfl rfl rfl B1c ?_; rw [← HW1.out]; clear HW1 B1a B1b B1c) | refine wpList_ld rfl rfl rfl B1r ?_)
    refine (y1 _ KK1).mono ?_
    rintro _ w3 ⟨ga, ca, rfl, _, hca, hrw, k3⟩
    have K3 := KK1.trans k3
    have R3 := B1r.on k3
    go_wp2_with (refine wpList_ld rfl rfl rfl R3 ?_)
    refine (y2 _).mono ?_
    rintro _ w4 ⟨rfl, k4⟩
    have K4 := K3.trans k4
    have R4 := R3.on k4
    have hrw4 := hrw.on k4
    have hrd4 := hrw4.rd (c := ca) (k := m) (by rw [HIL.out]; exact Nat.le_refl _) hca (by omega)
    rw [List.take_of_length_le (by rw [HIL.out]; exact Nat.le_refl _), HIL.out] at hrd4
    have hjk4 := hjk _ w4 hrd4
    clear hrd4 hjk hrw y1 y2 k3 R3 K3 KK1 hO1 B1r B1w
    go_wp2_with (refine wpList_ld rfl rfl rfl R4 ?_)
    refine hjk4.mono ?_
    rintro _ w5 ⟨rfl, k5⟩
    have K5 := K4.trans k5
    have R5 := R4.on k5
    have HRW : Hid (Rw w5 ga (ints l)) := hrw4.on k5
    have hs5 := R5.lt
    obtain ⟨W6, hW6⟩ : ∃ W6, W6 = w5.alloc (.cells #[.bool false, .bool false, .bool false, .bool false, .bool false, .bool false, .bool false, .bool false, .bool false, .bool false, .bool false, .bool false, .bool false, .bool false, .bool false, .bool false, .bool false, .bool false, .bool false, .bool false, .bool false, .bool false, .bool false, .bool false, .bool false, .bool false, .bool false, .bool false, .bool false, .bool false, .bool false, .bool false, .bool false, .bool false, .bool false, .bool false, .bool false, .bool false, .bool false, .bool false, .bool false, .bool false, .bool false, .bool false, .bool false, .bool false, .bool false, .bool false, .bool false, .bool false, .bool false, .bool false, .bool false, .bool false, .bool false, .bool false, .bool false, .bool false, .bool false, .bool false, .bool false, .bool false, .bool false, .bool false] 48) := ⟨_, rfl⟩
    have R6 : Bk W6 w1.heap.size (relA r) := by rw [hW6]; exact R5.alloc _
    have M6 : Bk W6 w5.heap.size (marksA 0) := by rw [hW6]; exact marks_new9 w5 _
    have k6 : On w5 W6 := by rw [hW6]; exact (On.refl w5).alloc _
    have HW6 : Hid (W6 = w5.alloc (.cells #[.bool false, .bool false, .bool false, .bool false, .bool false, .bool false, .bool false, .bool false, .bool false, .bool false, .bool false, .bool false, .bool false, .bool false, .bool false, .bool false, .bool false, .bool false, .bool false, .bool false, .bool false, .bool false, .bool false, .bool false, .bool false, .bool false, .bool false, .bool false, .bool false, .bool false, .bool false, .bool false, .bool false, .bool false, .bool false, .bool false, .bool false, .bool false, .bool false, .bool false, .bool false, .bool false, .bool false, .bool false, .bool false, .bool false, .bool false, .bool false, .bool false, .bool false, .bool false, .bool false, .bool false, .bool false, .bool false, .bool false, .bool false, .bool false, .bool false, .bool false, .bool false, .bool false, .bool false, .bool false] 48)) := hW6
    clear hW6 hjk4 hrw4 R4 K4 k5 R5
    go_wp2
    rw [← HW6.out]
    clear HW6
    go_loopg [12] m (fun gg s12 wr => ∃ i : Nat, i ≤ m ∧ gg = m - i ∧ s12 = .int .i64 i ∧ Hid (On w5 wr) ∧ Bk wr w1.heap.size (relA r) ∧ Bk wr w5.heap.size (marksA (mskN 0 (l.take i))))
    case atStart => exact ⟨0, Nat.zero_le _, rfl, rfl, k6, R6, M6⟩
    case round =>
      clear k6 R6 M6
      obtain ⟨i, hi, hk, rfl, HO, D1, DM⟩ := hrel
      rcases Nat.lt_or_ge i m with hlt | hge
      · obtain ⟨a, ha⟩ : ∃ a, l[i]? = some a := ⟨_, List.getElem?_eq_getElem (by rw [HLL.out]; exact hlt)⟩
        have hbj := HB.out i a ha
        have ham := HLT.out a (List.mem_of_getElem? ha)
        have htl := msk_lt (l.take i) 0 (by decide)
        have hnx : withI (mskN 0 (l.take i)) (a : Int) = mskN 0 (l.take (i + 1)) := by
          have hi' := (List.getElem?_eq_some_iff.1 ha).1
          have e : l.take (i + 1) = l.take i ++ [a] := by
            rw [List.take_add_one, ha]
            rfl
          rw [e, msk_append]
          rfl
        have HNX : Hid (withI (mskN 0 (l.take i)) (a : Int) = mskN 0 (l.take (i + 1))) := hnx
        have HBJ : Hid (bestJ m D zs (mskN 0 (l.take i)) m = some a) := hbj
        have HLA : Hid (l[i]? = some a) := ha
        have HFT := HFR.out (mskN 0 (l.take i))
        have HFT2 : Hid (∀ k, k < m → frT r (mskN 0 (l.take i)) k m = mayP m D (mskN 0 (l.take i)) k) := fun k hk => HFT k htl hk
        clear hbj ha hnx HFT
        obtain ⟨t, hti⟩ : ∃ t, t = mskN 0 (l.take i) := ⟨_, rfl⟩
        rw [← hti] at HBJ HNX DM htl HFT2
        clear hti
        go_wp2
        go_loopg [13, 14] m (fun gi s13 s14 wi => ∃ k : Nat, k ≤ m ∧ gi = m - k ∧ s14 = .int .i64 k ∧ s13 = .int .i64 (bestV (bestJ m D zs t k)) ∧ Hid (On w5 wi) ∧ Bk wi w1.heap.size (relA r) ∧ Bk wi w5.heap.size (marksA t))
        case atStart => exact ⟨0, Nat.zero_le _, rfl, rfl, rfl, HO, D1, DM⟩
        case round =>
          clear HO D1 DM
          obtain ⟨k, hkm, hkk, rfl, rfl, HO, D1, DM⟩ := hrel
          rcases Nat.lt_or_ge k m with hklt | hkge
          · have hk64 : k < 64 := by omega
            have hcm := DM.at (marks_at t hk64)
            have hgm := DM.lt
            have HFK := HFT2.out k hklt
            have HFK2 : Hid (frT r t k m = mayP m D t k) := HFK
            have hstep : bestJ m D zs t (k + 1) = if mayP m D t k = true then (match bestJ m D zs t k with | none => some k | some b => some (betterN zs b k)) else bestJ m D zs t k := rfl
            have hblt := bestJ_lt m D zs t k
            have HST : Hid (bestJ m D zs t (k + 1) = if mayP m D t k = true then (match bestJ m D zs t k with | none => some k | some b => some (betterN zs b k)) else bestJ m D zs t k) := hstep
            clear hstep HFK
            obtain ⟨bo, hbo⟩ : ∃ bo, bo = bestJ m D zs t k := ⟨_, rfl⟩
            rw [← hbo] at HST hblt ⊢
            clear hbo
            obtain ⟨f0, hf0⟩ : ∃ f0, f0 = t.testBit k := ⟨_, rfl⟩
            have HF0 : Hid (frT r t k 0 = !f0) := by show _ = _; rw [hf0]; rfl
            rw [← hf0] at hcm
            clear hf0
            go_wp2
            clear hcm hgm
            go_loopg [15, 16] m (fun gj s15 s16 wj => ∃ (j : Nat) (fr : Bool), j ≤ m ∧ gj = m - j ∧ s16 = .int .i64 j ∧ s15 = .bool fr ∧ Hid (fr = frT r t k j) ∧ Hid (On w5 wj) ∧ Bk wj w1.heap.size (relA r) ∧ Bk wj w5.heap.size (marksA t))
            case atStart => exact ⟨0, !f0, Nat.zero_le _, rfl, rfl, rfl, HF0.out.symm, HO, D1, DM⟩
            case round =>
              clear HO D1 DM HF0
              obtain ⟨j, fr, hj, hkj, rfl, rfl, HFJ, HO, D1, DM⟩ := hrel
              rcases Nat.lt_or_ge j m with hjlt | hjge
              · have hj64 : j < 64 := by omega
                have hcj := DM.at (marks_at t hj64)
                have hgj := DM.lt
                have hfs : frT r t k (j + 1) = (frT r t k j && (t.testBit j || !H r j k)) := rfl
                rw [← HFJ.out] at hfs
                cases fr with
                | false =>
                  rw [Bool.false_and] at hfs
                  have HF2 : Hid (false = frT r t k (j + 1)) := hfs.symm
                  clear hfs hcj
                  go_wp2
                  go_roundg (m - (j + 1))
                  case measure => omega
                  case rel => exact ⟨j + 1, false, hjlt, rfl, by congr 1, rfl, HF2, HO, D1, DM⟩
                | true =>
                  rw [Bool.true_and] at hfs
                  cases htj : t.testBit j with
                  | true =>
                    rw [htj] at hfs hcj
                    have HF2 : Hid (true = frT r t k (j + 1)) := hfs.symm
                    clear hfs htj
                    go_wp2
                    clear hcj
                    go_roundg (m - (j + 1))
                    case measure => omega
                    case rel => exact ⟨j + 1, true, hjlt, rfl, by congr 1, rfl, HF2, HO, D1, DM⟩
                  | false =>
                    rw [htj, Bool.false_or] at hfs
                    rw [htj] at hcj
                    have HF2 : Hid ((!H r j k) = frT r t k (j + 1)) := hfs.symm
                    have hHjk := HH.out j k
                    generalize H r j k = hb at *
                    clear hfs htj
                    go_wp2_with (refine wpList_ldG (by rfl) rfl rfl D1 ?_)
                    refine (hHjk _).mono ?_
                    rintro _ w7 ⟨rfl, k7⟩
                    have HO7 : Hid (On w5 w7) := HO.out.trans k7
                    have D17 := D1.on k7
                    have DM7 := DM.on k7
                    clear hcj hgj HO D1 DM k7
                    go_wp2
                    go_roundg (m - (j + 1))
                    case measure => omega
                    case rel => exact ⟨j + 1, !hb, hjlt, rfl, by congr 1, rfl, HF2, HO7, D17, DM7⟩
              · obtain rfl : m = j := by omega
                have hfm : fr = mayP m D t k := HFJ.out.trans HFK2.out
                have HS2 := HST.out
                rw [← hfm] at HS2
                clear hfm HFJ
                cases fr with
                | false =>
                  rw [if_neg (by decide)] at HS2
                  have HS3 : Hid (bestJ m D zs t (k + 1) = bo) := HS2
                  clear HS2
                  go_wp2
                  go_roundg (m - (k + 1))
                  case measure => omega
                  case rel => exact ⟨k + 1, hklt, rfl, by congr 1, by rw [HS3.out], HO, D1, DM⟩
                | true =>
                  rw [if_pos rfl] at HS2
                  cases bo with
                  | none =>
                    have HS3 : Hid (bestJ m D zs t (k + 1) = some k) := HS2
                    have hbv : bestV none = -1 := rfl
                    rw [hbv]
                    clear HS2 hbv
                    go_wp2
                    go_roundg (m - (k + 1))
                    case measure => omega
                    case rel => exact ⟨k + 1, hklt, rfl, by congr 1, by rw [HS3.out]; rfl, HO, D1, DM⟩
                  | some b =>
                    have hbk := hblt b rfl
                    have HS3 : Hid (bestJ m D zs t (k + 1) = some (betterN zs b k)) := HS2
                    have hbv : bestV (some b) = (b : Int) := rfl
                    rw [hbv]
                    have hls := HLS.out k b hbk (by omega)
                    have hbt : betterN zs b k = if lessK zs k b = true then k else b := by
                      unfold betterN lessK
                      simp only [decide_eq_true_eq]
                    clear HS2 hbv
                    cases hlk : lessK zs k b with
                    | true =>
                      rw [hlk] at hls hbt
                      rw [if_pos rfl] at hbt
                      have HBT : Hid (betterN zs b k = k) := hbt
                      clear hlk hbt
                      go_wp2_with fail
                      refine (hls _ (K5.trans HO.out)).mono ?_
                      rintro _ w7 ⟨rfl, k7⟩
                      have HO7 : Hid (On w5 w7) := HO.out.trans k7
                      have D17 := D1.on k7
                      have DM7 := DM.on k7
                      clear HO D1 DM k7
                      go_wp2
                      go_roundg (m - (k + 1))
                      case measure => omega
                      case rel => exact ⟨k + 1, hklt, rfl, by congr 1, by rw [HS3.out, HBT.out]; rfl, HO7, D17, DM7⟩
                    | false =>
                      rw [hlk] at hls hbt
                      rw [if_neg (by decide)] at hbt
                      have HBT : Hid (betterN zs b k = b) := hbt
                      clear hlk hbt
                      go_wp2_with fail
                      refine (hls _ (K5.trans HO.out)).mono ?_
                      rintro _ w7 ⟨rfl, k7⟩
                      have HO7 : Hid (On w5 w7) := HO.out.trans k7
                      have D17 := D1.on k7
                      have DM7 := DM.on k7
                      clear HO D1 DM k7
                      go_wp2
                      go_roundg (m - (k + 1))
                      case measure => omega
                      case rel => exact ⟨k + 1, hklt, rfl, by congr 1, by rw [HS3.out, HBT.out]; rfl, HO7, D17, DM7⟩
          · obtain rfl : m = k := by omega
            have hbv : bestV (bestJ m D zs t m) = (a : Int) := by rw [HBJ.out]; rfl
            rw [hbv]
            have hca2 := (HRW.out.on HO.out).at (i := i) (x := (a : Int)) (by rw [List.getElem?_map, HLA.out]; rfl)
            have hga2 := (HRW.out.on HO.out).lt
            have ha64 : a < 64 := by omega
            have hcm := DM.at (marks_at t ha64)
            have hcf := DM.fr a
            have hgm := DM.lt
            have DM2 := marks_with DM ha64
            rw [HNX.out] at DM2
            have D12 := D1.far (N := w5.heap.size) (by omega) a (.bool true)
            have HO2 : Hid (On w5 (wr.setCell ⟨w5.heap.size, a, none⟩ (.bool true))) := HO.out.setNew (Nat.le_refl _) _
            clear hbv HO D1 DM HFT2 HBJ HNX HLA
            generalize t.testBit a = tb at *
            go_wp2
            go_roundg (m - (i + 1))
            case measure => omega
            case rel => exact ⟨i + 1, hlt, rfl, by congr 1, HO2, D12, DM2⟩
      · obtain rfl : m = i := by omega
        have K7 := K5.trans HO.out
        go_wp2_with fail
        refine (xA _ K7).mono ?_
        rintro _ w9 ⟨rfl, k9⟩
        go_wp2
        go_ret
        exact ⟨rfl, K7.trans k9⟩
theorem orderGreedy_walk (n : Int) (a1 : Option Addr) (L1 : List (Int × Int)) (c1 : Nat) (a2 : Option Addr) (zs : List Int) (c2 : Nat) (w : World)
    (h1 : Rd pairC 2 w (.slice a1 L1.length c1) L1) (hzm : zs.length ≤ 9223372036854775807) (h2 : Rd intC 1 w (.slice a2 zs.length c2) zs) (hd : Dt w) :
    Calls Tryd.prog 8 #[.int .i64 n, .slice a1 L1.length c1, .slice a2 zs.length c2] w fun e w' => e = .returned (.bool true) ∧ On w w' := by
  obtain ⟨m, hm, hm6⟩ := clamp_nat n
  exact ogreedy_core n _ m rfl hm hm6 a1 L1 c1 a2 zs c2 w h1 hzm h2 hd
end Go.Proofs.YtohngifmbnlmmaaDoor
