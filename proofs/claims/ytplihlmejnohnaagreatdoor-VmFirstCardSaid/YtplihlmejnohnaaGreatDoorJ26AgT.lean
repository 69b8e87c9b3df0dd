/- vm.lettered for every row. -/
import Derived.Test.YtplihlmejnohnaaGreatDoorJ25AgA
namespace Go.Proofs.YtplihlmejnohnaaGreatDoor
open Go.RowKit

/-- The row as far as it is filled. -/
def letTo (LT : List UInt8) (L : List InsT) (n : Nat) : List InsT := letRow LT (L.take n) ++ List.replicate (L.length - n) insZ
theorem letTo_len (LT : List UInt8) (L : List InsT) {n : Nat} (h : n ≤ L.length) : (letTo LT L n).length = L.length := by
  unfold letTo letRow
  simp
  omega
theorem letTo_step (LT : List UInt8) (L : List InsT) {n : Nat} {x : InsT} (hx : L[n]? = some x) : (letTo LT L n).set n (letIns LT x) = letTo LT L (n + 1) := by
  have hlt : n < L.length := (List.getElem?_eq_some_iff.1 hx).1
  unfold letTo
  have e : (letRow LT (L.take n)).length = n := by unfold letRow; simp; omega
  rw [show L.length - n = (L.length - (n + 1)) + 1 by omega, rep_succ]
  have := set_split (letRow LT (L.take n)) (List.replicate (L.length - (n + 1)) insZ) insZ (letIns LT x)
  rw [e] at this
  rw [this, List.take_add_one, hx]
  unfold letRow
  simp
theorem letTo_all (LT : List UInt8) (L : List InsT) : letTo LT L L.length = letRow LT L := by
  unfold letTo
  simp
theorem letTo_zero (LT : List UInt8) (L : List InsT) : letTo LT L 0 = List.replicate L.length insZ := by
  unfold letTo letRow
  simp
theorem letTo_at (LT : List UInt8) (L : List InsT) {n : Nat} (h : n < L.length) : (letTo LT L n)[n]? = some insZ := by
  unfold letTo
  have e : (letRow LT (L.take n)).length = n := by unfold letRow; simp; omega
  rw [List.getElem?_append_right (by omega), e, Nat.sub_self, List.getElem?_replicate, if_pos (by omega)]
set_option maxHeartbeats 4000000 in
set_option maxRecDepth 8000 in
theorem lettered_is (LT : List UInt8) (L : List InsT) (a : Option Addr) (c : Nat) (al : Option Addr) (cl : Nat) (w : World) (h : Rd insC 9 w (.slice a L.length c) L) (hl : Rd byteC 1 w (.slice al LT.length cl) LT)
    (h10 : L.length ≤ 1000000) (hT : ∀ x ∈ L, hasLB x.k = true → 0 ≤ x.l ∧ x.l < LT.length) :
    Calls Tryz.prog 80 #[.slice a L.length c, .slice al LT.length cl] w fun e w' => ∃ a2 c2, e = .returned (.slice a2 L.length c2) ∧ w'.ownsRow w.heap.size 107 9 (.slice a2 L.length c2) L.length ((letRow LT L).flatMap insC) ∧ On w w' := by
  obtain ⟨i0, hi, hz0, hz1, hz2⟩ := info_parts infoInsE
  obtain ⟨w2, hmk, hown, hgr⟩ := run_make_full (P := Tryz.prog) w w.heap.size 117 107 i0 (insV insZ) 9 Tryz.underlying117 hi hz0 hz1 .i64 .i64 L.length (by rw [hz2]; omega) (by unfold maxLen; omega) (Nat.le_refl _)
  rw [made_ins, ← letTo_zero LT L] at hown
  have K2 : Hid (On w w2) := (On.refl w).grownNone hgr
  have HR : Hid (Rd insC 9 w (.slice a L.length c) L) := h
  have HL : Hid (Rd byteC 1 w (.slice al LT.length cl) LT) := hl
  have HT : Hid (∀ x ∈ L, hasLB x.k = true → 0 ≤ x.l ∧ x.l < LT.length) := hT
  have HW : Hid (w2.ownsRow w.heap.size 107 9 (.slice (some ⟨w.heap.size, 0, none⟩) L.length L.length) L.length ((letTo LT L 0).flatMap insC)) := hown
  have hsz2 : w.heap.size < w2.heap.size := own_lt hown
  clear hown hgr h hl hT
  go_enter Tryz.func80, Tryz.ntmps80
  go_wp2
  clear hmk
  go_loopg [13] L.length (fun gg s13 wq => ∃ n : Nat, n ≤ L.length ∧ gg = L.length - n ∧ s13 = .int .i64 n ∧ w.heap.size < wq.heap.size ∧ Hid (On w wq) ∧ Hid (wq.ownsRow w.heap.size 107 9 (.slice (some ⟨w.heap.size, 0, none⟩) L.length L.length) L.length ((letTo LT L n).flatMap insC)))
  case atStart => exact ⟨0, Nat.zero_le _, rfl, rfl, hsz2, K2, HW⟩
  case round =>
    clear HW K2 hsz2
    obtain ⟨n, hn, hk, rfl, hsz, HO, HW⟩ := hrel
    rcases Nat.lt_or_ge n L.length with hlt | hge
    · obtain ⟨x, hx⟩ : ∃ x, L[n]? = some x := ⟨_, List.getElem?_eq_getElem hlt⟩
      obtain ⟨g, off, rfl, hg, hcell⟩ := (HR.out.on HO.out).at hx
      have q0 : wr.cell? ⟨g, off + n * 9, none⟩ = _ := hcell 0 _ rfl
      have q1 : wr.cell? ⟨g, off + n * 9 + 1, none⟩ = _ := hcell 1 _ rfl
      have q2 : wr.cell? ⟨g, off + n * 9 + 2, none⟩ = _ := hcell 2 _ rfl
      have q3 : wr.cell? ⟨g, off + n * 9 + 3, none⟩ = _ := hcell 3 _ rfl
      have q4 : wr.cell? ⟨g, off + n * 9 + 4, none⟩ = _ := hcell 4 _ rfl
      have q5 : wr.cell? ⟨g, off + n * 9 + 5, none⟩ = _ := hcell 5 _ rfl
      have q6 : wr.cell? ⟨g, off + n * 9 + 6, none⟩ = _ := hcell 6 _ rfl
      have q7 : wr.cell? ⟨g, off + n * 9 + 7, none⟩ = _ := hcell 7 _ rfl
      have q8 : wr.cell? ⟨g, off + n * 9 + 8, none⟩ = _ := hcell 8 _ rfl
      clear hcell
      have hH := fun W => fhas_is x.k W
      have HX : Hid ((letTo LT L n).set n (letIns LT x) = letTo LT L (n + 1)) := letTo_step LT L hx
      have hLT := HT.out x (List.mem_of_getElem? hx)
      have OW : ∀ T, (wr.alloc T).ownsRow w.heap.size 107 9 (.slice (some ⟨w.heap.size, 0, none⟩) L.length L.length) L.length ((letTo LT L n).flatMap insC) := fun T => own_on HW.out ((On.refl wr).alloc T)
      have kO : ∀ T, On w (wr.alloc T) := fun T => HO.out.alloc T
      have zc : ∀ j, j < 9 → wr.cell? ⟨w.heap.size, n * 9 + j, none⟩ = some (.int .i64 0) := fun j hj => by
        rw [HW.out.cellAt _ (by omega), flat_at insC 9 (fun _ => rfl) _ _ _ _ (letTo_at LT L hlt) hj]
        match j, hj with
        | 0, _ => rfl
        | 1, _ => rfl
        | 2, _ => rfl
        | 3, _ => rfl
        | 4, _ => rfl
        | 5, _ => rfl
        | 6, _ => rfl
        | 7, _ => rfl
        | 8, _ => rfl
      have zf := fun j => HW.out.frozenAt j
      have z0 : wr.cell? ⟨w.heap.size, n * 9, none⟩ = _ := zc 0 (by decide)
      have z1 := zc 1 (by decide)
      have z2 := zc 2 (by decide)
      have z3 := zc 3 (by decide)
      have z4 := zc 4 (by decide)
      have z5 := zc 5 (by decide)
      have z6 := zc 6 (by decide)
      have z7 := zc 7 (by decide)
      have z8 := zc 8 (by decide)
      have rl : (letTo LT L n).length = L.length := letTo_len LT L (by omega)
      have hcl : (n * 9 + 9 ≤ L.length * 9) := by omega
      clear hx
      cases hb : hasLB x.k with
      | false =>
        have e1 : letIns LT x = x := by unfold letIns; rw [hb]; rfl
        rw [e1] at HX
        rw [hb] at hH
        go_wp2_with (go_at_call 92; refine (hH _).mono ?_; rintro e w' ⟨rfl, rfl⟩)
        have hp := row_put (L := letTo LT L n) (c := L.length) (k := n) (by rw [rl]; exact HW.out) (by omega) x
        rw [rl, HX.out] at hp
        go_roundg (L.length - (n + 1))
        case measure => omega
        case rel =>
          rw [puts9]
          exact ⟨n + 1, by omega, rfl, by go_num, put_lt hsz _ _ _ _, (On.puts (Nat.le_refl _) (insC x) wr (n * 9) HO.out).alloc (.cells #[.int .i64 x.k, .int .i64 x.r, .int .i64 x.l, .int .i64 x.a.r, .int .i64 x.a.v, .int .i64 x.o, .int .i64 x.b.r, .int .i64 x.b.v, .int .i64 x.n] 107), hp.alloc (.cells #[.int .i64 x.k, .int .i64 x.r, .int .i64 x.l, .int .i64 x.a.r, .int .i64 x.a.v, .int .i64 x.o, .int .i64 x.b.r, .int .i64 x.b.v, .int .i64 x.n] 107)⟩
      | true =>
        obtain ⟨hx0, hx1⟩ := hLT hb
        obtain ⟨m, hm⟩ : ∃ m : Nat, x.l = (m : Int) := ⟨x.l.toNat, by omega⟩
        have hml : m < LT.length := by omega
        obtain ⟨b, hbm⟩ : ∃ b, LT[m]? = some b := ⟨_, List.getElem?_eq_getElem hml⟩
        have e1 : letIns LT x = ⟨x.k, x.r, (b.toNat : Int), x.a, x.o, x.b, x.n⟩ := by unfold letIns; rw [hb, if_pos rfl, hm, Int.toNat_natCast, hbm]; rfl
        rw [e1] at HX
        rw [hb] at hH
        obtain ⟨g5, off5, rfl, hg5, hcell5⟩ := (HL.out.on HO.out).at hbm
        have v5 : wr.cell? ⟨g5, off5 + m, none⟩ = some (.int .u8 (b.toNat : Nat)) := by have := hcell5 0 _ rfl; rw [Nat.mul_one] at this; exact this
        rw [hm] at q2
        have b1 : (m : Int) < (LT.length : Int) := by omega
        have b2 : decide ((m : Int) < 0) = false := decide_eq_false (by omega)
        have b4 : (0 : Int) ≤ (m : Int) := by omega
        have HM : Hid (x.l = (m : Int)) := hm
        have hcv : IntKind.i64.wrap ((b.toNat : Nat) : Int) = ((b.toNat : Nat) : Int) := by rw [wrap_small]; omega; have := b.toNat_lt; omega
        generalize hpl : ((b.toNat : Nat) : Int) = pl at *
        clear hLT hbm hcell5 hx0 hx1 hml hm
        go_wp2_with (go_at_call 92; refine (hH _).mono ?_; rintro e w' ⟨rfl, rfl⟩)
        have hp := row_put (L := letTo LT L n) (c := L.length) (k := n) (by rw [rl]; exact HW.out) (by omega) ⟨x.k, x.r, pl, x.a, x.o, x.b, x.n⟩
        rw [rl, HX.out] at hp
        go_roundg (L.length - (n + 1))
        case measure => omega
        case rel =>
          rw [puts9]
          exact ⟨n + 1, by omega, rfl, by go_num, put_lt hsz _ _ _ _, (On.puts (Nat.le_refl _) (insC ⟨x.k, x.r, pl, x.a, x.o, x.b, x.n⟩) wr (n * 9) HO.out).alloc (.cells #[.int .i64 x.k, .int .i64 x.r, .int .i64 pl, .int .i64 x.a.r, .int .i64 x.a.v, .int .i64 x.o, .int .i64 x.b.r, .int .i64 x.b.v, .int .i64 x.n] 107), hp.alloc (.cells #[.int .i64 x.k, .int .i64 x.r, .int .i64 pl, .int .i64 x.a.r, .int .i64 x.a.v, .int .i64 x.o, .int .i64 x.b.r, .int .i64 x.b.v, .int .i64 x.n] 107)⟩
    · obtain rfl : n = L.length := by omega
      have HW2 := HW.out
      rw [letTo_all] at HW2
      have H2 : Hid _ := HW2
      clear HW HW2
      go_wp2
      go_ret
      exact ⟨_, _, rfl, H2.out, HO.out⟩
end Go.Proofs.YtplihlmejnohnaaGreatDoor

namespace Go.Proofs.YtplihlmejnohnaaGreatDoor
open Go.RowKit

theorem lwith_bit (n : Nat) (l : Int) (i : Nat) (hi : i < 26) : (withL n l).testBit i = (n.testBit i || decide (l = 97 + (i : Int))) := by
  unfold withL
  by_cases h : 97 ≤ l ∧ l ≤ 122
  · rw [if_pos h, Nat.testBit_or, Nat.testBit_two_pow]
    congr 1
    apply decide_eq_decide.2
    omega
  · rw [if_neg h, decide_eq_false (by omega), Bool.or_false]
theorem fold_bit : ∀ (L : List Int) (n i : Nat), i < 26 → (L.foldl withL n).testBit i = (n.testBit i || decide ((97 + (i : Int)) ∈ L))
  | [], n, i, _ => by simp
  | l :: L, n, i, hi => by
    rw [List.foldl_cons, fold_bit L _ i hi, lwith_bit n l i hi, Bool.or_assoc]
    congr 1
    rw [Bool.eq_iff_iff]
    simp only [Bool.or_eq_true, decide_eq_true_eq, List.mem_cons]
    constructor
    · rintro (h | h)
      · exact Or.inl h.symm
      · exact Or.inr h
    · rintro (h | h)
      · exact Or.inl h.symm
      · exact Or.inr h
theorem locs_bit (t : TestT) (i : Nat) (hi : i < 26) : (locsN t).testBit i = decide ((97 + (i : Int)) ∈ allLs t) := by
  rw [locs_fold, fold_bit _ _ _ hi, Nat.zero_testBit, Bool.false_or]
theorem letters_mem (n : Nat) (b : UInt8) : b ∈ lettersN n ↔ ∃ i, i < 26 ∧ n.testBit i = true ∧ b = UInt8.ofNat (97 + i) := by
  unfold lettersN
  constructor
  · intro h
    obtain ⟨i, hi, rfl⟩ := List.mem_map.1 h
    obtain ⟨h1, h2⟩ := List.mem_filter.1 hi
    exact ⟨i, by simpa using h1, h2, rfl⟩
  · rintro ⟨i, h1, h2, rfl⟩
    exact List.mem_map.2 ⟨i, List.mem_filter.2 ⟨by simpa using h1, h2⟩, rfl⟩
theorem byte_nat {i : Nat} (hi : i < 26) : (UInt8.ofNat (97 + i)).toNat = 97 + i := by
  rw [UInt8.toNat_ofNat']
  omega
theorem letter_range (n : Nat) {b : UInt8} (h : b ∈ lettersN n) : 97 ≤ (b.toNat : Int) ∧ (b.toNat : Int) ≤ 122 := by
  obtain ⟨i, h1, _, rfl⟩ := (letters_mem n b).1 h
  rw [byte_nat h1]
  omega
theorem zip_ini : ∀ (LT : List UInt8) (IN : List Int), IN.length = LT.length → (srcI LT IN).map InitT.l = LT.map (fun b => (b.toNat : Int))
  | [], [], _ => rfl
  | [], _ :: _, h => by simp at h
  | _ :: _, [], h => by simp at h
  | b :: LT, v :: IN, h => by
    have := zip_ini LT IN (by simpa using h)
    unfold srcI at this ⊢
    rw [List.zipWith_cons_cons, List.map_cons, List.map_cons, this]
theorem val_out : ∀ (LT : List UInt8) (IN : List Int) (b : UInt8) (v : Int), b ∉ LT → valFrom b (srcI LT IN) v = v
  | [], _, _, _, _ => rfl
  | _ :: _, [], _, _, _ => rfl
  | c :: LT, x :: IN, b, v, h => by
    unfold srcI valFrom
    rw [List.zipWith_cons_cons, List.foldl_cons]
    have hne : (((c.toNat : Int)) == (b.toNat : Int)) = false := by
      rw [beq_eq_false_iff_ne]
      intro e
      exact h (by rw [UInt8.toNat_inj.1 (Int.ofNat_inj.1 e)]; exact List.mem_cons_self)
    simp only [hne]
    exact val_out LT IN b v (fun hb => h (List.mem_cons_of_mem _ hb))
theorem ini_vals : ∀ (LT : List UInt8) (IN : List Int), LT.Nodup → IN.length = LT.length → iniVals LT (srcI LT IN) = IN
  | [], [], _, _ => rfl
  | [], _ :: _, _, h => by simp at h
  | _ :: _, [], _, h => by simp at h
  | c :: LT, x :: IN, hn, h => by
    have h1 := List.nodup_cons.1 hn
    have hr := ini_vals LT IN h1.2 (by simpa using h)
    unfold iniVals at hr ⊢
    rw [List.map_cons]
    have hhead : valFrom c (srcI (c :: LT) (x :: IN)) 0 = x := by
      unfold srcI valFrom
      rw [List.zipWith_cons_cons, List.foldl_cons]
      simp only [beq_self_eq_true, if_true]
      exact val_out LT IN c x h1.1
    rw [hhead]
    congr 1
    rw [← hr]
    apply List.map_congr_left
    intro b hb
    rw [hr]
    unfold srcI valFrom
    rw [List.zipWith_cons_cons, List.foldl_cons]
    have hne : (((c.toNat : Int)) == (b.toNat : Int)) = false := by
      rw [beq_eq_false_iff_ne]
      intro e
      exact h1.1 (by rw [UInt8.toNat_inj.1 (Int.ofNat_inj.1 e)]; exact hb)
    simp only [hne]
    rfl
theorem twice_no : ∀ (LT : List UInt8) (IN : List Int) (n : Nat), LT.Nodup → (∀ b ∈ LT, ∃ i, i < 26 ∧ b = UInt8.ofNat (97 + i) ∧ n.testBit i = false) → twiceFrom n (srcI LT IN) = false
  | [], _, _, _, _ => rfl
  | _ :: _, [], _, _, _ => rfl
  | c :: LT, x :: IN, n, hn, h => by
    have h1 := List.nodup_cons.1 hn
    obtain ⟨i, hi, hc, hb⟩ := h c List.mem_cons_self
    unfold srcI
    rw [List.zipWith_cons_cons, twiceFrom]
    have hl : ((c.toNat : Int)) = 97 + (i : Int) := by rw [hc, byte_nat hi]; omega
    have hne : (withL n (c.toNat : Int) == n) = false := by
      rw [beq_eq_false_iff_ne]
      intro e
      have := lwith_bit n (c.toNat : Int) i hi
      rw [e, hb, hl] at this
      simp at this
    simp only [hne, Bool.false_eq_true, if_false]
    refine twice_no LT IN _ h1.2 (fun b hb' => ?_)
    obtain ⟨j, hj, hbj, hnj⟩ := h b (List.mem_cons_of_mem _ hb')
    refine ⟨j, hj, hbj, ?_⟩
    rw [lwith_bit n _ j hj, hnj, Bool.false_or, decide_eq_false_iff_not, hl]
    intro e
    exact h1.1 (by rw [hc, show i = j by omega, ← hbj]; exact hb')
theorem let_back (t : TestT) (ht : testOk t = true) (L : List InsT) (hL : L ∈ t.thr) : letRow (lettersN (locsN t)) (placedP (lettersN (locsN t)) L) = L := by
  unfold letRow placedP
  rw [List.map_map]
  conv => rhs; rw [← List.map_id L]
  apply List.map_congr_left
  intro x hx
  have hok : insOk x = true := List.all_eq_true.1 (thr_ok t ht L hL) x hx
  show letIns _ (placeIns _ x) = x
  rcases ins_kind x hok with ⟨hk, h0, h1⟩ | ⟨hk, _⟩
  · obtain ⟨b, hb, hbl⟩ := mem_letters t x.l (thr_mem t L x hL hx) h0 h1
    obtain ⟨k, hk1, hk2, hk3⟩ := pl_at _ x.l (letters_nodup (locsN t)) ⟨b, hb, hbl⟩ (by omega) (by omega)
    have hk' : hasLB x.k = true := by
      unfold hasLocB at hk
      unfold hasLB
      rw [← Bool.or_assoc]
      exact hk
    unfold placeIns
    rw [if_pos hk, hk2]
    unfold letIns
    simp only [hk', if_true, Int.toNat_natCast]
    have := hk3 k _ (List.getElem?_eq_getElem hk1)
    rw [decide_eq_true rfl, beq_iff_eq] at this
    rw [List.getElem?_eq_getElem hk1, Option.getD_some, this]
  · have hk' : hasLB x.k = false := by
      unfold hasLocB at hk
      unfold hasLB
      rw [← Bool.or_assoc]
      exact hk
    unfold placeIns
    rw [if_neg (by rw [hk]; decide)]
    unfold letIns
    rw [if_neg (by rw [hk']; decide)]
theorem sum_fold : ∀ (LL : List (List InsT)) (n : Nat), LL.foldl (fun n L => n + L.length) n = n + (LL.map List.length).sum
  | [], n => by simp
  | L :: LL, n => by rw [List.foldl_cons, sum_fold LL, List.map_cons, List.sum_cons]; omega
/-- The program of a test that is small enough. -/
theorem ag_of (t : TestT) (hc : checkT t = 0) (IN : List Int) (hIN : IN.length = (lettersN (locsN t)).length) :
    AgOk (lettersN (locsN t)) IN (t.thr.map (placedP (lettersN (locsN t)))) := by
  obtain ⟨ht, h4, h10, h24⟩ := ok_small t hc
  have hbig : bigT t = false ∧ nowhere t = false := by
    unfold checkT at hc
    rw [ht, if_pos rfl] at hc
    cases hb : bigT t with
    | true => rw [hb] at hc; simp at hc
    | false =>
      rw [hb] at hc
      cases hn : nowhere t with
      | true =>
        rw [hn] at hc
        simp only [Bool.false_eq_true, if_false] at hc
        split at hc <;> simp at hc
      | false => exact ⟨rfl, rfl⟩
  have hthr : (srcT (lettersN (locsN t)) IN (t.thr.map (placedP (lettersN (locsN t))))).thr = t.thr := by
    show (t.thr.map _).map _ = _
    rw [List.map_map]
    conv => rhs; rw [← List.map_id t.thr]
    apply List.map_congr_left
    intro L hL
    exact let_back t ht L hL
  obtain ⟨S, hS⟩ : ∃ S, S = srcT (lettersN (locsN t)) IN (t.thr.map (placedP (lettersN (locsN t)))) := ⟨_, rfl⟩
  have hSi : S.ini = srcI (lettersN (locsN t)) IN := by rw [hS]; rfl
  have hSn : S.name = ⟨#[97]⟩ := by rw [hS]; rfl
  have hSc : S.cond = ⟨0, []⟩ := by rw [hS]; rfl
  rw [← hS] at hthr
  have hmem : ∀ l : Int, 97 ≤ l → l ≤ 122 → (l ∈ allLs S ↔ l ∈ allLs t) := by
    intro l h0 h1
    have hal : allLs S = (lettersN (locsN t)).map (fun b => (b.toNat : Int)) ++ (t.thr.flatMap insLs ++ []) := by
      unfold allLs
      rw [hthr, hSc, hSi, zip_ini _ _ hIN]
      rfl
    rw [hal, List.append_nil, List.mem_append]
    constructor
    · rintro (h | h)
      · obtain ⟨b, hb, rfl⟩ := List.mem_map.1 h
        obtain ⟨i, hi, hbit, rfl⟩ := (letters_mem _ b).1 hb
        rw [locs_bit t i hi] at hbit
        have := of_decide_eq_true hbit
        rw [byte_nat hi]
        have e : ((97 + i : Nat) : Int) = 97 + (i : Int) := by omega
        rw [e]
        exact this
      · unfold allLs
        exact List.mem_append_right _ (List.mem_append_left _ h)
    · intro h
      left
      obtain ⟨b, hb, e⟩ := mem_letters t l h h0 h1
      exact List.mem_map.2 ⟨b, hb, e⟩
  have hbits : ∀ i, i < 26 → (locsN S).testBit i = (locsN t).testBit i := by
    intro i hi
    rw [locs_bit S i hi, locs_bit t i hi]
    exact decide_eq_decide.2 (hmem _ (by omega) (by omega))
  have hLT : lettersN (locsN S) = lettersN (locsN t) := by
    unfold lettersN
    congr 1
    apply List.filter_congr
    intro i hi
    exact hbits i (by simpa using hi)
  have hcnt : cntN (locsN S) = cntN (locsN t) := by
    unfold cntN
    congr 1
    apply List.filter_congr
    intro i hi
    exact hbits i (by simpa using hi)
  have hok : testOk S = true := by
    have hthrOk : t.thr.all threadOk = true := by
      unfold testOk at ht
      simp only [Bool.and_eq_true] at ht
      exact ht.1.2
    unfold testOk
    rw [hSn, hSc, hSi, hthr, hthrOk]
    have : (srcI (lettersN (locsN t)) IN).all initOk = true := by
      rw [List.all_eq_true]
      intro x hx
      have hx' : x.l ∈ (srcI (lettersN (locsN t)) IN).map InitT.l := List.mem_map.2 ⟨x, hx, rfl⟩
      rw [zip_ini _ _ hIN] at hx'
      obtain ⟨b, hb, e⟩ := List.mem_map.1 hx'
      have := letter_range _ hb
      unfold initOk locOk
      rw [← e]
      simp only [Bool.and_eq_true, decide_eq_true_eq]
      exact this
    rw [this]
    decide
  have hthb : thrBig t.thr = false ∧ ¬ 4 < cntN (locsN t) := by
    have := hbig.1
    unfold bigT at this
    simp only [Bool.or_eq_false_iff, decide_eq_false_iff_not] at this
    exact ⟨this.1.1.2, this.1.2⟩
  have hlen : (lettersN (locsN t)).length = cntN (locsN t) := by
    unfold lettersN cntN
    rw [List.length_map]
  have hchk : checkT S = 0 := by
    unfold checkT
    rw [hok, if_pos rfl]
    have h1 : bigT S = false := by
      unfold bigT
      rw [hSn, hSc, hthr, hthb.1, hcnt]
      simp only [decide_eq_false hthb.2]
      decide
    have h2 : twiceFrom 0 S.ini = false := by
      rw [hSi]
      refine twice_no _ IN 0 (letters_nodup _) (fun b hb => ?_)
      obtain ⟨i, hi, _, hb'⟩ := (letters_mem _ b).1 hb
      exact ⟨i, hi, hb', Nat.zero_testBit i⟩
    have h3 : nowhere S = false := by
      have := hbig.2
      unfold nowhere at this ⊢
      rw [hthr, hSc]
      simp only [Bool.or_eq_false_iff] at this
      rw [this.1]
      rfl
    rw [h1, h2, h3]
    rfl
  have hlt : ltOf S = lettersN (locsN t) := hLT
  refine ⟨⟨by rw [List.length_map]; exact h4, by omega, ?_, ?_⟩, hIN, ?_, ?_, ?_, ?_⟩
  · intro L hL
    obtain ⟨L0, hL0, rfl⟩ := List.mem_map.1 hL
    refine ⟨by unfold placedP; rw [List.length_map]; exact h10 L0 hL0, ?_⟩
    intro x hx hk
    unfold placedP at hx
    obtain ⟨y, hy, rfl⟩ := List.mem_map.1 hx
    have hyok : insOk y = true := List.all_eq_true.1 (thr_ok t ht L0 hL0) y hy
    rcases ins_kind y hyok with ⟨hk1, h0, h1⟩ | ⟨hk1, _⟩
    · obtain ⟨k, hk2, hk3, _⟩ := pl_at _ y.l (letters_nodup (locsN t)) (mem_letters t y.l (thr_mem t L0 y hL0 hy) h0 h1) (by omega) (by omega)
      unfold placeIns
      rw [if_pos hk1]
      show 0 ≤ plc _ _ ∧ plc _ _ < _
      rw [hk3]
      omega
    · exfalso
      unfold placeIns at hk
      rw [if_neg (by rw [hk1]; decide)] at hk
      unfold hasLocB at hk1
      unfold hasLB at hk
      rw [← Bool.or_assoc, hk1] at hk
      cases hk
  · have e : (t.thr.map (placedP (lettersN (locsN t)))).map List.length = t.thr.map List.length := by
      rw [List.map_map]
      apply List.map_congr_left
      intro L _
      unfold placedP
      show (L.map _).length = _
      rw [List.length_map]
    rw [e]
    have := sum_fold t.thr 0
    unfold sumL at h24
    omega
  · rw [← hS]; exact hchk
  · rw [← hS]; exact hlt
  · rw [← hS]
    unfold inOf
    rw [hlt, ← hLT, beg_same S hok, hLT, hSi]
    exact ini_vals _ IN (letters_nodup _) hIN
  · rw [← hS]
    unfold llOf
    rw [hlt, hthr]
end Go.Proofs.YtplihlmejnohnaaGreatDoor
