/- The document's Put: an execution put into a row in order. -/
import Derived.Test.YtioiabfheeglgaaGreatDoorJ23RaT
import Derived.Test.YtioiabfheeglgaaGreatDoorJ26CopyK
import Derived.Test.YtioiabfheeglgaaGreatDoorJ03RegGrow
import Derived.Test.YtioiabfheeglgaaGreatDoorJ04FinS
import Derived.Test.YtioiabfheeglgaaGreatDoorJ13EvA
import Derived.Test.YtioiabfheeglgaaGreatDoorJ21ExC
namespace Go.Proofs.YtioiabfheeglgaaGreatDoor
open Go.RowKit

def nil3 : List Value := [Value.slice none 0 0, Value.slice none 0 0, Value.slice none 0 0]
def curX (vs : List Tri) (SP : List Value) : List Value := vs.flatMap triC ++ nil3 ++ SP
theorem infoX : (Tryz.prog.info? 41).map (fun i => (i.zero, i.size, i.bytes)) = some (some (.agg #[.slice none 0 0, .slice none 0 0, .slice none 0 0]), 3, 72) := by kernel_rfl
theorem flat_len3 (vs : List Tri) : (vs.flatMap triC).length = vs.length * 3 := by
 induction vs with
 | nil => rfl
 | cons t vs ih => rw [List.flatMap_cons, List.length_append, ih, triC_len, List.length_cons]; omega
theorem flat_one3 {w : World} {L : List ExT} {vs : List Tri} (h : vs.length = L.length) (hts : ∀ (i : Nat) (t : Tri) (x : ExT), vs[i]? = some t → L[i]? = some x → ExTd w t x) : ∀ u ∈ vs.flatMap triC, u.oneCell' = true := by
 intro u hu
 obtain ⟨t, ht, hu⟩ := List.mem_flatMap.1 hu
 obtain ⟨i, hi, rfl⟩ := List.mem_iff_getElem.1 ht
 exact (hts i _ L[i] (List.getElem?_eq_getElem hi) (List.getElem?_eq_getElem (by omega))).one u hu
/-- What the copy leaves: room for one behind the first m. -/
theorem ins_cells (vs : List Tri) (m : Nat) (hm : m ≤ vs.length) (z0 z1 z2 : Value) (SP : List Value) :
  ∃ u0 u1 u2, (vs.flatMap triC ++ [z0, z1, z2] ++ SP).take ((m + 1) * 3) ++ (vs.drop m).flatMap triC ++ (vs.flatMap triC ++ [z0, z1, z2] ++ SP).drop ((m + 1) * 3 + ((vs.drop m).flatMap triC).length) =
   (vs.take m).flatMap triC ++ u0 :: u1 :: u2 :: ((vs.drop m).flatMap triC ++ SP) := by
 have e : vs.flatMap triC = (vs.take m).flatMap triC ++ (vs.drop m).flatMap triC := by rw [← List.flatMap_append, List.take_append_drop]
 have hA : ((vs.take m).flatMap triC).length = m * 3 := by rw [flat_len3, List.length_take, Nat.min_eq_left hm]
 have hB : ((vs.drop m).flatMap triC).length = (vs.length - m) * 3 := by rw [flat_len3, List.length_drop]
 have hd : (vs.flatMap triC ++ [z0, z1, z2] ++ SP).drop ((m + 1) * 3 + ((vs.drop m).flatMap triC).length) = SP := by
  rw [hB, List.drop_append, List.drop_of_length_le (by rw [List.length_append, flat_len3]; simp only [List.length_cons, List.length_nil]; omega), List.nil_append]
  have : (m + 1) * 3 + (vs.length - m) * 3 - (vs.flatMap triC ++ [z0, z1, z2]).length = 0 := by rw [List.length_append, flat_len3]; simp only [List.length_cons, List.length_nil]; omega
  rw [this, List.drop_zero]
 rw [hd]
 have ht : ∃ u0 u1 u2, (vs.flatMap triC ++ [z0, z1, z2] ++ SP).take ((m + 1) * 3) = (vs.take m).flatMap triC ++ [u0, u1, u2] := by
  rw [e]
  simp only [List.append_assoc]
  rw [List.take_append, hA, show (m + 1) * 3 - m * 3 = 3 by omega, List.take_of_length_le (by omega)]
  cases vs.drop m with
  | nil => exact ⟨z0, z1, z2, by simp⟩
  | cons t r => exact ⟨t.1, t.2.1, t.2.2, by simp [triC]⟩
 obtain ⟨u0, u1, u2, ht⟩ := ht
 exact ⟨u0, u1, u2, by rw [ht]; simp⟩
theorem set3 (A R : List Value) (u0 u1 u2 t1 t2 t3 : Value) (m : Nat) (hA : A.length = m * 3) : (((A ++ u0 :: u1 :: u2 :: R).set (m * 3) t1).set (m * 3 + 1) t2).set (m * 3 + 2) t3 = A ++ t1 :: t2 :: t3 :: R := by
 rw [← hA, set_split, show A ++ t1 :: u1 :: u2 :: R = (A ++ [t1]) ++ u1 :: u2 :: R by simp, show A.length + 1 = (A ++ [t1]).length by simp, set_split,
  show (A ++ [t1]) ++ t2 :: u2 :: R = (A ++ [t1, t2]) ++ u2 :: R by simp, show A.length + 2 = (A ++ [t1, t2]).length by simp, set_split]
 simp
theorem ins_all {α β : Type} {R : α → β → Prop} {A : List α} {B : List β} (h : A.length = B.length) (hR : ∀ (i : Nat) a b, A[i]? = some a → B[i]? = some b → R a b) (m : Nat) (hm : m ≤ A.length) {a : α} {b : β} (hab : R a b) :
  ∀ (i : Nat) x y, (A.take m ++ a :: A.drop m)[i]? = some x → (B.take m ++ b :: B.drop m)[i]? = some y → R x y := by
 intro i x y hx hy
 have h1 : (A.take m).length = m := by rw [List.length_take]; omega
 have h2 : (B.take m).length = m := by rw [List.length_take]; omega
 rcases Nat.lt_trichotomy i m with hi | hi | hi
 ·
  rw [List.getElem?_append_left (by omega), List.getElem?_take, if_pos hi] at hx hy
  exact hR i x y hx hy
 ·
  subst hi
  rw [List.getElem?_append_right (by omega), h1, Nat.sub_self] at hx
  rw [List.getElem?_append_right (by omega), h2, Nat.sub_self] at hy
  simp only [List.getElem?_cons_zero, Option.some.injEq] at hx hy
  subst hx; subst hy
  exact hab
 ·
  rw [List.getElem?_append_right (by omega), h1, show i - m = (i - m - 1) + 1 by omega, List.getElem?_cons_succ, List.getElem?_drop] at hx
  rw [List.getElem?_append_right (by omega), h2, show i - m = (i - m - 1) + 1 by omega, List.getElem?_cons_succ, List.getElem?_drop] at hy
  exact hR _ x y hx hy
def CmpIs : Prop := ∀ (x y : ExT) (vx vy : Value) (w : World), ExRd w vx x → ExRd w vy y → Calls Tryz.prog 78 #[vx, vy] w fun e w' => e = .returned (.int .i64 (exCmp x y)) ∧ On w w'
set_option maxHeartbeats 4000000 in
set_option maxRecDepth 8000 in
theorem rput_is (hC : CmpIs) (L : List ExT) (x : ExT) (v : Value) (tx : Tri) (b : Nat) (w : World) (hb : b ≤ w.heap.size) (hO : OwX w b v L) (hx : ExTd w tx x) (hl : L.length ≤ 100000) :
  Calls Tryz.prog 65 #[v, triV tx] w fun e w' => ∃ v', e = .returned v' ∧ OwX w' b v' (putP L x) ∧ (∀ N, Fx N v v' w w') ∧ Ky w w' := by
 obtain ⟨a, c, rfl⟩ := hO.slice
 have hO0 := hO
 obtain ⟨vs, hvl, hown, hts⟩ := hO
 obtain ⟨t1, t2, t3⟩ := tx
 have HX : Hid (ExTd w (t1, t2, t3) x) := hx
 have HT : Hid (∀ (i : Nat) (t : Tri) (x : ExT), vs[i]? = some t → L[i]? = some x → ExTd w t x) := hts
 have hRd : Rd triC 3 w (.slice a L.length c) vs := Rd.own triC_len (base := b) (e := TX) (by rw [hvl]; exact hown)
 have HR : Hid (Rd triC 3 w (.slice a L.length c) vs) := hRd
 have HOW : Hid (w.ownsRow b TX 3 (.slice a L.length c) L.length (vs.flatMap triC)) := hown
 have HC : Hid CmpIs := hC
 obtain ⟨n, hn⟩ : ∃ n, n = L.length := ⟨_, rfl⟩
 rw [← hn] at HR HOW hl hvl ⊢
 obtain ⟨T, hT⟩ : ∃ T, T = putAtP L x := ⟨_, rfl⟩
 have HTT : Hid (T = bsP L x (n + 1) 0 n) := by show T = _; rw [hT, hn]; rfl
 have HTD : Hid (T = putAtP L x) := hT
 have HN : Hid (n = L.length) := hn
 have HOX : Hid (OwX w b (.slice a n c) L) := by show OwX w b _ L; rw [hn]; exact hO0
 clear hO0
 have HVL : Hid (vs.length = n) := hvl
 clear hC hx hts hRd hown hT hn hvl
 obtain ⟨W1, hW1⟩ : ∃ W1, W1 = w.alloc (.cells #[t1, t2, t3] TX) := ⟨_, rfl⟩
 have P1 : Bk W1 w.heap.size #[t1, t2, t3] := by rw [hW1]; exact Bk.new w _ _
 have K1 : On w W1 := by rw [hW1]; exact (On.refl w).alloc _
 unfold triV
 go_enter Tryz.func65, Tryz.ntmps65
 go_upto_region 1 with fail
 rw [← hW1]
 clear hW1
 go_wp2
 go_loopg [5, 6] n (fun gg s5 s6 wr => ∃ lo hi k : Nat, lo ≤ hi ∧ hi ≤ n ∧ gg = hi - lo ∧ s5 = .int .i64 lo ∧ s6 = .int .i64 hi ∧ Hid (On w wr) ∧ Bk wr w.heap.size #[t1, t2, t3] ∧ Hid (T = bsP L x k lo hi ∧ hi - lo < k))
 case atStart => exact ⟨0, n, n + 1, Nat.zero_le _, Nat.le_refl _, rfl, rfl, rfl, K1, P1, HTT.out, by omega⟩
 case round =>
  clear HTT K1 P1
  obtain ⟨lo, hi, k, hlh, hhn, hg, rfl, rfl, HO, PB, HB⟩ := hrel
  rcases Nat.lt_or_ge lo hi with hlt | hge
  ·
   obtain ⟨m, hm⟩ : ∃ m, m = (lo + hi) / 2 := ⟨_, rfl⟩
   have hmn : m < n := by omega
   obtain ⟨t, ht⟩ : ∃ t, vs[m]? = some t := ⟨_, List.getElem?_eq_getElem (by rw [HVL.out]; exact hmn)⟩
   obtain ⟨y, hy⟩ : ∃ y, L[m]? = some y := ⟨_, List.getElem?_eq_getElem (by rw [← HN.out]; exact hmn)⟩
   have hRr := HR.out.on HO.out
   rw [← HVL.out] at hRr
   obtain ⟨g, off, rfl, hgw, hcell⟩ := hRr.at ht
   have q0 := hcell 0 _ rfl
   have q1 := hcell 1 _ rfl
   have q2 := hcell 2 _ rfl
   rw [Nat.add_zero] at q0
   have hC1 := fun W (k : On wr W) => HC.out y x (triV t) (triV (t1, t2, t3)) W ((HT.out m t y ht hy).on (HO.out.trans k)).rd (HX.out.on (HO.out.trans k)).rd
   have hq : ((lo : Int) + (hi : Int)) / 2 = (m : Int) := by omega
   have hg : g < wr.heap.size := hgw
   have hlm : lo ≤ m := by omega
   have hmh : m < hi := by omega
   have bm0 : (0 : Int) ≤ (m : Int) := by omega
   have bm1 : (m : Int) < (n : Int) := by omega
   have hgy : L.getD m x = y := by rw [List.getD_eq_getElem?_getD, hy]; rfl
   obtain ⟨k', rfl⟩ : ∃ k', k = k' + 1 := ⟨k - 1, by have := HB.out.2; omega⟩
   have hbs := HB.out.1
   rw [bsP, if_pos hlt, ← hm, hgy] at hbs
   clear hm
   generalize exCmp y x = z at *
   by_cases hz : z < 0
   ·
    have dz : decide (z < 0) = true := decide_eq_true hz
    rw [if_pos hz] at hbs
    have HB2 : Hid (T = bsP L x k' (m + 1) hi ∧ hi - (m + 1) < k') := ⟨hbs, by have := HB.out.2; omega⟩
    have hov : IntKind.i64.wrap ((m : Int) + 1) = ((m + 1 : Nat) : Int) := by rw [wrap_small]; omega; omega; omega
    clear HB hbs hgy hy ht hcell hRr hz
    go_upto_region 4 with fail
    have K0 : On wr wr.drew := On.drew (On.refl wr)
    have hon : ∀ W W', On wr W → On W W' → On wr W' := fun W W' h k => h.trans k
    refine region_fin (fun W => On wr W) 99 7 (by kernel_rfl) rfl ?_
    refine fin_take 0 (v := ?_) rfl (by kernel_rfl) (by kernel_rfl) (by kernel_rfl) (by kernel_rfl) (fun _ _ _ h => h) rfl ?_ K0 ?_
    rotate_left
    ·
     intro W hW
     go_simp
     (try with_reducible rfl)
    simp only [zpu, zsa, zsz, zss]
    refine fin_take 1 (v := ?_) rfl (by kernel_rfl) (by kernel_rfl) (by kernel_rfl) (by kernel_rfl) (fun _ _ _ h => h) rfl ?_ K0 ?_
    rotate_left
    ·
     intro W hW
     go_simp
     (try with_reducible rfl)
    simp only [zpu, zsa, zsz, zss]
    refine fin_take 2 (v := ?_) rfl (by kernel_rfl) (by kernel_rfl) (by kernel_rfl) (by kernel_rfl) (fun _ _ _ h => h) rfl ?_ K0 ?_
    rotate_left
    ·
     intro W hW
     have f0 := (hW.cell (p := ⟨g, off + m * 3, none⟩) hg).trans q0
     have f1 := (hW.cell (p := ⟨g, off + m * 3 + 1, none⟩) hg).trans q1
     have f2 := (hW.cell (p := ⟨g, off + m * 3 + 2, none⟩) hg).trans q2
     have l1 := Nat.lt_of_lt_of_le hg hW.size
     have x0 := (PB.on hW).at (i := 0) rfl
     have x1 := (PB.on hW).at (i := 1) rfl
     have x2 := (PB.on hW).at (i := 2) rfl
     have xl := (PB.on hW).lt
     go_simp
     (try with_reducible rfl)
    simp only [zpu, zsa, zsz, zss]
    refine fin_take 3 (v := ?_) rfl (by kernel_rfl) (by kernel_rfl) (by kernel_rfl) (by kernel_rfl) (fun _ _ _ h => h) rfl ?_ K0 ?_
    rotate_left
    ·
     intro W hW
     have f0 := (hW.cell (p := ⟨g, off + m * 3, none⟩) hg).trans q0
     have f1 := (hW.cell (p := ⟨g, off + m * 3 + 1, none⟩) hg).trans q1
     have f2 := (hW.cell (p := ⟨g, off + m * 3 + 2, none⟩) hg).trans q2
     have l1 := Nat.lt_of_lt_of_le hg hW.size
     have x0 := (PB.on hW).at (i := 0) rfl
     have x1 := (PB.on hW).at (i := 1) rfl
     have x2 := (PB.on hW).at (i := 2) rfl
     have xl := (PB.on hW).lt
     go_simp
     (try with_reducible rfl)
    simp only [zpu, zsa, zsz, zss]
    refine fin_take 4 (v := ?_) rfl (by kernel_rfl) (by kernel_rfl) (by kernel_rfl) (by kernel_rfl) (fun _ _ _ h => h) rfl ?_ K0 ?_
    rotate_left
    ·
     intro W hW
     have f0 := (hW.cell (p := ⟨g, off + m * 3, none⟩) hg).trans q0
     have f1 := (hW.cell (p := ⟨g, off + m * 3 + 1, none⟩) hg).trans q1
     have f2 := (hW.cell (p := ⟨g, off + m * 3 + 2, none⟩) hg).trans q2
     have l1 := Nat.lt_of_lt_of_le hg hW.size
     have x0 := (PB.on hW).at (i := 0) rfl
     have x1 := (PB.on hW).at (i := 1) rfl
     have x2 := (PB.on hW).at (i := 2) rfl
     have xl := (PB.on hW).lt
     go_simp
     (try with_reducible rfl)
    simp only [zpu, zsa, zsz, zss]
    refine fin_one 5 rfl rfl (by kernel_rfl) (fun K hK => ?_)
    go_simp
    refine (hC1 _ K0).mono ?_
    rintro _ x1 ⟨rfl, kx1⟩
    have Sx1 := hon _ _ K0 kx1
    have Kx1 := K0.trans kx1
    refine hK.out _ _ (fun _ => Sx1) ?_
    clear hK
    refine fin_take 6 (v := ?_) rfl (by kernel_rfl) (by kernel_rfl) (by kernel_rfl) (by kernel_rfl) (fun _ _ _ h => h) rfl ?_ Sx1 ?_
    rotate_left
    ·
     intro W hW
     go_simp
     (try with_reducible rfl)
    simp only [zpu, zsa, zsz, zss]
    refine fin_done (by kernel_rfl) (NoPanic.normal ?_)
    go_wp2
    go_roundg (hi - (m + 1))
    case measure => omega
    case rel => exact ⟨m + 1, hi, k', by omega, hhn, rfl, rfl, rfl, HO.out.trans Kx1, PB.on Kx1, HB2⟩
   ·
    have dz : decide (z < 0) = false := decide_eq_false hz
    rw [if_neg hz] at hbs
    have HB2 : Hid (T = bsP L x k' lo m ∧ m - lo < k') := ⟨hbs, by have := HB.out.2; omega⟩
    clear HB hbs hgy hy ht hcell hRr hz
    go_upto_region 4 with fail
    have K0 : On wr wr.drew := On.drew (On.refl wr)
    have hon : ∀ W W', On wr W → On W W' → On wr W' := fun W W' h k => h.trans k
    refine region_fin (fun W => On wr W) 99 7 (by kernel_rfl) rfl ?_
    refine fin_take 0 (v := ?_) rfl (by kernel_rfl) (by kernel_rfl) (by kernel_rfl) (by kernel_rfl) (fun _ _ _ h => h) rfl ?_ K0 ?_
    rotate_left
    ·
     intro W hW
     go_simp
     (try with_reducible rfl)
    simp only [zpu, zsa, zsz, zss]
    refine fin_take 1 (v := ?_) rfl (by kernel_rfl) (by kernel_rfl) (by kernel_rfl) (by kernel_rfl) (fun _ _ _ h => h) rfl ?_ K0 ?_
    rotate_left
    ·
     intro W hW
     go_simp
     (try with_reducible rfl)
    simp only [zpu, zsa, zsz, zss]
    refine fin_take 2 (v := ?_) rfl (by kernel_rfl) (by kernel_rfl) (by kernel_rfl) (by kernel_rfl) (fun _ _ _ h => h) rfl ?_ K0 ?_
    rotate_left
    ·
     intro W hW
     have f0 := (hW.cell (p := ⟨g, off + m * 3, none⟩) hg).trans q0
     have f1 := (hW.cell (p := ⟨g, off + m * 3 + 1, none⟩) hg).trans q1
     have f2 := (hW.cell (p := ⟨g, off + m * 3 + 2, none⟩) hg).trans q2
     have l1 := Nat.lt_of_lt_of_le hg hW.size
     have x0 := (PB.on hW).at (i := 0) rfl
     have x1 := (PB.on hW).at (i := 1) rfl
     have x2 := (PB.on hW).at (i := 2) rfl
     have xl := (PB.on hW).lt
     go_simp
     (try with_reducible rfl)
    simp only [zpu, zsa, zsz, zss]
    refine fin_take 3 (v := ?_) rfl (by kernel_rfl) (by kernel_rfl) (by kernel_rfl) (by kernel_rfl) (fun _ _ _ h => h) rfl ?_ K0 ?_
    rotate_left
    ·
     intro W hW
     have f0 := (hW.cell (p := ⟨g, off + m * 3, none⟩) hg).trans q0
     have f1 := (hW.cell (p := ⟨g, off + m * 3 + 1, none⟩) hg).trans q1
     have f2 := (hW.cell (p := ⟨g, off + m * 3 + 2, none⟩) hg).trans q2
     have l1 := Nat.lt_of_lt_of_le hg hW.size
     have x0 := (PB.on hW).at (i := 0) rfl
     have x1 := (PB.on hW).at (i := 1) rfl
     have x2 := (PB.on hW).at (i := 2) rfl
     have xl := (PB.on hW).lt
     go_simp
     (try with_reducible rfl)
    simp only [zpu, zsa, zsz, zss]
    refine fin_take 4 (v := ?_) rfl (by kernel_rfl) (by kernel_rfl) (by kernel_rfl) (by kernel_rfl) (fun _ _ _ h => h) rfl ?_ K0 ?_
    rotate_left
    ·
     intro W hW
     have f0 := (hW.cell (p := ⟨g, off + m * 3, none⟩) hg).trans q0
     have f1 := (hW.cell (p := ⟨g, off + m * 3 + 1, none⟩) hg).trans q1
     have f2 := (hW.cell (p := ⟨g, off + m * 3 + 2, none⟩) hg).trans q2
     have l1 := Nat.lt_of_lt_of_le hg hW.size
     have x0 := (PB.on hW).at (i := 0) rfl
     have x1 := (PB.on hW).at (i := 1) rfl
     have x2 := (PB.on hW).at (i := 2) rfl
     have xl := (PB.on hW).lt
     go_simp
     (try with_reducible rfl)
    simp only [zpu, zsa, zsz, zss]
    refine fin_one 5 rfl rfl (by kernel_rfl) (fun K hK => ?_)
    go_simp
    refine (hC1 _ K0).mono ?_
    rintro _ x1 ⟨rfl, kx1⟩
    have Sx1 := hon _ _ K0 kx1
    have Kx1 := K0.trans kx1
    refine hK.out _ _ (fun _ => Sx1) ?_
    clear hK
    refine fin_take 6 (v := ?_) rfl (by kernel_rfl) (by kernel_rfl) (by kernel_rfl) (by kernel_rfl) (fun _ _ _ h => h) rfl ?_ Sx1 ?_
    rotate_left
    ·
     intro W hW
     go_simp
     (try with_reducible rfl)
    simp only [zpu, zsa, zsz, zss]
    refine fin_done (by kernel_rfl) (NoPanic.normal ?_)
    go_wp2
    go_roundg (m - lo)
    case measure => omega
    case rel => exact ⟨lo, m, k', by omega, by omega, rfl, rfl, rfl, HO.out.trans Kx1, PB.on Kx1, HB2⟩
  ·
   obtain rfl : lo = hi := by omega
   have hT : T = lo := by have := HB.out.1; rwa [bs_end] at this
   obtain ⟨m, hm⟩ : ∃ m, m = lo := ⟨_, rfl⟩
   subst hm
   subst hT
   obtain ⟨i0, hi, hz0, hz1, hz2⟩ := info_parts infoX
   clear HB hlh hge
   rcases Nat.lt_or_ge T n with hlt | hge
   ·
    obtain ⟨t, ht⟩ : ∃ t, vs[T]? = some t := ⟨_, List.getElem?_eq_getElem (by rw [HVL.out]; exact hlt)⟩
    obtain ⟨y, hy⟩ : ∃ y, L[T]? = some y := ⟨_, List.getElem?_eq_getElem (by rw [← HN.out]; exact hlt)⟩
    have hRr := HR.out.on HO.out
    rw [← HVL.out] at hRr
    obtain ⟨g, off, rfl, hgw, hcell⟩ := hRr.at ht
    have q0 := hcell 0 _ rfl
    have q1 := hcell 1 _ rfl
    have q2 := hcell 2 _ rfl
    rw [Nat.add_zero] at q0
    have hC1 := fun W (k : On wr W) => HC.out y x (triV t) (triV (t1, t2, t3)) W ((HT.out T t y ht hy).on (HO.out.trans k)).rd (HX.out.on (HO.out.trans k)).rd
    have hg : g < wr.heap.size := hgw
    have bm0 : (0 : Int) ≤ (T : Int) := by omega
    have bm1 : (T : Int) < (n : Int) := by omega
    have dl : decide (T < n) = true := decide_eq_true hlt
    have hgy : L.getD T x = y := by rw [List.getD_eq_getElem?_getD, hy]; rfl
    have hhas : putHasP L x = (exCmp y x == 0) := by unfold putHasP; rw [← HTD.out, hgy, ← HN.out, dl]; rfl
    generalize exCmp y x = z at *
    cases hz : (z == 0) with
    | true =>
     have HP : Hid (putP L x = L) := by show putP L x = L; unfold putP; rw [hhas, hz]; rfl
     clear hgy hhas hy ht hcell hRr
     go_upto_region 7 with fail
     have K0 : On wr wr.drew := On.drew (On.refl wr)
     have hon : ∀ W W', On wr W → On W W' → On wr W' := fun W W' h k => h.trans k
     refine region_fin (fun W => On wr W) 99 13 (by kernel_rfl) rfl ?_
     refine fin_take 0 (v := ?_) rfl (by kernel_rfl) (by kernel_rfl) (by kernel_rfl) (by kernel_rfl) (fun _ _ _ h => h) rfl ?_ K0 ?_
     rotate_left
     ·
      intro W hW
      go_simp
      (try with_reducible rfl)
     simp only [zpu, zsa, zsz, zss]
     refine fin_take 1 (v := ?_) rfl (by kernel_rfl) (by kernel_rfl) (by kernel_rfl) (by kernel_rfl) (fun _ _ _ h => h) rfl ?_ K0 ?_
     rotate_left
     ·
      intro W hW
      go_simp
      (try with_reducible rfl)
     simp only [zpu, zsa, zsz, zss]
     refine fin_take 2 (v := ?_) rfl (by kernel_rfl) (by kernel_rfl) (by kernel_rfl) (by kernel_rfl) (fun _ _ _ h => h) rfl ?_ K0 ?_
     rotate_left
     ·
      intro W hW
      go_simp
      (try with_reducible rfl)
     simp only [zpu, zsa, zsz, zss]
     refine fin_take 3 (v := ?_) rfl (by kernel_rfl) (by kernel_rfl) (by kernel_rfl) (by kernel_rfl) (fun _ _ _ h => h) rfl ?_ K0 ?_
     rotate_left
     ·
      intro W hW
      go_simp
      (try with_reducible rfl)
     simp only [zpu, zsa, zsz, zss]
     refine fin_take 4 (v := ?_) rfl (by kernel_rfl) (by kernel_rfl) (by kernel_rfl) (by kernel_rfl) (fun _ _ _ h => h) rfl ?_ K0 ?_
     rotate_left
     ·
      intro W hW
      go_simp
      (try with_reducible rfl)
     simp only [zpu, zsa, zsz, zss]
     refine fin_takeG 5 (v := ?_) rfl (by kernel_rfl) (by kernel_rfl) (by kernel_rfl) (by kernel_rfl) (fun _ _ _ h => h) (by rfl) ?_ K0 ?_
     rotate_left
     ·
      intro W hW
      go_simp
      (try with_reducible rfl)
     simp only [zpu, zsa, zsz, zss]
     refine fin_takeG 6 (v := ?_) rfl (by kernel_rfl) (by kernel_rfl) (by kernel_rfl) (by kernel_rfl) (fun _ _ _ h => h) (by rfl) ?_ K0 ?_
     rotate_left
     ·
      intro W hW
      go_simp
      (try with_reducible rfl)
     simp only [zpu, zsa, zsz, zss]
     refine fin_takeG 7 (v := ?_) rfl (by kernel_rfl) (by kernel_rfl) (by kernel_rfl) (by kernel_rfl) (fun _ _ _ h => h) (by rfl) ?_ K0 ?_
     rotate_left
     ·
      intro W hW
      have f0 := (hW.cell (p := ⟨g, off + T * 3, none⟩) hg).trans q0
      have f1 := (hW.cell (p := ⟨g, off + T * 3 + 1, none⟩) hg).trans q1
      have f2 := (hW.cell (p := ⟨g, off + T * 3 + 2, none⟩) hg).trans q2
      have l1 := Nat.lt_of_lt_of_le hg hW.size
      have x0 := (PB.on hW).at (i := 0) rfl
      have x1 := (PB.on hW).at (i := 1) rfl
      have x2 := (PB.on hW).at (i := 2) rfl
      have xl := (PB.on hW).lt
      go_simp
      (try with_reducible rfl)
     simp only [zpu, zsa, zsz, zss]
     refine fin_takeG 8 (v := ?_) rfl (by kernel_rfl) (by kernel_rfl) (by kernel_rfl) (by kernel_rfl) (fun _ _ _ h => h) (by rfl) ?_ K0 ?_
     rotate_left
     ·
      intro W hW
      have f0 := (hW.cell (p := ⟨g, off + T * 3, none⟩) hg).trans q0
      have f1 := (hW.cell (p := ⟨g, off + T * 3 + 1, none⟩) hg).trans q1
      have f2 := (hW.cell (p := ⟨g, off + T * 3 + 2, none⟩) hg).trans q2
      have l1 := Nat.lt_of_lt_of_le hg hW.size
      have x0 := (PB.on hW).at (i := 0) rfl
      have x1 := (PB.on hW).at (i := 1) rfl
      have x2 := (PB.on hW).at (i := 2) rfl
      have xl := (PB.on hW).lt
      go_simp
      (try with_reducible rfl)
     simp only [zpu, zsa, zsz, zss]
     refine fin_takeG 9 (v := ?_) rfl (by kernel_rfl) (by kernel_rfl) (by kernel_rfl) (by kernel_rfl) (fun _ _ _ h => h) (by rfl) ?_ K0 ?_
     rotate_left
     ·
      intro W hW
      have f0 := (hW.cell (p := ⟨g, off + T * 3, none⟩) hg).trans q0
      have f1 := (hW.cell (p := ⟨g, off + T * 3 + 1, none⟩) hg).trans q1
      have f2 := (hW.cell (p := ⟨g, off + T * 3 + 2, none⟩) hg).trans q2
      have l1 := Nat.lt_of_lt_of_le hg hW.size
      have x0 := (PB.on hW).at (i := 0) rfl
      have x1 := (PB.on hW).at (i := 1) rfl
      have x2 := (PB.on hW).at (i := 2) rfl
      have xl := (PB.on hW).lt
      go_simp
      (try with_reducible rfl)
     simp only [zpu, zsa, zsz, zss]
     refine fin_oneG 10 rfl (by rfl) (by kernel_rfl) (fun K hK => ?_)
     go_simp
     refine (hC1 _ K0).mono ?_
     rintro _ y1 ⟨rfl, ky1⟩
     have Sy1 := hon _ _ K0 ky1
     have Ky1 := K0.trans ky1
     refine hK.out _ _ (fun _ => Sy1) ?_
     clear hK
     refine fin_takeG 11 (v := ?_) rfl (by kernel_rfl) (by kernel_rfl) (by kernel_rfl) (by kernel_rfl) (fun _ _ _ h => h) (by rfl) ?_ Sy1 ?_
     rotate_left
     ·
      intro W hW
      go_simp
      (try with_reducible rfl)
     simp only [zpu, zsa, zsz, zss]
     refine fin_take 12 (v := ?_) rfl (by kernel_rfl) (by kernel_rfl) (by kernel_rfl) (by kernel_rfl) (fun _ _ _ h => h) rfl ?_ Sy1 ?_
     rotate_left
     ·
      intro W hW
      go_simp
      (try with_reducible rfl)
     simp only [zpu, zsa, zsz, zss]
     refine fin_done (by kernel_rfl) (NoPanic.normal ?_)
     go_wp2
     go_ret
     exact ⟨_, rfl, by rw [HP.out]; exact HOX.out.on (HO.out.trans Ky1), fun N => Fx.on N _ (HO.out.trans Ky1), Ky.on (HO.out.trans Ky1)⟩
    | false =>
     have HP : Hid (putP L x = L.take T ++ x :: L.drop T) := by show putP L x = _; unfold putP; rw [hhas, hz, ← HTD.out]; rfl
     clear hgy hhas hy ht hcell hRr
     go_upto_region 7 with fail
     have K0 : On wr wr.drew := On.drew (On.refl wr)
     have hon : ∀ W W', On wr W → On W W' → On wr W' := fun W W' h k => h.trans k
     refine region_fin (fun W => On wr W) 99 13 (by kernel_rfl) rfl ?_
     refine fin_take 0 (v := ?_) rfl (by kernel_rfl) (by kernel_rfl) (by kernel_rfl) (by kernel_rfl) (fun _ _ _ h => h) rfl ?_ K0 ?_
     rotate_left
     ·
      intro W hW
      go_simp
      (try with_reducible rfl)
     simp only [zpu, zsa, zsz, zss]
     refine fin_take 1 (v := ?_) rfl (by kernel_rfl) (by kernel_rfl) (by kernel_rfl) (by kernel_rfl) (fun _ _ _ h => h) rfl ?_ K0 ?_
     rotate_left
     ·
      intro W hW
      go_simp
      (try with_reducible rfl)
     simp only [zpu, zsa, zsz, zss]
     refine fin_take 2 (v := ?_) rfl (by kernel_rfl) (by kernel_rfl) (by kernel_rfl) (by kernel_rfl) (fun _ _ _ h => h) rfl ?_ K0 ?_
     rotate_left
     ·
      intro W hW
      go_simp
      (try with_reducible rfl)
     simp only [zpu, zsa, zsz, zss]
     refine fin_take 3 (v := ?_) rfl (by kernel_rfl) (by kernel_rfl) (by kernel_rfl) (by kernel_rfl) (fun _ _ _ h => h) rfl ?_ K0 ?_
     rotate_left
     ·
      intro W hW
      go_simp
      (try with_reducible rfl)
     simp only [zpu, zsa, zsz, zss]
     refine fin_take 4 (v := ?_) rfl (by kernel_rfl) (by kernel_rfl) (by kernel_rfl) (by kernel_rfl) (fun _ _ _ h => h) rfl ?_ K0 ?_
     rotate_left
     ·
      intro W hW
      go_simp
      (try with_reducible rfl)
     simp only [zpu, zsa, zsz, zss]
     refine fin_takeG 5 (v := ?_) rfl (by kernel_rfl) (by kernel_rfl) (by kernel_rfl) (by kernel_rfl) (fun _ _ _ h => h) (by rfl) ?_ K0 ?_
     rotate_left
     ·
      intro W hW
      go_simp
      (try with_reducible rfl)
     simp only [zpu, zsa, zsz, zss]
     refine fin_takeG 6 (v := ?_) rfl (by kernel_rfl) (by kernel_rfl) (by kernel_rfl) (by kernel_rfl) (fun _ _ _ h => h) (by rfl) ?_ K0 ?_
     rotate_left
     ·
      intro W hW
      go_simp
      (try with_reducible rfl)
     simp only [zpu, zsa, zsz, zss]
     refine fin_takeG 7 (v := ?_) rfl (by kernel_rfl) (by kernel_rfl) (by kernel_rfl) (by kernel_rfl) (fun _ _ _ h => h) (by rfl) ?_ K0 ?_
     rotate_left
     ·
      intro W hW
      have f0 := (hW.cell (p := ⟨g, off + T * 3, none⟩) hg).trans q0
      have f1 := (hW.cell (p := ⟨g, off + T * 3 + 1, none⟩) hg).trans q1
      have f2 := (hW.cell (p := ⟨g, off + T * 3 + 2, none⟩) hg).trans q2
      have l1 := Nat.lt_of_lt_of_le hg hW.size
      have x0 := (PB.on hW).at (i := 0) rfl
      have x1 := (PB.on hW).at (i := 1) rfl
      have x2 := (PB.on hW).at (i := 2) rfl
      have xl := (PB.on hW).lt
      go_simp
      (try with_reducible rfl)
     simp only [zpu, zsa, zsz, zss]
     refine fin_takeG 8 (v := ?_) rfl (by kernel_rfl) (by kernel_rfl) (by kernel_rfl) (by kernel_rfl) (fun _ _ _ h => h) (by rfl) ?_ K0 ?_
     rotate_left
     ·
      intro W hW
      have f0 := (hW.cell (p := ⟨g, off + T * 3, none⟩) hg).trans q0
      have f1 := (hW.cell (p := ⟨g, off + T * 3 + 1, none⟩) hg).trans q1
      have f2 := (hW.cell (p := ⟨g, off + T * 3 + 2, none⟩) hg).trans q2
      have l1 := Nat.lt_of_lt_of_le hg hW.size
      have x0 := (PB.on hW).at (i := 0) rfl
      have x1 := (PB.on hW).at (i := 1) rfl
      have x2 := (PB.on hW).at (i := 2) rfl
      have xl := (PB.on hW).lt
      go_simp
      (try with_reducible rfl)
     simp only [zpu, zsa, zsz, zss]
     refine fin_takeG 9 (v := ?_) rfl (by kernel_rfl) (by kernel_rfl) (by kernel_rfl) (by kernel_rfl) (fun _ _ _ h => h) (by rfl) ?_ K0 ?_
     rotate_left
     ·
      intro W hW
      have f0 := (hW.cell (p := ⟨g, off + T * 3, none⟩) hg).trans q0
      have f1 := (hW.cell (p := ⟨g, off + T * 3 + 1, none⟩) hg).trans q1
      have f2 := (hW.cell (p := ⟨g, off + T * 3 + 2, none⟩) hg).trans q2
      have l1 := Nat.lt_of_lt_of_le hg hW.size
      have x0 := (PB.on hW).at (i := 0) rfl
      have x1 := (PB.on hW).at (i := 1) rfl
      have x2 := (PB.on hW).at (i := 2) rfl
      have xl := (PB.on hW).lt
      go_simp
      (try with_reducible rfl)
     simp only [zpu, zsa, zsz, zss]
     refine fin_oneG 10 rfl (by rfl) (by kernel_rfl) (fun K hK => ?_)
     go_simp
     refine (hC1 _ K0).mono ?_
     rintro _ y1 ⟨rfl, ky1⟩
     have Sy1 := hon _ _ K0 ky1
     have Ky1 := K0.trans ky1
     refine hK.out _ _ (fun _ => Sy1) ?_
     clear hK
     refine fin_takeG 11 (v := ?_) rfl (by kernel_rfl) (by kernel_rfl) (by kernel_rfl) (by kernel_rfl) (fun _ _ _ h => h) (by rfl) ?_ Sy1 ?_
     rotate_left
     ·
      intro W hW
      go_simp
      (try with_reducible rfl)
     simp only [zpu, zsa, zsz, zss]
     refine fin_take 12 (v := ?_) rfl (by kernel_rfl) (by kernel_rfl) (by kernel_rfl) (by kernel_rfl) (fun _ _ _ h => h) rfl ?_ Sy1 ?_
     rotate_left
     ·
      intro W hW
      go_simp
      (try with_reducible rfl)
     simp only [zpu, zsa, zsz, zss]
     refine fin_done (by kernel_rfl) (NoPanic.normal ?_)
     have KY : Hid (On w y1) := HO.out.trans Ky1
     have PY := PB.on Ky1
     have hownY := own_on HOW.out KY.out
     have hbY : b ≤ y1.heap.size := Nat.le_trans hb KY.out.size
     go_wp2_with (at_builtin; refine wpList_append_own_at _ rfl _ _ TS rfl b TX i0 (.agg #[.slice none 0 0, .slice none 0 0, .slice none 0 0]) 3 72 Tryz.underlying29 hi hz0 hz1 hz2 rfl (by decide) _ _ _ rfl (hownY.alloc _) ⟨y1.heap.size, 0, none⟩ 1 1 [.slice none 0 0, .slice none 0 0, .slice none 0 0] rfl rfl ?c1 ?c2 ?c3 ?c4 ?c5 ?_)
     case c1 =>
      intro j u hu
      rw [new_cell]
      exact hu
     case c2 =>
      intro u hu
      simp only [List.mem_cons, List.not_mem_nil, or_false] at hu
      rcases hu with rfl | rfl | rfl <;> rfl
     case c3 => unfold maxLen; omega
     case c4 => omega
     case c5 => simp only [World.size_alloc]; omega
     intro v4 w4 hown4 hg4 _ hat4
     obtain ⟨g4, cap4, cur4, rfl, hb4, hh4, hc4, hm4, hs4, ht4⟩ : ∃ g cap cur, v4 = .slice (some ⟨g, 0, none⟩) (n + 1) cap ∧ b ≤ g ∧ w4.heap[g]? = some (.cells cur TX (0, 0)) ∧ n + 1 ≤ cap ∧ cap ≤ maxLen ∧ cur.size = cap * 3 ∧ cur.toList.take ((n + 1) * 3) = vs.flatMap triC ++ nil3 := by
      rcases hown4.2 with ⟨_, h0⟩ | h
      ·
       omega
      ·
       exact h
     obtain ⟨SP, hSP⟩ : ∃ SP, SP = cur4.toList.drop ((n + 1) * 3) := ⟨_, rfl⟩
     have hcur : cur4 = (curX vs SP).toArray := by unfold curX; rw [← ht4, hSP, List.take_append_drop]
     have hspl : SP.length = cap4 * 3 - (n + 1) * 3 := by rw [hSP, List.length_drop, Array.length_toList, hs4]
     rw [hcur] at hh4
     have NE4 : g4 ≠ w.heap.size := by
      rintro rfl
      rcases hat4 with e | e
      ·
       have := (HOW.out.lt w.heap.size e.symm).2; omega
      ·
       simp only [Value.ownBlock, Option.some.injEq] at e; have := PY.lt; omega
     have hK4 : Ky y1 w4 := (Ky.on ((On.refl y1).alloc _)).trans (Ky.grown (hownY.alloc _) hg4)
     have hF4 : ∀ N, Fx N (.slice (some ⟨g, off, none⟩) n c) (.slice (some ⟨g4, 0, none⟩) (n + 1) cap4) y1 w4 := fun N => ⟨hg4.os, hg4.tape, hg4.output, Nat.le_trans (Nat.le_succ _) (by have := hg4.size; rwa [World.size_alloc] at this), fun g hg _ hv => (hg4.block g (by rw [World.size_alloc]; omega) (fun e => hv e.symm)).trans (Below.heap_alloc y1 _ g hg), by
      rcases hat4 with e | e
      ·
       exact Or.inl e
      ·
       refine Or.inr fun g hg => ?_
       rw [e] at hg
       simp only [Option.some.injEq] at hg
       omega⟩
     have PX : Bk w4 w.heap.size #[t1, t2, t3] := by
      obtain ⟨T', e⟩ := PY.alloc (.cells #[.slice none 0 0, .slice none 0 0, .slice none 0 0] TX)
      exact ⟨T', (hg4.block _ (lt_of_block e) (fun e' => by have := (HOW.out.lt _ e'.symm).2; omega)).trans e⟩
     have HK4 : Hid (Ky y1 w4) := hK4
     have HF4 : Hid (∀ N, Fx N (.slice (some ⟨g, off, none⟩) n c) (.slice (some ⟨g4, 0, none⟩) (n + 1) cap4) y1 w4) := hF4
     clear hK4 hF4 hown4 hg4 hat4 ht4 hcur hSP hs4 hownY PY
     have HH4 : Hid (w4.heap[g4]? = some (.cells (curX vs SP).toArray TX (0, 0))) := hh4
     clear hh4
     go_upto_region 10 with fail
     have K0 : w4.drew.heap[g4]? = some (.cells (curX vs SP).toArray TX (0, 0)) := HH4.out
     have hov : IntKind.i64.wrap ((T : Int) + 1) = ((T + 1 : Nat) : Int) := by rw [wrap_small]; omega; omega; omega
     have bz0 : (0 : Int) ≤ (T : Int) + 1 := by omega
     have bz1 : (T : Int) ≤ (n : Int) + 1 := by omega
     have bz2 : (T : Int) + 1 ≤ (n : Int) + 1 := by omega
     have hvl := HVL.out
     have hfl : ((vs.drop T).flatMap triC).length = (n - T) * 3 := by rw [flat_len3, List.length_drop, hvl]
     have hAl : ((vs.take T).flatMap triC).length = T * 3 := by rw [flat_len3, List.length_take, hvl, Nat.min_eq_left hhn]
     have hcl : (curX vs SP).length = cap4 * 3 := by unfold curX nil3; rw [List.length_append, List.length_append, flat_len3, hvl, hspl]; simp only [List.length_cons, List.length_nil]; omega
     have hsrc : ∀ (W : World), W.heap[g4]? = some (.cells (curX vs SP).toArray TX (0, 0)) → ∀ j u, ((vs.drop T).flatMap triC)[j]? = some u → W.cell? ((⟨g4, T * 3, none⟩ : Addr).add j) = some u := fun W e j u hj => by
      rw [Addr.add_lit]
      have hj2 := (List.getElem?_eq_some_iff.1 hj).1
      simp only [World.cell?, e]
      unfold curX
      have e2 : vs.flatMap triC = (vs.take T).flatMap triC ++ (vs.drop T).flatMap triC := by rw [← List.flatMap_append, List.take_append_drop]
      rw [e2]
      simp only [List.append_assoc]
      rw [List.getElem?_toArray, List.getElem?_append_right (by omega), hAl, Nat.add_sub_cancel_left, List.getElem?_append_left hj2]
      simpa using hj
     have h1c : ∀ u ∈ (vs.drop T).flatMap triC, u.oneCell' = true := fun u hu => by
      refine flat_one3 (HVL.out.trans HN.out) HT.out u ?_
      obtain ⟨t, ht, hu⟩ := List.mem_flatMap.1 hu
      exact List.mem_flatMap.2 ⟨t, List.mem_of_mem_drop ht, hu⟩
     have HSRC : Hid (∀ (W : World), W.heap[g4]? = some (.cells (curX vs SP).toArray TX (0, 0)) → ∀ j u, ((vs.drop T).flatMap triC)[j]? = some u → W.cell? ((⟨g4, T * 3, none⟩ : Addr).add j) = some u) := hsrc
     have H1C : Hid (∀ u ∈ (vs.drop T).flatMap triC, u.oneCell' = true) := h1c
     have HFL : Hid (((vs.drop T).flatMap triC).length = (n - T) * 3) := hfl
     have HAL : Hid (((vs.take T).flatMap triC).length = T * 3) := hAl
     have HCL : Hid ((curX vs SP).length = cap4 * 3) := hcl
     clear hsrc h1c hfl hAl hcl hvl
     refine region_fin (fun _ => True) 99 8 (by kernel_rfl) rfl ?_
     refine fin_take 0 (v := ?_) rfl (by kernel_rfl) (by kernel_rfl) (by kernel_rfl) (by kernel_rfl) (fun _ _ _ h => h) rfl ?_ trivial ?_
     rotate_left
     ·
      intro W _
      go_simp
      (try with_reducible rfl)
     simp only [zpu, zsa, zsz, zss]
     refine fin_take 1 (v := ?_) rfl (by kernel_rfl) (by kernel_rfl) (by kernel_rfl) (by kernel_rfl) (fun _ _ _ h => h) rfl ?_ trivial ?_
     rotate_left
     ·
      intro W _
      go_simp
      (try with_reducible rfl)
     simp only [zpu, zsa, zsz, zss]
     refine fin_take 2 (v := ?_) rfl (by kernel_rfl) (by kernel_rfl) (by kernel_rfl) (by kernel_rfl) (fun _ _ _ h => h) rfl ?_ trivial ?_
     rotate_left
     ·
      intro W _
      go_simp
      (try with_reducible rfl)
     simp only [zpu, zsa, zsz, zss]
     refine fin_take 3 (v := ?_) rfl (by kernel_rfl) (by kernel_rfl) (by kernel_rfl) (by kernel_rfl) (fun _ _ _ h => h) rfl ?_ trivial ?_
     rotate_left
     ·
      intro W _
      go_simp
      (try with_reducible rfl)
     simp only [zpu, zsa, zsz, zss]
     refine fin_take 4 (v := ?_) rfl (by kernel_rfl) (by kernel_rfl) (by kernel_rfl) (by kernel_rfl) (fun _ _ _ h => h) rfl ?_ trivial ?_
     rotate_left
     ·
      intro W _
      go_simp
      (try with_reducible rfl)
     simp only [zpu, zsa, zsz, zss]
     refine fin_take 5 (v := ?_) rfl (by kernel_rfl) (by kernel_rfl) (by kernel_rfl) (by kernel_rfl) (fun _ _ _ h => h) rfl ?_ trivial ?_
     rotate_left
     ·
      intro W _
      go_simp
      (try with_reducible rfl)
     simp only [zpu, zsa, zsz, zss]
     refine fin_take 6 (v := ?_) rfl (by kernel_rfl) (by kernel_rfl) (by kernel_rfl) (by kernel_rfl) (fun _ _ _ h => h) rfl ?_ trivial ?_
     rotate_left
     ·
      intro W _
      go_simp
      (try with_reducible rfl)
     simp only [zpu, zsa, zsz, zss]
     refine fin_one 7 rfl rfl (by kernel_rfl) (fun K hK => ?_)
     refine wp_copyK _ _ TS TS rfl TX 3 Tryz.underlying29 (by rw [hi]; simp [hz1]) (g := g4) (off := (T + 1) * 3) rfl rfl (curX vs SP) TX ((vs.drop T).flatMap triC) K0 ?d1 (by decide) ?d2 ?d3 H1C.out ?_
     case d1 => rw [HFL.out]; congr 1; show n - T = Nat.min (n + 1 - T) (n - T); exact (Nat.min_eq_right (by omega)).symm
     case d2 => exact fun h0 => ⟨if_neg (by rw [HFL.out] at h0; omega), _, if_neg (by omega), HSRC.out _ K0⟩
     case d3 => rw [HFL.out, HCL.out]; omega
     refine hK.out _ _ (fun _ => trivial) ?_
     clear hK
     refine fin_done (by kernel_rfl) (NoPanic.normal ?_)
     generalize (if cap4 = T + 1 then some (⟨g4, 0, none⟩ : Addr) else some ⟨g4, (T + 1) * 3, none⟩) = D1
     generalize (if cap4 = T then some (⟨g4, 0, none⟩ : Addr) else some ⟨g4, T * 3, none⟩) = D2
     obtain ⟨u0, u1, u2, hu⟩ := ins_cells vs T (by rw [HVL.out]; exact hhn) (.slice none 0 0) (.slice none 0 0) (.slice none 0 0) SP
     have hu2 : (curX vs SP).take ((T + 1) * 3) ++ (vs.drop T).flatMap triC ++ (curX vs SP).drop ((T + 1) * 3 + ((vs.drop T).flatMap triC).length) = (vs.take T).flatMap triC ++ u0 :: u1 :: u2 :: ((vs.drop T).flatMap triC ++ SP) := hu
     rw [hu2]
     clear hu hu2
     obtain ⟨CL, hCL⟩ : ∃ CL, CL = (vs.take T).flatMap triC ++ u0 :: u1 :: u2 :: ((vs.drop T).flatMap triC ++ SP) := ⟨_, rfl⟩
     rw [← hCL]
     obtain ⟨w5, hw5⟩ : ∃ w5, w5 = w4.drew.setRow g4 CL.toArray := ⟨_, rfl⟩
     rw [← hw5]
     have h5 : w5.heap[g4]? = some (.cells CL.toArray TX (0, 0)) := by rw [hw5]; exact setRow_heap w4.drew g4 _ _ TX _ K0
     have P5 : Bk w5 w.heap.size #[t1, t2, t3] := by rw [hw5]; exact PX.drew.rowFar NE4 _
     have HK5 : Hid (Ky w4 w5) := by show Ky w4 w5; rw [hw5]; exact (Ky.refl w4).drew.trans (Ky.row K0 (Or.inl rfl) _)
     have HF5 : Hid (∀ g, g ≠ g4 → w5.heap[g]? = w4.heap[g]?) := by show ∀ g, _; intro g hg; rw [hw5]; exact setRow_other w4.drew g4 g _ hg
     have HS5 : Hid (w5.heap.size = w4.heap.size ∧ w5.os = w4.os ∧ w5.tape = w4.tape ∧ w5.output = w4.output) := by show _ ∧ _; rw [hw5]; exact ⟨size_setRow _ _ _, rfl, rfl, rfl⟩
     clear hw5
     obtain ⟨p1, n1, k1, p2, n2, k2, p3, n3, k3, e1, e2, e3⟩ : ∃ p1 n1 k1 p2 n2 k2 p3 n3 k3, t1 = .slice p1 n1 k1 ∧ t2 = .slice p2 n2 k2 ∧ t3 = .slice p3 n3 k3 := by
      obtain ⟨a1, c1, a2, c2, a3, c3, e⟩ := HX.out.ex
      simp only [Prod.mk.injEq] at e
      exact ⟨_, _, _, _, _, _, _, _, _, e.1, e.2.1, e.2.2⟩
     subst e1
     subst e2
     subst e3
     have B5 : Bk w5 g4 CL.toArray := ⟨TX, h5⟩
     have hu0 : CL[T * 3]? = some u0 := by rw [hCL, List.getElem?_append_right (by rw [HAL.out]; omega), HAL.out, Nat.sub_self]; rfl
     have hu1 : CL[T * 3 + 1]? = some u1 := by rw [hCL, List.getElem?_append_right (by rw [HAL.out]; omega), HAL.out, Nat.add_sub_cancel_left]; rfl
     have hu2 : CL[T * 3 + 2]? = some u2 := by rw [hCL, List.getElem?_append_right (by rw [HAL.out]; omega), HAL.out, Nat.add_sub_cancel_left]; rfl
     have c0 := B5.at (i := T * 3) (v := u0) (by rw [List.getElem?_toArray]; exact hu0)
     have c1 := B5.at (i := T * 3 + 1) (v := u1) (by rw [List.getElem?_toArray]; exact hu1)
     have c2 := B5.at (i := T * 3 + 2) (v := u2) (by rw [List.getElem?_toArray]; exact hu2)
     have cf := fun i => B5.fr i
     have cl := B5.lt
     have x0 := P5.at (i := 0) rfl
     have x1 := P5.at (i := 1) rfl
     have x2 := P5.at (i := 2) rfl
     have xl := P5.lt
     have H6 : Hid ((((w5.setCell ⟨g4, T * 3, none⟩ (Value.slice p1 n1 k1)).setCell ⟨g4, T * 3 + 1, none⟩ (Value.slice p2 n2 k2)).setCell ⟨g4, T * 3 + 2, none⟩ (Value.slice p3 n3 k3)).heap[g4]? = some (.cells ((vs.take T).flatMap triC ++ (Value.slice p1 n1 k1) :: (Value.slice p2 n2 k2) :: (Value.slice p3 n3 k3) :: ((vs.drop T).flatMap triC ++ SP)).toArray TX (0, 0))) := by
      have := heap_put (heap_put (heap_put h5 (T * 3) (Value.slice p1 n1 k1)) (T * 3 + 1) (Value.slice p2 n2 k2)) (T * 3 + 2) (Value.slice p3 n3 k3)
      rw [hCL, set3 _ _ _ _ _ _ _ _ T HAL.out] at this
      exact this
     have HK6 : Hid (Ky w5 (((w5.setCell ⟨g4, T * 3, none⟩ (Value.slice p1 n1 k1)).setCell ⟨g4, T * 3 + 1, none⟩ (Value.slice p2 n2 k2)).setCell ⟨g4, T * 3 + 2, none⟩ (Value.slice p3 n3 k3))) :=
      ((Ky.set h5 (Or.inl rfl) (Value.slice p1 n1 k1)).trans (Ky.set (heap_put h5 (T * 3) (Value.slice p1 n1 k1)) (Or.inl rfl) (Value.slice p2 n2 k2))).trans (Ky.set (heap_put (heap_put h5 (T * 3) (Value.slice p1 n1 k1)) (T * 3 + 1) (Value.slice p2 n2 k2)) (Or.inl rfl) (Value.slice p3 n3 k3))
     clear h5 B5 hu0 hu1 hu2 hCL K0 HSRC H1C HH4
     go_wp2
     go_ret
     obtain ⟨w6, hw6⟩ : ∃ w6, w6 = ((w5.setCell ⟨g4, T * 3, none⟩ (Value.slice p1 n1 k1)).setCell ⟨g4, T * 3 + 1, none⟩ (Value.slice p2 n2 k2)).setCell ⟨g4, T * 3 + 2, none⟩ (Value.slice p3 n3 k3) := ⟨_, rfl⟩
     have h6 := H6.out
     have k6 := HK6.out
     rw [← hw6] at h6 k6 ⊢
     have KYA : Ky w w6 := (((Ky.on KY.out).trans HK4.out).trans HK5.out).trans k6
     have hlen : (L.take T ++ x :: L.drop T).length = n + 1 := by
      rw [List.length_append, List.length_cons, List.length_take, List.length_drop, ← HN.out]; omega
     refine ⟨_, rfl, ?_, fun N => ?_, KYA⟩
     ·
      rw [HP.out]
      refine ⟨vs.take T ++ ((Value.slice p1 n1 k1), (Value.slice p2 n2 k2), (Value.slice p3 n3 k3)) :: vs.drop T, ?_, ?_, ins_all (HVL.out.trans HN.out) (fun i t y a b => (HT.out i t y a b).ky KYA) T (by rw [HVL.out]; exact hhn) (HX.out.ky KYA)⟩
      ·
       rw [hlen, List.length_append, List.length_cons, List.length_take, List.length_drop, HVL.out]; omega
      ·
       rw [hlen]
       have e3 : (vs.take T ++ ((Value.slice p1 n1 k1), (Value.slice p2 n2 k2), (Value.slice p3 n3 k3)) :: vs.drop T).flatMap triC = (vs.take T).flatMap triC ++ (Value.slice p1 n1 k1) :: (Value.slice p2 n2 k2) :: (Value.slice p3 n3 k3) :: (vs.drop T).flatMap triC := by rw [List.flatMap_append, List.flatMap_cons]; rfl
       have e4 : ((vs.take T).flatMap triC ++ (Value.slice p1 n1 k1) :: (Value.slice p2 n2 k2) :: (Value.slice p3 n3 k3) :: (vs.drop T).flatMap triC).length = (n + 1) * 3 := by
        rw [List.length_append, HAL.out]; simp only [List.length_cons]; rw [HFL.out]; omega
       rw [e3]
       refine ⟨e4, Or.inr ⟨g4, cap4, _, rfl, hb4, h6, hc4, hm4, ?_, ?_⟩⟩
       ·
        have := HCL.out
        unfold curX nil3 at this
        simp only [List.length_append, List.length_cons, List.length_nil, flat_len3, HVL.out, List.size_toArray, HAL.out, HFL.out] at this ⊢
        omega
       ·
        have : (vs.take T).flatMap triC ++ (Value.slice p1 n1 k1) :: (Value.slice p2 n2 k2) :: (Value.slice p3 n3 k3) :: ((vs.drop T).flatMap triC ++ SP) = ((vs.take T).flatMap triC ++ (Value.slice p1 n1 k1) :: (Value.slice p2 n2 k2) :: (Value.slice p3 n3 k3) :: (vs.drop T).flatMap triC) ++ SP := by simp
        rw [this, List.take_append_of_le_length (by rw [e4]; exact Nat.le_refl _), List.take_of_length_le (by rw [e4]; exact Nat.le_refl _)]
     ·
      have F1 := Fx.on N (.slice (some ⟨g, off, none⟩) n c) KY.out
      have F2 := F1.trans (HF4.out N)
      refine F2.trans ⟨?_, ?_, ?_, ?_, fun g hg _ hv => ?_, Or.inl rfl⟩
      ·
       rw [hw6]; exact HS5.out.2.1
      ·
       rw [hw6]; exact HS5.out.2.2.1
      ·
       rw [hw6]; exact HS5.out.2.2.2
      ·
       rw [hw6]; simp only [World.size_setCell]; rw [HS5.out.1]; exact Nat.le_refl _
      ·
       have hne : g ≠ g4 := fun e => hv (by rw [e]; rfl)
       rw [hw6, Below.heap_setCell _ _ _ _ hne, Below.heap_setCell _ _ _ _ hne, Below.heap_setCell _ _ _ _ hne]
       exact HF5.out g hne
   ·
    have dl : decide (T < n) = false := decide_eq_false (by omega)
    have hhas : putHasP L x = false := by unfold putHasP; rw [← HTD.out, ← HN.out, dl]; rfl
    have HP : Hid (putP L x = L.take T ++ x :: L.drop T) := by show putP L x = _; unfold putP; rw [hhas, ← HTD.out]; rfl
    clear hhas hge
    go_upto_region 7 with fail
    have K0 : On wr wr.drew := On.drew (On.refl wr)
    have hon : ∀ W W', On wr W → On W W' → On wr W' := fun W W' h k => h.trans k
    refine region_fin (fun W => On wr W) 99 13 (by kernel_rfl) rfl ?_
    refine fin_take 0 (v := ?_) rfl (by kernel_rfl) (by kernel_rfl) (by kernel_rfl) (by kernel_rfl) (fun _ _ _ h => h) rfl ?_ K0 ?_
    rotate_left
    ·
     intro W hW
     go_simp
     (try with_reducible rfl)
    simp only [zpu, zsa, zsz, zss]
    refine fin_take 1 (v := ?_) rfl (by kernel_rfl) (by kernel_rfl) (by kernel_rfl) (by kernel_rfl) (fun _ _ _ h => h) rfl ?_ K0 ?_
    rotate_left
    ·
     intro W hW
     go_simp
     (try with_reducible rfl)
    simp only [zpu, zsa, zsz, zss]
    refine fin_take 2 (v := ?_) rfl (by kernel_rfl) (by kernel_rfl) (by kernel_rfl) (by kernel_rfl) (fun _ _ _ h => h) rfl ?_ K0 ?_
    rotate_left
    ·
     intro W hW
     go_simp
     (try with_reducible rfl)
    simp only [zpu, zsa, zsz, zss]
    refine fin_take 3 (v := ?_) rfl (by kernel_rfl) (by kernel_rfl) (by kernel_rfl) (by kernel_rfl) (fun _ _ _ h => h) rfl ?_ K0 ?_
    rotate_left
    ·
     intro W hW
     go_simp
     (try with_reducible rfl)
    simp only [zpu, zsa, zsz, zss]
    refine fin_take 4 (v := ?_) rfl (by kernel_rfl) (by kernel_rfl) (by kernel_rfl) (by kernel_rfl) (fun _ _ _ h => h) rfl ?_ K0 ?_
    rotate_left
    ·
     intro W hW
     go_simp
     (try with_reducible rfl)
    simp only [zpu, zsa, zsz, zss]
    refine fin_takeN 5 rfl (by kernel_rfl) (by kernel_rfl) (by kernel_rfl) (by kernel_rfl) (fun _ _ _ h => h) (by rfl) K0 ?_
    simp only [zpu, zsa, zsz, zss]
    refine fin_takeN 6 rfl (by kernel_rfl) (by kernel_rfl) (by kernel_rfl) (by kernel_rfl) (fun _ _ _ h => h) (by rfl) K0 ?_
    simp only [zpu, zsa, zsz, zss]
    refine fin_takeN 7 rfl (by kernel_rfl) (by kernel_rfl) (by kernel_rfl) (by kernel_rfl) (fun _ _ _ h => h) (by rfl) K0 ?_
    simp only [zpu, zsa, zsz, zss]
    refine fin_takeN 8 rfl (by kernel_rfl) (by kernel_rfl) (by kernel_rfl) (by kernel_rfl) (fun _ _ _ h => h) (by rfl) K0 ?_
    simp only [zpu, zsa, zsz, zss]
    refine fin_takeN 9 rfl (by kernel_rfl) (by kernel_rfl) (by kernel_rfl) (by kernel_rfl) (fun _ _ _ h => h) (by rfl) K0 ?_
    simp only [zpu, zsa, zsz, zss]
    refine fin_takeN 10 rfl (by kernel_rfl) (by kernel_rfl) (by kernel_rfl) (by kernel_rfl) (fun _ _ _ h => h) (by rfl) K0 ?_
    simp only [zpu, zsa, zsz, zss]
    refine fin_takeN 11 rfl (by kernel_rfl) (by kernel_rfl) (by kernel_rfl) (by kernel_rfl) (fun _ _ _ h => h) (by rfl) K0 ?_
    simp only [zpu, zsa, zsz, zss]
    refine fin_take 12 (v := ?_) rfl (by kernel_rfl) (by kernel_rfl) (by kernel_rfl) (by kernel_rfl) (fun _ _ _ h => h) rfl ?_ K0 ?_
    rotate_left
    ·
     intro W hW
     go_simp
     (try with_reducible rfl)
    simp only [zpu, zsa, zsz, zss]
    refine fin_done (by kernel_rfl) (NoPanic.normal ?_)
    obtain ⟨y1, hy1⟩ : ∃ y1, y1 = wr.drew := ⟨_, rfl⟩
    rw [← hy1]
    have Kz1 : On wr y1 := by rw [hy1]; exact K0
    clear hy1 K0
    have KY : Hid (On w y1) := HO.out.trans Kz1
    have PY := PB.on Kz1
    have hownY := own_on HOW.out KY.out
    have hbY : b ≤ y1.heap.size := Nat.le_trans hb KY.out.size
    go_wp2_with (at_builtin; refine wpList_append_own_at _ rfl _ _ TS rfl b TX i0 (.agg #[.slice none 0 0, .slice none 0 0, .slice none 0 0]) 3 72 Tryz.underlying29 hi hz0 hz1 hz2 rfl (by decide) _ _ _ rfl (hownY.alloc _) ⟨y1.heap.size, 0, none⟩ 1 1 [.slice none 0 0, .slice none 0 0, .slice none 0 0] rfl rfl ?c1 ?c2 ?c3 ?c4 ?c5 ?_)
    case c1 =>
     intro j u hu
     rw [new_cell]
     exact hu
    case c2 =>
     intro u hu
     simp only [List.mem_cons, List.not_mem_nil, or_false] at hu
     rcases hu with rfl | rfl | rfl <;> rfl
    case c3 => unfold maxLen; omega
    case c4 => omega
    case c5 => simp only [World.size_alloc]; omega
    intro v4 w4 hown4 hg4 _ hat4
    obtain ⟨g4, cap4, cur4, rfl, hb4, hh4, hc4, hm4, hs4, ht4⟩ : ∃ g cap cur, v4 = .slice (some ⟨g, 0, none⟩) (n + 1) cap ∧ b ≤ g ∧ w4.heap[g]? = some (.cells cur TX (0, 0)) ∧ n + 1 ≤ cap ∧ cap ≤ maxLen ∧ cur.size = cap * 3 ∧ cur.toList.take ((n + 1) * 3) = vs.flatMap triC ++ nil3 := by
     rcases hown4.2 with ⟨_, h0⟩ | h
     ·
      omega
     ·
      exact h
    obtain ⟨SP, hSP⟩ : ∃ SP, SP = cur4.toList.drop ((n + 1) * 3) := ⟨_, rfl⟩
    have hcur : cur4 = (curX vs SP).toArray := by unfold curX; rw [← ht4, hSP, List.take_append_drop]
    have hspl : SP.length = cap4 * 3 - (n + 1) * 3 := by rw [hSP, List.length_drop, Array.length_toList, hs4]
    rw [hcur] at hh4
    have NE4 : g4 ≠ w.heap.size := by
     rintro rfl
     rcases hat4 with e | e
     ·
      have := (HOW.out.lt w.heap.size e.symm).2; omega
     ·
      simp only [Value.ownBlock, Option.some.injEq] at e; have := PY.lt; omega
    have hK4 : Ky y1 w4 := (Ky.on ((On.refl y1).alloc _)).trans (Ky.grown (hownY.alloc _) hg4)
    have hF4 : ∀ N, Fx N (.slice a n c) (.slice (some ⟨g4, 0, none⟩) (n + 1) cap4) y1 w4 := fun N => ⟨hg4.os, hg4.tape, hg4.output, Nat.le_trans (Nat.le_succ _) (by have := hg4.size; rwa [World.size_alloc] at this), fun g hg _ hv => (hg4.block g (by rw [World.size_alloc]; omega) (fun e => hv e.symm)).trans (Below.heap_alloc y1 _ g hg), by
     rcases hat4 with e | e
     ·
      exact Or.inl e
     ·
      refine Or.inr fun g hg => ?_
      rw [e] at hg
      simp only [Option.some.injEq] at hg
      omega⟩
    have PX : Bk w4 w.heap.size #[t1, t2, t3] := by
     obtain ⟨T', e⟩ := PY.alloc (.cells #[.slice none 0 0, .slice none 0 0, .slice none 0 0] TX)
     exact ⟨T', (hg4.block _ (lt_of_block e) (fun e' => by have := (HOW.out.lt _ e'.symm).2; omega)).trans e⟩
    have HK4 : Hid (Ky y1 w4) := hK4
    have HF4 : Hid (∀ N, Fx N (.slice a n c) (.slice (some ⟨g4, 0, none⟩) (n + 1) cap4) y1 w4) := hF4
    clear hK4 hF4 hown4 hg4 hat4 ht4 hcur hSP hs4 hownY PY
    have HH4 : Hid (w4.heap[g4]? = some (.cells (curX vs SP).toArray TX (0, 0))) := hh4
    clear hh4
    go_upto_region 10 with fail
    have K0 : w4.drew.heap[g4]? = some (.cells (curX vs SP).toArray TX (0, 0)) := HH4.out
    have hov : IntKind.i64.wrap ((T : Int) + 1) = ((T + 1 : Nat) : Int) := by rw [wrap_small]; omega; omega; omega
    have bz0 : (0 : Int) ≤ (T : Int) + 1 := by omega
    have bz1 : (T : Int) ≤ (n : Int) + 1 := by omega
    have bz2 : (T : Int) + 1 ≤ (n : Int) + 1 := by omega
    have hvl := HVL.out
    have hfl : ((vs.drop T).flatMap triC).length = (n - T) * 3 := by rw [flat_len3, List.length_drop, hvl]
    have hAl : ((vs.take T).flatMap triC).length = T * 3 := by rw [flat_len3, List.length_take, hvl, Nat.min_eq_left hhn]
    have hcl : (curX vs SP).length = cap4 * 3 := by unfold curX nil3; rw [List.length_append, List.length_append, flat_len3, hvl, hspl]; simp only [List.length_cons, List.length_nil]; omega
    have hsrc : ∀ (W : World), W.heap[g4]? = some (.cells (curX vs SP).toArray TX (0, 0)) → ∀ j u, ((vs.drop T).flatMap triC)[j]? = some u → W.cell? ((⟨g4, T * 3, none⟩ : Addr).add j) = some u := fun W e j u hj => by
     rw [Addr.add_lit]
     have hj2 := (List.getElem?_eq_some_iff.1 hj).1
     simp only [World.cell?, e]
     unfold curX
     have e2 : vs.flatMap triC = (vs.take T).flatMap triC ++ (vs.drop T).flatMap triC := by rw [← List.flatMap_append, List.take_append_drop]
     rw [e2]
     simp only [List.append_assoc]
     rw [List.getElem?_toArray, List.getElem?_append_right (by omega), hAl, Nat.add_sub_cancel_left, List.getElem?_append_left hj2]
     simpa using hj
    have h1c : ∀ u ∈ (vs.drop T).flatMap triC, u.oneCell' = true := fun u hu => by
     refine flat_one3 (HVL.out.trans HN.out) HT.out u ?_
     obtain ⟨t, ht, hu⟩ := List.mem_flatMap.1 hu
     exact List.mem_flatMap.2 ⟨t, List.mem_of_mem_drop ht, hu⟩
    have HSRC : Hid (∀ (W : World), W.heap[g4]? = some (.cells (curX vs SP).toArray TX (0, 0)) → ∀ j u, ((vs.drop T).flatMap triC)[j]? = some u → W.cell? ((⟨g4, T * 3, none⟩ : Addr).add j) = some u) := hsrc
    have H1C : Hid (∀ u ∈ (vs.drop T).flatMap triC, u.oneCell' = true) := h1c
    have HFL : Hid (((vs.drop T).flatMap triC).length = (n - T) * 3) := hfl
    have HAL : Hid (((vs.take T).flatMap triC).length = T * 3) := hAl
    have HCL : Hid ((curX vs SP).length = cap4 * 3) := hcl
    clear hsrc h1c hfl hAl hcl hvl
    refine region_fin (fun _ => True) 99 8 (by kernel_rfl) rfl ?_
    refine fin_take 0 (v := ?_) rfl (by kernel_rfl) (by kernel_rfl) (by kernel_rfl) (by kernel_rfl) (fun _ _ _ h => h) rfl ?_ trivial ?_
    rotate_left
    ·
     intro W _
     go_simp
     (try with_reducible rfl)
    simp only [zpu, zsa, zsz, zss]
    refine fin_take 1 (v := ?_) rfl (by kernel_rfl) (by kernel_rfl) (by kernel_rfl) (by kernel_rfl) (fun _ _ _ h => h) rfl ?_ trivial ?_
    rotate_left
    ·
     intro W _
     go_simp
     (try with_reducible rfl)
    simp only [zpu, zsa, zsz, zss]
    refine fin_take 2 (v := ?_) rfl (by kernel_rfl) (by kernel_rfl) (by kernel_rfl) (by kernel_rfl) (fun _ _ _ h => h) rfl ?_ trivial ?_
    rotate_left
    ·
     intro W _
     go_simp
     (try with_reducible rfl)
    simp only [zpu, zsa, zsz, zss]
    refine fin_take 3 (v := ?_) rfl (by kernel_rfl) (by kernel_rfl) (by kernel_rfl) (by kernel_rfl) (fun _ _ _ h => h) rfl ?_ trivial ?_
    rotate_left
    ·
     intro W _
     go_simp
     (try with_reducible rfl)
    simp only [zpu, zsa, zsz, zss]
    refine fin_take 4 (v := ?_) rfl (by kernel_rfl) (by kernel_rfl) (by kernel_rfl) (by kernel_rfl) (fun _ _ _ h => h) rfl ?_ trivial ?_
    rotate_left
    ·
     intro W _
     go_simp
     (try with_reducible rfl)
    simp only [zpu, zsa, zsz, zss]
    refine fin_take 5 (v := ?_) rfl (by kernel_rfl) (by kernel_rfl) (by kernel_rfl) (by kernel_rfl) (fun _ _ _ h => h) rfl ?_ trivial ?_
    rotate_left
    ·
     intro W _
     go_simp
     (try with_reducible rfl)
    simp only [zpu, zsa, zsz, zss]
    refine fin_take 6 (v := ?_) rfl (by kernel_rfl) (by kernel_rfl) (by kernel_rfl) (by kernel_rfl) (fun _ _ _ h => h) rfl ?_ trivial ?_
    rotate_left
    ·
     intro W _
     go_simp
     (try with_reducible rfl)
    simp only [zpu, zsa, zsz, zss]
    refine fin_one 7 rfl rfl (by kernel_rfl) (fun K hK => ?_)
    refine wp_copyK _ _ TS TS rfl TX 3 Tryz.underlying29 (by rw [hi]; simp [hz1]) (g := g4) (off := (T + 1) * 3) rfl rfl (curX vs SP) TX ((vs.drop T).flatMap triC) K0 ?d1 (by decide) ?d2 ?d3 H1C.out ?_
    case d1 => rw [HFL.out]; congr 1; show n - T = Nat.min (n + 1 - T) (n - T); exact (Nat.min_eq_right (by omega)).symm
    case d2 => exact fun h0 => ⟨if_neg (by rw [HFL.out] at h0; omega), _, if_neg (by omega), HSRC.out _ K0⟩
    case d3 => rw [HFL.out, HCL.out]; omega
    refine hK.out _ _ (fun _ => trivial) ?_
    clear hK
    refine fin_done (by kernel_rfl) (NoPanic.normal ?_)
    generalize (if cap4 = T + 1 then some (⟨g4, 0, none⟩ : Addr) else some ⟨g4, (T + 1) * 3, none⟩) = D1
    generalize (if cap4 = T then some (⟨g4, 0, none⟩ : Addr) else some ⟨g4, T * 3, none⟩) = D2
    obtain ⟨u0, u1, u2, hu⟩ := ins_cells vs T (by rw [HVL.out]; exact hhn) (.slice none 0 0) (.slice none 0 0) (.slice none 0 0) SP
    have hu2 : (curX vs SP).take ((T + 1) * 3) ++ (vs.drop T).flatMap triC ++ (curX vs SP).drop ((T + 1) * 3 + ((vs.drop T).flatMap triC).length) = (vs.take T).flatMap triC ++ u0 :: u1 :: u2 :: ((vs.drop T).flatMap triC ++ SP) := hu
    rw [hu2]
    clear hu hu2
    obtain ⟨CL, hCL⟩ : ∃ CL, CL = (vs.take T).flatMap triC ++ u0 :: u1 :: u2 :: ((vs.drop T).flatMap triC ++ SP) := ⟨_, rfl⟩
    rw [← hCL]
    obtain ⟨w5, hw5⟩ : ∃ w5, w5 = w4.drew.setRow g4 CL.toArray := ⟨_, rfl⟩
    rw [← hw5]
    have h5 : w5.heap[g4]? = some (.cells CL.toArray TX (0, 0)) := by rw [hw5]; exact setRow_heap w4.drew g4 _ _ TX _ K0
    have P5 : Bk w5 w.heap.size #[t1, t2, t3] := by rw [hw5]; exact PX.drew.rowFar NE4 _
    have HK5 : Hid (Ky w4 w5) := by show Ky w4 w5; rw [hw5]; exact (Ky.refl w4).drew.trans (Ky.row K0 (Or.inl rfl) _)
    have HF5 : Hid (∀ g, g ≠ g4 → w5.heap[g]? = w4.heap[g]?) := by show ∀ g, _; intro g hg; rw [hw5]; exact setRow_other w4.drew g4 g _ hg
    have HS5 : Hid (w5.heap.size = w4.heap.size ∧ w5.os = w4.os ∧ w5.tape = w4.tape ∧ w5.output = w4.output) := by show _ ∧ _; rw [hw5]; exact ⟨size_setRow _ _ _, rfl, rfl, rfl⟩
    clear hw5
    obtain ⟨p1, n1, k1, p2, n2, k2, p3, n3, k3, e1, e2, e3⟩ : ∃ p1 n1 k1 p2 n2 k2 p3 n3 k3, t1 = .slice p1 n1 k1 ∧ t2 = .slice p2 n2 k2 ∧ t3 = .slice p3 n3 k3 := by
     obtain ⟨a1, c1, a2, c2, a3, c3, e⟩ := HX.out.ex
     simp only [Prod.mk.injEq] at e
     exact ⟨_, _, _, _, _, _, _, _, _, e.1, e.2.1, e.2.2⟩
    subst e1
    subst e2
    subst e3
    have B5 : Bk w5 g4 CL.toArray := ⟨TX, h5⟩
    have hu0 : CL[T * 3]? = some u0 := by rw [hCL, List.getElem?_append_right (by rw [HAL.out]; omega), HAL.out, Nat.sub_self]; rfl
    have hu1 : CL[T * 3 + 1]? = some u1 := by rw [hCL, List.getElem?_append_right (by rw [HAL.out]; omega), HAL.out, Nat.add_sub_cancel_left]; rfl
    have hu2 : CL[T * 3 + 2]? = some u2 := by rw [hCL, List.getElem?_append_right (by rw [HAL.out]; omega), HAL.out, Nat.add_sub_cancel_left]; rfl
    have c0 := B5.at (i := T * 3) (v := u0) (by rw [List.getElem?_toArray]; exact hu0)
    have c1 := B5.at (i := T * 3 + 1) (v := u1) (by rw [List.getElem?_toArray]; exact hu1)
    have c2 := B5.at (i := T * 3 + 2) (v := u2) (by rw [List.getElem?_toArray]; exact hu2)
    have cf := fun i => B5.fr i
    have cl := B5.lt
    have x0 := P5.at (i := 0) rfl
    have x1 := P5.at (i := 1) rfl
    have x2 := P5.at (i := 2) rfl
    have xl := P5.lt
    have H6 : Hid ((((w5.setCell ⟨g4, T * 3, none⟩ (Value.slice p1 n1 k1)).setCell ⟨g4, T * 3 + 1, none⟩ (Value.slice p2 n2 k2)).setCell ⟨g4, T * 3 + 2, none⟩ (Value.slice p3 n3 k3)).heap[g4]? = some (.cells ((vs.take T).flatMap triC ++ (Value.slice p1 n1 k1) :: (Value.slice p2 n2 k2) :: (Value.slice p3 n3 k3) :: ((vs.drop T).flatMap triC ++ SP)).toArray TX (0, 0))) := by
     have := heap_put (heap_put (heap_put h5 (T * 3) (Value.slice p1 n1 k1)) (T * 3 + 1) (Value.slice p2 n2 k2)) (T * 3 + 2) (Value.slice p3 n3 k3)
     rw [hCL, set3 _ _ _ _ _ _ _ _ T HAL.out] at this
     exact this
    have HK6 : Hid (Ky w5 (((w5.setCell ⟨g4, T * 3, none⟩ (Value.slice p1 n1 k1)).setCell ⟨g4, T * 3 + 1, none⟩ (Value.slice p2 n2 k2)).setCell ⟨g4, T * 3 + 2, none⟩ (Value.slice p3 n3 k3))) :=
     ((Ky.set h5 (Or.inl rfl) (Value.slice p1 n1 k1)).trans (Ky.set (heap_put h5 (T * 3) (Value.slice p1 n1 k1)) (Or.inl rfl) (Value.slice p2 n2 k2))).trans (Ky.set (heap_put (heap_put h5 (T * 3) (Value.slice p1 n1 k1)) (T * 3 + 1) (Value.slice p2 n2 k2)) (Or.inl rfl) (Value.slice p3 n3 k3))
    clear h5 B5 hu0 hu1 hu2 hCL K0 HSRC H1C HH4
    go_wp2
    go_ret
    obtain ⟨w6, hw6⟩ : ∃ w6, w6 = ((w5.setCell ⟨g4, T * 3, none⟩ (Value.slice p1 n1 k1)).setCell ⟨g4, T * 3 + 1, none⟩ (Value.slice p2 n2 k2)).setCell ⟨g4, T * 3 + 2, none⟩ (Value.slice p3 n3 k3) := ⟨_, rfl⟩
    have h6 := H6.out
    have k6 := HK6.out
    rw [← hw6] at h6 k6 ⊢
    have KYA : Ky w w6 := (((Ky.on KY.out).trans HK4.out).trans HK5.out).trans k6
    have hlen : (L.take T ++ x :: L.drop T).length = n + 1 := by
     rw [List.length_append, List.length_cons, List.length_take, List.length_drop, ← HN.out]; omega
    refine ⟨_, rfl, ?_, fun N => ?_, KYA⟩
    ·
     rw [HP.out]
     refine ⟨vs.take T ++ ((Value.slice p1 n1 k1), (Value.slice p2 n2 k2), (Value.slice p3 n3 k3)) :: vs.drop T, ?_, ?_, ins_all (HVL.out.trans HN.out) (fun i t y a b => (HT.out i t y a b).ky KYA) T (by rw [HVL.out]; exact hhn) (HX.out.ky KYA)⟩
     ·
      rw [hlen, List.length_append, List.length_cons, List.length_take, List.length_drop, HVL.out]; omega
     ·
      rw [hlen]
      have e3 : (vs.take T ++ ((Value.slice p1 n1 k1), (Value.slice p2 n2 k2), (Value.slice p3 n3 k3)) :: vs.drop T).flatMap triC = (vs.take T).flatMap triC ++ (Value.slice p1 n1 k1) :: (Value.slice p2 n2 k2) :: (Value.slice p3 n3 k3) :: (vs.drop T).flatMap triC := by rw [List.flatMap_append, List.flatMap_cons]; rfl
      have e4 : ((vs.take T).flatMap triC ++ (Value.slice p1 n1 k1) :: (Value.slice p2 n2 k2) :: (Value.slice p3 n3 k3) :: (vs.drop T).flatMap triC).length = (n + 1) * 3 := by
       rw [List.length_append, HAL.out]; simp only [List.length_cons]; rw [HFL.out]; omega
      rw [e3]
      refine ⟨e4, Or.inr ⟨g4, cap4, _, rfl, hb4, h6, hc4, hm4, ?_, ?_⟩⟩
      ·
       have := HCL.out
       unfold curX nil3 at this
       simp only [List.length_append, List.length_cons, List.length_nil, flat_len3, HVL.out, List.size_toArray, HAL.out, HFL.out] at this ⊢
       omega
      ·
       have : (vs.take T).flatMap triC ++ (Value.slice p1 n1 k1) :: (Value.slice p2 n2 k2) :: (Value.slice p3 n3 k3) :: ((vs.drop T).flatMap triC ++ SP) = ((vs.take T).flatMap triC ++ (Value.slice p1 n1 k1) :: (Value.slice p2 n2 k2) :: (Value.slice p3 n3 k3) :: (vs.drop T).flatMap triC) ++ SP := by simp
       rw [this, List.take_append_of_le_length (by rw [e4]; exact Nat.le_refl _), List.take_of_length_le (by rw [e4]; exact Nat.le_refl _)]
    ·
     have F1 := Fx.on N (.slice a n c) KY.out
     have F2 := F1.trans (HF4.out N)
     refine F2.trans ⟨?_, ?_, ?_, ?_, fun g hg _ hv => ?_, Or.inl rfl⟩
     ·
      rw [hw6]; exact HS5.out.2.1
     ·
      rw [hw6]; exact HS5.out.2.2.1
     ·
      rw [hw6]; exact HS5.out.2.2.2
     ·
      rw [hw6]; simp only [World.size_setCell]; rw [HS5.out.1]; exact Nat.le_refl _
     ·
      have hne : g ≠ g4 := fun e => hv (by rw [e]; rfl)
      rw [hw6, Below.heap_setCell _ _ _ _ hne, Below.heap_setCell _ _ _ _ hne, Below.heap_setCell _ _ _ _ hne]
      exact HF5.out g hne
end Go.Proofs.YtioiabfheeglgaaGreatDoor

namespace Go.Proofs.YtioiabfheeglgaaGreatDoor
open Go.RowKit

/-- Where the executions are gathered: a block that holds the row. -/
structure Out (N b : Nat) (w : World) (v : Value) (L : List ExT) : Prop where
 cell : w.heap[N]? = some (.cells #[v] TS (0, 0))
 low : b ≤ N
 own : OwX w b v L
theorem Out.bk {N b : Nat} {w : World} {v : Value} {L : List ExT} (h : Out N b w v L) : Bk w N #[v] := ⟨TS, h.cell⟩
theorem Out.on {N b : Nat} {w w' : World} {v : Value} {L : List ExT} (h : Out N b w v L) (k : On w w') : Out N b w' v L := ⟨(k.block N (lt_of_block h.cell)).trans h.cell, h.low, h.own.on k⟩
theorem Out.ne {N b : Nat} {w : World} {v : Value} {L : List ExT} (h : Out N b w v L) : v.ownBlock ≠ some N := by
 intro e
 obtain ⟨vs, h1, h2, h3⟩ := h.own
 rcases h2.2 with ⟨hv, _⟩ | ⟨g, cap, cur, hv, _, hh, _⟩
 ·
  rw [hv] at e; cases e
 ·
  rw [hv] at e
  simp only [Value.ownBlock, Option.some.injEq] at e
  subst e
  rw [h.cell] at hh
  simp only [Option.some.injEq, Obj.cells.injEq] at hh
  exact absurd hh.2.1 (by decide)
/-- What a call leaves that puts the executions C, one by one. -/
def Post (N b most : Nat) (L C : List ExT) (v : Value) (w : World) (e : Ending) (w' : World) : Prop :=
 e = .returned (.bool (runP most L C).isSome) ∧ ∃ v' L', Out N b w' v' L' ∧ (∀ L2, runP most L C = some L2 → L' = L2) ∧ Fx N v v' w w' ∧ Ky w w'
def progV (n : Nat) (vp : Value) : Prop := ∃ a1 c1 a2 n2 c2 a3 n3 c3, vp = .agg #[.slice a1 n c1, .slice a2 n2 c2, .slice a3 n3 c3]
def OrdIs (locs most N b m : Nat) : Prop := ∀ (x : ExT) (tx : Tri) (vp : Value) (L : List ExT) (v : Value) (w : World), progV locs vp → x.co.length + m = locs → x.evs.length ≤ 900 → ExTd w tx x → Out N b w v L → L.length ≤ most → b ≤ w.heap.size →
  Calls Tryz.prog 50 #[vp, triV tx, .pointer (some ⟨N, 0, none⟩), .int .i64 most] w (Post N b most L (ordP m x) v w)
set_option maxHeartbeats 4000000 in
set_option maxRecDepth 8000 in
theorem ord_zero (hC : CmpIs) (locs most N b : Nat) (hm : most ≤ 100000) (hlo : locs ≤ 1000) : OrdIs locs most N b 0 := by
 intro x tx vp L v w hp hco hev hx hO hl hb
 obtain ⟨a1, c1, a2, n2, c2, a3, n3, c3, rfl⟩ := hp
 obtain ⟨t1, t2, t3⟩ := tx
 obtain ⟨p1, n1, k1, p2, m2, k2, p3, m3, k3, e⟩ : ∃ p1 n1 k1 p2 n2 k2 p3 n3 k3, t1 = .slice p1 n1 k1 ∧ t2 = .slice p2 n2 k2 ∧ t3 = .slice p3 n3 k3 ∧ n3 = locs := by
  obtain ⟨a1, c1, a2, c2, a3, c3, e⟩ := hx.ex
  simp only [Prod.mk.injEq] at e
  exact ⟨_, _, _, _, _, _, _, _, _, e.1, e.2.1, e.2.2, by omega⟩
 obtain ⟨W1, hW1⟩ : ∃ W1, W1 = w.alloc (.cells #[.slice a1 locs c1, .slice a2 n2 c2, .slice a3 n3 c3] 27) := ⟨_, rfl⟩
 have P1 : Bk W1 w.heap.size #[.slice a1 locs c1, .slice a2 n2 c2, .slice a3 n3 c3] := by rw [hW1]; exact Bk.new w _ _
 have K1 : On w W1 := by rw [hW1]; exact (On.refl w).alloc _
 have hs1 : W1.heap.size = w.heap.size + 1 := by rw [hW1, World.size_alloc]
 obtain ⟨W2, hW2⟩ : ∃ W2, W2 = W1.alloc (.cells #[t1, t2, t3] TX) := ⟨_, rfl⟩
 have BX : Bk W2 (w.heap.size + 1) #[t1, t2, t3] := by rw [hW2, ← hs1]; exact Bk.new W1 _ _
 have P2 : Bk W2 w.heap.size #[.slice a1 locs c1, .slice a2 n2 c2, .slice a3 n3 c3] := by rw [hW2]; exact P1.alloc _
 have K2 : On w W2 := by rw [hW2]; exact K1.alloc _
 have BN : Bk W2 N #[v] := hO.bk.on K2
 have hlow := hO.own.low
 have HPUT : Hid (∀ W, On W2 W → Calls Tryz.prog 65 #[v, triV (t1, t2, t3)] W fun e w' => ∃ v', e = .returned v' ∧ OwX w' b v' (putP L x) ∧ (∀ N, Fx N v v' W w') ∧ Ky W w') := fun W k => rput_is hC L x v (t1, t2, t3) b W (Nat.le_trans hb (K2.trans k).size) (hO.own.on (K2.trans k)) (hx.on (K2.trans k)) (by omega)
 have HKN : Hid (∀ w3 v3, (∀ N, Fx N v v3 W2.drew w3) → Bk w3 N #[v]) := fun w3 v3 h => by
  obtain ⟨T, e⟩ := BN
  exact ⟨T, ((h W2.heap.size).block N (lt_of_block e) (Nat.ne_of_lt (lt_of_block e)) hO.ne).trans e⟩
 have HKX : Hid (∀ w3 v3, (∀ N, Fx N v v3 W2.drew w3) → Bk w3 (w.heap.size + 1) #[t1, t2, t3]) := fun w3 v3 h => by
  obtain ⟨T, e⟩ := BX
  exact ⟨T, ((h W2.heap.size).block _ (lt_of_block e) (Nat.ne_of_lt (lt_of_block e)) (fun e2 => by have := (hlow _ e2).2; omega)).trans e⟩
 have HOUT : Hid (Out N b w v L) := hO
 have hNl : N < W2.heap.size := BN.lt
 have HK2 : Hid (On w W2) := K2
 have hLl : (putP L x).length ≤ 100001 := by have := (put_len L x).2; omega
 obtain ⟨R, hR⟩ : ∃ R, R = putP L x := ⟨_, rfl⟩
 rw [← hR] at HPUT hLl
 have HR : Hid (R = putP L x) := hR
 obtain ⟨rfl, rfl, rfl, rfl⟩ := e
 clear hx hO hR K1 P1 K2
 unfold triV
 go_enter Tryz.func50, Tryz.ntmps50
 go_upto_region 1 with fail
 rw [← hW1, ← hW2]
 clear hW1 hW2
 have x2 := BX.at (i := 2) rfl
 have xl := BX.lt
 have y0 := P2.at (i := 0) rfl
 have yl := P2.lt
 go_upto_region 3 with fail
 have S0 : Bk W2.drew N #[v] ∧ Bk W2.drew (w.heap.size + 1) #[(.slice p1 n1 k1), (.slice p2 m2 k2), (.slice p3 m3 k3)] := ⟨BN, BX⟩
 refine region_fin (fun W => Bk W N #[v] ∧ Bk W (w.heap.size + 1) #[(.slice p1 n1 k1), (.slice p2 m2 k2), (.slice p3 m3 k3)]) 7 8 (by kernel_rfl) rfl ?_
 refine fin_take 0 (v := ?_) rfl (by kernel_rfl) (by kernel_rfl) (by kernel_rfl) (by kernel_rfl) (fun _ _ _ h => h) rfl ?_ S0 ?_
 rotate_left
 ·
  intro W hW
  go_simp
  (try with_reducible rfl)
 simp only [zpu, zsa, zsz, zss]
 refine fin_take 1 (v := ?_) rfl (by kernel_rfl) (by kernel_rfl) (by kernel_rfl) (by kernel_rfl) (fun _ _ _ h => h) rfl ?_ S0 ?_
 rotate_left
 ·
  intro W hW
  go_simp
  (try with_reducible rfl)
 simp only [zpu, zsa, zsz, zss]
 refine fin_take 2 (v := ?_) rfl (by kernel_rfl) (by kernel_rfl) (by kernel_rfl) (by kernel_rfl) (fun _ _ _ h => h) rfl ?_ S0 ?_
 rotate_left
 ·
  intro W hW
  have f0 := hW.1.at (i := 0) rfl
  have fl := hW.1.lt
  have x0 := hW.2.at (i := 0) rfl
  have x1 := hW.2.at (i := 1) rfl
  have x2 := hW.2.at (i := 2) rfl
  have xl := hW.2.lt
  go_simp
  (try with_reducible rfl)
 simp only [zpu, zsa, zsz, zss]
 refine fin_take 3 (v := ?_) rfl (by kernel_rfl) (by kernel_rfl) (by kernel_rfl) (by kernel_rfl) (fun _ _ _ h => h) rfl ?_ S0 ?_
 rotate_left
 ·
  intro W hW
  have f0 := hW.1.at (i := 0) rfl
  have fl := hW.1.lt
  have x0 := hW.2.at (i := 0) rfl
  have x1 := hW.2.at (i := 1) rfl
  have x2 := hW.2.at (i := 2) rfl
  have xl := hW.2.lt
  go_simp
  (try with_reducible rfl)
 simp only [zpu, zsa, zsz, zss]
 refine fin_take 4 (v := ?_) rfl (by kernel_rfl) (by kernel_rfl) (by kernel_rfl) (by kernel_rfl) (fun _ _ _ h => h) rfl ?_ S0 ?_
 rotate_left
 ·
  intro W hW
  have f0 := hW.1.at (i := 0) rfl
  have fl := hW.1.lt
  have x0 := hW.2.at (i := 0) rfl
  have x1 := hW.2.at (i := 1) rfl
  have x2 := hW.2.at (i := 2) rfl
  have xl := hW.2.lt
  go_simp
  (try with_reducible rfl)
 simp only [zpu, zsa, zsz, zss]
 refine fin_one 5 rfl rfl (by kernel_rfl) (fun K hK => ?_)
 go_simp
 refine (HPUT.out W2.drew (On.drew (On.refl W2))).mono ?_
 rintro _ w3 ⟨v3, rfl, hO3, hF3, hK3⟩
 obtain ⟨a4, c4, rfl⟩ := hO3.slice
 have S3 : Bk w3 N #[v] ∧ Bk w3 (w.heap.size + 1) #[(.slice p1 n1 k1), (.slice p2 m2 k2), (.slice p3 m3 k3)] := ⟨HKN.out w3 _ hF3, HKX.out w3 _ hF3⟩
 refine hK.out _ _ (fun _ => S3) ?_
 clear hK
 refine fin_take 6 (v := ?_) rfl (by kernel_rfl) (by kernel_rfl) (by kernel_rfl) (by kernel_rfl) (fun _ _ _ h => h) rfl ?_ S3 ?_
 rotate_left
 ·
  intro W hW
  have f0 := hW.1.at (i := 0) rfl
  have fl := hW.1.lt
  have x0 := hW.2.at (i := 0) rfl
  have x1 := hW.2.at (i := 1) rfl
  have x2 := hW.2.at (i := 2) rfl
  have xl := hW.2.lt
  go_simp
  (try with_reducible rfl)
 simp only [zpu, zsa, zsz, zss]
 have d0 := S3.1.at (i := 0) rfl
 have cf := S3.1.fr 0
 have dl := S3.1.lt
 refine fin_one 7 rfl rfl (by kernel_rfl) (fun K hK => ?_)
 go_simp
 refine hK.out _ _ (fun h => absurd rfl h) ?_
 clear hK
 refine fin_done (by kernel_rfl) (NoPanic.normal ?_)
 obtain ⟨w4, hw4⟩ : ∃ w4, w4 = w3.setCell ⟨N, 0, none⟩ (.slice a4 R.length c4) := ⟨_, rfl⟩
 rw [← hw4]
 have e3 : w3.heap[N]? = some (.cells #[v] TS (0, 0)) := ((hF3 W2.heap.size).block N hNl (Nat.ne_of_lt hNl) HOUT.out.ne).trans ((HOUT.out.on HK2.out).cell)
 have e4 : w4.heap[N]? = some (.cells #[.slice a4 R.length c4] TS (0, 0)) := by rw [hw4]; exact heap_put (cs := [v]) e3 0 _
 have HK4 : Hid (Ky w w4) := by
  show Ky w w4
  rw [hw4]
  exact ((Ky.on HK2.out).drew.trans hK3).trans (Ky.set e3 (Or.inr rfl) _)
 have HF4 : Hid (Fx N v (.slice a4 R.length c4) w w4) := by
  show Fx N v _ w w4
  rw [hw4]
  have f1 := (Fx.on N v HK2.out).trans (show Fx N v (.slice a4 R.length c4) W2 w3 from ⟨(hF3 N).os, (hF3 N).tape, (hF3 N).output, (hF3 N).size, (hF3 N).block, (hF3 N).next⟩)
  exact ⟨f1.os, f1.tape, f1.output, by rw [World.size_setCell]; exact f1.size, fun g hg hne hv => (Below.heap_setCell _ _ _ _ (show g ≠ N from hne)).trans (f1.block g hg hne hv), f1.next⟩
 have HO4 : Hid (Out N b w4 (.slice a4 R.length c4) R) := ⟨e4, HOUT.out.low, by
  obtain ⟨vs, g1, g2, g3⟩ := hO3
  rw [hw4]
  exact ⟨vs, g1, own_setT g2 e3 (by decide) _ _, fun i t x a b => (g3 i t x a b).ky (Ky.set e3 (Or.inr rfl) _)⟩⟩
 have c0 := HO4.out.bk.at (i := 0) rfl
 have cl := HO4.out.bk.lt
 clear hw4 e3 e4 hO3 hF3 hK3 S3 S0 cf d0 dl HPUT HKN HKX
 have hrun : runP most L (ordP 0 x) = if R.length ≤ most then some R else none := by rw [ordP, runP, ← HR.out]; rfl
 have HRUN : Hid (runP most L (ordP 0 x) = if R.length ≤ most then some R else none) := hrun
 clear hrun
 go_wp2
 go_ret
 refine ⟨?_, _, R, HO4.out, fun L2 h2 => ?_, HF4.out, HK4.out⟩
 ·
  rw [HRUN.out]
  by_cases hle : R.length ≤ most
  ·
   rw [if_pos hle]; simp [hle]
  ·
   rw [if_neg hle]; simp [hle]
 ·
  rw [HRUN.out] at h2
  split at h2
  ·
   exact Option.some.inj h2
  ·
   cases h2
theorem Bk.fx {N M : Nat} {v v' : Value} {w w' : World} {cs : Array Value} (h : Bk w M cs) (f : Fx N v v' w w') (hN : M ≠ N) (hv : v.ownBlock ≠ some M) : Bk w' M cs := by
 obtain ⟨T, e⟩ := h
 exact ⟨T, (f.block M (lt_of_block e) hN hv).trans e⟩
theorem elRow : ElT 39 22 1 24 (.slice none 0 0) := ⟨Tryz.underlying39, by kernel_rfl, rfl, by decide⟩
theorem oneC_len (v : Value) : (oneC v).length = 1 := rfl
def PermIs (locs most N b m n : Nat) : Prop := ∀ (x : ExT) (tx : Tri) (vp : Value) (row left : List Int) (vr vl : Value) (L : List ExT) (v : Value) (w : World), progV locs vp → x.co.length + 1 + m = locs → x.evs.length ≤ 900 → left.length = n → row.length + n ≤ 1000 → ExTd w tx x → RdT 3 intC 1 w vr row → RdT 3 intC 1 w vl left → Out N b w v L → L.length ≤ most → b ≤ w.heap.size →
  Calls Tryz.prog 66 #[vp, triV tx, vr, vl, .pointer (some ⟨N, 0, none⟩), .int .i64 most] w (Post N b most L ((permP n row left).flatMap fun r => ordP m ⟨x.evs, x.rf, x.co ++ [r]⟩) v w)
theorem Post.on {N b most : Nat} {L C : List ExT} {v : Value} {w0 w : World} {e : Ending} {w' : World} (h : Post N b most L C v w e w') (k : On w0 w) : Post N b most L C v w0 e w' := by
 obtain ⟨h1, v', L', h2, h3, h4, h5⟩ := h
 exact ⟨h1, v', L', h2, h3, (Fx.on N v k).trans h4, (Ky.on k).trans h5⟩
set_option maxHeartbeats 4000000 in
set_option maxRecDepth 8000 in
theorem perm_zero (locs most N b m : Nat) (hlo : locs ≤ 1000) (hOrd : OrdIs locs most N b m) : PermIs locs most N b m 0 := by
 intro x tx vp row left vr vl L v w hp hco hev hn hrl hx hr hle hO hl hb
 obtain rfl := List.eq_nil_of_length_eq_zero hn
 have hp0 := hp
 obtain ⟨a1, c1, a2, n2, c2, a3, n3, c3, rfl⟩ := hp
 obtain ⟨t1, t2, t3⟩ := tx
 obtain ⟨q1, d1, q2, d2, q3, d3, e⟩ := hx.ex
 simp only [Prod.mk.injEq] at e
 obtain ⟨rfl, rfl, rfl⟩ := e
 obtain ⟨al, cl, rfl, _, _⟩ := hle.1.slice
 obtain ⟨ar, cr, rfl, _, _⟩ := hr.1.slice
 have hX := hx
 obtain ⟨vs, hvs1, hvs2, hvs3⟩ := hx.co
 obtain ⟨W1, hW1⟩ : ∃ W1, W1 = w.alloc (.cells #[.slice a1 locs c1, .slice a2 n2 c2, .slice a3 n3 c3] 27) := ⟨_, rfl⟩
 have P1 : Bk W1 w.heap.size #[.slice a1 locs c1, .slice a2 n2 c2, .slice a3 n3 c3] := by rw [hW1]; exact Bk.new w _ _
 have K1 : On w W1 := by rw [hW1]; exact (On.refl w).alloc _
 have hs1 : W1.heap.size = w.heap.size + 1 := by rw [hW1, World.size_alloc]
 obtain ⟨W2, hW2⟩ : ∃ W2, W2 = W1.alloc (.cells #[.slice q1 x.evs.length d1, .slice q2 x.rf.length d2, .slice q3 x.co.length d3] TX) := ⟨_, rfl⟩
 have BX : Bk W2 (w.heap.size + 1) #[.slice q1 x.evs.length d1, .slice q2 x.rf.length d2, .slice q3 x.co.length d3] := by rw [hW2, ← hs1]; exact Bk.new W1 _ _
 have BP : Bk W2 w.heap.size #[.slice a1 locs c1, .slice a2 n2 c2, .slice a3 n3 c3] := by rw [hW2]; exact P1.alloc _
 have K2 : On w W2 := by rw [hW2]; exact K1.alloc _
 have HV : Hid (Rd oneC 1 W2.drew (.slice q3 x.co.length d3) vs) := (hvs2.1.on K2).on (On.drew (On.refl _))
 have hvl : vs.length ≤ 1000 := by omega
 have HVL : Hid (vs.length = x.co.length) := hvs1
 have HORD : Hid (∀ (v11 : Value) (W : World) (nn : Nat), On W2.drew W → Hid (nn = (vs ++ [Value.slice ar row.length cr]).length) → W.ownsRow W2.heap.size 22 1 v11 nn ((vs ++ [Value.slice ar row.length cr]).flatMap oneC) →
   Calls Tryz.prog 50 #[.agg #[.slice a1 locs c1, .slice a2 n2 c2, .slice a3 n3 c3], .agg #[.slice q1 x.evs.length d1, .slice q2 x.rf.length d2, v11], .pointer (some ⟨N, 0, none⟩), .int .i64 most] W fun e w' => Post N b most L ((permP 0 row []).flatMap fun r => ordP m ⟨x.evs, x.rf, x.co ++ [r]⟩) v w e w' ∧ ((Bk W w.heap.size #[.slice a1 locs c1, .slice a2 n2 c2, .slice a3 n3 c3] ∧ Bk W (w.heap.size + 1) #[.slice q1 x.evs.length d1, .slice q2 x.rf.length d2, .slice q3 x.co.length d3]) → (Bk w' w.heap.size #[.slice a1 locs c1, .slice a2 n2 c2, .slice a3 n3 c3] ∧ Bk w' (w.heap.size + 1) #[.slice q1 x.evs.length d1, .slice q2 x.rf.length d2, .slice q3 x.co.length d3])))   := fun v11 W nn k hnn h11 => by
  rw [hnn.out] at h11
  have kk : On w W := (K2.trans (On.drew (On.refl _))).trans k
  have hE : (permP 0 row []).flatMap (fun r => ordP m ⟨x.evs, x.rf, x.co ++ [r]⟩) = ordP m ⟨x.evs, x.rf, x.co ++ [row]⟩ := by rw [permP]; simp
  rw [hE]
  have hl11 : ∃ a c, v11 = .slice a (x.co ++ [row]).length c := by
   obtain ⟨a, c, e⟩ := own_slice h11
   exact ⟨a, c, by rw [e]; simp [hvs1]⟩
  refine (hOrd ⟨x.evs, x.rf, x.co ++ [row]⟩ (.slice q1 x.evs.length d1, .slice q2 x.rf.length d2, v11) _ L v W hp0 (by simp; omega) hev ⟨?_, hX.evs.on kk, hX.rf.on kk, ?_⟩ (hO.on kk) hl (Nat.le_trans hb kk.size)).mono ?_
  ·
   obtain ⟨a, c, e⟩ := hl11
   exact ⟨q1, d1, q2, d2, a, c, by rw [e]⟩
  ·
   refine ⟨vs ++ [Value.slice ar row.length cr], by simp [hvs1], RdT.own oneC_len h11, fun i u M a b => ?_⟩
   rcases Nat.lt_or_ge i vs.length with h | h
   ·
    rw [List.getElem?_append_left h] at a
    rw [List.getElem?_append_left (by omega)] at b
    exact (hvs3 i u M a b).on kk
   ·
    have hi : i = vs.length := by
     have := (List.getElem?_eq_some_iff.1 a).1
     simp at this
     omega
    subst hi
    rw [List.getElem?_append_right (Nat.le_refl _), Nat.sub_self] at a
    rw [hvs1, List.getElem?_append_right (Nat.le_refl _), Nat.sub_self] at b
    simp only [List.getElem?_cons_zero, Option.some.injEq] at a b
    subst a; subst b
    exact hr.on kk
  ·
   intro e w' hP
   refine ⟨hP.on kk, ?_⟩
   obtain ⟨_, _, _, _, _, hf, _⟩ := hP
   have hNw : N < w.heap.size := lt_of_block hO.cell
   exact fun h => ⟨h.1.fx hf (by omega) (fun e2 => by have := (hO.own.low _ e2).2; omega), h.2.fx hf (by omega) (fun e2 => by have := (hO.own.low _ e2).2; omega)⟩
 clear hX hx hvs1 hvs2 hvs3 hr hle hO hOrd hp0 K1 P1
 unfold triV
 go_enter Tryz.func66, Tryz.ntmps66
 go_upto_region 1 with fail
 rw [← hW1, ← hW2]
 clear hW1 hW2
 go_upto_region 2 with fail
 have S0 : Bk W2.drew w.heap.size #[.slice a1 locs c1, .slice a2 n2 c2, .slice a3 n3 c3] ∧ Bk W2.drew (w.heap.size + 1) #[.slice q1 x.evs.length d1, .slice q2 x.rf.length d2, .slice q3 x.co.length d3] := ⟨BP, BX⟩
 have hon : ∀ W W', (Bk W w.heap.size #[.slice a1 locs c1, .slice a2 n2 c2, .slice a3 n3 c3] ∧ Bk W (w.heap.size + 1) #[.slice q1 x.evs.length d1, .slice q2 x.rf.length d2, .slice q3 x.co.length d3]) → On W W' → (Bk W' w.heap.size #[.slice a1 locs c1, .slice a2 n2 c2, .slice a3 n3 c3] ∧ Bk W' (w.heap.size + 1) #[.slice q1 x.evs.length d1, .slice q2 x.rf.length d2, .slice q3 x.co.length d3]) := fun W W' h k => ⟨h.1.on k, h.2.on k⟩
 refine region_fz (fun W => Bk W w.heap.size #[.slice a1 locs c1, .slice a2 n2 c2, .slice a3 n3 c3] ∧ Bk W (w.heap.size + 1) #[.slice q1 x.evs.length d1, .slice q2 x.rf.length d2, .slice q3 x.co.length d3]) [] 17 (by kernel_rfl) rfl ?_
 refine fz_take 0 (v := ?_) rfl (by kernel_rfl) (by kernel_rfl) (by kernel_rfl) (by kernel_rfl) (fun _ _ _ h => h) rfl ?_ S0 ?_
 rotate_left
 ·
  intro W hW
  have x0 := hW.2.at (i := 0) rfl
  have x1 := hW.2.at (i := 1) rfl
  have x2 := hW.2.at (i := 2) rfl
  have xl := hW.2.lt
  have y0 := hW.1.at (i := 0) rfl
  have y1 := hW.1.at (i := 1) rfl
  have y2 := hW.1.at (i := 2) rfl
  have yl := hW.1.lt
  go_simp
  (try with_reducible rfl)
 simp only [zpu, zsa, zsz, zss]
 refine fz_take 1 (v := ?_) rfl (by kernel_rfl) (by kernel_rfl) (by kernel_rfl) (by kernel_rfl) (fun _ _ _ h => h) rfl ?_ S0 ?_
 rotate_left
 ·
  intro W hW
  have x0 := hW.2.at (i := 0) rfl
  have x1 := hW.2.at (i := 1) rfl
  have x2 := hW.2.at (i := 2) rfl
  have xl := hW.2.lt
  have y0 := hW.1.at (i := 0) rfl
  have y1 := hW.1.at (i := 1) rfl
  have y2 := hW.1.at (i := 2) rfl
  have yl := hW.1.lt
  go_simp
  (try with_reducible rfl)
 simp only [zpu, zsa, zsz, zss]
 refine fz_take 2 (v := ?_) rfl (by kernel_rfl) (by kernel_rfl) (by kernel_rfl) (by kernel_rfl) (fun _ _ _ h => h) rfl ?_ S0 ?_
 rotate_left
 ·
  intro W hW
  have x0 := hW.2.at (i := 0) rfl
  have x1 := hW.2.at (i := 1) rfl
  have x2 := hW.2.at (i := 2) rfl
  have xl := hW.2.lt
  have y0 := hW.1.at (i := 0) rfl
  have y1 := hW.1.at (i := 1) rfl
  have y2 := hW.1.at (i := 2) rfl
  have yl := hW.1.lt
  go_simp
  (try with_reducible rfl)
 simp only [zpu, zsa, zsz, zss]
 refine fz_take 3 (v := ?_) rfl (by kernel_rfl) (by kernel_rfl) (by kernel_rfl) (by kernel_rfl) (fun _ _ _ h => h) rfl ?_ S0 ?_
 rotate_left
 ·
  intro W hW
  have x0 := hW.2.at (i := 0) rfl
  have x1 := hW.2.at (i := 1) rfl
  have x2 := hW.2.at (i := 2) rfl
  have xl := hW.2.lt
  have y0 := hW.1.at (i := 0) rfl
  have y1 := hW.1.at (i := 1) rfl
  have y2 := hW.1.at (i := 2) rfl
  have yl := hW.1.lt
  go_simp
  (try with_reducible rfl)
 simp only [zpu, zsa, zsz, zss]
 refine fz_take 4 (v := ?_) rfl (by kernel_rfl) (by kernel_rfl) (by kernel_rfl) (by kernel_rfl) (fun _ _ _ h => h) rfl ?_ S0 ?_
 rotate_left
 ·
  intro W hW
  have x0 := hW.2.at (i := 0) rfl
  have x1 := hW.2.at (i := 1) rfl
  have x2 := hW.2.at (i := 2) rfl
  have xl := hW.2.lt
  have y0 := hW.1.at (i := 0) rfl
  have y1 := hW.1.at (i := 1) rfl
  have y2 := hW.1.at (i := 2) rfl
  have yl := hW.1.lt
  go_simp
  (try with_reducible rfl)
 simp only [zpu, zsa, zsz, zss]
 refine fz_take 6 (v := ?_) rfl (by kernel_rfl) (by kernel_rfl) (by kernel_rfl) (by kernel_rfl) (fun _ _ _ h => h) rfl ?_ S0 ?_
 rotate_left
 ·
  intro W hW
  have x0 := hW.2.at (i := 0) rfl
  have x1 := hW.2.at (i := 1) rfl
  have x2 := hW.2.at (i := 2) rfl
  have xl := hW.2.lt
  have y0 := hW.1.at (i := 0) rfl
  have y1 := hW.1.at (i := 1) rfl
  have y2 := hW.1.at (i := 2) rfl
  have yl := hW.1.lt
  go_simp
  (try with_reducible rfl)
 simp only [zpu, zsa, zsz, zss]
 refine fz_take 7 (v := ?_) rfl (by kernel_rfl) (by kernel_rfl) (by kernel_rfl) (by kernel_rfl) (fun _ _ _ h => h) rfl ?_ S0 ?_
 rotate_left
 ·
  intro W hW
  have x0 := hW.2.at (i := 0) rfl
  have x1 := hW.2.at (i := 1) rfl
  have x2 := hW.2.at (i := 2) rfl
  have xl := hW.2.lt
  have y0 := hW.1.at (i := 0) rfl
  have y1 := hW.1.at (i := 1) rfl
  have y2 := hW.1.at (i := 2) rfl
  have yl := hW.1.lt
  go_simp
  (try with_reducible rfl)
 simp only [zpu, zsa, zsz, zss]
 refine fz_take 9 (v := ?_) rfl (by kernel_rfl) (by kernel_rfl) (by kernel_rfl) (by kernel_rfl) (fun _ _ _ h => h) rfl ?_ S0 ?_
 rotate_left
 ·
  intro W hW
  have x0 := hW.2.at (i := 0) rfl
  have x1 := hW.2.at (i := 1) rfl
  have x2 := hW.2.at (i := 2) rfl
  have xl := hW.2.lt
  have y0 := hW.1.at (i := 0) rfl
  have y1 := hW.1.at (i := 1) rfl
  have y2 := hW.1.at (i := 2) rfl
  have yl := hW.1.lt
  go_simp
  (try with_reducible rfl)
 simp only [zpu, zsa, zsz, zss]
 refine fz_take 13 (v := ?_) rfl (by kernel_rfl) (by kernel_rfl) (by kernel_rfl) (by kernel_rfl) (fun _ _ _ h => h) rfl ?_ S0 ?_
 rotate_left
 ·
  intro W hW
  have x0 := hW.2.at (i := 0) rfl
  have x1 := hW.2.at (i := 1) rfl
  have x2 := hW.2.at (i := 2) rfl
  have xl := hW.2.lt
  have y0 := hW.1.at (i := 0) rfl
  have y1 := hW.1.at (i := 1) rfl
  have y2 := hW.1.at (i := 2) rfl
  have yl := hW.1.lt
  go_simp
  (try with_reducible rfl)
 simp only [zpu, zsa, zsz, zss]
 refine fz_take 14 (v := ?_) rfl (by kernel_rfl) (by kernel_rfl) (by kernel_rfl) (by kernel_rfl) (fun _ _ _ h => h) rfl ?_ S0 ?_
 rotate_left
 ·
  intro W hW
  have x0 := hW.2.at (i := 0) rfl
  have x1 := hW.2.at (i := 1) rfl
  have x2 := hW.2.at (i := 2) rfl
  have xl := hW.2.lt
  have y0 := hW.1.at (i := 0) rfl
  have y1 := hW.1.at (i := 1) rfl
  have y2 := hW.1.at (i := 2) rfl
  have yl := hW.1.lt
  go_simp
  (try with_reducible rfl)
 simp only [zpu, zsa, zsz, zss]
 refine fz_grow [(5, 23, none), (8, 26, none), (10, 28, none)] (fun i v W => (i = 5 → ∃ g, v = .slice (some ⟨g, 0, none⟩) 0 0 ∧ World.ownsRow W W2.heap.size 22 1 v 0 []) ∧ (i = 8 → World.ownsRow W W2.heap.size 22 1 v vs.length (vs.flatMap oneC)) ∧ (i = 10 → ∃ g, v = .slice (some ⟨g, 0, none⟩) 1 1 ∧ World.ownsRow W 0 22 1 v 1 [Value.slice ar row.length cr])) #[true, true, true, true, true, true, true, true, true, true, true, false, false, true, true, false, false] 3 4 (by simp) (by simp) ?_ rfl hon S0 ?_ (by kernel_rfl) (by kernel_rfl) ?_ ?_
 ·
  intro x hx
  simp only [List.mem_cons, List.not_mem_nil, or_false] at hx
  rcases hx with rfl | rfl | rfl <;> rfl
 ·
  intro i v w w' h k
  exact ⟨fun e => (fun h => by obtain ⟨g, h1, h2⟩ := h; exact ⟨g, h1, own_on h2 k⟩) (h.1 e), fun e => (fun h => own_on h k) (h.2.1 e), fun e => (fun h => by obtain ⟨g, h1, h2⟩ := h; exact ⟨g, h1, own_on h2 k⟩) (h.2.2 e)⟩
 ·
  intro i d c hi
  simp only [List.mem_cons, Prod.mk.injEq, List.not_mem_nil, or_false] at hi
  rcases hi with ⟨rfl, rfl, rfl⟩ | ⟨rfl, rfl, rfl⟩ | ⟨rfl, rfl, rfl⟩
  ·
   refine ⟨_, rfl, rfl, fun p W' l' K hr hm hS hK => ?_⟩
   have kW := hm.on
   clear hm hr
   simp only [putsA, putsD, List.foldl_cons, List.foldl_nil, Act.put, List.setIfInBounds_toArray, List.set_cons_zero, List.set_cons_succ] at hK ⊢
   go_simp
   exact hK _ _ ((On.refl W').alloc _) ⟨fun _ => ⟨_, rfl, own_empty W' _ 1 _ (show W2.drew.heap.size ≤ _ from kW.size)⟩, fun e => absurd e (by decide), fun e => absurd e (by decide)⟩
  ·
   refine ⟨_, rfl, rfl, fun p W' l' K hr hm hS hK => ?_⟩
   obtain ⟨u5, hu5, f5⟩ := hm.get (x := (5, 23, none)) (by simp) (ready_dep hr rfl (e := ⟨5, .data⟩) (by simp) rfl)
   have g5 := f5.1 rfl
   have kW := hm.on
   clear hm hr
   simp only [putsA, putsD, List.foldl_cons, List.foldl_nil, hu5, Option.getD_some, Act.put, List.setIfInBounds_toArray, List.set_cons_zero, List.set_cons_succ] at hK ⊢
   obtain ⟨g, rfl, hE⟩ := g5
   refine wp_append_new elRow oneC_len _ _ rfl rfl rfl hE (HV.out.on kW) (by omega) (by decide) (show W2.drew.heap.size ≤ _ from kW.size) ?_
   intro v' w'' h1 k1
   exact hK v' w'' k1 ⟨fun e => absurd e (by decide), fun _ => h1, fun e => absurd e (by decide)⟩
  ·
   refine ⟨_, rfl, rfl, fun p W' l' K hr hm hS hK => ?_⟩
   have kW := hm.on
   clear hm hr
   simp only [putsA, putsD, List.foldl_cons, List.foldl_nil, Act.put, List.setIfInBounds_toArray, List.set_cons_zero, List.set_cons_succ] at hK ⊢
   go_simp
   exact hK _ _ ((On.refl W').alloc _) ⟨fun e => absurd e (by decide), fun e => absurd e (by decide), fun _ => ⟨_, rfl, own_one W' #[.slice ar row.length cr] _ 1 0 rfl (Nat.zero_le _)⟩⟩
 intro p WE hm hSE
 obtain ⟨u5, hu5, f5⟩ := hm.get (x := (5, 23, none)) (by simp) rfl
 have g5 := f5.1 rfl
 obtain ⟨u8, hu8, f8⟩ := hm.get (x := (8, 26, none)) (by simp) rfl
 have g8 := f8.2.1 rfl
 obtain ⟨u10, hu10, f10⟩ := hm.get (x := (10, 28, none)) (by simp) rfl
 have g10 := f10.2.2 rfl
 have kM := hm.on
 simp only [putsA, putsD, List.foldl_cons, List.foldl_nil, hu5, hu8, hu10, Option.getD_some, Act.put, List.setIfInBounds_toArray, List.set_cons_zero, List.set_cons_succ]
 clear hm hu5 f5 hu8 f8 hu10 f10
 obtain ⟨g10, rfl, h10⟩ := g10
 refine fz_one 11 rfl rfl (by kernel_rfl) (fun K hK => ?_)
 refine wp_append_rdG elRow oneC_len _ _ rfl rfl rfl (fun u hu => by simp [oneC] at hu; rw [hu]; rfl) g8 (Rd.own (C := oneC) (k := 1) oneC_len (L := [Value.slice ar row.length cr]) h10) (by simp; omega) (by decide) (show W2.drew.heap.size ≤ _ from kM.size) ?_
 intro v11 w11 h11 g11
 have kJ : On W2.drew w11 := kM.grown g11 (fun q hq => (g8.lt q hq).1)
 have S11 := hon _ _ S0 kJ
 obtain ⟨nn, hnn⟩ : ∃ nn, nn = (vs ++ [Value.slice ar row.length cr]).length := ⟨_, rfl⟩
 rw [← hnn] at h11
 have HNN : Hid (nn = (vs ++ [Value.slice ar row.length cr]).length) := hnn
 clear hnn
 obtain ⟨a11, c11, rfl⟩ := own_slice h11
 have H11 : Hid (w11.ownsRow W2.heap.size 22 1 (.slice a11 nn c11) nn ((vs ++ [Value.slice ar row.length cr]).flatMap oneC)) := h11
 clear h11 g8 h10 g11
 refine hK.out _ _ (fun _ => S11) ?_
 clear hK
 refine fz_take 12 (v := ?_) rfl (by kernel_rfl) (by kernel_rfl) (by kernel_rfl) (by kernel_rfl) (fun _ _ _ h => h) rfl ?_ S11 ?_
 rotate_left
 ·
  intro W hW
  have x0 := hW.2.at (i := 0) rfl
  have x1 := hW.2.at (i := 1) rfl
  have x2 := hW.2.at (i := 2) rfl
  have xl := hW.2.lt
  have y0 := hW.1.at (i := 0) rfl
  have y1 := hW.1.at (i := 1) rfl
  have y2 := hW.1.at (i := 2) rfl
  have yl := hW.1.lt
  go_simp
  (try with_reducible rfl)
 simp only [zpu, zsa, zsz, zss]
 refine fz_one 15 rfl rfl (by kernel_rfl) (fun K hK => ?_)
 go_simp
 refine (HORD.out _ w11 nn kJ HNN H11.out).mono ?_
 rintro e15 w15 ⟨hPP, hBB⟩
 have S15 := hBB S11
 have eP := hPP.1
 subst eP
 refine hK.out _ _ (fun _ => S15) ?_
 clear hK
 refine fz_take 16 (v := ?_) rfl (by kernel_rfl) (by kernel_rfl) (by kernel_rfl) (by kernel_rfl) (fun _ _ _ h => h) rfl ?_ S15 ?_
 rotate_left
 ·
  intro W hW
  have x0 := hW.2.at (i := 0) rfl
  have x1 := hW.2.at (i := 1) rfl
  have x2 := hW.2.at (i := 2) rfl
  have xl := hW.2.lt
  have y0 := hW.1.at (i := 0) rfl
  have y1 := hW.1.at (i := 1) rfl
  have y2 := hW.1.at (i := 2) rfl
  have yl := hW.1.lt
  go_simp
  (try with_reducible rfl)
 simp only [zpu, zsa, zsz, zss]
 refine fz_done (by kernel_rfl) (NoPanic.normal ?_)
 go_wp2
 go_ret
 exact hPP
theorem Rd.take {α : Type} {C : α → List Value} {k : Nat} {w : World} {a : Option Addr} {c : Nat} {L : List α} (h : Rd C k w (.slice a L.length c) L) {i : Nat} (hi : i ≤ L.length) : Rd C k w (.slice a i c) (L.take i) := by
 obtain ⟨a', c', hv, hc, hm, hr⟩ := h
 simp only [Value.slice.injEq] at hv
 obtain ⟨rfl, _, rfl⟩ := hv
 have hl : (L.take i).length = i := by rw [List.length_take]; omega
 refine ⟨a, c, by rw [hl], by omega, by omega, fun h0 => ?_⟩
 obtain ⟨g, off, ha, hg, hcell⟩ := hr (by omega)
 refine ⟨g, off, ha, hg, fun j x m u hj hu => ?_⟩
 rw [List.getElem?_take] at hj
 split at hj
 ·
  exact hcell j x m u hj hu
 ·
  cases hj
theorem Rd.drop1 {α : Type} {C : α → List Value} {w : World} {g off : Nat} {c : Nat} {L : List α} (h : Rd C 1 w (.slice (some ⟨g, off, none⟩) L.length c) L) {i : Nat} (hi : i ≤ L.length) {a : Option Addr} {m : Nat} (hm : m = L.length - i) (ha : i < L.length → a = some ⟨g, off + i, none⟩) : Rd C 1 w (.slice a m (c - i)) (L.drop i) := by
 obtain ⟨a', c', hv, hc, hmx, hr⟩ := h
 simp only [Value.slice.injEq] at hv
 obtain ⟨rfl, _, rfl⟩ := hv
 have hl : (L.drop i).length = m := by rw [List.length_drop, hm]
 refine ⟨a, c - i, by rw [hl], by omega, by omega, fun h0 => ?_⟩
 obtain ⟨g', off', ha', hg, hcell⟩ := hr (by omega)
 simp only [Option.some.injEq, Addr.mk.injEq, and_true] at ha'
 obtain ⟨rfl, rfl⟩ := ha'
 refine ⟨g, off + i, ha (by omega), hg, fun j x q u hj hu => ?_⟩
 rw [List.getElem?_drop] at hj
 have := hcell (i + j) x q u hj hu
 rw [show off + i + j * 1 + q = off + (i + j) * 1 + q by omega]
 exact this
theorem intC_len (x : Int) : (intC x).length = 1 := rfl
theorem intC_one (Y : List Int) : ∀ u ∈ Y.flatMap intC, u.oneCell' = true := flat_oneC (fun x u hu => by simp only [intC, List.mem_cons, List.not_mem_nil, or_false] at hu; rw [hu]; rfl) Y
set_option maxHeartbeats 4000000 in
set_option maxRecDepth 8000 in
theorem perm_succ (locs most N b m n : Nat) (hIH : PermIs locs most N b m n) : PermIs locs most N b m (n + 1) := by
 intro x tx vp row left vr vl L v w hp hco hev hn hrl hx hr hle hO hl hb
 have hp0 := hp
 obtain ⟨a1, c1, a2, n2, c2, a3, n3, c3, rfl⟩ := hp
 obtain ⟨t1, t2, t3⟩ := tx
 obtain ⟨q1, d1, q2, d2, q3, d3, e⟩ := hx.ex
 simp only [Prod.mk.injEq] at e
 obtain ⟨rfl, rfl, rfl⟩ := e
 obtain ⟨al, cl, rfl, hlc, _⟩ := hle.1.slice
 obtain ⟨ar, cr, rfl, _, _⟩ := hr.1.slice
 obtain ⟨gl, ol, rfl, _, _⟩ : ∃ g off, al = some ⟨g, off, none⟩ ∧ g < w.heap.size ∧ True := by
  obtain ⟨_, _, hv, _, _, hq⟩ := hle.1
  simp only [Value.slice.injEq] at hv
  obtain ⟨g, off, ha, hg, _⟩ := hq (by omega)
  exact ⟨g, off, hv.1.trans ha, hg, trivial⟩
 rw [hn] at hlc
 obtain ⟨W1, hW1⟩ : ∃ W1, W1 = w.alloc (.cells #[.slice a1 locs c1, .slice a2 n2 c2, .slice a3 n3 c3] 27) := ⟨_, rfl⟩
 have P1 : Bk W1 w.heap.size #[.slice a1 locs c1, .slice a2 n2 c2, .slice a3 n3 c3] := by rw [hW1]; exact Bk.new w _ _
 have K1 : On w W1 := by rw [hW1]; exact (On.refl w).alloc _
 have hs1 : W1.heap.size = w.heap.size + 1 := by rw [hW1, World.size_alloc]
 obtain ⟨W2, hW2⟩ : ∃ W2, W2 = W1.alloc (.cells #[.slice q1 x.evs.length d1, .slice q2 x.rf.length d2, .slice q3 x.co.length d3] TX) := ⟨_, rfl⟩
 have BX : Bk W2 (w.heap.size + 1) #[.slice q1 x.evs.length d1, .slice q2 x.rf.length d2, .slice q3 x.co.length d3] := by rw [hW2, ← hs1]; exact Bk.new W1 _ _
 have BP : Bk W2 w.heap.size #[.slice a1 locs c1, .slice a2 n2 c2, .slice a3 n3 c3] := by rw [hW2]; exact P1.alloc _
 have K2 : On w W2 := by rw [hW2]; exact K1.alloc _
 have hs2 : W2.heap.size = w.heap.size + 2 := by rw [hW2, World.size_alloc, hs1]
 have hNw : N < w.heap.size := lt_of_block hO.cell
 have hvlow := hO.own.low
 have hOlow := hO.low
 have HLE : Hid (RdT 3 intC 1 w (.slice (some ⟨gl, ol, none⟩) left.length cl) left) := hle
 have HRO : Hid (RdT 3 intC 1 w (.slice ar row.length cr) row) := hr
 have HXX : Hid (ExTd w (.slice q1 x.evs.length d1, .slice q2 x.rf.length d2, .slice q3 x.co.length d3) x) := hx
 obtain ⟨G, hG⟩ : ∃ G : Nat → List ExT, G = (fun i => (permP n (row ++ [left.getD i 0]) (left.eraseIdx i)).flatMap fun r => ordP m ⟨x.evs, x.rf, x.co ++ [r]⟩) := ⟨_, rfl⟩
 have hC : ((permP (n + 1) row left).flatMap fun r => ordP m ⟨x.evs, x.rf, x.co ++ [r]⟩) = preL G (n + 1) := by rw [hG]; exact perm_pre n row left _
 rw [hC]
 -- the call within
 have HIH : Hid (∀ (i : Nat) (vI v10 v14 : Value) (LI : List ExT) (W : World) (n10 n14 : Nat), i < n + 1 → Hid (n10 = row.length + 1) → Hid (n14 = n) → Ky w W → Out N b W vI LI → LI.length ≤ most → b ≤ W.heap.size → RdT 3 intC 1 W v10 (row ++ [left.getD i 0]) → RdT 3 intC 1 W v14 (left.eraseIdx i) →
   Calls Tryz.prog 66 #[.agg #[.slice a1 locs c1, .slice a2 n2 c2, .slice a3 n3 c3], .agg #[.slice q1 x.evs.length d1, .slice q2 x.rf.length d2, .slice q3 x.co.length d3], v10, v14, .pointer (some ⟨N, 0, none⟩), .int .i64 most] W (Post N b most LI (G i) vI W)) := fun i vI v10 v14 LI W n10 n14 hi _ _ kk hOI hll hbW h10 h14 => by
  have := hIH x (.slice q1 x.evs.length d1, .slice q2 x.rf.length d2, .slice q3 x.co.length d3) (.agg #[.slice a1 locs c1, .slice a2 n2 c2, .slice a3 n3 c3]) (row ++ [left.getD i 0]) (left.eraseIdx i) v10 v14 LI vI W hp0 hco hev (by rw [List.length_eraseIdx, hn, if_pos hi]; omega) (by simp; omega) (hx.ky kk) h10 h14 hOI hll hbW
  rw [hG]
  exact this
 have HO : Hid (Out N b W2 v L) := hO.on K2
 have HK2 : Hid (On w W2) := K2
 have HLL : Hid (left.length = n + 1) := hn
 have HL0 : Hid (runP most L (preL G 0) = some L) := rfl
 have hlm := hl
 rw [hn] at HLE ⊢
 obtain ⟨M, hM⟩ : ∃ M, M = n + 1 := ⟨_, rfl⟩
 rw [← hM] at HLE HIH HLL hlc hrl ⊢
 have hM1 : 0 < M := by omega
 clear hM
 clear hC hG hx hle hr hIH hO hp0 P1 K1 K2 hn
 unfold triV
 go_enter Tryz.func66, Tryz.ntmps66
 go_upto_region 1 with fail
 rw [← hW1, ← hW2]
 clear hW1 hW2
 have dn0 : ((M : Int) == 0) = false := by simpa using (by omega : ¬ (M : Int) = 0)
 go_wp2
 clear dn0
 go_loopg [13] M (fun gg s13 wr => ∃ (i : Nat) (vI : Value) (LI : List ExT), i ≤ M ∧ gg = M - i ∧ s13 = .int .i64 i ∧ Hid (Out N b wr vI LI) ∧ Hid (runP most L (preL G i) = some LI) ∧ Hid (Fx N v vI W2 wr) ∧ Hid (Ky w wr) ∧ Bk wr w.heap.size #[.slice a1 locs c1, .slice a2 n2 c2, .slice a3 n3 c3] ∧ Bk wr (w.heap.size + 1) #[.slice q1 x.evs.length d1, .slice q2 x.rf.length d2, .slice q3 x.co.length d3])
 case atStart => exact ⟨0, v, L, Nat.zero_le _, rfl, rfl, HO, HL0, Fx.refl _ _ _, Ky.on HK2.out, BP, BX⟩
 case round =>
  clear HO HL0 BP BX
  obtain ⟨i, vI, LI, hi, hg, rfl, HO, HRUN, HFX, HKY, BP, BX⟩ := hrel
  rcases Nat.lt_or_ge i M with hlt | hge
  ·
   have hle := HLE.out.ky HKY.out tN1 tN2
   obtain ⟨y, hy⟩ : ∃ y, left[i]? = some y := ⟨_, List.getElem?_eq_getElem (by rw [HLL.out]; exact hlt)⟩
   have hgy : left.getD i 0 = y := by rw [List.getD_eq_getElem?_getD, hy]; rfl
   have hle1 := hle.1
   rw [← HLL.out] at hle1
   obtain ⟨g', off', ha', hgw, hcell⟩ := hle1.at hy
   simp only [Option.some.injEq, Addr.mk.injEq, and_true] at ha'
   obtain ⟨rfl, rfl⟩ := ha'
   have q0 : wr.cell? ⟨gl, ol + i, none⟩ = some (.int .i64 y) := by have := hcell 0 _ rfl; simpa using this
   have HLR : Hid (Rd intC 1 wr (.slice (some ⟨gl, ol, none⟩) left.length cl) left) := by show Rd _ _ _ _ _; rw [HLL.out]; exact hle.1
   have hov : IntKind.i64.wrap ((i : Int) + 1) = ((i + 1 : Nat) : Int) := by rw [wrap_small]; omega; omega; omega
   have b0 : (0 : Int) ≤ (i : Int) := by omega
   have b1 : (i : Int) ≤ (M : Int) := by omega
   have b2 : (0 : Int) ≤ (i : Int) + 1 := by omega
   have b3 : (i : Int) + 1 ≤ (M : Int) := by omega
   have b4 : (i : Int) < (M : Int) := by omega
   have b5 : (i : Int) ≤ (cl : Int) := by omega
   clear hle hle1 hy hcell
   go_upto_region 6 with fail
   refine region_fz (fun W => True) [] 11 (by kernel_rfl) rfl ?_
   refine fz_take 1 (v := ?_) rfl (by kernel_rfl) (by kernel_rfl) (by kernel_rfl) (by kernel_rfl) (fun _ _ _ h => h) rfl ?_ trivial ?_
   rotate_left
   ·
    intro W _
    go_simp
    (try with_reducible rfl)
   simp only [zpu, zsa, zsz, zss]
   refine fz_take 2 (v := ?_) rfl (by kernel_rfl) (by kernel_rfl) (by kernel_rfl) (by kernel_rfl) (fun _ _ _ h => h) rfl ?_ trivial ?_
   rotate_left
   ·
    intro W _
    go_simp
    (try with_reducible rfl)
   simp only [zpu, zsa, zsz, zss]
   refine fz_take 3 (v := ?_) rfl (by kernel_rfl) (by kernel_rfl) (by kernel_rfl) (by kernel_rfl) (fun _ _ _ h => h) rfl ?_ trivial ?_
   rotate_left
   ·
    intro W _
    go_simp
    (try with_reducible rfl)
   simp only [zpu, zsa, zsz, zss]
   refine fz_take 5 (v := ?_) rfl (by kernel_rfl) (by kernel_rfl) (by kernel_rfl) (by kernel_rfl) (fun _ _ _ h => h) rfl ?_ trivial ?_
   rotate_left
   ·
    intro W _
    go_simp
    (try with_reducible rfl)
   simp only [zpu, zsa, zsz, zss]
   refine fz_take 6 (v := ?_) rfl (by kernel_rfl) (by kernel_rfl) (by kernel_rfl) (by kernel_rfl) (fun _ _ _ h => h) rfl ?_ trivial ?_
   rotate_left
   ·
    intro W _
    go_simp
    (try with_reducible rfl)
   simp only [zpu, zsa, zsz, zss]
   refine fz_take 7 (v := ?_) rfl (by kernel_rfl) (by kernel_rfl) (by kernel_rfl) (by kernel_rfl) (fun _ _ _ h => h) rfl ?_ trivial ?_
   rotate_left
   ·
    intro W _
    go_simp
    (try with_reducible rfl)
   simp only [zpu, zsa, zsz, zss]
   refine fz_take 8 (v := ?_) rfl (by kernel_rfl) (by kernel_rfl) (by kernel_rfl) (by kernel_rfl) (fun _ _ _ h => h) rfl ?_ trivial ?_
   rotate_left
   ·
    intro W _
    go_simp
    (try with_reducible rfl)
   simp only [zpu, zsa, zsz, zss]
   refine fz_one 0 rfl rfl (by kernel_rfl) (fun K hK => ?_)
   go_simp
   refine hK.out _ _ (fun _ => trivial) ?_
   clear hK
   have kA : On wr (wr.drew.alloc (.cells #[] 3)) := (On.drew (On.refl wr)).alloc _
   refine fz_one 4 rfl rfl (by kernel_rfl) (fun K hK => ?_)
   refine wp_append_new elInt intC_len _ _ rfl rfl rfl (own_empty wr.drew _ 1 wr.heap.size (Nat.le_refl _)) ((HLR.out.take (by rw [HLL.out]; omega)).on kA) (by rw [List.length_take]; omega) (by decide) kA.size ?_
   intro v4 w4 h4 k4
   have kB := kA.trans k4
   refine hK.out _ _ (fun _ => trivial) ?_
   clear hK
   refine fz_one 9 rfl rfl (by kernel_rfl) (fun K hK => ?_)
   refine wp_append_rdG elInt intC_len _ _ rfl rfl rfl (intC_one _) h4 ((Rd.drop1 (i := i + 1) HLR.out (by rw [HLL.out]; omega) (by rw [HLL.out]) (fun h => if_neg (by rw [HLL.out] at h; omega))).on kB) (by rw [List.length_take, List.length_drop, HLL.out]; omega) (by decide) kB.size ?_
   intro v9 w9 h9 g9
   have kC : On wr w9 := kB.grown g9 (fun q hq => (h4.lt q hq).1)
   refine hK.out _ _ (fun _ => trivial) ?_
   clear hK
   refine fz_take 10 (v := ?_) rfl (by kernel_rfl) (by kernel_rfl) (by kernel_rfl) (by kernel_rfl) (fun _ _ _ h => h) rfl ?_ trivial ?_
   rotate_left
   ·
    intro W _
    go_simp
    (try with_reducible rfl)
   simp only [zpu, zsa, zsz, zss]
   refine fz_done (by kernel_rfl) (NoPanic.normal ?_)
   generalize (if cl = i + 1 then some (⟨gl, ol, none⟩ : Addr) else some ⟨gl, ol + (i + 1), none⟩) = D1
   rw [← List.eraseIdx_eq_take_drop_succ] at h9
   have H9 : Hid (RdT 3 intC 1 w9 v9 (left.eraseIdx i)) := RdT.own intC_len h9
   obtain ⟨a9, c9, e9⟩ := own_slice h9
   obtain ⟨n9, hn9⟩ : ∃ n9, n9 = (left.eraseIdx i).length := ⟨_, rfl⟩
   rw [← hn9] at e9
   subst e9
   have HO9 : Hid (Out N b w9 vI LI) := HO.out.on kC
   have HK9 : Hid (On wr w9) := kC
   have q9 := (kC.cell (p := ⟨gl, ol + i, none⟩) hgw).trans q0
   have BP9 := BP.on kC
   have BX9 := BX.on kC
   have hg9 := Nat.lt_of_lt_of_le hgw kC.size
   clear h9 h4 k4 g9 kA kB kC hn9 q0 BP BX HLR
   have hLIm : LI.length ≤ most := run_le hlm HRUN.out
   have HVI : Hid (∀ M, (M = w.heap.size ∨ M = w.heap.size + 1) → vI.ownBlock ≠ some M) := fun M hM e2 => by
    rcases HFX.out.next with h | h
    ·
     have := (hvlow M (h ▸ e2)).2; omega
    ·
     have := h M e2; omega
   have HRO9 : Hid (Rd intC 1 w9.drew (.slice ar row.length cr) row) := (((HRO.out.ky HKY.out tN1 tN2).on HK9.out).on (On.drew (On.refl _))).1
   have HCALL : Hid (∀ (v10 : Value) (W : World) (n10 : Nat), On w9.drew W → Hid (n10 = (row ++ [y]).length) → W.ownsRow w9.heap.size 3 1 v10 n10 ((row ++ [y]).flatMap intC) →
     Calls Tryz.prog 66 #[.agg #[.slice a1 locs c1, .slice a2 n2 c2, .slice a3 n3 c3], .agg #[.slice q1 x.evs.length d1, .slice q2 x.rf.length d2, .slice q3 x.co.length d3], v10, .slice a9 n9 c9, .pointer (some ⟨N, 0, none⟩), .int .i64 most] W fun e w' => Post N b most LI (G i) vI W e w' ∧ ((Bk W w.heap.size #[.slice a1 locs c1, .slice a2 n2 c2, .slice a3 n3 c3] ∧ Bk W (w.heap.size + 1) #[.slice q1 x.evs.length d1, .slice q2 x.rf.length d2, .slice q3 x.co.length d3] ∧ (W.cell? ⟨gl, ol + i, none⟩ = some (Value.int .i64 y) ∧ gl < W.heap.size)) → (Bk w' w.heap.size #[.slice a1 locs c1, .slice a2 n2 c2, .slice a3 n3 c3] ∧ Bk w' (w.heap.size + 1) #[.slice q1 x.evs.length d1, .slice q2 x.rf.length d2, .slice q3 x.co.length d3] ∧ (w'.cell? ⟨gl, ol + i, none⟩ = some (Value.int .i64 y) ∧ gl < w'.heap.size)))) := fun v10 W n10 k hn10 h10 => by
    rw [hn10.out] at h10
    have k9 : On w9 W := (On.drew (On.refl w9)).trans k
    have kw : On wr W := HK9.out.trans k9
    refine (HIH.out i vI v10 (.slice a9 n9 c9) LI W (row.length + 1) n hlt rfl rfl (HKY.out.trans (Ky.on kw)) (HO9.out.on k9) hLIm (Nat.le_trans (Nat.le_trans hOlow (Nat.le_of_lt (lt_of_block HO9.out.cell))) k9.size) (by rw [hgy]; exact RdT.own intC_len h10) (H9.out.on k9)).mono ?_
    intro e w' hP
    refine ⟨hP, ?_⟩
    obtain ⟨_, _, _, _, _, hf, hky⟩ := hP
    refine fun h => ⟨h.1.fx hf (by omega) (HVI.out _ (Or.inl rfl)), h.2.1.fx hf (by omega) (HVI.out _ (Or.inr rfl)), ?_, Nat.lt_of_lt_of_le h.2.2.2 hf.size⟩
    obtain ⟨cs, fr, hcs⟩ := (HLE.out.ky (HKY.out.trans (Ky.on kw)) tN1 tN2).2 gl ol M cl rfl (by rw [HLL.out]; exact hM1)
    exact (World.cell?_of_block (a := ⟨gl, ol + i, none⟩) (hky.block gl cs _ fr hcs tN1 tN2)).trans h.2.2.1
   have hrw : row.length ≤ 1000 := by omega
   have HG1 : Hid (runP most L (preL G (i + 1)) = runP most LI (G i)) := run_pre HRUN.out
   have HG2 : Hid (runP most LI (G i) = none → runP most L (preL G M) = none) := fun h => run_none HRUN.out h M hlt
   clear HIH HO HRO HLE H9
   go_upto_region 7 with fail
   have S0 : Bk w9.drew w.heap.size #[.slice a1 locs c1, .slice a2 n2 c2, .slice a3 n3 c3] ∧ Bk w9.drew (w.heap.size + 1) #[.slice q1 x.evs.length d1, .slice q2 x.rf.length d2, .slice q3 x.co.length d3] ∧ (w9.drew.cell? ⟨gl, ol + i, none⟩ = some (Value.int .i64 y) ∧ gl < w9.drew.heap.size) := ⟨BP9, BX9, q9, hg9⟩
   have hon : ∀ W W', (Bk W w.heap.size #[.slice a1 locs c1, .slice a2 n2 c2, .slice a3 n3 c3] ∧ Bk W (w.heap.size + 1) #[.slice q1 x.evs.length d1, .slice q2 x.rf.length d2, .slice q3 x.co.length d3] ∧ (W.cell? ⟨gl, ol + i, none⟩ = some (Value.int .i64 y) ∧ gl < W.heap.size)) → On W W' → (Bk W' w.heap.size #[.slice a1 locs c1, .slice a2 n2 c2, .slice a3 n3 c3] ∧ Bk W' (w.heap.size + 1) #[.slice q1 x.evs.length d1, .slice q2 x.rf.length d2, .slice q3 x.co.length d3] ∧ (W'.cell? ⟨gl, ol + i, none⟩ = some (Value.int .i64 y) ∧ gl < W'.heap.size)) := fun W W' h k => ⟨h.1.on k, h.2.1.on k, (k.cell (p := ⟨gl, ol + i, none⟩) h.2.2.2).trans h.2.2.1, Nat.lt_of_lt_of_le h.2.2.2 k.size⟩
   refine region_fz (fun W => Bk W w.heap.size #[.slice a1 locs c1, .slice a2 n2 c2, .slice a3 n3 c3] ∧ Bk W (w.heap.size + 1) #[.slice q1 x.evs.length d1, .slice q2 x.rf.length d2, .slice q3 x.co.length d3] ∧ (W.cell? ⟨gl, ol + i, none⟩ = some (Value.int .i64 y) ∧ gl < W.heap.size)) [] 16 (by kernel_rfl) rfl ?_
   refine fz_take 0 (v := ?_) rfl (by kernel_rfl) (by kernel_rfl) (by kernel_rfl) (by kernel_rfl) (fun _ _ _ h => h) rfl ?_ S0 ?_
   rotate_left
   ·
    intro W hW
    have x0 := hW.2.1.at (i := 0) rfl
    have x1 := hW.2.1.at (i := 1) rfl
    have x2 := hW.2.1.at (i := 2) rfl
    have xl := hW.2.1.lt
    have y0 := hW.1.at (i := 0) rfl
    have y1 := hW.1.at (i := 1) rfl
    have y2 := hW.1.at (i := 2) rfl
    have yl := hW.1.lt
    have z0 := hW.2.2.1
    have zl := hW.2.2.2
    go_simp
    (try with_reducible rfl)
   simp only [zpu, zsa, zsz, zss]
   refine fz_take 1 (v := ?_) rfl (by kernel_rfl) (by kernel_rfl) (by kernel_rfl) (by kernel_rfl) (fun _ _ _ h => h) rfl ?_ S0 ?_
   rotate_left
   ·
    intro W hW
    have x0 := hW.2.1.at (i := 0) rfl
    have x1 := hW.2.1.at (i := 1) rfl
    have x2 := hW.2.1.at (i := 2) rfl
    have xl := hW.2.1.lt
    have y0 := hW.1.at (i := 0) rfl
    have y1 := hW.1.at (i := 1) rfl
    have y2 := hW.1.at (i := 2) rfl
    have yl := hW.1.lt
    have z0 := hW.2.2.1
    have zl := hW.2.2.2
    go_simp
    (try with_reducible rfl)
   simp only [zpu, zsa, zsz, zss]
   refine fz_take 3 (v := ?_) rfl (by kernel_rfl) (by kernel_rfl) (by kernel_rfl) (by kernel_rfl) (fun _ _ _ h => h) rfl ?_ S0 ?_
   rotate_left
   ·
    intro W hW
    have x0 := hW.2.1.at (i := 0) rfl
    have x1 := hW.2.1.at (i := 1) rfl
    have x2 := hW.2.1.at (i := 2) rfl
    have xl := hW.2.1.lt
    have y0 := hW.1.at (i := 0) rfl
    have y1 := hW.1.at (i := 1) rfl
    have y2 := hW.1.at (i := 2) rfl
    have yl := hW.1.lt
    have z0 := hW.2.2.1
    have zl := hW.2.2.2
    go_simp
    (try with_reducible rfl)
   simp only [zpu, zsa, zsz, zss]
   refine fz_take 5 (v := ?_) rfl (by kernel_rfl) (by kernel_rfl) (by kernel_rfl) (by kernel_rfl) (fun _ _ _ h => h) rfl ?_ S0 ?_
   rotate_left
   ·
    intro W hW
    have x0 := hW.2.1.at (i := 0) rfl
    have x1 := hW.2.1.at (i := 1) rfl
    have x2 := hW.2.1.at (i := 2) rfl
    have xl := hW.2.1.lt
    have y0 := hW.1.at (i := 0) rfl
    have y1 := hW.1.at (i := 1) rfl
    have y2 := hW.1.at (i := 2) rfl
    have yl := hW.1.lt
    have z0 := hW.2.2.1
    have zl := hW.2.2.2
    go_simp
    (try with_reducible rfl)
   simp only [zpu, zsa, zsz, zss]
   refine fz_take 6 (v := ?_) rfl (by kernel_rfl) (by kernel_rfl) (by kernel_rfl) (by kernel_rfl) (fun _ _ _ h => h) rfl ?_ S0 ?_
   rotate_left
   ·
    intro W hW
    have x0 := hW.2.1.at (i := 0) rfl
    have x1 := hW.2.1.at (i := 1) rfl
    have x2 := hW.2.1.at (i := 2) rfl
    have xl := hW.2.1.lt
    have y0 := hW.1.at (i := 0) rfl
    have y1 := hW.1.at (i := 1) rfl
    have y2 := hW.1.at (i := 2) rfl
    have yl := hW.1.lt
    have z0 := hW.2.2.1
    have zl := hW.2.2.2
    go_simp
    (try with_reducible rfl)
   simp only [zpu, zsa, zsz, zss]
   refine fz_take 7 (v := ?_) rfl (by kernel_rfl) (by kernel_rfl) (by kernel_rfl) (by kernel_rfl) (fun _ _ _ h => h) rfl ?_ S0 ?_
   rotate_left
   ·
    intro W hW
    have x0 := hW.2.1.at (i := 0) rfl
    have x1 := hW.2.1.at (i := 1) rfl
    have x2 := hW.2.1.at (i := 2) rfl
    have xl := hW.2.1.lt
    have y0 := hW.1.at (i := 0) rfl
    have y1 := hW.1.at (i := 1) rfl
    have y2 := hW.1.at (i := 2) rfl
    have yl := hW.1.lt
    have z0 := hW.2.2.1
    have zl := hW.2.2.2
    go_simp
    (try with_reducible rfl)
   simp only [zpu, zsa, zsz, zss]
   refine fz_take 8 (v := ?_) rfl (by kernel_rfl) (by kernel_rfl) (by kernel_rfl) (by kernel_rfl) (fun _ _ _ h => h) rfl ?_ S0 ?_
   rotate_left
   ·
    intro W hW
    have x0 := hW.2.1.at (i := 0) rfl
    have x1 := hW.2.1.at (i := 1) rfl
    have x2 := hW.2.1.at (i := 2) rfl
    have xl := hW.2.1.lt
    have y0 := hW.1.at (i := 0) rfl
    have y1 := hW.1.at (i := 1) rfl
    have y2 := hW.1.at (i := 2) rfl
    have yl := hW.1.lt
    have z0 := hW.2.2.1
    have zl := hW.2.2.2
    go_simp
    (try with_reducible rfl)
   simp only [zpu, zsa, zsz, zss]
   refine fz_take 11 (v := ?_) rfl (by kernel_rfl) (by kernel_rfl) (by kernel_rfl) (by kernel_rfl) (fun _ _ _ h => h) rfl ?_ S0 ?_
   rotate_left
   ·
    intro W hW
    go_simp
    (try with_reducible rfl)
   simp only [zpu, zsa, zsz, zss]
   refine fz_take 12 (v := ?_) rfl (by kernel_rfl) (by kernel_rfl) (by kernel_rfl) (by kernel_rfl) (fun _ _ _ h => h) rfl ?_ S0 ?_
   rotate_left
   ·
    intro W hW
    go_simp
    (try with_reducible rfl)
   simp only [zpu, zsa, zsz, zss]
   refine fz_take 13 (v := ?_) rfl (by kernel_rfl) (by kernel_rfl) (by kernel_rfl) (by kernel_rfl) (fun _ _ _ h => h) rfl ?_ S0 ?_
   rotate_left
   ·
    intro W hW
    go_simp
    (try with_reducible rfl)
   simp only [zpu, zsa, zsz, zss]
   refine fz_grow [(2, 52, none), (4, 54, none), (9, 59, none)] (fun i v W => (i = 2 → ∃ g, v = .slice (some ⟨g, 0, none⟩) 0 0 ∧ World.ownsRow W w9.heap.size 3 1 v 0 []) ∧ (i = 4 → World.ownsRow W w9.heap.size 3 1 v row.length (row.flatMap intC)) ∧ (i = 9 → ∃ g, v = .slice (some ⟨g, 0, none⟩) 1 1 ∧ World.ownsRow W 0 3 1 v 1 [Value.int .i64 y])) #[true, true, true, true, true, true, true, true, true, true, false, true, true, true, false, false] 3 3 (by simp) (by simp) ?_ rfl hon S0 ?_ (by kernel_rfl) (by kernel_rfl) ?_ ?_
   ·
    intro x hx
    simp only [List.mem_cons, List.not_mem_nil, or_false] at hx
    rcases hx with rfl | rfl | rfl <;> rfl
   ·
    intro i v w w' h k
    exact ⟨fun e => (fun h => by obtain ⟨g, h1, h2⟩ := h; exact ⟨g, h1, own_on h2 k⟩) (h.1 e), fun e => (fun h => own_on h k) (h.2.1 e), fun e => (fun h => by obtain ⟨g, h1, h2⟩ := h; exact ⟨g, h1, own_on h2 k⟩) (h.2.2 e)⟩
   ·
    intro i d c hi
    simp only [List.mem_cons, Prod.mk.injEq, List.not_mem_nil, or_false] at hi
    rcases hi with ⟨rfl, rfl, rfl⟩ | ⟨rfl, rfl, rfl⟩ | ⟨rfl, rfl, rfl⟩
    ·
     refine ⟨_, rfl, rfl, fun p W' l' K hr hm hS hK => ?_⟩
     have kW := hm.on
     clear hm hr
     simp only [putsA, putsD, List.foldl_cons, List.foldl_nil, Act.put, List.setIfInBounds_toArray, List.set_cons_zero, List.set_cons_succ] at hK ⊢
     go_simp
     exact hK _ _ ((On.refl W').alloc _) ⟨fun _ => ⟨_, rfl, own_empty W' _ 1 _ (show w9.drew.heap.size ≤ _ from kW.size)⟩, fun e => absurd e (by decide), fun e => absurd e (by decide)⟩
    ·
     refine ⟨_, rfl, rfl, fun p W' l' K hr hm hS hK => ?_⟩
     obtain ⟨u2, hu2, f2⟩ := hm.get (x := (2, 52, none)) (by simp) (ready_dep hr rfl (e := ⟨2, .data⟩) (by simp) rfl)
     have g2 := f2.1 rfl
     have kW := hm.on
     clear hm hr
     simp only [putsA, putsD, List.foldl_cons, List.foldl_nil, hu2, Option.getD_some, Act.put, List.setIfInBounds_toArray, List.set_cons_zero, List.set_cons_succ] at hK ⊢
     obtain ⟨g, rfl, hE⟩ := g2
     refine wp_append_new elInt intC_len _ _ rfl rfl rfl hE (HRO9.out.on kW) (by omega) (by decide) (show w9.drew.heap.size ≤ _ from kW.size) ?_
     intro v' w'' h1 k1
     exact hK v' w'' k1 ⟨fun e => absurd e (by decide), fun _ => h1, fun e => absurd e (by decide)⟩
    ·
     refine ⟨_, rfl, rfl, fun p W' l' K hr hm hS hK => ?_⟩
     have kW := hm.on
     clear hm hr
     simp only [putsA, putsD, List.foldl_cons, List.foldl_nil, Act.put, List.setIfInBounds_toArray, List.set_cons_zero, List.set_cons_succ] at hK ⊢
     go_simp
     exact hK _ _ ((On.refl W').alloc _) ⟨fun e => absurd e (by decide), fun e => absurd e (by decide), fun _ => ⟨_, rfl, own_one W' #[.int .i64 y] _ 1 0 rfl (Nat.zero_le _)⟩⟩
   intro p WE hm hSE
   obtain ⟨u2, hu2, f2⟩ := hm.get (x := (2, 52, none)) (by simp) rfl
   have g2 := f2.1 rfl
   obtain ⟨u4, hu4, f4⟩ := hm.get (x := (4, 54, none)) (by simp) rfl
   have g4 := f4.2.1 rfl
   obtain ⟨u9, hu9, f9⟩ := hm.get (x := (9, 59, none)) (by simp) rfl
   have g9 := f9.2.2 rfl
   have kM := hm.on
   simp only [putsA, putsD, List.foldl_cons, List.foldl_nil, hu2, hu4, hu9, Option.getD_some, Act.put, List.setIfInBounds_toArray, List.set_cons_zero, List.set_cons_succ]
   clear hm hu2 f2 hu4 f4 hu9 f9
   obtain ⟨g10, rfl, h10⟩ := g9
   refine fz_one 10 rfl rfl (by kernel_rfl) (fun K hK => ?_)
   refine wp_append_rdG elInt intC_len _ _ rfl rfl rfl (intC_one _) g4 (Rd.own (C := intC) (k := 1) intC_len (L := [y]) h10) (by simp; omega) (by decide) (show w9.drew.heap.size ≤ _ from kM.size) ?_
   intro v11 w11 h11 g11
   have kJ : On w9.drew w11 := kM.grown g11 (fun q hq => (g4.lt q hq).1)
   have S11 := hon _ _ S0 kJ
   obtain ⟨nn, hnn⟩ : ∃ nn, nn = (row ++ [y]).length := ⟨_, rfl⟩
   rw [← hnn] at h11
   have HNN : Hid (nn = (row ++ [y]).length) := hnn
   clear hnn
   obtain ⟨a11, c11, rfl⟩ := own_slice h11
   have H11 : Hid (w11.ownsRow w9.heap.size 3 1 (.slice a11 nn c11) nn ((row ++ [y]).flatMap intC)) := h11
   clear h11 g4 h10 g11
   refine hK.out _ _ (fun _ => S11) ?_
   clear hK
   refine fz_one 14 rfl rfl (by kernel_rfl) (fun K hK => ?_)
   go_simp
   refine (HCALL.out _ w11 nn kJ HNN H11.out).mono ?_
   rintro e15 w15 ⟨hPP, hBB⟩
   have S15 := hBB S11
   have eP := hPP.1
   have HPP : Hid (Post N b most LI (G i) vI w11 e15 w15) := hPP
   clear hPP
   obtain ⟨bb, hbb⟩ : ∃ bb, bb = (runP most LI (G i)).isSome := ⟨_, rfl⟩
   rw [← hbb] at eP
   subst eP
   refine hK.out _ _ (fun _ => S15) ?_
   clear hK
   refine fz_take 15 (v := ?_) rfl (by kernel_rfl) (by kernel_rfl) (by kernel_rfl) (by kernel_rfl) (fun _ _ _ h => h) rfl ?_ S15 ?_
   rotate_left
   ·
    intro W hW
    go_simp
    (try with_reducible rfl)
   simp only [zpu, zsa, zsz, zss]
   refine fz_done (by kernel_rfl) (NoPanic.normal ?_)
   cases hrn : runP most LI (G i) with
   | some L2 =>
    rw [hrn] at hbb
    obtain rfl : bb = true := hbb
    obtain ⟨_, v', L', hO', hL', hf', hk'⟩ := HPP.out
    obtain rfl := hL' L2 hrn
    have HO2 : Hid (Out N b w15 v' L') := hO'
    have HR2 : Hid (runP most L (preL G (i + 1)) = some L') := by show _ = _; rw [HG1.out]; exact hrn
    have HF2 : Hid (Fx N v v' W2 w15) := (HFX.out.trans (Fx.on N vI (HK9.out.trans ((On.drew (On.refl w9)).trans kJ)))).trans hf'
    have HK2' : Hid (Ky w w15) := (HKY.out.trans (Ky.on (HK9.out.trans ((On.drew (On.refl w9)).trans kJ)))).trans hk'
    clear hO' hL' hf' hk' hrn HPP HG1 HG2 HFX HKY HRUN
    go_wp2
    go_roundg (M - (i + 1))
    case measure => omega
    case rel => exact ⟨i + 1, v', L', hlt, rfl, rfl, HO2, HR2, HF2, HK2', S15.1, S15.2.1⟩
   | none =>
    rw [hrn] at hbb
    obtain rfl : bb = false := hbb
    have HN : Hid (runP most L (preL G M) = none) := HG2.out hrn
    obtain ⟨_, v', L', hO', hL', hf', hk'⟩ := HPP.out
    have HP : Hid (∃ v' L', Out N b w15 v' L' ∧ (∀ L2, runP most L (preL G M) = some L2 → L' = L2) ∧ Fx N v v' w w15 ∧ Ky w w15) := ⟨v', L', hO', (fun L2 h => by rw [HN.out] at h; cases h), (Fx.on N v HK2.out).trans ((HFX.out.trans (Fx.on N vI (HK9.out.trans ((On.drew (On.refl w9)).trans kJ)))).trans hf'), (HKY.out.trans (Ky.on (HK9.out.trans ((On.drew (On.refl w9)).trans kJ)))).trans hk'⟩
    have HS : Hid ((runP most L (preL G M)).isSome = false) := by show _ = _; rw [HN.out]; rfl
    clear hO' hL' hf' hk' hrn HPP HG1 HG2 HFX HKY HRUN HN
    go_wp2
    go_ret
    refine ⟨?_, HP.out⟩
    rw [HS.out]
    rfl
  ·
   obtain rfl : i = M := by omega
   have hI := HRUN.out
   have HP : Hid (∃ v' L', Out N b wr v' L' ∧ (∀ L2, runP most L (preL G i) = some L2 → L' = L2) ∧ Fx N v v' w wr ∧ Ky w wr) := ⟨vI, LI, HO.out, fun L2 h => by rw [hI] at h; exact Option.some.inj h, (Fx.on N v HK2.out).trans HFX.out, HKY.out⟩
   have HS : Hid ((runP most L (preL G i)).isSome = true) := by show _ = _; rw [hI]; rfl
   clear hI
   go_wp2
   go_ret
   refine ⟨?_, HP.out⟩
   rw [HS.out]
   rfl
theorem perm_is (locs most N b m : Nat) (hlo : locs ≤ 1000) (hOrd : OrdIs locs most N b m) : ∀ n, PermIs locs most N b m n
 | 0 => perm_zero locs most N b m hlo hOrd
 | n + 1 => perm_succ locs most N b m n (perm_is locs most N b m hlo hOrd n)
theorem elInts {w : World} {base : Nat} (n : Int) (hb : base ≤ w.heap.size) : (w.alloc (.cells #[.int .i64 n] 3)).ownsRow base 3 1 (.slice (some ⟨w.heap.size, 0, none⟩) 1 1) 1 ([n].flatMap intC) := own_one w #[.int .i64 n] 3 1 base rfl hb
set_option maxHeartbeats 4000000 in
set_option maxRecDepth 8000 in
theorem ord_succ (locs most N b m : Nat) (hPerm : ∀ n, PermIs locs most N b m n) : OrdIs locs most N b (m + 1) := by
 intro x tx vp L v w hp hco hev hx hO hl hb
 have hp0 := hp
 obtain ⟨a1, c1, a2, n2, c2, a3, n3, c3, rfl⟩ := hp
 obtain ⟨t1, t2, t3⟩ := tx
 obtain ⟨q1, d1, q2, d2, q3, d3, e⟩ := hx.ex
 simp only [Prod.mk.injEq] at e
 obtain ⟨rfl, rfl, rfl⟩ := e
 obtain ⟨i0, hi, hz0, hz1, hz2⟩ := info_parts (show (Tryz.prog.info? 3).map (fun i => (i.zero, i.size, i.bytes)) = some (some (.int .i64 0), 1, 8) from elInt.info)
 obtain ⟨W1, hW1⟩ : ∃ W1, W1 = w.alloc (.cells #[.slice a1 locs c1, .slice a2 n2 c2, .slice a3 n3 c3] 27) := ⟨_, rfl⟩
 have P1 : Bk W1 w.heap.size #[.slice a1 locs c1, .slice a2 n2 c2, .slice a3 n3 c3] := by rw [hW1]; exact Bk.new w _ _
 have K1 : On w W1 := by rw [hW1]; exact (On.refl w).alloc _
 have hs1 : W1.heap.size = w.heap.size + 1 := by rw [hW1, World.size_alloc]
 obtain ⟨W2, hW2⟩ : ∃ W2, W2 = W1.alloc (.cells #[.slice q1 x.evs.length d1, .slice q2 x.rf.length d2, .slice q3 x.co.length d3] TX) := ⟨_, rfl⟩
 have BX : Bk W2 (w.heap.size + 1) #[.slice q1 x.evs.length d1, .slice q2 x.rf.length d2, .slice q3 x.co.length d3] := by rw [hW2, ← hs1]; exact Bk.new W1 _ _
 have BP : Bk W2 w.heap.size #[.slice a1 locs c1, .slice a2 n2 c2, .slice a3 n3 c3] := by rw [hW2]; exact P1.alloc _
 have K2 : On w W2 := by rw [hW2]; exact K1.alloc _
 obtain ⟨c, hc⟩ : ∃ c, c = x.co.length := ⟨_, rfl⟩
 obtain ⟨E, hE⟩ : ∃ E, E = x.evs := ⟨_, rfl⟩
 have HEV : Hid (Rd evC 6 W2 (.slice q1 E.length d1) E) := by show Rd _ _ _ _ _; rw [hE]; exact (hx.evs.1.on K2)
 have HCALL : Hid (∀ (n : Nat) (vr vl : Value) (W : World), Hid (n = (wleftP E c E.length).length) → On W2 W → RdT 3 intC 1 W vr [(c : Int)] → RdT 3 intC 1 W vl (wleftP E c E.length) →
   Calls Tryz.prog 66 #[.agg #[.slice a1 locs c1, .slice a2 n2 c2, .slice a3 n3 c3], .agg #[.slice q1 E.length d1, .slice q2 x.rf.length d2, .slice q3 c d3], vr, vl, .pointer (some ⟨N, 0, none⟩), .int .i64 most] W (Post N b most L (ordP (m + 1) x) v w)) := fun n vr vl W hn k hr hle => by
  have kk := K2.trans k
  have := hPerm n x (.slice q1 x.evs.length d1, .slice q2 x.rf.length d2, .slice q3 x.co.length d3) (.agg #[.slice a1 locs c1, .slice a2 n2 c2, .slice a3 n3 c3]) [(c : Int)] (wleftP E c E.length) vr vl L v W hp0 (by omega) hev hn.out.symm (by
   rw [hn.out]
   have := wleft_len E c E.length
   rw [hE] at this ⊢
   simp
   omega) (hx.on kk) hr hle (hO.on kk) hl (Nat.le_trans hb kk.size)
  rw [← hc, ← hE] at this
  refine this.mono fun e w' hP => ?_
  have hP2 := hP.on kk
  have he : ordP (m + 1) x = (permP n [(c : Int)] (wleftP E c E.length)).flatMap fun r => ordP m ⟨E, x.rf, x.co ++ [r]⟩ := by rw [ordP, hn.out, hE, hc]
  rw [he]
  exact hP2
 have hcl : c < locs := by omega
 have hE9 : E.length ≤ 900 := by rw [hE]; exact hev
 rw [← hc, ← hE] at BX hW2
 rw [← hc, ← hE]
 have HOW : Hid (W2.ownsRow W2.heap.size 3 1 (.slice none 0 0) (wleftP E c 0).length ((wleftP E c 0).flatMap intC)) := World.ownsRow_nil _ _ _ _
 have dc : ((c : Int) == (locs : Int)) = false := by simpa using (by omega : ¬ (c : Int) = (locs : Int))
 clear hx hO hPerm hp0 K1 P1 K2 hE hc
 unfold triV
 go_enter Tryz.func50, Tryz.ntmps50
 go_upto_region 1 with fail
 rw [← hW1, ← hW2]
 clear hW1 hW2
 have x0 := BX.at (i := 0) rfl
 have x2 := BX.at (i := 2) rfl
 have xl := BX.lt
 have y0 := BP.at (i := 0) rfl
 have yl := BP.lt
 go_wp2
 clear x0 x2 xl y0 yl dc
 go_loopg [10, 11] E.length (fun gg s10 s11 wr => ∃ n : Nat, n ≤ E.length ∧ gg = E.length - n ∧ s11 = .int .i64 n ∧ wr.ownsRow W2.heap.size 3 1 s10 (wleftP E c n).length ((wleftP E c n).flatMap intC) ∧ Hid (On W2 wr))
 case atStart => exact ⟨0, Nat.zero_le _, rfl, rfl, HOW.out, On.refl W2⟩
 case round =>
  clear HOW
  obtain ⟨n, hn, hg, rfl, hown, HO⟩ := hrel
  have BXr := BX.on HO.out
  have BPr := BP.on HO.out
  have x0 := BXr.at (i := 0) rfl
  have x1 := BXr.at (i := 1) rfl
  have x2 := BXr.at (i := 2) rfl
  have xl := BXr.lt
  have y0 := BPr.at (i := 0) rfl
  have y1 := BPr.at (i := 1) rfl
  have y2 := BPr.at (i := 2) rfl
  have yl := BPr.lt
  rcases Nat.lt_or_ge n E.length with hlt | hge
  ·
   obtain ⟨e, he⟩ : ∃ e, E[n]? = some e := ⟨_, List.getElem?_eq_getElem hlt⟩
   obtain ⟨g1, o1, rfl, hg1, p0, p1, p2, p3, p4, p5⟩ := rd_ev (HEV.out.on HO.out) he
   have hge : E.getD n evZ = e := by rw [List.getD_eq_getElem?_getD, he]; rfl
   have hW := fun W => rwrites_is e W
   have hws := wleft_succ E c n
   have hwl := wleft_len E c n
   have hwb : wlB E c n = (wrsB e.k && (e.l == (c : Int)) && ((n : Int) != (c : Int))) := by unfold wlB; rw [hge]
   rw [hwb] at hws
   unfold evV at hW
   obtain ⟨LW, hLW⟩ : ∃ LW, LW = wleftP E c n := ⟨_, rfl⟩
   rw [← hLW] at hown hws hwl
   have hb1 : (n : Int) < (E.length : Int) := by omega
   clear hLW hge he hwb
   cases h1 : wrsB e.k with
   | false =>
    rw [h1] at hW
    rw [h1, Bool.false_and, Bool.false_and, if_neg (by decide), List.append_nil] at hws
    have HWS : Hid (wleftP E c (n + 1) = LW) := hws
    clear hws
    go_wp2_with fail
    refine (hW _).mono ?_
    rintro _ w1 ⟨rfl, k1⟩
    have hown1 := own_on hown k1
    have HO1 : Hid (On W2 w1) := HO.out.trans k1
    go_wp2
    go_roundg (E.length - (n + 1))
    case measure => omega
    case rel => exact ⟨n + 1, hlt, rfl, rfl, by rw [HWS.out]; exact hown1, HO1⟩
   | true =>
    rw [h1] at hW
    have f0 := fun W (k : On wr W) => (k.cell (p := ⟨g1, o1 + n * 6 + 3, none⟩) hg1).trans p3
    have F0 : Hid (∀ W, On wr W → W.cell? ⟨g1, o1 + n * 6 + 3, none⟩ = some (.int .i64 e.l)) := f0
    clear f0
    cases h2 : (e.l == (c : Int)) with
    | false =>
     rw [h1, h2, Bool.true_and, Bool.false_and, if_neg (by decide), List.append_nil] at hws
     have HWS : Hid (wleftP E c (n + 1) = LW) := hws
     clear hws
     go_wp2_with fail
     refine (hW _).mono ?_
     rintro _ w1 ⟨rfl, k1⟩
     have hown1 := own_on hown k1
     have HO1 : Hid (On W2 w1) := HO.out.trans k1
     have r0 := (BXr.on k1).at (i := 0) rfl
     have rl := (BXr.on k1).lt
     have r3 := F0.out w1 k1
     have rg := Nat.lt_of_lt_of_le hg1 k1.size
     go_wp2
     go_roundg (E.length - (n + 1))
     case measure => omega
     case rel => exact ⟨n + 1, hlt, rfl, rfl, by rw [HWS.out]; exact hown1, HO1⟩
    | true =>
     cases h3 : ((n : Int) != (c : Int)) with
     | false =>
      rw [h1, h2, h3, Bool.true_and, Bool.true_and, if_neg (by decide), List.append_nil] at hws
      have HWS : Hid (wleftP E c (n + 1) = LW) := hws
      clear hws
      go_wp2_with fail
      refine (hW _).mono ?_
      rintro _ w1 ⟨rfl, k1⟩
      have hown1 := own_on hown k1
      have HO1 : Hid (On W2 w1) := HO.out.trans k1
      have r0 := (BXr.on k1).at (i := 0) rfl
      have rl := (BXr.on k1).lt
      have r3 := F0.out w1 k1
      have rg := Nat.lt_of_lt_of_le hg1 k1.size
      go_wp2
      go_roundg (E.length - (n + 1))
      case measure => omega
      case rel => exact ⟨n + 1, hlt, rfl, rfl, by rw [HWS.out]; exact hown1, HO1⟩
     | true =>
      rw [h1, h2, h3, Bool.true_and, Bool.true_and, if_pos rfl] at hws
      have HWS : Hid (wleftP E c (n + 1) = LW ++ [(n : Int)]) := hws
      clear hws
      go_wp2_with fail
      refine (hW _).mono ?_
      rintro _ w1 ⟨rfl, k1⟩
      have hown1 := own_on hown k1
      have HO1 : Hid (On W2 w1) := HO.out.trans k1
      have r0 := (BXr.on k1).at (i := 0) rfl
      have rl := (BXr.on k1).lt
      have r3 := F0.out w1 k1
      have rg := Nat.lt_of_lt_of_le hg1 k1.size
      have hlt1 : ∀ g, u10.ownBlock = some g → W2.heap.size ≤ g := fun g hg => (hown1.lt g hg).1
      go_wp2_with (at_builtin; refine wpList_append_own _ rfl _ _ 22 rfl W2.heap.size 3 i0 (.int .i64 0) 1 8 Tryz.underlying22 hi hz0 hz1 hz2 rfl (by decide) _ _ _ rfl (hown1.alloc _) ⟨w1.heap.size, 0, none⟩ 1 1 [.int .i64 n] rfl rfl ?c1 ?c2 ?c3 ?c4 ?c5 ?_)
      case c1 =>
       intro j u hu
       rw [new_cell]
       exact hu
      case c2 =>
       intro u hu
       simp only [List.mem_cons, List.not_mem_nil, or_false] at hu
       subst hu
       rfl
      case c3 => unfold maxLen; omega
      case c4 => omega
      case c5 => simp only [World.size_alloc]; have := HO1.out.size; omega
      intro v' w4 hown4 hg4 _
      have HOW4 : Hid (w4.ownsRow W2.heap.size 3 1 v' (LW ++ [(n : Int)]).length ((LW ++ [(n : Int)]).flatMap intC)) := by
       show World.ownsRow _ _ _ _ _ _ _
       rw [List.length_append, List.flatMap_append]
       exact hown4
      have HO4 : Hid (On W2 w4) := (HO1.out.alloc _).grown hg4 hlt1
      clear hown4 hg4
      go_wp2
      go_roundg (E.length - (n + 1))
      case measure => omega
      case rel => exact ⟨n + 1, hlt, rfl, rfl, by rw [HWS.out]; exact HOW4.out, HO4⟩
  ·
   obtain rfl : n = E.length := by omega
   obtain ⟨nn, hnn⟩ : ∃ nn, nn = (wleftP E c E.length).length := ⟨_, rfl⟩
   have HNN : Hid (nn = (wleftP E c E.length).length) := hnn
   have HWL : Hid (RdT 3 intC 1 wr u10 (wleftP E c E.length)) := RdT.own intC_len hown
   rw [← hnn] at hown
   obtain ⟨aw, cw, rfl⟩ := own_slice hown
   have kA := (On.refl wr).alloc (.cells #[.int .i64 (c : Int)] 3)
   have HCR := HCALL.out nn (.slice (some ⟨wr.heap.size, 0, none⟩) 1 1) (.slice aw nn cw) _ HNN (HO.out.trans kA) (RdT.own intC_len (L := [(c : Int)]) (elInts (c : Int) (Nat.le_refl _))) (HWL.out.on kA)
   clear hnn hown HWL
   go_wp2_with fail
   refine HCR.mono ?_
   intro e w1 hP
   have eP := hP.1
   have HP : Hid (Post N b most L (ordP (m + 1) x) v w e w1) := hP
   clear hP HCR
   obtain ⟨bb, hbb⟩ : ∃ bb, bb = (runP most L (ordP (m + 1) x)).isSome := ⟨_, rfl⟩
   have HBB : Hid (bb = (runP most L (ordP (m + 1) x)).isSome) := hbb
   rw [← hbb] at eP
   subst eP
   clear hbb
   go_wp2
   go_ret
   exact HP.out
theorem ord_is (hC : CmpIs) (locs most N b : Nat) (hm : most ≤ 100000) (hlo : locs ≤ 1000) : ∀ m, OrdIs locs most N b m
 | 0 => ord_zero hC locs most N b hm hlo
 | m + 1 => ord_succ locs most N b m (perm_is locs most N b m hlo (ord_is hC locs most N b hm hlo m))
end Go.Proofs.YtioiabfheeglgaaGreatDoor
