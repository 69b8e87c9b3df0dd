/- The program's package order: least, finish, step. -/
import Derived.Test.YtohngifmbnlmmaaDoorOrdB
namespace Go.Proofs.YtohngifmbnlmmaaDoor
open Go.RowKit

def natC (k : Nat) : List Value := [.int .i64 k]
theorem flat_nat : ∀ L : List Nat, L.flatMap natC = L.map intV
  | [] => rfl
  | k :: L => by rw [List.flatMap_cons, flat_nat L]; rfl
theorem flat_int : ∀ L : List Int, L.flatMap intC = L.map (Value.int .i64)
  | [] => rfl
  | k :: L => by rw [List.flatMap_cons, flat_int L]; rfl
def betterN (R : List Int) (b a : Nat) : Nat := if a < R.length ∧ R.getD a 0 < R.getD b 0 then a else b
/-- The one of least rank. -/
def bestN (R : List Int) (s : Nat) : Nat := (bits64 s).foldl (betterN R) (Lib.ctz 64 s)
theorem drop_sorted {L : List Nat} (h : L.Pairwise (· < ·)) {i x : Nat} (hi : L.drop i = x :: L.drop (i + 1)) : ∀ y ∈ L.drop (i + 1), x < y := by
  have h2 : (L.drop i).Pairwise (· < ·) := h.sublist (List.drop_sublist i L)
  rw [hi] at h2
  exact (List.pairwise_cons.1 h2).1
set_option maxHeartbeats 4000000 in
set_option maxRecDepth 8000 in
theorem least_is (s : Nat) (hs : s < 18446744073709551616) (h0 : s ≠ 0) (R : List Int) (v : Value) (w : World) (hR : Rd intC 1 w v R) (hd : Dt w) :
    Calls Tryd.prog 34 #[.int .u64 s, v] w fun e w' => e = .returned (.int .i64 (bestN R s)) ∧ On w w' := by
  obtain ⟨ar, cr, rfl, hcr, hmr⟩ := hR.slice
  have HR : Hid (Rd intC 1 w (.slice ar R.length cr) R) := hR
  have hF := first_is s hs w hd
  have hf : firstN s = (Lib.ctz 64 s : Nat) := by unfold firstN; rw [if_neg h0]
  rw [hf] at hF
  have hL := fun W (k : On w W) => list_is s hs W (hd.on k)
  obtain ⟨cs, hcs⟩ := bits_ne hs h0
  have hsort := bits_sorted s
  have HM : Hid (∀ y ∈ (bits64 s).drop 0, Lib.ctz 64 s ≤ y) := fun y hy => by
    rw [List.drop_zero, hcs] at hy
    rw [hcs] at hsort
    rcases List.mem_cons.1 hy with rfl | hy
    · exact Nat.le_refl _
    · exact Nat.le_of_lt ((List.pairwise_cons.1 hsort).1 y hy)
  have HS : Hid ((bits64 s).Pairwise (· < ·)) := hsort
  have hll : (bits64 s).length ≤ 64 := cnt_le s
  obtain ⟨B, hB⟩ : ∃ B, B = bestN R s := ⟨_, rfl⟩
  rw [← hB]
  have HB : Hid (B = ((bits64 s).drop 0).foldl (betterN R) (Lib.ctz 64 s)) := hB
  clear hB hR hd hcs hf hsort hcr
  generalize bits64 s = LT at *
  generalize Lib.ctz 64 s = b0 at *
  go_enter Tryd.func34, Tryd.ntmps34
  go_wp2_with fail
  refine hF.mono ?_
  rintro _ w1 ⟨rfl, hw1⟩
  subst w1
  go_wp2_with fail
  refine (hL _ (On.refl _)).mono ?_
  rintro _ w2 ⟨la, lc, rfl, hown, k2⟩
  have HRL : Hid (Rd natC 1 w2 (.slice la LT.length lc) LT) := Rd.own (fun _ => rfl) (by rw [flat_nat]; exact hown)
  clear hown hL hF
  go_wp2
  go_loopg [5, 13] LT.length (fun gg s5 s13 wr => ∃ i b : Nat, i ≤ LT.length ∧ gg = LT.length - i ∧ s13 = .int .i64 i ∧ s5 = .int .i64 b ∧ Hid (On w wr) ∧ Hid (On w2 wr) ∧ Hid (∀ y ∈ LT.drop i, b ≤ y) ∧ Hid (B = (LT.drop i).foldl (betterN R) b))
  case atStart => exact ⟨0, b0, Nat.zero_le _, rfl, rfl, rfl, k2, On.refl _, HM, HB⟩
  case round =>
    clear HM HB k2
    obtain ⟨i, b, hi, hk, rfl, rfl, HO, HO2, HM, HB⟩ := hrel
    rcases Nat.lt_or_ge i LT.length with hlt | hge
    · obtain ⟨a, ha, hdr⟩ := drop_at hlt
      obtain ⟨g, off, rfl, hg, u0⟩ := (HRL.out.on HO2.out).at ha
      have hc0 := u0 0 _ rfl
      simp only [Nat.mul_one, Nat.add_zero] at hc0
      have hba : b ≤ a := HM.out a (by rw [hdr]; simp)
      have hgt := drop_sorted HS.out hdr
      have HB1 := HB.out
      rw [hdr, List.foldl_cons] at HB1
      have HMk : Hid (∀ y ∈ LT.drop (i + 1), b ≤ y) := fun y hy => HM.out y (by rw [hdr]; simp [hy])
      have HMa : Hid (∀ y ∈ LT.drop (i + 1), a ≤ y) := fun y hy => Nat.le_of_lt (hgt y hy)
      clear u0 hdr hgt HB HM ha
      by_cases h1 : a < R.length
      · obtain ⟨ra, hra⟩ : ∃ ra, R[a]? = some ra := ⟨_, List.getElem?_eq_getElem h1⟩
        obtain ⟨rb, hrb⟩ : ∃ rb, R[b]? = some rb := ⟨_, List.getElem?_eq_getElem (by omega)⟩
        obtain ⟨gr, or, hra2, hgr, u0⟩ := (HR.out.on HO.out).at hra
        obtain ⟨gr2, or2, hrb2, hgr2, u1⟩ := (HR.out.on HO.out).at hrb
        have hca := u0 0 _ rfl
        have hcb := u1 0 _ rfl
        subst hra2
        simp only [Option.some.injEq, Addr.mk.injEq, and_true] at hrb2
        obtain ⟨rfl, rfl⟩ := hrb2
        simp only [Nat.mul_one, Nat.add_zero] at hca hcb
        have ga : R.getD a 0 = ra := by rw [List.getD_eq_getElem?_getD, hra]; rfl
        have gb : R.getD b 0 = rb := by rw [List.getD_eq_getElem?_getD, hrb]; rfl
        have hbR : b < R.length := by omega
        have hd1 : decide (a < R.length) = true := decide_eq_true h1
        clear u0 u1 hgr2 hra hrb
        by_cases h2 : ra < rb
        · have hbt : betterN R b a = a := by unfold betterN; rw [ga, gb, if_pos ⟨h1, h2⟩]
          rw [hbt] at HB1
          have HB2 : Hid (B = _) := HB1
          have hd2 : decide (ra < rb) = true := decide_eq_true h2
          clear HB1 hbt ga gb h2 hba
          go_wp2
          go_quiet (fail)
          have HOq : Hid (On w (wr.drewN nq)) := HO.out.drewN nq
          have HOq2 : Hid (On w2 (wr.drewN nq)) := HO2.out.drewN nq
          go_wp2
          go_roundg (LT.length - (i + 1))
          case measure => omega
          case rel => exact ⟨i + 1, a, hlt, rfl, by congr 1, rfl, HOq, HOq2, HMa, HB2⟩
        · have hbt : betterN R b a = b := by unfold betterN; rw [ga, gb, if_neg (fun h => h2 h.2)]
          rw [hbt] at HB1
          have HB2 : Hid (B = _) := HB1
          have hd2 : decide (ra < rb) = false := decide_eq_false h2
          clear HB1 hbt ga gb h2 hba
          go_wp2
          go_quiet (fail)
          have HOq : Hid (On w (wr.drewN nq)) := HO.out.drewN nq
          have HOq2 : Hid (On w2 (wr.drewN nq)) := HO2.out.drewN nq
          go_wp2
          go_roundg (LT.length - (i + 1))
          case measure => omega
          case rel => exact ⟨i + 1, b, hlt, rfl, by congr 1, rfl, HOq, HOq2, HMk, HB2⟩
      · have hbt : betterN R b a = b := by unfold betterN; rw [if_neg (fun h => h1 h.1)]
        rw [hbt] at HB1
        have HB2 : Hid (B = _) := HB1
        have hd1 : decide (a < R.length) = false := decide_eq_false h1
        clear HB1 hbt hba
        go_wp2
        go_quiet (fail)
        have HOq : Hid (On w (wr.drewN nq)) := HO.out.drewN nq
        have HOq2 : Hid (On w2 (wr.drewN nq)) := HO2.out.drewN nq
        go_wp2
        go_roundg (LT.length - (i + 1))
        case measure => omega
        case rel => exact ⟨i + 1, b, hlt, rfl, by congr 1, rfl, HOq, HOq2, HMk, HB2⟩
    · obtain rfl : LT.length = i := by omega
      have e : B = b := by rw [HB.out, List.drop_length]; rfl
      subst e
      go_wp2
      go_ret
      exact ⟨rfl, HO.out⟩
/-- A row of numbers at the head of a block. -/
def Rw (w : World) (g : Nat) (L : List Int) : Prop := ∃ tl : List Value, Bk w g (L.map (Value.int .i64) ++ tl).toArray
section
variable {w w' : World} {g : Nat} {L : List Int}
theorem Rw.on (h : Rw w g L) (k : On w w') : Rw w' g L := by obtain ⟨tl, h⟩ := h; exact ⟨tl, h.on k⟩
theorem Rw.lt (h : Rw w g L) : g < w.heap.size := by obtain ⟨tl, h⟩ := h; exact h.lt
theorem Rw.drew (h : Rw w g L) : Rw w.drew g L := h
theorem Rw.fr (h : Rw w g L) (i : Nat) : w.frozen? ⟨g, i, none⟩ = false := by obtain ⟨tl, h⟩ := h; exact h.fr i
theorem Rw.at (h : Rw w g L) {i : Nat} {x : Int} (hx : L[i]? = some x) : w.cell? ⟨g, i, none⟩ = some (.int .i64 x) := by
  obtain ⟨tl, h⟩ := h
  refine h.at ?_
  have hi := (List.getElem?_eq_some_iff.1 hx).1
  rw [List.getElem?_toArray, List.getElem?_append_left (by simpa using hi), List.getElem?_map, hx]
  rfl
theorem Rw.put (h : Rw w g L) {i : Nat} (hi : i < L.length) (x : Int) : Rw (w.setCell ⟨g, i, none⟩ (.int .i64 x)) g (L.set i x) := by
  obtain ⟨tl, h⟩ := h
  refine ⟨tl, ?_⟩
  have := h.put i (.int .i64 x)
  rw [List.set_append_left _ _ (by simpa using hi)] at this
  rw [List.map_set]
  exact this
theorem Rw.rd (h : Rw w g L) {c k : Nat} (hk : k ≤ L.length) (hc : k ≤ c) (hm : k ≤ 9223372036854775807) : Rd intC 1 w (.slice (some ⟨g, 0, none⟩) (L.take k).length c) (L.take k) := by
  have hl : (L.take k).length = k := by rw [List.length_take]; omega
  refine ⟨_, _, rfl, by omega, by omega, fun _ => ⟨g, 0, rfl, h.lt, fun i x j u hi hj => ?_⟩⟩
  match j, hj with
  | 0, hj =>
    simp only [intC, List.getElem?_cons_zero, Option.some.injEq] at hj
    subst hj
    rw [List.getElem?_take] at hi
    split at hi
    · simpa using h.at hi
    · cases hi
  | j + 1, hj => simp [intC] at hj
end
section
variable (n : Nat) (D : Nat → Nat)
/-- What finish writes. -/
def finI : Nat → Nat → List Int
  | 0, _ => []
  | k + 1, t => firstN (freeN n D t) :: finI k (withI t (firstN (freeN n D t)))
/-- Where step stops, and what is greater there. -/
def stepF (L : List Int) : Nat → Nat → Option (Nat × Nat)
  | 0, _ => none
  | i + 1, t => if freeN n D (lessI t (L.getD i 0)) &&& (18446744073709551615 - uptoI (L.getD i 0 + 1)) = 0 then stepF L i (lessI t (L.getD i 0)) else some (i, freeN n D (lessI t (L.getD i 0)) &&& (18446744073709551615 - uptoI (L.getD i 0 + 1)))
def stepI (L : List Int) : Option (List Int) :=
  (stepF n D L L.length (uptoI n)).map fun p => L.take p.1 ++ firstN p.2 :: finI n D (L.length - (p.1 + 1)) (ofI 0 (L.take p.1 ++ [firstN p.2]))
end
theorem set_take {L : List Int} {i : Nat} (hi : i < L.length) (x : Int) : (L.set i x).take (i + 1) = L.take i ++ [x] := by
  rw [List.take_add_one, List.getElem?_set, if_pos rfl, if_pos hi, List.take_set_of_le (Nat.le_refl _)]
  rfl
structure Nd (w : World) (v : Value) (DL : List Nat) : Prop where
  rd : Rd wordC 1 w v DL
  l : DL.length ≤ 64
  x : ∀ x ∈ DL, x < 18446744073709551616
  d : Dt w
theorem Nd.on {w w' : World} {v : Value} {DL : List Nat} (h : Nd w v DL) (k : On w w') : Nd w' v DL := ⟨h.rd.on k, h.l, h.x, h.d.on k⟩
theorem Nd.free {w : World} {v : Value} {DL : List Nat} (h : Nd w v DL) (t : Nat) (ht : t < 18446744073709551616) : Calls Tryd.prog 33 #[v, .int .u64 t] w fun e w' => e = .returned (.int .u64 (freeN DL.length (DL2D DL) t)) ∧ w' = w := free_is DL v t w h.rd h.l h.x ht h.d
set_option maxHeartbeats 4000000 in
set_option maxRecDepth 8000 in
theorem finish_is (DL : List Nat) (v : Value) (w0 : World) (hN : Nd w0 v DL) (L : List Int) (g c m : Nat) (w : World) (k0 : On w0 w) (hg : w0.heap.size ≤ g) (hR : Rw w g L) (hc : L.length ≤ c) (hl : L.length ≤ 64) (hm : m ≤ L.length) :
    Calls Tryd.prog 40 #[v, .slice (some ⟨g, 0, none⟩) L.length c, .int .i64 m] w fun e w' => e = .returned (.tuple #[]) ∧ Rw w' g (L.take m ++ finI DL.length (DL2D DL) (L.length - m) (ofI 0 (L.take m))) ∧ Wa g w w' := by
  have hRd := hR.rd (c := c) hm (by omega) (by omega)
  have htl : (L.take m).length = m := by rw [List.length_take]; omega
  rw [htl] at hRd
  have hOf := of_is (L.take m) _ w hRd
  have hot := of_lt (L.take m) 0 (by decide)
  obtain ⟨RES, hRES⟩ : ∃ RES, RES = L.take m ++ finI DL.length (DL2D DL) (L.length - m) (ofI 0 (L.take m)) := ⟨_, rfl⟩
  rw [← hRES]
  have HRES : Hid (RES = L.take m ++ finI DL.length (DL2D DL) (L.length - m) (ofI 0 (L.take m))) := hRES
  clear hRES hRd htl
  generalize ofI 0 (L.take m) = t0 at *
  obtain ⟨len, hlen⟩ : ∃ len, len = L.length := ⟨_, rfl⟩
  rw [← hlen] at hc hl hm HRES ⊢
  have HLEN : Hid (L.length = len) := hlen.symm
  clear hlen
  go_enter Tryd.func40, Tryd.ntmps40
  go_wp2_with fail
  refine hOf.mono ?_
  rintro _ w1 ⟨rfl, hw1⟩
  subst w1
  go_wp2
  go_loopg [6, 7] (len - m) (fun gg s6 s7 wr => ∃ (i t : Nat) (C : List Int), i ≤ len ∧ gg = len - i ∧ s7 = .int .i64 i ∧ s6 = .int .u64 t ∧ t < 18446744073709551616 ∧ Hid (C.length = len) ∧ Hid (On w0 wr) ∧ Hid (Wa g w wr) ∧ Hid (Rw wr g C) ∧ Hid (RES = C.take i ++ finI DL.length (DL2D DL) (len - i) t))
  case atStart => exact ⟨m, t0, L, hm, rfl, rfl, rfl, hot, HLEN, k0, Wa.refl _ _, hR, HRES⟩
  case round =>
    clear HRES hOf hot hR k0
    obtain ⟨i, t, C, hi, hk, rfl, rfl, ht, HC, HO, HW, HR, HRES⟩ := hrel
    rcases Nat.lt_or_ge i len with hlt | hge
    · have hfr := (hN.on HO.out).free t ht
      have hfl := free_lt DL.length (DL2D DL) t
      have hfi := first_is _ hfl wr (hN.on HO.out).d
      have e2 : len - i = (len - (i + 1)) + 1 := by omega
      have HR1 := HRES.out
      rw [e2, finI] at HR1
      clear HRES e2
      generalize freeN DL.length (DL2D DL) t = F at *
      generalize firstN F = x at *
      have hiC : i < C.length := by rw [HC.out]; exact hlt
      obtain ⟨y, hy⟩ : ∃ y, C[i]? = some y := ⟨_, List.getElem?_eq_getElem hiC⟩
      have hcl := HR.out.at hy
      have hcf := HR.out.fr i
      have hgl := HR.out.lt
      have HR2 : Hid (Rw _ g (C.set i x)) := HR.out.put hiC x
      have hcx : (wr.setCell ⟨g, i, none⟩ (.int .i64 x)).cell? ⟨g, i, none⟩ = some (.int .i64 x) := HR2.out.at (by rw [List.getElem?_set, if_pos rfl, if_pos hiC])
      have hgl2 : g < (wr.setCell ⟨g, i, none⟩ (.int .i64 x)).heap.size := HR2.out.lt
      have HC2 : Hid ((C.set i x).length = len) := by show (C.set i x).length = len; rw [List.length_set, HC.out]
      have HO2 : Hid (On w0 (wr.setCell ⟨g, i, none⟩ (.int .i64 x))) := HO.out.setNew hg _
      have HW2 : Hid (Wa g w (wr.setCell ⟨g, i, none⟩ (.int .i64 x))) := HW.out.setAt i _
      have HRES2 : Hid (RES = (C.set i x).take (i + 1) ++ finI DL.length (DL2D DL) (len - (i + 1)) (withI t x)) := by
        show RES = _
        rw [HR1, set_take hiC, List.append_assoc]
        rfl
      have hwi := fun W => with_is t x ht W
      have hwl := with_lt t x ht
      clear HR1 HR HC HO HW hy hN
      generalize withI t x = t2 at *
      go_wp2_with fail
      refine hfr.mono ?_
      rintro _ w2 ⟨rfl, hw2⟩
      subst w2
      go_wp2_with fail
      refine hfi.mono ?_
      rintro _ w2 ⟨rfl, hw2⟩
      subst w2
      obtain ⟨W2, hW2⟩ : ∃ W2, W2 = wr.setCell ⟨g, i, none⟩ (.int .i64 x) := ⟨_, rfl⟩
      go_wp2_with fail
      rw [← hW2] at HR2 hcx hgl2 HO2 HW2 ⊢
      clear hW2 hcl hcf hgl
      refine (hwi _).mono ?_
      rintro _ w2 ⟨rfl, hw2⟩
      subst w2
      go_wp2
      go_roundg (len - (i + 1))
      case measure => omega
      case rel => exact ⟨i + 1, t2, C.set i x, hlt, rfl, by congr 1, rfl, hwl, HC2, HO2, HW2, HR2, HRES2⟩
    · obtain rfl : len = i := by omega
      have e : RES = C := by
        rw [HRES.out, Nat.sub_self, finI, List.append_nil, List.take_of_length_le (by rw [HC.out]; exact Nat.le_refl _)]
      rw [← e] at HR
      go_wp2
      go_end0
      exact ⟨rfl, HR.out, HW.out⟩
theorem stepF_lt (n : Nat) (D : Nat → Nat) (L : List Int) : ∀ (i t j y : Nat), stepF n D L i t = some (j, y) → j < i
  | 0, _, _, _, h => by simp [stepF] at h
  | i + 1, t, j, y, h => by
    rw [stepF] at h
    split at h
    · have := stepF_lt n D L i _ j y h; omega
    · simp only [Option.some.injEq, Prod.mk.injEq] at h
      omega
set_option maxHeartbeats 4000000 in
set_option maxRecDepth 8000 in
theorem step_is (DL : List Nat) (v : Value) (w0 : World) (hN : Nd w0 v DL) (L : List Int) (g c : Nat) (w : World) (k0 : On w0 w) (hg : w0.heap.size ≤ g) (hR : Rw w g L) (hc : L.length ≤ c) (hl : L.length ≤ 64) (hb : ∀ x ∈ L, -1 ≤ x ∧ x < 64) :
    Calls Tryd.prog 26 #[v, .slice (some ⟨g, 0, none⟩) L.length c] w fun e w' => e = .returned (.bool (stepI DL.length (DL2D DL) L).isSome) ∧ Rw w' g ((stepI DL.length (DL2D DL) L).getD L) ∧ Wa g w w' := by
  obtain ⟨ao, cn, rfl, hcn, hmn⟩ := hN.rd.slice
  have hup := fun W => upto_is DL.length W
  have hul := upto_lt2 DL.length hN.l
  obtain ⟨RES, hRES⟩ : ∃ RES, RES = stepI DL.length (DL2D DL) L := ⟨_, rfl⟩
  rw [← hRES]
  have HRES : Hid (RES = (stepF DL.length (DL2D DL) L L.length (uptoI DL.length)).map fun p => L.take p.1 ++ firstN p.2 :: finI DL.length (DL2D DL) (L.length - (p.1 + 1)) (ofI 0 (L.take p.1 ++ [firstN p.2]))) := hRES
  have HN : Hid (Nd w0 (.slice ao DL.length cn) DL) := hN
  have HB : Hid (∀ x ∈ L, -1 ≤ x ∧ x < 64) := hb
  clear hRES hN hb
  obtain ⟨len, hlen⟩ : ∃ len, len = L.length := ⟨_, rfl⟩
  rw [← hlen] at hc hl HRES ⊢
  have HLEN : Hid (L.length = len) := hlen.symm
  clear hlen
  generalize uptoI DL.length = U at *
  have hwl : IntKind.i64.wrap ((len : Int) - 1) = (len : Int) - 1 := by rw [IntKind.wrap_i64]; omega
  go_enter Tryd.func26, Tryd.ntmps26
  go_wp2_with fail
  refine (hup _).mono ?_
  rintro _ w1 ⟨rfl, hw1⟩
  subst w1
  go_wp2
  clear hup hwl
  go_loopg [5, 6] len (fun gg s5 s6 wr => ∃ i t : Nat, i ≤ len ∧ gg = i ∧ s6 = .int .i64 ((i : Int) - 1) ∧ s5 = .int .u64 t ∧ t < 18446744073709551616 ∧ Hid (On w0 wr) ∧ Hid (Wa g w wr) ∧ Hid (Rw wr g L) ∧ Hid (RES = (stepF DL.length (DL2D DL) L i t).map fun p => L.take p.1 ++ firstN p.2 :: finI DL.length (DL2D DL) (len - (p.1 + 1)) (ofI 0 (L.take p.1 ++ [firstN p.2]))))
  case atStart => exact ⟨len, U, Nat.le_refl _, rfl, rfl, rfl, hul, k0, Wa.refl _ _, hR, HRES⟩
  case round =>
    clear HRES hul hR k0
    obtain ⟨i', t, hi, hk, rfl, rfl, ht, HO, HW, HR, HRES⟩ := hrel
    rcases Nat.eq_zero_or_pos i' with h0 | h0
    · subst h0
      have e : RES = none := HRES.out
      subst e
      go_wp2
      go_ret
      exact ⟨rfl, HR.out, HW.out⟩
    · obtain ⟨i, hi1⟩ : ∃ i, i' = i + 1 := ⟨i' - 1, by omega⟩
      subst hi1
      have e0 : ((i + 1 : Nat) : Int) - 1 = (i : Int) := by omega
      rw [e0]
      have hiL : i < L.length := by rw [HLEN.out]; omega
      have hilen : i < len := by omega
      obtain ⟨x, hx⟩ : ∃ x, L[i]? = some x := ⟨_, List.getElem?_eq_getElem hiL⟩
      have hgx : L.getD i 0 = x := by rw [List.getD_eq_getElem?_getD, hx]; rfl
      obtain ⟨hx0, hx1⟩ := HB.out x (List.mem_of_getElem? hx)
      have HR1 := HRES.out
      rw [stepF, hgx] at HR1
      have hlw := fun W => less_is t x ht W
      have hlt2 := less_lt t x ht
      clear HRES hgx e0
      generalize lessI t x = t2 at *
      have hfr := fun W (k : On w0 W) => ((HN.out.on k).free t2 hlt2).mono (fun e w' (h : _ ∧ w' = W) => (⟨h.1, h.2 ▸ On.refl W⟩ : _ ∧ On W w'))
      have hfl := free_lt DL.length (DL2D DL) t2
      have hup : ∀ W, Calls Tryd.prog 37 #[.int .i64 (x + 1)] W fun e w' => e = .returned (.int .u64 (uptoI (x + 1))) ∧ On W w' := fun W => (upto_is (x + 1) W).mono fun e w' h => ⟨h.1, h.2 ▸ On.refl _⟩
      have hul := upto_lt (x + 1)
      have han := u64_andNot_nat (freeN DL.length (DL2D DL) t2) (uptoI (x + 1)) hfl hul
      have hgl : freeN DL.length (DL2D DL) t2 &&& (18446744073709551615 - uptoI (x + 1)) < 18446744073709551616 := Nat.lt_of_le_of_lt Nat.and_le_left hfl
      have hxw : IntKind.i64.wrap (x + 1) = x + 1 := by rw [IntKind.wrap_i64]; omega
      have hcx := HR.out.at hx
      have hgg := HR.out.lt
      have HXI : Hid (L[i]? = some x) := hx
      clear hx
      generalize (freeN DL.length (DL2D DL) t2 &&& (18446744073709551615 - uptoI (x + 1))) = G at *
      generalize freeN DL.length (DL2D DL) t2 = F at *
      generalize uptoI (x + 1) = U1 at *
      go_wp2_with fail
      refine (hlw _).mono ?_
      rintro _ w2 ⟨rfl, hw2⟩
      subst w2
      go_wp2
      have T0 : wr.drew.cell? ⟨g, i, none⟩ = some (.int .i64 x) ∧ g < wr.drew.heap.size := ⟨hcx, hgg⟩
      have hon : ∀ W W', W.cell? ⟨g, i, none⟩ = some (.int .i64 x) ∧ g < W.heap.size → On W W' → W'.cell? ⟨g, i, none⟩ = some (.int .i64 x) ∧ g < W'.heap.size := fun W W' h k => ⟨(k.cell (p := ⟨g, i, none⟩) h.2).trans h.1, Nat.lt_of_lt_of_le h.2 k.size⟩
      have K0 := HO.out.drew
      have KW := On.refl wr.drew
      clear hcx hgg
      refine region_fin (fun W => W.cell? ⟨g, i, none⟩ = some (.int .i64 x) ∧ g < W.heap.size) 99 11 (by kernel_rfl) rfl ?_
      refine fin_take 0 (v := ?_) rfl (by kernel_rfl) (by kernel_rfl) (by kernel_rfl) (by kernel_rfl) (fun _ _ _ h => h) rfl ?_ T0 ?_
      rotate_left
      · intro W hW
        go_simp
        (try with_reducible rfl)
      simp only [Act.put, List.setIfInBounds_toArray, List.set_cons_zero, List.set_cons_succ]
      refine fin_take 1 (v := ?_) rfl (by kernel_rfl) (by kernel_rfl) (by kernel_rfl) (by kernel_rfl) (fun _ _ _ h => h) rfl ?_ T0 ?_
      rotate_left
      · intro W hW
        go_simp
        (try with_reducible rfl)
      simp only [Act.put, List.setIfInBounds_toArray, List.set_cons_zero, List.set_cons_succ]
      refine fin_take 3 (v := ?_) rfl (by kernel_rfl) (by kernel_rfl) (by kernel_rfl) (by kernel_rfl) (fun _ _ _ h => h) rfl ?_ T0 ?_
      rotate_left
      · intro W hW
        go_simp
        (try with_reducible rfl)
      simp only [Act.put, List.setIfInBounds_toArray, List.set_cons_zero, List.set_cons_succ]
      refine fin_take 4 (v := ?_) rfl (by kernel_rfl) (by kernel_rfl) (by kernel_rfl) (by kernel_rfl) (fun _ _ _ h => h) rfl ?_ T0 ?_
      rotate_left
      · intro W hW
        go_simp
        (try with_reducible rfl)
      simp only [Act.put, List.setIfInBounds_toArray, List.set_cons_zero, List.set_cons_succ]
      refine fin_take 5 (v := ?_) rfl (by kernel_rfl) (by kernel_rfl) (by kernel_rfl) (by kernel_rfl) (fun _ _ _ h => h) rfl ?_ T0 ?_
      rotate_left
      · intro W hW
        go_simp
        (try with_reducible rfl)
      simp only [Act.put, List.setIfInBounds_toArray, List.set_cons_zero, List.set_cons_succ]
      refine fin_take 6 (v := ?_) rfl (by kernel_rfl) (by kernel_rfl) (by kernel_rfl) (by kernel_rfl) (fun _ _ _ h => h) rfl ?_ T0 ?_
      rotate_left
      · intro W hW
        have hcl := hW.1
        have hll := hW.2
        go_simp
        (try with_reducible rfl)
      simp only [Act.put, List.setIfInBounds_toArray, List.set_cons_zero, List.set_cons_succ]
      refine fin_take 7 (v := ?_) rfl (by kernel_rfl) (by kernel_rfl) (by kernel_rfl) (by kernel_rfl) (fun _ _ _ h => h) rfl ?_ T0 ?_
      rotate_left
      · intro W hW
        go_simp
        (try with_reducible rfl)
      simp only [Act.put, List.setIfInBounds_toArray, List.set_cons_zero, List.set_cons_succ]
      refine fin_one 2 rfl rfl (by kernel_rfl) (fun K hK => ?_)
      go_simp
      refine (hfr _ K0).mono ?_
      rintro _ v1 ⟨rfl, kv1⟩
      have Sv1 := hon _ _ T0 kv1
      have Kv1 := K0.trans kv1
      have KV1 := KW.trans kv1
      refine hK.out _ _ (fun _ => Sv1) ?_
      clear hK
      refine fin_one 8 rfl rfl (by kernel_rfl) (fun K hK => ?_)
      go_simp
      refine (hup _).mono ?_
      rintro _ v2 ⟨rfl, kv2⟩
      have Sv2 := hon _ _ Sv1 kv2
      have Kv2 := Kv1.trans kv2
      have KV2 := KV1.trans kv2
      refine hK.out _ _ (fun _ => Sv2) ?_
      clear hK
      refine fin_take 9 (v := ?_) rfl (by kernel_rfl) (by kernel_rfl) (by kernel_rfl) (by kernel_rfl) (fun _ _ _ h => h) rfl ?_ Sv2 ?_
      rotate_left
      · intro W hW
        go_simp
        (try with_reducible rfl)
      simp only [Act.put, List.setIfInBounds_toArray, List.set_cons_zero, List.set_cons_succ]
      refine fin_take 10 (v := ?_) rfl (by kernel_rfl) (by kernel_rfl) (by kernel_rfl) (by kernel_rfl) (fun _ _ _ h => h) rfl ?_ Sv2 ?_
      rotate_left
      · intro W hW
        go_simp
        (try with_reducible rfl)
      simp only [Act.put, List.setIfInBounds_toArray, List.set_cons_zero, List.set_cons_succ]
      refine fin_done (by kernel_rfl) (NoPanic.normal ?_)
      have HKV : Hid (On wr v2) := ((On.refl wr).drew).trans KV2
      have HO2 : Hid (On w0 v2) := HO.out.trans HKV.out
      have HW2 : Hid (Wa g w v2) := HW.out.trans (Wa.on HKV.out)
      have HR2 : Hid (Rw v2 g L) := HR.out.on HKV.out
      clear HO HW HR T0 K0 KW hon
      by_cases hG : G = 0
      · subst hG
        rw [if_pos rfl] at HR1
        have HRES2 : Hid (RES = _) := HR1
        clear HR1
        have hw3 : IntKind.i64.wrap ((i : Int) - 1) = (i : Int) - 1 := by rw [IntKind.wrap_i64]; omega
        go_wp2
        go_roundg i
        case measure => omega
        case rel => exact ⟨i, t2, by omega, rfl, rfl, rfl, hlt2, HO2, HW2, HR2, HRES2⟩
      · rw [if_neg hG] at HR1
        have hG0 : ((G : Int) == 0) = false := by simpa using (by omega : ¬ (G : Int) = 0)
        simp only [Option.map_some] at HR1
        have hfi := fun W (k : On w0 W) => first_is G hgl W (HN.out.on k).d
        generalize firstN G = y at *
        have hcl := HR2.out.at HXI.out
        have hcf := HR2.out.fr i
        have hgl2 := HR2.out.lt
        have hR3 := HR2.out.put hiL y
        have hO3 := HO2.out.setNew (N := g) (i := i) hg (.int .i64 y)
        have hW3 := HW2.out.setAt i (.int .i64 y)
        have hLs : (L.set i y).length = len := by rw [List.length_set, HLEN.out]
        have hst := set_take hiL y
        have HFIN : Hid (∀ W, On w0 W → Rw W g (L.set i y) → Calls Tryd.prog 40 #[.slice ao DL.length cn, .slice (some ⟨g, 0, none⟩) len c, .int .i64 ((i + 1 : Nat) : Int)] W fun e w' => e = .returned (.tuple #[]) ∧ RES = some (RES.getD L) ∧ Rw w' g (RES.getD L) ∧ Wa g W w') := fun W k hr => by
          have := finish_is DL _ w0 HN.out (L.set i y) g c (i + 1) W k hg hr (by omega) (by omega) (by omega)
          rw [hLs, hst] at this
          refine this.mono fun e w' h => ⟨h.1, by rw [HR1]; rfl, ?_, h.2.2⟩
          rw [HR1]
          have h2 := h.2.1
          rw [List.append_assoc] at h2
          exact h2
        clear HR1 hst hLs
        go_wp2_with fail
        refine (hfi _ HO2.out).mono ?_
        rintro _ w3 ⟨rfl, hw3⟩
        subst w3
        obtain ⟨W2, hW2⟩ : ∃ W2, W2 = v2.setCell ⟨g, i, none⟩ (.int .i64 y) := ⟨_, rfl⟩
        rw [← hW2] at hR3 hO3 hW3
        have HWE : Hid (W2 = v2.setCell ⟨g, i, none⟩ (.int .i64 y)) := hW2
        clear hW2
        go_wp2_with fail
        rw [← HWE.out]
        have hF := HFIN.out W2 hO3 hR3
        refine hF.mono ?_
        rintro _ w4 ⟨rfl, hsome, hrw, hwa⟩
        have HS : Hid (RES = some (RES.getD L)) := hsome
        clear hsome hF hcl hcf hgl2
        go_wp2
        go_ret
        exact ⟨by rw [HS.out]; rfl, hrw, hW3.trans hwa⟩
end Go.Proofs.YtohngifmbnlmmaaDoor
