/- FinalTexts: unlike ends of one program have unlike texts; a text has as many words as there are registers and locations. -/
import Derived.Test.YtmgjcgolebfjjaaDoorAwake13
import Derived.Test.YtmgjcgolebfjjaaDoorFinV
import Derived.Test.YtmgjcgolebfjjaaDoorFinZ
import Derived.Test.YtmgjcgolebfjjaaDoorLetP
import Derived.Test.YtmgjcgolebfjjaaDoorOfW
namespace Go.Proofs.YtmgjcgolebfjjaaDoor
open Go.RowKit

theorem of_two (zs : List Int) (most : Nat) : 2 ≤ (ofT zs most).length ∧ (ofT zs most).length ≤ 3 := by
  unfold ofT
  rw [List.length_map]
  have := (thrOf_ok zs most).1
  have e : (smallP zs most).thr = (thrOf zs most).1 := rfl
  rw [e]
  omega
theorem wpList_feq {ops : Array Oper} {rest : List Oper} {o : Oper} {a : Act} {w : World} {Q : Exit → Act → World → Prop} (hgd : o.guard = none) {x y : Operand} {u : TypeId} (ho : o.op = .binOp .eql 26 x y u) {f g : FinT} (hx : a.eval x = .agg (finA f)) (hy : a.eval y = .agg (finA g)) {b : Bool} (hb : decide (f = g) = b)
    (k : wpList Tryd.prog ops Q rest (a.put o.dst (.bool b)) w) : wpList Tryd.prog ops Q (o :: rest) a w := by
  refine wpList_plain hgd fun K hK => ?_
  unfold Oper.wp
  rw [exec_feq ho hx hy w, hb]
  exact hK _ _ k
theorem finC_get (f : FinT) (k : Nat) : (finC f)[k]? = if k < 20 then some (.int .i64 (f.l.getD k 0)) else none := by
  unfold finC
  rw [List.getElem?_map]
  by_cases h : k < 20
  · rw [if_pos h, List.getElem?_eq_getElem (by rw [f.h]; exact h), List.getD_eq_getElem?_getD, List.getElem?_eq_getElem (by rw [f.h]; exact h)]
    rfl
  · rw [if_neg h, List.getElem?_eq_none (by rw [f.h]; omega)]
    rfl
theorem put_reg (f : FinT) {T n M : Nat} (h : n < 4) (hT : T ≤ n) : putAt (finC (cutF T n M M f)) (n * 4) [.int .i64 0, .int .i64 0, .int .i64 0, .int .i64 0] = finC (cutF T (n + 1) M M f) := by
  apply List.ext_getElem?
  intro k
  unfold putAt putAt putAt putAt putAt
  simp only [List.getElem?_set, List.length_set, finC_len, finC_get]
  by_cases hk : k < 20
  · simp only [hk, if_true, cutF_at _ _ _ _ _ hk]
    by_cases h3 : n * 4 + 1 + 1 + 1 = k
    · rw [if_pos h3, if_pos (by omega), if_pos (by omega)]
    · rw [if_neg h3]
      by_cases h2 : n * 4 + 1 + 1 = k
      · rw [if_pos h2, if_pos (by omega), if_pos (by omega)]
      · rw [if_neg h2]
        by_cases h1 : n * 4 + 1 = k
        · rw [if_pos h1, if_pos (by omega), if_pos (by omega)]
        · rw [if_neg h1]
          by_cases h0 : n * 4 = k
          · rw [if_pos h0, if_pos (by omega), if_pos (by omega)]
          · rw [if_neg h0]
            by_cases hh : (T * 4 ≤ k ∧ k < n * 4) ∨ (16 + M ≤ k ∧ k < 16 + M)
            · rw [if_pos hh, if_pos (by omega)]
            · rw [if_neg hh, if_neg (by omega)]
  · simp only [hk, if_false]
    rw [if_neg (by omega), if_neg (by omega), if_neg (by omega), if_neg (by omega)]
theorem put_mem (f : FinT) {T M m : Nat} (h : m < 4) (hM : M ≤ m) : (finC (cutF T 4 M m f)).set (16 + m) (.int .i64 0) = finC (cutF T 4 M (m + 1) f) := by
  apply List.ext_getElem?
  intro k
  simp only [List.getElem?_set, finC_len, finC_get]
  by_cases hk : k < 20
  · simp only [hk, if_true, cutF_at _ _ _ _ _ hk]
    by_cases h3 : 16 + m = k
    · rw [if_pos h3, if_pos (by omega), if_pos (by omega)]
    · rw [if_neg h3]
      by_cases hh : (T * 4 ≤ k ∧ k < 4 * 4) ∨ (16 + M ≤ k ∧ k < 16 + m)
      · rw [if_pos hh, if_pos (by omega)]
      · rw [if_neg hh, if_neg (by omega)]
  · simp only [hk, if_false]
    rw [if_neg (by omega)]
theorem rd_byte_far {w : World} {N : Nat} {v : Value} {L : List UInt8} {F : FinT} (h : Rd byteC 1 w v L) (hB : Bk w N (finA F)) (o : Nat) (u : Value) : Rd byteC 1 (w.setCell ⟨N, o, none⟩ u) v L := by
  obtain ⟨a, c, rfl, hc, hm, h⟩ := h
  refine ⟨a, c, rfl, hc, hm, fun hl => ?_⟩
  obtain ⟨g, off, ha, hg, hr⟩ := h hl
  have hne : g ≠ N := by
    rintro rfl
    have h0 := hr 0 L[0] 0 _ (List.getElem?_eq_getElem hl) rfl
    obtain ⟨T, e⟩ := hB
    simp only [World.cell?, e] at h0
    have h1 : (finC F)[off + 0 * 1 + 0]? = some (.int .u8 (L[0].toNat)) := by
      unfold finA at h0
      rw [List.getElem?_toArray] at h0
      exact h0
    rw [finC_get] at h1
    split at h1
    · simp at h1
    · cases h1
  refine ⟨g, off, ha, by rw [size_set]; exact hg, fun i x j u hi hj => ?_⟩
  have := hr i x j u hi hj
  simp only [World.cell?] at this ⊢
  rw [Below.heap_setCell _ _ _ _ hne]
  exact this
/-- What FinalTexts' loops carry: the two ends as they are now, the program, its locations. -/
structure FtJ (w W : World) (A P : Nat) (F G : FinT) (pc : Array Value) (v : Value) (LT : List UInt8) : Prop where
  on : On w W
  lo : w.heap.size ≤ A
  hi : A + 1 < P
  bf : Bk W A (finA F)
  bg : Bk W (A + 1) (finA G)
  bp : Bk W P pc
  rd : Rd byteC 1 W v LT
section
variable {w W : World} {A P : Nat} {F G F' G' : FinT} {pc : Array Value} {v : Value} {LT : List UInt8}
theorem FtJ.mono (h : FtJ w W A P F G pc v LT) {W' : World} (k : On W W') : FtJ w W' A P F G pc v LT := ⟨h.on.trans k, h.lo, h.hi, h.bf.on k, h.bg.on k, h.bp.on k, h.rd.on k⟩
theorem FtJ.set1 (h : FtJ w W A P F G pc v LT) {o : Nat} {u x : Value} (e1 : (finC F).set o u = finC F') (e2 : (finC G).set o x = finC G') : FtJ w ((W.setCell ⟨A, o, none⟩ u).setCell ⟨A + 1, o, none⟩ x) A P F' G' pc v LT := by
  have h1 : Bk (W.setCell ⟨A, o, none⟩ u) A (finA F') := by
    have := Bk.put (cs := finC F) h.bf o u
    rw [e1] at this
    exact this
  have h2 : Bk (W.setCell ⟨A, o, none⟩ u) (A + 1) (finA G) := h.bg.far (by omega) _ _
  have h3 : Bk ((W.setCell ⟨A, o, none⟩ u).setCell ⟨A + 1, o, none⟩ x) (A + 1) (finA G') := by
    have := Bk.put (cs := finC G) h2 o x
    rw [e2] at this
    exact this
  exact ⟨(h.on.setNew h.lo _).setNew (Nat.le_trans h.lo (Nat.le_succ _)) _, h.lo, h.hi, h1.far (by omega) _ _, h3, (h.bp.far (by have := h.hi; omega) _ _).far (by have := h.hi; omega) _ _, rd_byte_far (rd_byte_far h.rd h.bf _ _) h2 _ _⟩
end
theorem zero_set (F : FinT) {o : Nat} : ∃ F' : FinT, (finC F).set o (.int .i64 0) = finC F' := by
  refine ⟨⟨F.l.set o 0, by rw [List.length_set]; exact F.h, fun z hz => ?_⟩, ?_⟩
  · rcases List.mem_or_eq_of_mem_set hz with h | h
    · exact F.b z h
    · rw [h]; omega
  · unfold finC
    rw [← List.map_set]
    rfl
section
variable {w W : World} {A P n T M : Nat} {F G : FinT} {pc : Array Value} {v : Value} {LT : List UInt8}
theorem rd_byte_four (h : Rd byteC 1 W v LT) (hB : Bk W A (finA F)) (o : Nat) : Rd byteC 1 (putCells W A o [.int .i64 0, .int .i64 0, .int .i64 0, .int .i64 0]) v LT := by
  obtain ⟨F1, e1⟩ := zero_set F (o := o)
  obtain ⟨F2, e2⟩ := zero_set F1 (o := o + 1)
  obtain ⟨F3, e3⟩ := zero_set F2 (o := o + 1 + 1)
  have b1 : Bk (W.setCell ⟨A, o, none⟩ (.int .i64 0)) A (finA F1) := by have := Bk.put (cs := finC F) hB o (.int .i64 0); rw [e1] at this; exact this
  have b2 : Bk ((W.setCell ⟨A, o, none⟩ (.int .i64 0)).setCell ⟨A, o + 1, none⟩ (.int .i64 0)) A (finA F2) := by have := Bk.put (cs := finC F1) b1 (o + 1) (.int .i64 0); rw [e2] at this; exact this
  have b3 : Bk (((W.setCell ⟨A, o, none⟩ (.int .i64 0)).setCell ⟨A, o + 1, none⟩ (.int .i64 0)).setCell ⟨A, o + 1 + 1, none⟩ (.int .i64 0)) A (finA F3) := by have := Bk.put (cs := finC F2) b2 (o + 1 + 1) (.int .i64 0); rw [e3] at this; exact this
  exact rd_byte_far (rd_byte_far (rd_byte_far (rd_byte_far h hB _ _) b1 _ _) b2 _ _) b3 _ _
theorem FtJ.set4 (h : FtJ w W A P (cutF T n M M F) (cutF T n M M G) pc v LT) (hn : n < 4) (hT : T ≤ n) :
    FtJ w (putCells (putCells W A (n * 4) [.int .i64 0, .int .i64 0, .int .i64 0, .int .i64 0]) (A + 1) (n * 4) [.int .i64 0, .int .i64 0, .int .i64 0, .int .i64 0]) A P (cutF T (n + 1) M M F) (cutF T (n + 1) M M G) pc v LT := by
  have h1 := Bk.puts [.int .i64 0, .int .i64 0, .int .i64 0, .int .i64 0] W (finC (cutF T n M M F)) (n * 4) h.bf
  rw [put_reg F hn hT] at h1
  have h2 := Bk.fars (show A ≠ A + 1 by omega) [.int .i64 0, .int .i64 0, .int .i64 0, .int .i64 0] W _ (n * 4) h.bg
  have h3 := Bk.puts [.int .i64 0, .int .i64 0, .int .i64 0, .int .i64 0] _ (finC (cutF T n M M G)) (n * 4) h2
  rw [put_reg G hn hT] at h3
  refine ⟨On.puts (Nat.le_trans h.lo (Nat.le_succ _)) _ _ _ (On.puts h.lo _ _ _ h.on), h.lo, h.hi, Bk.fars (by omega) _ _ _ _ h1, h3, ?_, ?_⟩
  · exact Bk.fars (by have := h.hi; omega) _ _ _ _ (Bk.fars (by have := h.hi; omega) _ _ _ _ h.bp)
  · exact rd_byte_four (rd_byte_four h.rd h.bf _) h2 _
end
theorem count_step {l : List UInt8} {i : Nat} {b : UInt8} (h : l[i]? = some b) : (l.take (i + 1)).count 32 = (l.take i).count 32 + (if b = 32 then 1 else 0) := by
  rw [List.take_add_one, h, List.count_append]
  show List.count 32 (l.take i) + List.count 32 [b] = _
  by_cases e : b = 32
  · rw [if_pos e, e]; rfl
  · have z : List.count 32 [b] = 0 := List.count_eq_zero.2 (fun h => e (List.mem_singleton.1 h).symm)
    rw [if_neg e, z]
set_option maxHeartbeats 4000000 in
set_option maxRecDepth 8000 in
theorem finalTexts_walk (ao : Option Addr) (zs : List Int) (cap : Nat) (f g : FinT) (w : World) (hz : zs.length ≤ 9223372036854775807) (hr : Rd intC 1 w (.slice ao zs.length cap) zs) (hP : Pw w) :
    Calls Tryd.prog 3 #[.slice ao zs.length cap, .agg (finA f), .agg (finA g)] w fun e w' => e = .returned (.bool true) ∧ On w w' := by
  have HP : Hid (Pw w) := hP
  obtain ⟨W0, hW0⟩ : ∃ W0, W0 = (w.alloc (.cells (finA f) 26)).alloc (.cells (finA g) 26) := ⟨_, rfl⟩
  have HW : Hid (W0 = (w.alloc (.cells (finA f) 26)).alloc (.cells (finA g) 26)) := hW0
  have Bf : Bk W0 w.heap.size (finA f) := by rw [hW0]; exact (Bk.new w _ _).alloc _
  have Bg : Bk W0 (w.heap.size + 1) (finA g) := by rw [hW0]; exact Bk.newAtF (by simp only [World.size_alloc]) _ _
  have HO : Hid (On w W0) := by show On _ _; rw [hW0]; exact ((On.refl w).alloc _).alloc _
  have HS : Hid (W0.heap.size = w.heap.size + 1 + 1) := by show _ = _; rw [hW0]; simp only [World.size_alloc]
  have hO := of_is zs ao cap 5 W0 hz (hr.on HO.out)
  obtain ⟨hm2, hm3⟩ := of_two zs 5
  have hlo := of_locs3 zs 5
  have HNO : Hid ((32 : UInt8) ∉ locsR (smallP zs 5)) := locsR_no _
  rw [hW0] at hO
  clear hr hz hW0 hP
  generalize ofT zs 5 = LL at *
  generalize iniVals (locsR (smallP zs 5)) (smallP zs 5).ini = IN at *
  generalize locsR (smallP zs 5) = LT at *
  generalize zs.length = mz at *
  obtain ⟨T, hT⟩ : ∃ T, LL.length = T := ⟨_, rfl⟩
  obtain ⟨M, hM⟩ : ∃ M, LT.length = M := ⟨_, rfl⟩
  have HM : Hid (LT.length = M) := hM
  rw [hT] at hm2 hm3
  rw [hM] at hlo
  have HTX : Hid (∀ (F : FinT) (a1 : Option Addr) (c1 : Nat) (iv : Value) (a3 : Option Addr) (c3 : Nat) (W : World), Pw W → Rd byteC 1 W (.slice a1 M c1) LT → Calls Tryd.prog 8 #[.agg #[.slice a1 M c1, iv, .slice a3 T c3], .agg (finA F)] W fun e w' => e = .returned (.string ⟨(finTx T LT F).toArray⟩) ∧ On W w') := fun F a1 c1 iv a3 c3 W p h => by
    have := ftext_is LT a1 c1 iv a3 T c3 F W p (by rw [HM.out]; exact h)
    rw [HM.out, show min T 4 = T by omega, List.take_of_length_le (by rw [HM.out]; omega)] at this
    exact this
  have HRX : Hid (∀ (F : FinT) (a1 : Option Addr) (c1 : Nat) (iv : Value) (a3 : Option Addr) (c3 : Nat) (W : World), Rd byteC 1 W (.slice a1 M c1) LT → Calls Tryd.prog 9 #[.agg #[.slice a1 M c1, iv, .slice a3 T c3], .agg (finA F)] W fun e w' => e = .returned (.string ⟨(finTx T LT F).toArray⟩) ∧ On W w') := fun F a1 c1 iv a3 c3 W h => by
    have := rftext_is LT a1 c1 iv a3 T c3 F W (by omega) (by omega) (by rw [HM.out]; exact h)
    rw [HM.out, show min T 4 = T by omega, List.take_of_length_le (by rw [HM.out]; omega)] at this
    exact this
  have HEQ : Hid (∀ f g : FinT, (finTx T LT (cutF T 4 M 4 f) = finTx T LT (cutF T 4 M 4 g)) ↔ cutF T 4 M 4 f = cutF T 4 M 4 g) := cutF_eq HM.out.symm HNO.out
  have HCN : Hid (∀ F, (finTx T LT F).count 32 = T * 4 + M - 1) := fun F => by rw [fintx_count F T HNO.out, HM.out]
  have HLN : Hid (∀ F, (finTx T LT F).length ≤ 520) := fun F => by
    have := foldT_bound F (T := T) (L := LT) (by omega) (by rw [HM.out]; omega) (partsT T LT).length
    rw [List.take_length] at this
    exact this
  have HF0 : Hid (f = cutF T T M M f) := (cutF_none T M f).symm
  have HG0 : Hid (g = cutF T T M M g) := (cutF_none T M g).symm
  go_enter Tryd.func3, Tryd.ntmps3
  go_wp2_with fail
  refine hO.mono ?_
  rintro _ w1 ⟨pv, rfl, hPr, k1⟩
  rw [← HW.out] at k1
  obtain ⟨a1, c1, a2, c2, a3, c3, rfl, r1, _, _⟩ := hPr.ex
  rw [hM] at r1
  rw [hM, hT]
  generalize IN.length = ni at *
  obtain ⟨pc, hpc⟩ : ∃ pc : Array Value, pc = #[.slice a1 M c1, .slice a2 ni c2, .slice a3 T c3] := ⟨_, rfl⟩
  have J0 : FtJ w (w1.alloc (.cells #[.slice a1 M c1, .slice a2 ni c2, .slice a3 T c3] 31)) w.heap.size w1.heap.size (cutF T T M M f) (cutF T T M M g) pc (.slice a1 M c1) LT := by
    rw [← HF0.out, ← HG0.out, hpc]
    refine ⟨(HO.out.trans k1).alloc _, Nat.le_refl _, ?_, (Bf.on k1).alloc _, (Bg.on k1).alloc _, Bk.new _ _ _, r1.on ((On.refl w1).alloc _)⟩
    have := (Bg.on k1).lt
    have h1 := k1.size
    have h2 := HS.out
    omega
  have HJ : Hid (FtJ w (w1.alloc (.cells #[.slice a1 M c1, .slice a2 ni c2, .slice a3 T c3] 31)) w.heap.size w1.heap.size (cutF T T M M f) (cutF T T M M g) pc (.slice a1 M c1) LT) := J0
  have HPC : Hid (pc = #[.slice a1 M c1, .slice a2 ni c2, .slice a3 T c3]) := hpc
  clear J0 hpc r1 hPr hO Bf Bg HF0 HG0 k1 HS
  go_wp2
  obtain ⟨W2, hW2⟩ : ∃ W2, W2 = w1.alloc (.cells #[.slice a1 M c1, .slice a2 ni c2, .slice a3 T c3] 31) := ⟨_, rfl⟩
  rw [← hW2] at HJ ⊢
  clear hW2 HW
  generalize w.heap.size = A at HJ ⊢
  generalize w1.heap.size = P at HJ ⊢
  go_loopg [8] (4 - T) (fun gg s8 wq => ∃ n : Nat, T ≤ n ∧ n ≤ 4 ∧ gg = 4 - n ∧ s8 = .int .i64 n ∧ Hid (FtJ w wq A P (cutF T n M M f) (cutF T n M M g) pc (.slice a1 M c1) LT))
  case atStart => exact ⟨T, Nat.le_refl _, by omega, rfl, rfl, HJ⟩
  case round =>
    clear HJ
    obtain ⟨n, hTn, hn4, hk, rfl, HJ⟩ := hrel
    rcases Nat.lt_or_ge n 4 with hlt | hge
    · have bn0 : (0 : Int) ≤ (n : Int) := by omega
      have bn1 : (n : Int) < 4 := by omega
      have lf := HJ.out.bf
      have lg := HJ.out.bg
      have HN : Hid (FtJ w (putCells (putCells wr A (n * 4) [.int .i64 0, .int .i64 0, .int .i64 0, .int .i64 0]) (A + 1) (n * 4) [.int .i64 0, .int .i64 0, .int .i64 0, .int .i64 0]) A P (cutF T (n + 1) M M f) (cutF T (n + 1) M M g) pc (.slice a1 M c1) LT) := HJ.out.set4 hlt hTn
      obtain ⟨x0, h0⟩ := (cutF T n M M f).at (k := n * 4) (by omega)
      obtain ⟨x1, h1⟩ := (cutF T n M M f).at (k := n * 4 + 1) (by omega)
      obtain ⟨x2, h2⟩ := (cutF T n M M f).at (k := n * 4 + 2) (by omega)
      obtain ⟨x3, h3⟩ := (cutF T n M M f).at (k := n * 4 + 3) (by omega)
      obtain ⟨y0, j0⟩ := (cutF T n M M g).at (k := n * 4) (by omega)
      obtain ⟨y1, j1⟩ := (cutF T n M M g).at (k := n * 4 + 1) (by omega)
      obtain ⟨y2, j2⟩ := (cutF T n M M g).at (k := n * 4 + 2) (by omega)
      obtain ⟨y3, j3⟩ := (cutF T n M M g).at (k := n * 4 + 3) (by omega)
      have c0 := lf.at (finA_at _ h0)
      have c1 := lf.at (finA_at _ h1)
      have c2 := lf.at (finA_at _ h2)
      have c3 := lf.at (finA_at _ h3)
      have d0 := lg.at (finA_at _ j0)
      have d1 := lg.at (finA_at _ j1)
      have d2 := lg.at (finA_at _ j2)
      have d3 := lg.at (finA_at _ j3)
      have f0 := lf.fr (n * 4)
      have f1 := lf.fr (n * 4 + 1)
      have f2 := lf.fr (n * 4 + 2)
      have f3 := lf.fr (n * 4 + 3)
      have g0 := lg.fr (n * 4)
      have g1 := lg.fr (n * 4 + 1)
      have g2 := lg.fr (n * 4 + 2)
      have g3 := lg.fr (n * 4 + 3)
      have qA : ¬ A + 1 = A := by omega
      clear h0 h1 h2 h3 j0 j1 j2 j3 lf lg HJ
      go_wp2
      go_roundg (4 - (n + 1))
      case measure => omega
      case rel => exact ⟨n + 1, by omega, by omega, rfl, by go_num, HN⟩
    · obtain rfl : n = 4 := by omega
      have cp0 : wr.cell? ⟨P, 0, none⟩ = some (.slice a1 M c1) := HJ.out.bp.at (by rw [HPC.out]; rfl)
      clear hTn hn4 hk hge
      go_wp2
      obtain ⟨wo, hwo⟩ : ∃ wo, wo = wr := ⟨_, rfl⟩
      subst hwo
      clear cp0
      go_loopg [9] (4 - M) (fun gg s9 wq => ∃ m : Nat, M ≤ m ∧ m ≤ 4 ∧ gg = 4 - m ∧ s9 = .int .i64 m ∧ Hid (FtJ w wq A P (cutF T 4 M m f) (cutF T 4 M m g) pc (.slice a1 M c1) LT))
      case atStart => exact ⟨M, Nat.le_refl _, by omega, rfl, rfl, HJ⟩
      case round =>
        clear HJ
        obtain ⟨m, hMm, hm4, hk, rfl, HJ⟩ := hrel
        rcases Nat.lt_or_ge m 4 with hlt | hge
        · have bn0 : (0 : Int) ≤ (m : Int) := by omega
          have bn1 : (m : Int) < 4 := by omega
          have lf := HJ.out.bf
          have lg := HJ.out.bg
          have HN : Hid (FtJ w ((wr.setCell ⟨A, 16 + m, none⟩ (.int .i64 0)).setCell ⟨A + 1, 16 + m, none⟩ (.int .i64 0)) A P (cutF T 4 M (m + 1) f) (cutF T 4 M (m + 1) g) pc (.slice a1 M c1) LT) := HJ.out.set1 (put_mem f hlt hMm) (put_mem g hlt hMm)
          obtain ⟨x0, h0⟩ := (cutF T 4 M m f).at (k := 16 + m) (by omega)
          obtain ⟨y0, j0⟩ := (cutF T 4 M m g).at (k := 16 + m) (by omega)
          have c0 := lf.at (finA_at _ h0)
          have d0 := lg.at (finA_at _ j0)
          have f0 := lf.fr (16 + m)
          have g0 := lg.fr (16 + m)
          have qA : ¬ A + 1 = A := by omega
          clear h0 j0 lf lg HJ
          go_wp2
          go_roundg (4 - (m + 1))
          case measure => omega
          case rel => exact ⟨m + 1, by omega, by omega, rfl, by go_num, HN⟩
        · obtain rfl : m = 4 := by omega
          clear hMm hm4 hk hge
          obtain ⟨w5, hw5⟩ : ∃ w5, w5 = wr := ⟨_, rfl⟩
          subst hw5
          have HPw : Hid (Pw w5) := HP.out.on HJ.out.on
          have hfg := HEQ.out f g
          have HC := HCN.out (cutF T 4 M 4 f)
          have HL := HLN.out (cutF T 4 M 4 f)
          obtain ⟨F4, hF4⟩ : ∃ F4, F4 = cutF T 4 M 4 f := ⟨_, rfl⟩
          obtain ⟨G4, hG4⟩ : ∃ G4, G4 = cutF T 4 M 4 g := ⟨_, rfl⟩
          rw [← hF4] at HJ hfg HC HL
          rw [← hG4] at HJ hfg
          have hTF := fun W (k : On w5 W) => HTX.out F4 a1 c1 (.slice a2 ni c2) a3 c3 W (HPw.out.on k) (HJ.out.rd.on k)
          have hTG := fun W (k : On w5 W) => HTX.out G4 a1 c1 (.slice a2 ni c2) a3 c3 W (HPw.out.on k) (HJ.out.rd.on k)
          have hRF := fun W (k : On w5 W) => HRX.out F4 a1 c1 (.slice a2 ni c2) a3 c3 W (HJ.out.rd.on k)
          have hAw := fun W (k : On w5 W) => awake13_is W (HPw.out.on k)
          obtain ⟨xs, hxs⟩ : ∃ xs, xs = finTx T LT F4 := ⟨_, rfl⟩
          obtain ⟨ys, hys⟩ : ∃ ys, ys = finTx T LT G4 := ⟨_, rfl⟩
          obtain ⟨sx, hsx⟩ : ∃ sx : ByteArray, sx = ⟨xs.toArray⟩ := ⟨_, rfl⟩
          obtain ⟨sy, hsy⟩ : ∃ sy : ByteArray, sy = ⟨ys.toArray⟩ := ⟨_, rfl⟩
          rw [← hxs] at hTF hRF hfg HC HL
          rw [← hys] at hTG hfg
          rw [← hsx] at hTF hRF
          rw [← hsy] at hTG
          have hxl : sx.size = xs.length := by rw [hsx]; show xs.toArray.size = _; simp
          have HXL : Hid (sx.size = xs.length) := hxl
          have hx5 : sx.size ≤ 520 := by rw [hxl]; exact HL
          have HX5 : Hid (sx.size ≤ 520) := hx5
          have HSX : Hid (sx = ⟨xs.toArray⟩) := hsx
          obtain ⟨bq, hbq⟩ : ∃ bq, bq = decide (F4 = G4) := ⟨_, rfl⟩
          have HBQ : Hid (decide (F4 = G4) = bq) := hbq.symm
          have hst : (sx.toList == sy.toList) = bq := by
            rw [hbq, hsx, hsy, ByteArray.toList_eq, ByteArray.toList_eq]
            by_cases e : F4 = G4
            · rw [decide_eq_true e]
              simpa using hfg.2 e
            · rw [decide_eq_false e]
              have : ¬ xs = ys := fun q => e (hfg.1 q)
              simpa using this
          have HXC : Hid (xs.count 32 = T * 4 + M - 1) := HC
          have RF : Hid (True ∧ ∀ W, On w5 W → W.rangeAt A 0 (finC F4)) := ⟨trivial, fun W k => (HJ.out.bf.on k).range⟩
          have RG : Hid (True ∧ ∀ W, On w5 W → W.rangeAt (A + 1) 0 (finC G4)) := ⟨trivial, fun W k => (HJ.out.bg.on k).range⟩
          have FP0 : Hid (∀ W, On w5 W → W.cell? ⟨P, 0, none⟩ = some (.slice a1 M c1)) := fun W k => (HJ.out.bp.on k).at (by rw [HPC.out]; rfl)
          have FP1 : Hid (∀ W, On w5 W → W.cell? ⟨P, 1, none⟩ = some (.slice a2 ni c2)) := fun W k => (HJ.out.bp.on k).at (by rw [HPC.out]; rfl)
          have FP2 : Hid (∀ W, On w5 W → W.cell? ⟨P, 2, none⟩ = some (.slice a3 T c3)) := fun W k => (HJ.out.bp.on k).at (by rw [HPC.out]; rfl)
          have HON : Hid (On w w5) := HJ.out.on
          have S0 : On w5 w5.drew := (On.refl w5).drew
          clear hF4 hG4 hxs hys hfg HC HL hxl hx5 hsx hsy hbq HJ HTX HRX HEQ HCN HLN HPw HNO HM
          go_wp2
          refine region_fin (fun W => On w5 W) 99 8 (by kernel_rfl) rfl ?_
          refine fin_take 0 (v := ?_) rfl (by kernel_rfl) (by kernel_rfl) (by kernel_rfl) (by kernel_rfl) (fun _ _ _ h => h) rfl ?_ S0 ?_
          rotate_left
          · intro W hW
            have cp0 := FP0.out W hW
            have cp1 := FP1.out W hW
            have cp2 := FP2.out W hW
            go_simp
            (try with_reducible rfl)
          simp only [Act.put, List.setIfInBounds_toArray, List.set_cons_zero, List.set_cons_succ]
          refine fin_take 1 (v := .agg (finA F4)) rfl (by kernel_rfl) (by kernel_rfl) (by kernel_rfl) (by kernel_rfl) (fun _ _ _ h => h) rfl (fun W hW => exec_fld rfl rfl (RF.out.2 W hW)) S0 ?_
          simp only [Act.put, List.setIfInBounds_toArray, List.set_cons_zero, List.set_cons_succ]
          refine fin_take 3 (v := ?_) rfl (by kernel_rfl) (by kernel_rfl) (by kernel_rfl) (by kernel_rfl) (fun _ _ _ h => h) rfl ?_ S0 ?_
          rotate_left
          · intro W hW
            have cp0 := FP0.out W hW
            have cp1 := FP1.out W hW
            have cp2 := FP2.out W hW
            go_simp
            (try with_reducible rfl)
          simp only [Act.put, List.setIfInBounds_toArray, List.set_cons_zero, List.set_cons_succ]
          refine fin_take 4 (v := .agg (finA G4)) rfl (by kernel_rfl) (by kernel_rfl) (by kernel_rfl) (by kernel_rfl) (fun _ _ _ h => h) rfl (fun W hW => exec_fld rfl rfl (RG.out.2 W hW)) S0 ?_
          simp only [Act.put, List.setIfInBounds_toArray, List.set_cons_zero, List.set_cons_succ]
          refine fin_one 2 rfl rfl (by kernel_rfl) (fun K hK => ?_)
          go_simp
          refine (hTF _ S0).mono ?_
          rintro _ w6 ⟨rfl, kw6⟩
          have Sw6 : On w5 w6 := (S0).trans kw6
          refine hK.out _ _ (fun _ => Sw6) ?_
          clear hK
          refine fin_one 5 rfl rfl (by kernel_rfl) (fun K hK => ?_)
          go_simp
          refine (hTG _ Sw6).mono ?_
          rintro _ w7 ⟨rfl, kw7⟩
          have Sw7 : On w5 w7 := (Sw6).trans kw7
          refine hK.out _ _ (fun _ => Sw7) ?_
          clear hK
          refine fin_take 6 (v := ?_) rfl (by kernel_rfl) (by kernel_rfl) (by kernel_rfl) (by kernel_rfl) (fun _ _ _ h => h) rfl ?_ Sw7 ?_
          rotate_left
          · intro W hW
            go_simp
            (try with_reducible rfl)
          simp only [Act.put, List.setIfInBounds_toArray, List.set_cons_zero, List.set_cons_succ]
          refine fin_take 7 (v := ?_) rfl (by kernel_rfl) (by kernel_rfl) (by kernel_rfl) (by kernel_rfl) (fun _ _ _ h => h) rfl ?_ Sw7 ?_
          rotate_left
          · intro W hW
            go_simp
            (try with_reducible rfl)
          simp only [Act.put, List.setIfInBounds_toArray, List.set_cons_zero, List.set_cons_succ]
          refine fin_done (by kernel_rfl) (NoPanic.normal ?_)
          have hw7 := Sw7
          clear hTF hTG S0 Sw6 Sw7 kw6 kw7
          go_wp2
          have qx := HX5.out
          go_loopg [12, 13] sx.size (fun gg s12 s13 wq => ∃ i k : Nat, i ≤ sx.size ∧ gg = sx.size - i ∧ s12 = .int .i64 k ∧ s13 = .int .i64 i ∧ Hid (k = (xs.take i).count 32) ∧ k ≤ i ∧ On w5 wq)
          case atStart => exact ⟨0, 0, Nat.zero_le _, rfl, rfl, rfl, rfl, Nat.le_refl _, hw7⟩
          case round =>
            clear hw7
            obtain ⟨i, k, hi, hk, rfl, rfl, HKC, hki, hw7⟩ := hrel
            rcases Nat.lt_or_ge i sx.size with hlt | hge
            · have bi0 : (0 : Int) ≤ (i : Int) := by omega
              have bi1 : (i : Int) < (sx.size : Int) := by omega
              obtain ⟨b, hb⟩ : ∃ b, xs[i]? = some b := ⟨_, List.getElem?_eq_getElem (by have := HXL.out; omega)⟩
              have hxi : sx[i]'hlt = b := by
                have h1 : sx.data[i]? = some b := by rw [HSX.out]; simpa using hb
                rw [Array.getElem?_eq_getElem (show i < sx.data.size from hlt)] at h1
                exact Option.some.inj h1
              have hstep := count_step hb
              rw [← HKC.out] at hstep
              by_cases e : b = 32
              · have e32 : (((sx[i]'hlt).toNat : Int) == 32) = true := by rw [hxi, e]; rfl
                rw [if_pos e] at hstep
                have HK2 : Hid (k + 1 = (xs.take (i + 1)).count 32) := hstep.symm
                clear hb hstep HKC e hxi
                go_wp2
                go_roundg (sx.size - (i + 1))
                case measure => omega
                case rel => exact ⟨i + 1, k + 1, by omega, rfl, by go_num, by go_num, HK2, by omega, hw7⟩
              · have e33 : ¬ (b.toNat : Int) = 32 := fun q => e (UInt8.toNat_inj.1 (by show b.toNat = 32; omega))
                have e32 : (((sx[i]'hlt).toNat : Int) == 32) = false := by rw [hxi]; simpa using e33
                rw [if_neg e] at hstep
                have HK2 : Hid (k = (xs.take (i + 1)).count 32) := hstep.symm
                clear hb hstep HKC e hxi
                go_wp2
                go_roundg (sx.size - (i + 1))
                case measure => omega
                case rel => exact ⟨i + 1, k, by omega, rfl, rfl, by go_num, HK2, by omega, hw7⟩
            · obtain rfl : sx.size = i := by omega
              have hcnt : (k : Int) = 4 * (T : Int) + (M : Int) - 1 := by
                have h1 := HKC.out
                rw [HXL.out, List.take_length, HXC.out] at h1
                omega
              have cnt2 : ((k : Int) == 4 * (T : Int) + (M : Int) - 1) = true := by rw [hcnt]; simp
              have c2 := FP2.out _ hw7
              have c0 := FP0.out _ hw7
              have c1 := FP1.out _ hw7
              have rf := RF.out.2 _ hw7
              have rg := RG.out.2 _ hw7
              have qb := HBQ.out
              have HQB : Hid (decide (F4 = G4) = bq) := qb
              clear qb HKC hki hk hi hge hcnt
              go_wp2_with (first | (refine wpList_fld rfl rfl rfl rf ?_) | (refine wpList_fld rfl rfl rfl rg ?_) | (refine wpList_feq rfl rfl rfl rfl HQB.out ?_) | (refine wpList_fldG rfl rfl rfl rf ?_))
              refine (hRF _ hw7).mono ?_
              rintro _ w8 ⟨rfl, k8⟩
              have hw8 := hw7.trans k8
              have s2 := FP2.out _ hw8
              have s0 := FP0.out _ hw8
              clear c0 c1 c2 rf rg
              go_wp2_with fail
              refine (hAw _ hw8).mono ?_
              rintro _ w9 ⟨rfl, k9⟩
              go_wp2
              go_ret
              exact ⟨rfl, HON.out.trans (hw8.trans k9)⟩
end Go.Proofs.YtmgjcgolebfjjaaDoor
