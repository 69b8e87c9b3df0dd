/- The document's own Text: the numeral (cut out of RefText for seats with no strconv). -/
import Derived.Test.YtioiabfheeglgaaGreatDoorJ01Puts
import Derived.Test.YtioiabfheeglgaaGreatDoorJ06FinX
import Derived.Laws.IdiomStrings
import Derived.Lib.IndexBytes
import Derived.Lib.ItoaNum
import Derived.Test.YtioiabfheeglgaaGreatDoorJ03RegGrow
import Derived.Test.YtioiabfheeglgaaGreatDoorJ02RegFin
namespace Go.Proofs.YtioiabfheeglgaaGreatDoor
open Go.RowKit

theorem u64_eq {a b : Int} (h : a = b) : Value.int .u64 a = .int .u64 b := by rw [h]
theorem list_append (a b : ByteArray) : (a ++ b).data.toList = a.data.toList ++ b.data.toList := by
 obtain ⟨⟨x⟩⟩ := a
 obtain ⟨⟨y⟩⟩ := b
 rfl
theorem size_list (a : ByteArray) : a.size = a.data.toList.length := by
 obtain ⟨⟨x⟩⟩ := a
 rfl
theorem bytes_ext {a b : ByteArray} (h : a.data.toList = b.data.toList) : a = b := by
 obtain ⟨⟨x⟩⟩ := a
 obtain ⟨⟨y⟩⟩ := b
 simp only at h
 rw [h]
theorem digit_cut (r : Nat) (h : r < 10) : (ByteArray.mk #[48, 49, 50, 51, 52, 53, 54, 55, 56, 57]).extract r (r + 1) = ⟨#[UInt8.ofNat (48 + r)]⟩ := by
 have all : ∀ r : Fin 10, (ByteArray.mk #[48, 49, 50, 51, 52, 53, 54, 55, 56, 57]).extract r.val (r.val + 1) = ⟨#[UInt8.ofNat (48 + r.val)]⟩ := by
  intro r
  rw [ByteArray.extract_mk]
  revert r
  decide
 exact all ⟨r, h⟩

section
set_option maxHeartbeats 1000000
theorem rtext_pos (U : Nat) (hU : U ≤ 9223372036854775807) (w : World) :
  Calls Tryz.prog 28 #[.int .i64 U] w fun e w' => ∃ t : ByteArray, e = .returned (.string t) ∧ t.data.toList = Lib.decDigits U ∧ w' = w := by
 have hlen : (Lib.decDigits U).length ≤ 20 := by rw [Lib.decDigits_length]; exact nDigits_le 19 _ (by omega)
 have HL : Hid ((Lib.decDigits U).length ≤ 20) := hlen
 clear hlen
 go_enter Tryz.func28, Tryz.ntmps28
 go_wp2
 go_loop [3, 5] (fun u s => ∃ (q : Nat) (t : ByteArray), q ≤ 10000000000000000000 ∧ u = .int .u64 q ∧ s = .string t ∧ Lib.decDigits U = Lib.decDigits q ++ t.data.toList) (fun u _ => (intOf u).toNat)
 case atStart => exact ⟨U, ⟨#[]⟩, by omega, rfl, rfl, by simp⟩
 case round =>
  obtain ⟨q, t, hq, rfl, rfl, hdig⟩ := hrel
  have ht : t.size ≤ 20 := by
   have := HL.out
   rw [hdig, List.length_append, ← size_list] at this
   omega
  have HD : Hid (Lib.decDigits U = Lib.decDigits q ++ t.data.toList) := hdig
  clear hdig
  by_cases h9 : 9 < q
  ·
   have hx := digit_cut (q % 10) (by omega)
   obtain ⟨c, hc⟩ : ∃ c : ByteArray, c = ⟨#[UInt8.ofNat (48 + q % 10)]⟩ := ⟨_, rfl⟩
   have hcs : c.size = 1 := by rw [hc]; rfl
   have HC : Hid (c.data.toList = [UInt8.ofNat (48 + q % 10)]) := by rw [hc]; rfl
   rw [← hc] at hx
   clear hc
   go_wp2
   go_round
   case rel =>
    refine ⟨q / 10, c ++ t, by omega, u64_eq (by omega), rfl, ?_⟩
    rw [HD.out, list_append, HC.out, Lib.decDigits, dif_neg (by omega), List.append_assoc]
   case measure => simp [intOf]; omega
  ·
   have hx := digit_cut q (by omega)
   obtain ⟨c, hc⟩ : ∃ c : ByteArray, c = ⟨#[UInt8.ofNat (48 + q)]⟩ := ⟨_, rfl⟩
   have hcs : c.size = 1 := by rw [hc]; rfl
   have HC : Hid (c.data.toList = [UInt8.ofNat (48 + q)]) := by rw [hc]; rfl
   rw [← hc] at hx
   clear hc
   go_wp2
   go_ret
   refine ⟨_, rfl, ?_, rfl⟩
   rw [HD.out, list_append, list_append, HC.out, Lib.decDigits_one (by omega)]
   rfl
theorem rtext_neg (n : Int) (U : Nat) (hU : U ≤ 10000000000000000000) (hn : n < 0) (hu : IntKind.u64.wrap (-IntKind.u64.wrap n) = (U : Int)) (w : World) :
  Calls Tryz.prog 28 #[.int .i64 n] w fun e w' => ∃ t : ByteArray, e = .returned (.string t) ∧ t.data.toList = 45 :: Lib.decDigits U ∧ w' = w := by
 have hlen : (Lib.decDigits U).length ≤ 20 := by rw [Lib.decDigits_length]; exact nDigits_le 19 _ (by omega)
 have HL : Hid ((Lib.decDigits U).length ≤ 20) := hlen
 clear hlen
 go_enter Tryz.func28, Tryz.ntmps28
 go_wp2
 go_loop [3, 5] (fun u s => ∃ (q : Nat) (t : ByteArray), q ≤ 10000000000000000000 ∧ u = .int .u64 q ∧ s = .string t ∧ Lib.decDigits U = Lib.decDigits q ++ t.data.toList) (fun u _ => (intOf u).toNat)
 case atStart => exact ⟨U, ⟨#[]⟩, by omega, rfl, rfl, by simp⟩
 case round =>
  obtain ⟨q, t, hq, rfl, rfl, hdig⟩ := hrel
  have ht : t.size ≤ 20 := by
   have := HL.out
   rw [hdig, List.length_append, ← size_list] at this
   omega
  have HD : Hid (Lib.decDigits U = Lib.decDigits q ++ t.data.toList) := hdig
  clear hdig
  by_cases h9 : 9 < q
  ·
   have hx := digit_cut (q % 10) (by omega)
   obtain ⟨c, hc⟩ : ∃ c : ByteArray, c = ⟨#[UInt8.ofNat (48 + q % 10)]⟩ := ⟨_, rfl⟩
   have hcs : c.size = 1 := by rw [hc]; rfl
   have HC : Hid (c.data.toList = [UInt8.ofNat (48 + q % 10)]) := by rw [hc]; rfl
   rw [← hc] at hx
   clear hc
   go_wp2
   go_round
   case rel =>
    refine ⟨q / 10, c ++ t, by omega, u64_eq (by omega), rfl, ?_⟩
    rw [HD.out, list_append, HC.out, Lib.decDigits, dif_neg (by omega), List.append_assoc]
   case measure => simp [intOf]; omega
  ·
   have hx := digit_cut q (by omega)
   obtain ⟨c, hc⟩ : ∃ c : ByteArray, c = ⟨#[UInt8.ofNat (48 + q)]⟩ := ⟨_, rfl⟩
   have hcs : c.size = 1 := by rw [hc]; rfl
   have HC : Hid (c.data.toList = [UInt8.ofNat (48 + q)]) := by rw [hc]; rfl
   rw [← hc] at hx
   clear hc
   go_wp2
   go_ret
   refine ⟨_, rfl, ?_, rfl⟩
   rw [HD.out, list_append, list_append, HC.out, Lib.decDigits_one (by omega)]
   rfl
end

/-- TEXT, as the document says it, is the numeral. -/
theorem rtext_is (n : Int) (h0 : -9223372036854775808 ≤ n) (h1 : n ≤ 9223372036854775807) (w : World) :
  Calls Tryz.prog 28 #[.int .i64 n] w fun e w' => e = .returned (.string ⟨(Lib.itoa n).toArray⟩) ∧ w' = w := by
 by_cases hn : n < 0
 ·
  refine (rtext_neg n n.natAbs (by omega) hn (by rw [IntKind.wrap_u64, IntKind.wrap_u64]; omega) w).mono ?_
  rintro e w' ⟨t, rfl, ht, rfl⟩
  refine ⟨?_, rfl⟩
  rw [bytes_ext (a := t) (b := ⟨(Lib.itoa n).toArray⟩) (by rw [ht]; unfold Lib.itoa; rw [if_pos hn])]
 ·
  obtain ⟨U, rfl⟩ : ∃ U : Nat, n = U := ⟨n.toNat, by omega⟩
  refine (rtext_pos U (by omega) w).mono ?_
  rintro e w' ⟨t, rfl, ht, rfl⟩
  refine ⟨?_, rfl⟩
  rw [bytes_ext (a := t) (b := ⟨(Lib.itoa U).toArray⟩) (by rw [ht]; unfold Lib.itoa; rw [if_neg (by omega)]; simp)]

end Go.Proofs.YtioiabfheeglgaaGreatDoor

namespace Go.Proofs.YtioiabfheeglgaaGreatDoor
open Go.RowKit

/-- Two texts, one behind the other, by one operation. -/
def Cat (p q r : ByteArray) : Prop := p ++ q = r ∧ r.size ≤ 100000
theorem exec_cat {a : Act} {o : Oper} {x y : Operand} {u : TypeId} (ho : o.op = .binOp .add 9 x y u) {p q r : ByteArray} (hx : a.eval x = .string p) (hy : a.eval y = .string q) (h : Cat p q r) (W : World) : (execOp a.eval o).run Tryz.prog W = .ok (.value (.string r)) W := by
 obtain ⟨h1, h2⟩ := h
 have h3 : p.size + q.size ≤ 100000 := by rw [← ByteArray.size_append, h1]; exact h2
 unfold execOp
 simp [ho, hx, hy, binOp, Op.stringOp, eqGuard, h1]
 omega
theorem cat_list (p q : List UInt8) (h : p.length + q.length ≤ 100000) : Cat ⟨p.toArray⟩ ⟨q.toArray⟩ ⟨(p ++ q).toArray⟩ := by
 refine ⟨?_, by simp [ByteArray.size]; exact h⟩
 apply ByteArray.ext
 simp [ByteArray.data_append]
theorem no_bytes : (⟨#[]⟩ : ByteArray).toList = [] := by rw [ByteArray.toList_eq]
theorem pad_len {s s' : List UInt8} (h : s' = if s.length = 0 then s else s ++ [32]) : s'.length ≤ s.length + 1 := by
 rw [h]
 split
 ·
  omega
 ·
  rw [List.length_append]
  exact Nat.le_refl _
theorem wp_cat {o : Oper} {a : Act} {w : World} {K : Act → World → Prop} {Q : Exit → Act → World → Prop} {x y : Operand} {u : TypeId} (ho : o.op = .binOp .add 9 x y u) {p q r : ByteArray} (hx : a.eval x = .string p) (hy : a.eval y = .string q) (h : Cat p q r)
  (k : K (a.put o.dst (.string r)) w) : o.wp Tryz.prog a w K Q := by
 unfold Oper.wp
 rw [exec_cat ho hx hy h w]
 exact k
theorem wp_conv {o : Oper} {a : Act} {w : World} {K : Act → World → Prop} {Q : Exit → Act → World → Prop} {x : Operand} (ho : o.op = .convert 23 9 x) {V : Value} (hx : a.eval x = V) {r : ByteArray} (h : (convert 23 9 V).run Tryz.prog w = .ok (.string r) w)
  (k : K (a.put o.dst (.string r)) w) : o.wp Tryz.prog a w K Q := by
 unfold Oper.wp execOp
 simp only [ho, hx, Sem.run_bind, h, Result.andThen_ok]
 exact k
theorem byte_str {w : World} {N : Nat} {b : UInt8} (B : Bk w N #[.int .u8 b.toNat]) : (convert 23 9 (.slice (some ⟨N, 0, none⟩) 1 1)).run Tryz.prog w = .ok (.string ⟨[b].toArray⟩) w := by
 refine run_convert_bytes_back (P := Tryz.prog) w _ _ 5 _ 1 [b] Tryz.underlying23 Tryz.underlying5 Tryz.underlying9 (fun j hj => ?_)
 have hj0 : j = 0 := by simpa using hj
 subst hj0
 rw [Addr.add_lit]
 exact B.at rfl
theorem foldT_pos (f : FinT) (ps : List (List UInt8 × Nat)) (h : ps.length ≠ 0) : (foldT f ps).length ≠ 0 := by
 rcases List.eq_nil_or_concat ps with rfl | ⟨qs, q, rfl⟩
 ·
  exact absurd rfl h
 ·
  rw [List.concat_eq_append, foldT_snoc]
  unfold partT
  simp
set_option maxRecDepth 8000 in
set_option maxHeartbeats 8000000 in
theorem rftext_is (LO : List UInt8) (al : Option Addr) (cl : Nat) (iv : Value) (at_ : Option Addr) (nT ct : Nat) (f : FinT) (w : World) (hn0 : 0 < nT) (hn4 : nT ≤ 4) (hL : Rd byteC 1 w (.slice al LO.length cl) LO) :
  Calls Tryz.prog 10 #[.agg #[.slice al LO.length cl, iv, .slice at_ nT ct], .agg (finA f)] w fun e w' => e = .returned (.string ⟨(finTx (min nT 4) (LO.take 4) f).toArray⟩) ∧ On w w' := by
 obtain ⟨_, _, _, _, hm⟩ := hL.slice
 obtain ⟨W0, hW0⟩ : ∃ W0, W0 = (w.alloc (.cells #[.slice al LO.length cl, iv, .slice at_ nT ct] 27)).alloc (.cells (finA f) 36) := ⟨_, rfl⟩
 have HW : Hid (W0 = (w.alloc (.cells #[.slice al LO.length cl, iv, .slice at_ nT ct] 27)).alloc (.cells (finA f) 36)) := hW0
 have HB1 : Hid (Bk W0 w.heap.size #[.slice al LO.length cl, iv, .slice at_ nT ct]) := by show Bk _ _ _; rw [hW0]; exact (Bk.new w _ 27).alloc _
 have HB2 : Hid (Bk W0 (w.heap.size + 1) (finA f)) := by
  have := Bk.new (w.alloc (.cells #[.slice al LO.length cl, iv, .slice at_ nT ct] 27)) (finA f) 36
  rw [World.size_alloc] at this
  show Bk _ _ _
  rw [hW0]
  exact this
 have HO : Hid (On w W0) := by show On _ _; rw [hW0]; exact ((On.refl w).alloc _).alloc _
 have HL : Hid (Rd byteC 1 W0 (.slice al LO.length cl) LO) := hL.on HO.out
 obtain ⟨T, hT⟩ : ∃ T, T = min nT 4 := ⟨_, rfl⟩
 obtain ⟨M, hM⟩ : ∃ M, M = min LO.length 4 := ⟨_, rfl⟩
 have hT4 : T ≤ 4 := by omega
 have hM4 : M ≤ 4 := by omega
 have HTT : Hid (T = min nT 4) := hT
 have HT0 : Hid (0 < T) := by show 0 < T; omega
 have HTN : Hid (T = nT) := by show T = nT; omega
 have HMM : Hid (M = min LO.length 4) := hM
 have HML : Hid (M = (LO.take 4).length) := by show _ = _; rw [List.length_take, hM]; omega
 rw [← hT]
 have HBD : Hid (∀ k, (foldT f ((partsT T (LO.take 4)).take k)).length ≤ 1000) := fun k => by
  have := foldT_bound f (T := T) (L := LO.take 4) hT4 (by rw [List.length_take]; omega) k
  omega
 have FC2 : Hid (∀ W, On W0 W → W.cell? ⟨w.heap.size, 2, none⟩ = some (.slice at_ nT ct)) := fun W k => (HB1.out.on k).at rfl
 have FC0 : Hid (∀ W, On W0 W → W.cell? ⟨w.heap.size, 0, none⟩ = some (.slice al LO.length cl)) := fun W k => (HB1.out.on k).at rfl
 clear hL hT hM hW0 hn0 hn4
 go_enter Tryz.func10, Tryz.ntmps10
 go_wp2
 rw [← HW.out]
 go_loopg [5, 6] T (fun gg s5 s6 wq => ∃ n : Nat, n ≤ T ∧ gg = T - n ∧ s6 = .int .i64 n ∧ s5 = .string ⟨(foldT f ((partsT T (LO.take 4)).take (n * 4))).toArray⟩ ∧ Hid (On W0 wq))
 case atStart => exact ⟨0, Nat.zero_le _, rfl, rfl, rfl, On.refl _⟩
 case round =>
  obtain ⟨n, hn, hk, rfl, rfl, HK⟩ := hrel
  have c2 := FC2.out _ HK.out
  rcases Nat.lt_or_ge n T with hlt | hge
  ·
   have bn0 : (0 : Int) ≤ (n : Int) := by omega
   have bn1 : (n : Int) < 4 := by omega
   have hn4 : n < 4 := by omega
   have dn1 : decide (n < nT) = true := decide_eq_true (by have := HTT.out; omega)
   have dn2 : decide (n < 4) = true := decide_eq_true hn4
   have HS0 : Hid (foldT f ((partsT T (LO.take 4)).take (n * 4)) = foldT f ((partsT T (LO.take 4)).take (n * 4 + 0))) := rfl
   rw [HS0.out]
   go_wp2
   obtain ⟨wo, hwo⟩ : ∃ wo, wo = wr := ⟨_, rfl⟩
   subst hwo
   clear c2
   go_loopg [5, 7] 4 (fun gg s5 s7 wq => ∃ m : Nat, m ≤ 4 ∧ gg = 4 - m ∧ s7 = .int .i64 m ∧ s5 = .string ⟨(foldT f ((partsT T (LO.take 4)).take (n * 4 + m))).toArray⟩ ∧ Hid (On W0 wq))
   case atStart => exact ⟨0, Nat.zero_le _, rfl, rfl, rfl, HK⟩
   case round =>
    clear HK
    obtain ⟨m, hm, hk2, rfl, rfl, HK⟩ := hrel
    rcases Nat.lt_or_ge m 4 with hltm | hgem
    ·
     have bm0 : (0 : Int) ≤ (m : Int) := by omega
     have bm1 : (m : Int) < 4 := by omega
     obtain ⟨x, hx⟩ := f.at (k := n * 4 + m) (by omega)
     have hxd : f.l.getD (n * 4 + m) 0 = x := by rw [List.getD_eq_getElem?_getD, hx]; rfl
     have hxb := getD_in f (n * 4 + m)
     rw [hxd] at hxb
     have hil := itoa_len f (n * 4 + m)
     rw [hxd] at hil
     have FCX : Hid (∀ W, On W0 W → W.cell? ⟨w.heap.size + 1, n * 4 + m, none⟩ = some (.int .i64 x)) := fun W k => (HB2.out.on k).at (finA_at f hx)
     have HS : foldT f ((partsT T (LO.take 4)).take (n * 4 + (m + 1))) = partT (foldT f ((partsT T (LO.take 4)).take (n * 4 + m))) (nameT n m) x := by
      have := foldT_take f (partsT T (LO.take 4)) (partsT_reg T (LO.take 4) hlt hltm)
      rw [hxd] at this
      exact this
     have hbd := HBD.out (n * 4 + m)
     obtain ⟨s, hs⟩ : ∃ s, s = foldT f ((partsT T (LO.take 4)).take (n * 4 + m)) := ⟨_, rfl⟩
     rw [← hs] at HS hbd ⊢
     obtain ⟨t1, ht1⟩ : ∃ t1 : ByteArray, t1 = ⟨(Lib.itoa (n : Int)).toArray⟩ := ⟨_, rfl⟩
     obtain ⟨t2, ht2⟩ : ∃ t2 : ByteArray, t2 = ⟨(Lib.itoa (m : Int)).toArray⟩ := ⟨_, rfl⟩
     obtain ⟨t3, ht3⟩ : ∃ t3 : ByteArray, t3 = ⟨(Lib.itoa x).toArray⟩ := ⟨_, rfl⟩
     have T1 := fun W => rtext_is (n : Int) (by omega) (by omega) W
     have T2 := fun W => rtext_is (m : Int) (by omega) (by omega) W
     have T3 := fun W => rtext_is x hxb.1 hxb.2 W
     rw [← ht1] at T1
     rw [← ht2] at T2
     rw [← ht3] at T3
     have l1 := digit_len hn4
     have l2 := digit_len hltm
     have S0 : On W0 wr.drew := HK.out.drew
     obtain ⟨s', hs'⟩ : ∃ s' : List UInt8, s' = if s.length = 0 then s else s ++ [32] := ⟨_, rfl⟩
     have hl0 : s'.length ≤ s.length + 1 := pad_len hs'
     have hl' : s'.length ≤ 1001 := by omega
     obtain ⟨sb, hsb⟩ : ∃ sb : ByteArray, sb = ⟨s'.toArray⟩ := ⟨_, rfl⟩
     obtain ⟨q1, hq1⟩ : ∃ q1 : ByteArray, q1 = ⟨(s' ++ Lib.itoa (n : Int)).toArray⟩ := ⟨_, rfl⟩
     obtain ⟨q2, hq2⟩ : ∃ q2 : ByteArray, q2 = ⟨(s' ++ Lib.itoa (n : Int) ++ [58, 114]).toArray⟩ := ⟨_, rfl⟩
     obtain ⟨q3, hq3⟩ : ∃ q3 : ByteArray, q3 = ⟨(s' ++ Lib.itoa (n : Int) ++ [58, 114] ++ Lib.itoa (m : Int)).toArray⟩ := ⟨_, rfl⟩
     obtain ⟨q4, hq4⟩ : ∃ q4 : ByteArray, q4 = ⟨(s' ++ Lib.itoa (n : Int) ++ [58, 114] ++ Lib.itoa (m : Int) ++ [61]).toArray⟩ := ⟨_, rfl⟩
     obtain ⟨q5, hq5⟩ : ∃ q5 : ByteArray, q5 = ⟨(s' ++ Lib.itoa (n : Int) ++ [58, 114] ++ Lib.itoa (m : Int) ++ [61] ++ Lib.itoa x).toArray⟩ := ⟨_, rfl⟩
     have C1 : Hid (Cat sb t1 q1) := by show Cat _ _ _; rw [hsb, ht1, hq1]; exact cat_list _ _ (by omega)
     have C2 : Hid (Cat q1 ⟨#[58, 114]⟩ q2) := by show Cat _ _ _; rw [hq1, hq2]; exact cat_list _ [58, 114] (by simp; omega)
     have C3 : Hid (Cat q2 t2 q3) := by show Cat _ _ _; rw [hq2, ht2, hq3]; exact cat_list _ _ (by simp; omega)
     have C4 : Hid (Cat q3 ⟨#[61]⟩ q4) := by show Cat _ _ _; rw [hq3, hq4]; exact cat_list _ [61] (by simp; omega)
     have C5 : Hid (Cat q4 t3 q5) := by show Cat _ _ _; rw [hq4, ht3, hq5]; exact cat_list _ _ (by simp; omega)
     have HQ5 : Hid (q5 = ⟨(foldT f ((partsT T (LO.take 4)).take (n * 4 + (m + 1)))).toArray⟩) := by
      show _ = _
      rw [hq5, HS]
      unfold partT nameT
      rw [← hs']
      simp only [List.append_assoc]
     obtain ⟨sa, hsa⟩ : ∃ sa : ByteArray, sa = ⟨s.toArray⟩ := ⟨_, rfl⟩
     rw [← hsa]
     by_cases e0 : s.length = 0
     ·
      have esb : sb = sa := by rw [hsb, hs', if_pos e0, hsa]
      have hne : (sa.toList == ([] : List UInt8)) = true := by rw [hsa, List.eq_nil_of_length_eq_zero e0, ByteArray.toList_eq]; rfl
      have hne2 : (sa.toList == (⟨#[]⟩ : ByteArray).toList) = true := by rw [no_bytes]; exact hne
      subst esb
      clear HS hbd hs hs' hl' hl0 hsb hsa hq1 hq2 hq3 hq4 hq5 ht1 ht2 ht3 l1 l2 hil hxb hx hxd e0
      go_wp2
      refine region_fin (fun W => On W0 W) 99 18 (by kernel_rfl) rfl ?_
      refine fin_take 0 (v := ?_) rfl (by kernel_rfl) (by kernel_rfl) (by kernel_rfl) (by kernel_rfl) (fun _ _ _ h => h) rfl ?_ S0 ?_
      rotate_left
      ·
       intro W hW
       go_simp
       (try with_reducible rfl)
      simp only [zpu, zsa, zsz, zss]
      refine fin_take 1 (v := ?_) rfl (by kernel_rfl) (by kernel_rfl) (by kernel_rfl) (by kernel_rfl) (fun _ _ _ h => h) rfl ?_ S0 ?_
      rotate_left
      ·
       intro W hW
       go_simp
       (try with_reducible rfl)
      simp only [zpu, zsa, zsz, zss]
      refine fin_take 5 (v := ?_) rfl (by kernel_rfl) (by kernel_rfl) (by kernel_rfl) (by kernel_rfl) (fun _ _ _ h => h) rfl ?_ S0 ?_
      rotate_left
      ·
       intro W hW
       go_simp
       (try with_reducible rfl)
      simp only [zpu, zsa, zsz, zss]
      refine fin_take 9 (v := ?_) rfl (by kernel_rfl) (by kernel_rfl) (by kernel_rfl) (by kernel_rfl) (fun _ _ _ h => h) rfl ?_ S0 ?_
      rotate_left
      ·
       intro W hW
       go_simp
       (try with_reducible rfl)
      simp only [zpu, zsa, zsz, zss]
      refine fin_take 10 (v := ?_) rfl (by kernel_rfl) (by kernel_rfl) (by kernel_rfl) (by kernel_rfl) (fun _ _ _ h => h) rfl ?_ S0 ?_
      rotate_left
      ·
       intro W hW
       go_simp
       (try with_reducible rfl)
      simp only [zpu, zsa, zsz, zss]
      refine fin_take 11 (v := ?_) rfl (by kernel_rfl) (by kernel_rfl) (by kernel_rfl) (by kernel_rfl) (fun _ _ _ h => h) rfl ?_ S0 ?_
      rotate_left
      ·
       intro W hW
       go_simp
       (try with_reducible rfl)
      simp only [zpu, zsa, zsz, zss]
      refine fin_take 12 (v := ?_) rfl (by kernel_rfl) (by kernel_rfl) (by kernel_rfl) (by kernel_rfl) (fun _ _ _ h => h) rfl ?_ S0 ?_
      rotate_left
      ·
       intro W hW
       go_simp
       (try with_reducible rfl)
      simp only [zpu, zsa, zsz, zss]
      refine fin_take 13 (v := ?_) rfl (by kernel_rfl) (by kernel_rfl) (by kernel_rfl) (by kernel_rfl) (fun _ _ _ h => h) rfl ?_ S0 ?_
      rotate_left
      ·
       intro W hW
       go_simp
       (try with_reducible rfl)
      simp only [zpu, zsa, zsz, zss]
      refine fin_take 14 (v := ?_) rfl (by kernel_rfl) (by kernel_rfl) (by kernel_rfl) (by kernel_rfl) (fun _ _ _ h => h) rfl ?_ S0 ?_
      rotate_left
      ·
       intro W hW
       have cx := FCX.out W hW
       go_simp
       (try with_reducible rfl)
      simp only [zpu, zsa, zsz, zss]
      refine fin_one 2 rfl rfl (by kernel_rfl) (fun K hK => ?_)
      go_simp
      refine (T1 _).mono ?_
      rintro _ _ ⟨rfl, rfl⟩
      refine hK.out _ _ (fun _ => S0) ?_
      clear hK
      refine fin_take 3 (v := .string q1) rfl (by kernel_rfl) (by kernel_rfl) (by kernel_rfl) (by kernel_rfl) (fun _ _ _ h => h) rfl (fun W _ => exec_cat rfl rfl rfl C1.out W) S0 ?_
      simp only [zpu, zsa, zsz, zss]
      refine fin_take 4 (v := .string q2) rfl (by kernel_rfl) (by kernel_rfl) (by kernel_rfl) (by kernel_rfl) (fun _ _ _ h => h) rfl (fun W _ => exec_cat rfl rfl rfl C2.out W) S0 ?_
      simp only [zpu, zsa, zsz, zss]
      refine fin_one 6 rfl rfl (by kernel_rfl) (fun K hK => ?_)
      go_simp
      refine (T2 _).mono ?_
      rintro _ _ ⟨rfl, rfl⟩
      refine hK.out _ _ (fun _ => S0) ?_
      clear hK
      refine fin_take 7 (v := .string q3) rfl (by kernel_rfl) (by kernel_rfl) (by kernel_rfl) (by kernel_rfl) (fun _ _ _ h => h) rfl (fun W _ => exec_cat rfl rfl rfl C3.out W) S0 ?_
      simp only [zpu, zsa, zsz, zss]
      refine fin_take 8 (v := .string q4) rfl (by kernel_rfl) (by kernel_rfl) (by kernel_rfl) (by kernel_rfl) (fun _ _ _ h => h) rfl (fun W _ => exec_cat rfl rfl rfl C4.out W) S0 ?_
      simp only [zpu, zsa, zsz, zss]
      refine fin_one 15 rfl rfl (by kernel_rfl) (fun K hK => ?_)
      go_simp
      refine (T3 _).mono ?_
      rintro _ _ ⟨rfl, rfl⟩
      refine hK.out _ _ (fun _ => S0) ?_
      clear hK
      refine fin_take 16 (v := .string q5) rfl (by kernel_rfl) (by kernel_rfl) (by kernel_rfl) (by kernel_rfl) (fun _ _ _ h => h) rfl (fun W _ => exec_cat rfl rfl rfl C5.out W) S0 ?_
      simp only [zpu, zsa, zsz, zss]
      refine fin_take 17 (v := ?_) rfl (by kernel_rfl) (by kernel_rfl) (by kernel_rfl) (by kernel_rfl) (fun _ _ _ h => h) rfl ?_ S0 ?_
      rotate_left
      ·
       intro W hW
       go_simp
       (try with_reducible rfl)
      simp only [zpu, zsa, zsz, zss]
      refine fin_done (by kernel_rfl) (NoPanic.normal ?_)
      go_wp2
      go_roundg (4 - (m + 1))
      case measure => omega
      case rel => exact ⟨m + 1, by omega, rfl, by go_num, by rw [HQ5.out], S0⟩
     ·
      have hne : (sa.toList == ([] : List UInt8)) = false := by
       rw [hsa, ByteArray.toList_eq]
       cases s with
       | nil => exact absurd rfl e0
       | cons a b => rfl
      have hne2 : (sa.toList == (⟨#[]⟩ : ByteArray).toList) = false := by rw [no_bytes]; exact hne
      have esb : sa ++ ⟨#[32]⟩ = sb := by
       rw [hsb, hs', if_neg e0, hsa]
       exact (cat_list s [32] (by simp; omega)).1
      have hsz : ¬ 9223372036854775807 < sa.size + (⟨#[32]⟩ : ByteArray).size := by
       rw [hsa]
       show ¬ _ < s.toArray.size + 1
       simp
       omega
      clear HS hbd hs hs' hl' hl0 hsb hsa hq1 hq2 hq3 hq4 hq5 ht1 ht2 ht3 l1 l2 hil hxb hx hxd e0
      go_wp2
      refine region_fin (fun W => On W0 W) 99 18 (by kernel_rfl) rfl ?_
      refine fin_take 0 (v := ?_) rfl (by kernel_rfl) (by kernel_rfl) (by kernel_rfl) (by kernel_rfl) (fun _ _ _ h => h) rfl ?_ S0 ?_
      rotate_left
      ·
       intro W hW
       go_simp
       (try with_reducible rfl)
      simp only [zpu, zsa, zsz, zss]
      refine fin_take 1 (v := ?_) rfl (by kernel_rfl) (by kernel_rfl) (by kernel_rfl) (by kernel_rfl) (fun _ _ _ h => h) rfl ?_ S0 ?_
      rotate_left
      ·
       intro W hW
       go_simp
       (try with_reducible rfl)
      simp only [zpu, zsa, zsz, zss]
      refine fin_take 5 (v := ?_) rfl (by kernel_rfl) (by kernel_rfl) (by kernel_rfl) (by kernel_rfl) (fun _ _ _ h => h) rfl ?_ S0 ?_
      rotate_left
      ·
       intro W hW
       go_simp
       (try with_reducible rfl)
      simp only [zpu, zsa, zsz, zss]
      refine fin_take 9 (v := ?_) rfl (by kernel_rfl) (by kernel_rfl) (by kernel_rfl) (by kernel_rfl) (fun _ _ _ h => h) rfl ?_ S0 ?_
      rotate_left
      ·
       intro W hW
       go_simp
       (try with_reducible rfl)
      simp only [zpu, zsa, zsz, zss]
      refine fin_take 10 (v := ?_) rfl (by kernel_rfl) (by kernel_rfl) (by kernel_rfl) (by kernel_rfl) (fun _ _ _ h => h) rfl ?_ S0 ?_
      rotate_left
      ·
       intro W hW
       go_simp
       (try with_reducible rfl)
      simp only [zpu, zsa, zsz, zss]
      refine fin_take 11 (v := ?_) rfl (by kernel_rfl) (by kernel_rfl) (by kernel_rfl) (by kernel_rfl) (fun _ _ _ h => h) rfl ?_ S0 ?_
      rotate_left
      ·
       intro W hW
       go_simp
       (try with_reducible rfl)
      simp only [zpu, zsa, zsz, zss]
      refine fin_take 12 (v := ?_) rfl (by kernel_rfl) (by kernel_rfl) (by kernel_rfl) (by kernel_rfl) (fun _ _ _ h => h) rfl ?_ S0 ?_
      rotate_left
      ·
       intro W hW
       go_simp
       (try with_reducible rfl)
      simp only [zpu, zsa, zsz, zss]
      refine fin_take 13 (v := ?_) rfl (by kernel_rfl) (by kernel_rfl) (by kernel_rfl) (by kernel_rfl) (fun _ _ _ h => h) rfl ?_ S0 ?_
      rotate_left
      ·
       intro W hW
       go_simp
       (try with_reducible rfl)
      simp only [zpu, zsa, zsz, zss]
      refine fin_take 14 (v := ?_) rfl (by kernel_rfl) (by kernel_rfl) (by kernel_rfl) (by kernel_rfl) (fun _ _ _ h => h) rfl ?_ S0 ?_
      rotate_left
      ·
       intro W hW
       have cx := FCX.out W hW
       go_simp
       (try with_reducible rfl)
      simp only [zpu, zsa, zsz, zss]
      refine fin_one 2 rfl rfl (by kernel_rfl) (fun K hK => ?_)
      go_simp
      refine (T1 _).mono ?_
      rintro _ _ ⟨rfl, rfl⟩
      refine hK.out _ _ (fun _ => S0) ?_
      clear hK
      refine fin_take 3 (v := .string q1) rfl (by kernel_rfl) (by kernel_rfl) (by kernel_rfl) (by kernel_rfl) (fun _ _ _ h => h) rfl (fun W _ => exec_cat rfl rfl rfl C1.out W) S0 ?_
      simp only [zpu, zsa, zsz, zss]
      refine fin_take 4 (v := .string q2) rfl (by kernel_rfl) (by kernel_rfl) (by kernel_rfl) (by kernel_rfl) (fun _ _ _ h => h) rfl (fun W _ => exec_cat rfl rfl rfl C2.out W) S0 ?_
      simp only [zpu, zsa, zsz, zss]
      refine fin_one 6 rfl rfl (by kernel_rfl) (fun K hK => ?_)
      go_simp
      refine (T2 _).mono ?_
      rintro _ _ ⟨rfl, rfl⟩
      refine hK.out _ _ (fun _ => S0) ?_
      clear hK
      refine fin_take 7 (v := .string q3) rfl (by kernel_rfl) (by kernel_rfl) (by kernel_rfl) (by kernel_rfl) (fun _ _ _ h => h) rfl (fun W _ => exec_cat rfl rfl rfl C3.out W) S0 ?_
      simp only [zpu, zsa, zsz, zss]
      refine fin_take 8 (v := .string q4) rfl (by kernel_rfl) (by kernel_rfl) (by kernel_rfl) (by kernel_rfl) (fun _ _ _ h => h) rfl (fun W _ => exec_cat rfl rfl rfl C4.out W) S0 ?_
      simp only [zpu, zsa, zsz, zss]
      refine fin_one 15 rfl rfl (by kernel_rfl) (fun K hK => ?_)
      go_simp
      refine (T3 _).mono ?_
      rintro _ _ ⟨rfl, rfl⟩
      refine hK.out _ _ (fun _ => S0) ?_
      clear hK
      refine fin_take 16 (v := .string q5) rfl (by kernel_rfl) (by kernel_rfl) (by kernel_rfl) (by kernel_rfl) (fun _ _ _ h => h) rfl (fun W _ => exec_cat rfl rfl rfl C5.out W) S0 ?_
      simp only [zpu, zsa, zsz, zss]
      refine fin_take 17 (v := ?_) rfl (by kernel_rfl) (by kernel_rfl) (by kernel_rfl) (by kernel_rfl) (fun _ _ _ h => h) rfl ?_ S0 ?_
      rotate_left
      ·
       intro W hW
       go_simp
       (try with_reducible rfl)
      simp only [zpu, zsa, zsz, zss]
      refine fin_done (by kernel_rfl) (NoPanic.normal ?_)
      go_wp2
      go_roundg (4 - (m + 1))
      case measure => omega
      case rel => exact ⟨m + 1, by omega, rfl, by go_num, by rw [HQ5.out], S0⟩
    ·
     obtain rfl : m = 4 := by omega
     have HQ : Hid ((foldT f ((partsT T (LO.take 4)).take (n * 4 + 4))) = foldT f ((partsT T (LO.take 4)).take ((n + 1) * 4))) := by show _ = _; rw [show n * 4 + 4 = (n + 1) * 4 by omega]
     rw [HQ.out]
     go_wp2
     go_roundg (T - (n + 1))
     case measure => omega
     case rel => exact ⟨n + 1, by omega, rfl, by go_num, rfl, HK⟩
  ·
   obtain rfl : T = n := by omega
   have dn : (decide (T < nT) && decide (T < 4)) = false := by
    have := HTT.out
    by_cases h : T < 4
    ·
     rw [decide_eq_false (show ¬ T < nT by omega)]; rfl
    ·
     rw [decide_eq_false h]; simp
   have HQ0 : Hid (foldT f ((partsT T (LO.take 4)).take (T * 4)) = foldT f ((partsT T (LO.take 4)).take (T * 4 + 0))) := rfl
   rw [HQ0.out]
   have HDN : Hid ((decide (T < nT) && decide (T < 4)) = false) := dn
   have d1 : decide (T < nT) = false := decide_eq_false (by have := HTN.out; omega)
   clear dn
   go_wp2
   obtain ⟨wo, hwo⟩ : ∃ wo, wo = wr := ⟨_, rfl⟩
   subst hwo
   clear c2
   go_loopg [5, 8] M (fun gg s5 s8 wq => ∃ m : Nat, m ≤ M ∧ gg = M - m ∧ s8 = .int .i64 m ∧ s5 = .string ⟨(foldT f ((partsT T (LO.take 4)).take (T * 4 + m))).toArray⟩ ∧ Hid (On W0 wq))
   case atStart => exact ⟨0, Nat.zero_le _, rfl, rfl, rfl, HK⟩
   case round =>
    clear HK
    obtain ⟨m, hm, hk2, rfl, rfl, HK⟩ := hrel
    have c0 := FC0.out _ HK.out
    rcases Nat.lt_or_ge m M with hltm | hgem
    ·
     have bm0 : (0 : Int) ≤ (m : Int) := by omega
     have bm1 : (m : Int) < 4 := by omega
     have hml : m < LO.length := by have := HMM.out; omega
     have bm2 : (m : Int) < (LO.length : Int) := by omega
     have dm1 : decide (m < LO.length) = true := decide_eq_true hml
     obtain ⟨b, hb⟩ : ∃ b, LO[m]? = some b := ⟨_, List.getElem?_eq_getElem hml⟩
     obtain ⟨gl, ol, rfl, _, _⟩ := HL.out.at hb
     have FCB : Hid (∀ W, On W0 W → W.cell? ⟨gl, ol + m, none⟩ = some (.int .u8 b.toNat)) := fun W k => by
      obtain ⟨g', o', e, _, hc⟩ := (HL.out.on k).at hb
      simp only [Option.some.injEq, Addr.mk.injEq] at e
      obtain ⟨rfl, rfl, _⟩ := e
      have := hc 0 _ rfl
      rw [Nat.mul_one, Nat.add_zero] at this
      exact this
     obtain ⟨x, hx⟩ := f.at (k := 16 + m) (by omega)
     have hxd : f.l.getD (16 + m) 0 = x := by rw [List.getD_eq_getElem?_getD, hx]; rfl
     have hxb := getD_in f (16 + m)
     rw [hxd] at hxb
     have hil := itoa_len f (16 + m)
     rw [hxd] at hil
     have FCX : Hid (∀ W, On W0 W → W.cell? ⟨w.heap.size + 1, 16 + m, none⟩ = some (.int .i64 x)) := fun W k => (HB2.out.on k).at (finA_at f hx)
     have HS : foldT f ((partsT T (LO.take 4)).take (T * 4 + (m + 1))) = partT (foldT f ((partsT T (LO.take 4)).take (T * 4 + m))) [b] x := by
      have := foldT_take f (partsT T (LO.take 4)) (partsT_loc T (LO.take 4) (c := m) (x := b) (by rw [List.getElem?_take, if_pos (by omega)]; exact hb))
      rw [hxd] at this
      exact this
     have hbd := HBD.out (T * 4 + m)
     obtain ⟨s, hs⟩ : ∃ s, s = foldT f ((partsT T (LO.take 4)).take (T * 4 + m)) := ⟨_, rfl⟩
     rw [← hs] at HS hbd ⊢
     obtain ⟨tb, htb⟩ : ∃ tb : ByteArray, tb = ⟨[b].toArray⟩ := ⟨_, rfl⟩
     have HTB : Hid (tb = ⟨[b].toArray⟩) := htb
     obtain ⟨t3, ht3⟩ : ∃ t3 : ByteArray, t3 = ⟨(Lib.itoa x).toArray⟩ := ⟨_, rfl⟩
     have T3 := fun W => rtext_is x hxb.1 hxb.2 W
     rw [← ht3] at T3
     have S0 : On W0 wr.drew := HK.out.drew
     obtain ⟨s', hs'⟩ : ∃ s' : List UInt8, s' = if s.length = 0 then s else s ++ [32] := ⟨_, rfl⟩
     have hl0 : s'.length ≤ s.length + 1 := pad_len hs'
     have hl' : s'.length ≤ 1001 := by omega
     obtain ⟨sb, hsb⟩ : ∃ sb : ByteArray, sb = ⟨s'.toArray⟩ := ⟨_, rfl⟩
     obtain ⟨q1, hq1⟩ : ∃ q1 : ByteArray, q1 = ⟨(s' ++ [b]).toArray⟩ := ⟨_, rfl⟩
     obtain ⟨q2, hq2⟩ : ∃ q2 : ByteArray, q2 = ⟨(s' ++ [b] ++ [61]).toArray⟩ := ⟨_, rfl⟩
     obtain ⟨q3, hq3⟩ : ∃ q3 : ByteArray, q3 = ⟨(s' ++ [b] ++ [61] ++ Lib.itoa x).toArray⟩ := ⟨_, rfl⟩
     have C1 : Hid (Cat sb tb q1) := by show Cat _ _ _; rw [hsb, htb, hq1]; exact cat_list _ _ (by simp; omega)
     have C2 : Hid (Cat q1 ⟨#[61]⟩ q2) := by show Cat _ _ _; rw [hq1, hq2]; exact cat_list _ [61] (by simp; omega)
     have C3 : Hid (Cat q2 t3 q3) := by show Cat _ _ _; rw [hq2, ht3, hq3]; exact cat_list _ _ (by simp; omega)
     have HQ5 : Hid (q3 = ⟨(foldT f ((partsT T (LO.take 4)).take (T * 4 + (m + 1)))).toArray⟩) := by
      show _ = _
      rw [hq3, HS]
      unfold partT
      rw [← hs']
     obtain ⟨sa, hsa⟩ : ∃ sa : ByteArray, sa = ⟨s.toArray⟩ := ⟨_, rfl⟩
     rw [← hsa]
     have e0 : ¬ s.length = 0 := by
      rw [hs]
      refine foldT_pos f _ ?_
      rw [List.length_take, partsT_len]
      have := HT0.out
      have := HML.out
      omega
     have hne : (sa.toList == ([] : List UInt8)) = false := by
      rw [hsa, ByteArray.toList_eq]
      cases s with
      | nil => exact absurd rfl e0
      | cons a b => rfl
     have hne2 : (sa.toList == (⟨#[]⟩ : ByteArray).toList) = false := by rw [no_bytes]; exact hne
     have esb : sa ++ ⟨#[32]⟩ = sb := by
      rw [hsb, hs', if_neg e0, hsa]
      exact (cat_list s [32] (by simp; omega)).1
     have hsz : ¬ 9223372036854775807 < sa.size + (⟨#[32]⟩ : ByteArray).size := by
      rw [hsa]
      show ¬ _ < s.toArray.size + 1
      simp
      omega
     clear HS hbd hs hs' hl' hl0 hsb hsa hq1 hq2 hq3 ht3 htb hil hxb hx hxd e0 hb
     go_wp2
     refine region_fz (fun W => On W0 W) [] 17 (by kernel_rfl) rfl ?_
     refine fz_take 0 (v := ?_) rfl (by kernel_rfl) (by kernel_rfl) (by kernel_rfl) (by kernel_rfl) (fun _ _ _ h => h) rfl ?_ S0 ?_
     rotate_left
     ·
      intro W hW
      go_simp
      (try with_reducible rfl)
     simp only [zpu, zsa, zsz, zss]
     refine fz_take 1 (v := ?_) rfl (by kernel_rfl) (by kernel_rfl) (by kernel_rfl) (by kernel_rfl) (fun _ _ _ h => h) rfl ?_ S0 ?_
     rotate_left
     ·
      intro W hW
      go_simp
      (try with_reducible rfl)
     simp only [zpu, zsa, zsz, zss]
     refine fz_take 2 (v := ?_) rfl (by kernel_rfl) (by kernel_rfl) (by kernel_rfl) (by kernel_rfl) (fun _ _ _ h => h) rfl ?_ S0 ?_
     rotate_left
     ·
      intro W hW
      have c0 := FC0.out W hW
      go_simp
      (try with_reducible rfl)
     simp only [zpu, zsa, zsz, zss]
     refine fz_take 3 (v := ?_) rfl (by kernel_rfl) (by kernel_rfl) (by kernel_rfl) (by kernel_rfl) (fun _ _ _ h => h) rfl ?_ S0 ?_
     rotate_left
     ·
      intro W hW
      go_simp
      (try with_reducible rfl)
     simp only [zpu, zsa, zsz, zss]
     refine fz_take 4 (v := ?_) rfl (by kernel_rfl) (by kernel_rfl) (by kernel_rfl) (by kernel_rfl) (fun _ _ _ h => h) rfl ?_ S0 ?_
     rotate_left
     ·
      intro W hW
      go_simp
      (try with_reducible rfl)
     simp only [zpu, zsa, zsz, zss]
     refine fz_take 5 (v := ?_) rfl (by kernel_rfl) (by kernel_rfl) (by kernel_rfl) (by kernel_rfl) (fun _ _ _ h => h) rfl ?_ S0 ?_
     rotate_left
     ·
      intro W hW
      have cb := FCB.out W hW
      go_simp
      (try with_reducible rfl)
     simp only [zpu, zsa, zsz, zss]
     refine fz_take 10 (v := ?_) rfl (by kernel_rfl) (by kernel_rfl) (by kernel_rfl) (by kernel_rfl) (fun _ _ _ h => h) rfl ?_ S0 ?_
     rotate_left
     ·
      intro W hW
      go_simp
      (try with_reducible rfl)
     simp only [zpu, zsa, zsz, zss]
     refine fz_take 11 (v := ?_) rfl (by kernel_rfl) (by kernel_rfl) (by kernel_rfl) (by kernel_rfl) (fun _ _ _ h => h) rfl ?_ S0 ?_
     rotate_left
     ·
      intro W hW
      go_simp
      (try with_reducible rfl)
     simp only [zpu, zsa, zsz, zss]
     refine fz_take 12 (v := ?_) rfl (by kernel_rfl) (by kernel_rfl) (by kernel_rfl) (by kernel_rfl) (fun _ _ _ h => h) rfl ?_ S0 ?_
     rotate_left
     ·
      intro W hW
      go_simp
      (try with_reducible rfl)
     simp only [zpu, zsa, zsz, zss]
     refine fz_take 13 (v := ?_) rfl (by kernel_rfl) (by kernel_rfl) (by kernel_rfl) (by kernel_rfl) (fun _ _ _ h => h) rfl ?_ S0 ?_
     rotate_left
     ·
      intro W hW
      have cx := FCX.out W hW
      go_simp
      (try with_reducible rfl)
     simp only [zpu, zsa, zsz, zss]
     refine fz_grow [(6, 66, none), (7, 67, none), (8, 68, none), (9, 69, none), (14, 74, none)] (fun i v W => (i = 6 → ∃ g, v = .slice (some ⟨g, 0, none⟩) 1 1 ∧ Bk W g #[.int .u8 b.toNat]) ∧ (i = 7 → v = .string tb) ∧ (i = 8 → v = .string q1) ∧ (i = 9 → v = .string q2) ∧ (i = 14 → v = .string t3)) #[true, true, true, true, true, true, true, true, true, true, true, true, true, true, true, false, false] 5 2 (by simp) (by simp) ?_ rfl (fun _ _ h k => h.trans k) S0 ?_ (by kernel_rfl) (by kernel_rfl) ?_ ?_
     ·
      intro x hx
      simp only [List.mem_cons, List.not_mem_nil, or_false] at hx
      rcases hx with rfl | rfl | rfl | rfl | rfl <;> rfl
     ·
      intro i v w w' h k
      exact ⟨fun e => (fun h => by obtain ⟨g, h1, h2⟩ := h; exact ⟨g, h1, h2.on k⟩) (h.1 e), fun e => (fun h => h) (h.2.1 e), fun e => (fun h => h) (h.2.2.1 e), fun e => (fun h => h) (h.2.2.2.1 e), fun e => (fun h => h) (h.2.2.2.2 e)⟩
     ·
      intro i d c hi
      simp only [List.mem_cons, Prod.mk.injEq, List.not_mem_nil, or_false] at hi
      rcases hi with ⟨rfl, rfl, rfl⟩ | ⟨rfl, rfl, rfl⟩ | ⟨rfl, rfl, rfl⟩ | ⟨rfl, rfl, rfl⟩ | ⟨rfl, rfl, rfl⟩
      ·
       refine ⟨_, rfl, rfl, fun p W' l' K hr hm hS hK => ?_⟩
       have kW := hm.on
       clear hm hr
       simp only [putsA, putsD, List.foldl_cons, List.foldl_nil, Act.put, List.setIfInBounds_toArray, List.set_cons_zero, List.set_cons_succ] at hK ⊢
       go_simp
       exact hK _ _ ((On.refl W').alloc _) ⟨fun _ => ⟨_, rfl, Bk.new _ _ _⟩, fun e => absurd e (by decide), fun e => absurd e (by decide), fun e => absurd e (by decide), fun e => absurd e (by decide)⟩
      ·
       refine ⟨_, rfl, rfl, fun p W' l' K hr hm hS hK => ?_⟩
       obtain ⟨u6, hu6, f6⟩ := hm.get (x := (6, 66, none)) (by simp) (ready_dep hr rfl (e := ⟨6, .data⟩) (by simp) rfl)
       have g6 := f6.1 rfl
       have kW := hm.on
       clear hm hr
       simp only [putsA, putsD, List.foldl_cons, List.foldl_nil, hu6, Option.getD_some, Act.put, List.setIfInBounds_toArray, List.set_cons_zero, List.set_cons_succ] at hK ⊢
       obtain ⟨g, rfl, hB⟩ := g6
       refine wp_conv rfl rfl (byte_str hB) ?_
       rw [← HTB.out]
       exact hK (.string tb) W' (On.refl _) ⟨fun e => absurd e (by decide), fun _ => rfl, fun e => absurd e (by decide), fun e => absurd e (by decide), fun e => absurd e (by decide)⟩
      ·
       refine ⟨_, rfl, rfl, fun p W' l' K hr hm hS hK => ?_⟩
       obtain ⟨u7, hu7, f7⟩ := hm.get (x := (7, 67, none)) (by simp) (ready_dep hr rfl (e := ⟨7, .data⟩) (by simp) rfl)
       have g7 := f7.2.1 rfl
       have kW := hm.on
       clear hm hr
       simp only [putsA, putsD, List.foldl_cons, List.foldl_nil, hu7, Option.getD_some, Act.put, List.setIfInBounds_toArray, List.set_cons_zero, List.set_cons_succ] at hK ⊢
       subst g7
       refine wp_cat rfl rfl rfl C1.out ?_
       exact hK (.string q1) W' (On.refl _) ⟨fun e => absurd e (by decide), fun e => absurd e (by decide), fun _ => rfl, fun e => absurd e (by decide), fun e => absurd e (by decide)⟩
      ·
       refine ⟨_, rfl, rfl, fun p W' l' K hr hm hS hK => ?_⟩
       obtain ⟨u8, hu8, f8⟩ := hm.get (x := (8, 68, none)) (by simp) (ready_dep hr rfl (e := ⟨8, .data⟩) (by simp) rfl)
       have g8 := f8.2.2.1 rfl
       have kW := hm.on
       clear hm hr
       simp only [putsA, putsD, List.foldl_cons, List.foldl_nil, hu8, Option.getD_some, Act.put, List.setIfInBounds_toArray, List.set_cons_zero, List.set_cons_succ] at hK ⊢
       subst g8
       refine wp_cat rfl rfl rfl C2.out ?_
       exact hK (.string q2) W' (On.refl _) ⟨fun e => absurd e (by decide), fun e => absurd e (by decide), fun e => absurd e (by decide), fun _ => rfl, fun e => absurd e (by decide)⟩
      ·
       refine ⟨_, rfl, rfl, fun p W' l' K hr hm hS hK => ?_⟩
       have kW := hm.on
       clear hm hr
       simp only [putsA, putsD, List.foldl_cons, List.foldl_nil, Act.put, List.setIfInBounds_toArray, List.set_cons_zero, List.set_cons_succ] at hK ⊢
       go_simp
       refine (T3 _).mono ?_
       rintro _ _ ⟨rfl, rfl⟩
       exact hK (.string t3) _ (On.refl _) ⟨fun e => absurd e (by decide), fun e => absurd e (by decide), fun e => absurd e (by decide), fun e => absurd e (by decide), fun _ => rfl⟩
     intro p WE hm hSE
     obtain ⟨u6, hu6, f6⟩ := hm.get (x := (6, 66, none)) (by simp) rfl
     have g6 := f6.1 rfl
     obtain ⟨u7, hu7, f7⟩ := hm.get (x := (7, 67, none)) (by simp) rfl
     have g7 := f7.2.1 rfl
     obtain ⟨u8, hu8, f8⟩ := hm.get (x := (8, 68, none)) (by simp) rfl
     have g8 := f8.2.2.1 rfl
     obtain ⟨u9, hu9, f9⟩ := hm.get (x := (9, 69, none)) (by simp) rfl
     have g9 := f9.2.2.2.1 rfl
     obtain ⟨u14, hu14, f14⟩ := hm.get (x := (14, 74, none)) (by simp) rfl
     have g14 := f14.2.2.2.2 rfl
     have kM := hm.on
     simp only [putsA, putsD, List.foldl_cons, List.foldl_nil, hu6, hu7, hu8, hu9, hu14, Option.getD_some, Act.put, List.setIfInBounds_toArray, List.set_cons_zero, List.set_cons_succ]
     clear hm hu6 f6 hu7 f7 hu8 f8 hu9 f9 hu14 f14
     subst g9
     subst g14
     refine fz_take 15 (v := .string q3) rfl (by kernel_rfl) (by kernel_rfl) (by kernel_rfl) (by kernel_rfl) (fun _ _ _ h => h) rfl (fun W _ => exec_cat rfl rfl rfl C3.out W) hSE ?_
     simp only [zpu, zsa, zsz, zss]
     refine fz_take 16 (v := ?_) rfl (by kernel_rfl) (by kernel_rfl) (by kernel_rfl) (by kernel_rfl) (fun _ _ _ h => h) rfl ?_ hSE ?_
     rotate_left
     ·
      intro W hW
      go_simp
      (try with_reducible rfl)
     simp only [zpu, zsa, zsz, zss]
     refine fz_done (by kernel_rfl) (NoPanic.normal ?_)
     go_wp2
     go_roundg (M - (m + 1))
     case measure => omega
     case rel => exact ⟨m + 1, by omega, rfl, by go_num, by rw [HQ5.out], hSE⟩
    ·
     obtain rfl : M = m := by omega
     have HF : Hid (foldT f ((partsT T (LO.take 4)).take (T * 4 + M)) = finTx T (LO.take 4) f) := by
      show _ = _
      unfold finTx
      rw [List.take_of_length_le (by rw [partsT_len, ← HML.out]; exact Nat.le_refl _)]
     rw [HF.out]
     rcases Decidable.em (M < LO.length) with hor2 | hor2
     ·
      have e1 : decide (M < LO.length) = true := decide_eq_true hor2
      have e2 : ¬ (M : Int) < 4 := by have := HMM.out; omega
      have e3 : decide (M < 4) = false := decide_eq_false (by omega)
      go_wp2
      go_ret
      exact ⟨rfl, HO.out.trans HK.out⟩
     ·
      have e1 : decide (M < LO.length) = false := decide_eq_false hor2
      go_wp2
      go_ret
      exact ⟨rfl, HO.out.trans HK.out⟩
end Go.Proofs.YtioiabfheeglgaaGreatDoor
