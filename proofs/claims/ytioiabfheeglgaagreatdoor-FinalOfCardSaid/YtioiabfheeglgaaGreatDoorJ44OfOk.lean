/- The program of a test made of numbers. -/
import Derived.Test.YtioiabfheeglgaaGreatDoorJ43SmallC
import Derived.Test.YtioiabfheeglgaaGreatDoorJ37RComp
import Derived.Test.YtioiabfheeglgaaGreatDoorJ38RaV
namespace Go.Proofs.YtioiabfheeglgaaGreatDoor
open Go.RowKit

theorem TOwn.rd {w : World} {base : Nat} {v : Value} {t : TestT} (h : TOwn w base v t) (hn : t.name.size ≤ 9223372036854775807) : TestRd w v t := by
 obtain ⟨a1, c1, a2, c2, a3, c3, e, h1, h2, h3⟩ := h
 exact ⟨a1, c1, a2, c2, a3, c3, e, hn, Rd.own (fun _ => rfl) h1, h2.rd (fun _ => rfl), h3.rd (fun _ => rfl)⟩
/-- The threads of the program of a test made of numbers. -/
def ofT (zs : List Int) (most : Nat) : List (List InsT) := (smallP zs most).thr.map (rplRow (locsR (smallP zs most)))
set_option maxHeartbeats 1000000 in
theorem of_is (zs : List Int) (a : Option Addr) (cap most : Nat) (w : World) (hz : zs.length ≤ 9223372036854775807) (hr : Rd intC 1 w (.slice a zs.length cap) zs) :
  Calls Tryz.prog 4 #[.slice a zs.length cap, .int .i64 (most : Int)] w fun e w' => ∃ pv, e = .returned pv ∧ ProgFl w' pv (locsR (smallP zs most)) (iniVals (locsR (smallP zs most)) (smallP zs most).ini) (ofT zs most) ∧ On w w' := by
 have hS := fun W (k : On w W) => small_is zs a cap most W hz (hr.on k)
 obtain ⟨h1, h2⟩ := thrOf_ok zs most
 have h24 : (smallP zs most).thr.length ≤ 1000000 ∧ ∀ L ∈ (smallP zs most).thr, L.length ≤ 1000000 := ⟨by have : (smallP zs most).thr = (thrOf zs most).1 := rfl; rw [this]; omega, fun L hL => by have := (h2 L hL).1.2.1; omega⟩
 have hC := fun v W h => rcompile_is (smallP zs most) v W h h24
 unfold ofT
 generalize (smallP zs most).thr.map (rplRow (locsR (smallP zs most))) = LL at *
 generalize iniVals (locsR (smallP zs most)) (smallP zs most).ini = IN at *
 generalize locsR (smallP zs most) = LT at *
 have hn : (smallP zs most).name.size ≤ 9223372036854775807 := by show (⟨#[116]⟩ : ByteArray).size ≤ _; decide
 generalize smallP zs most = T at *
 generalize zs.length = mm at *
 have k0 : ∀ A, On w (w.alloc A) := fun A => (On.refl w).alloc A
 have br : ∀ cs T, Bk (w.alloc (.cells cs T)) w.heap.size cs := fun cs T => Bk.new w cs T
 clear h1 h2 h24 hr hz
 go_enter Tryz.func4, Tryz.ntmps4
 go_wp2_with fail
 refine (hS _ (k0 _)).mono ?_
 rintro e w1 ⟨v, rfl, hT, k1⟩
 have Z1 := (br _ _).on k1
 have K1 : Hid (On w w1) := (k0 _).trans k1
 have hC1 := hC v w1 (hT.rd hn)
 clear hS hC k1 k0 br hT
 go_wp2_with fail
 refine hC1.mono ?_
 rintro e w2 ⟨pv, rfl, hP, k2⟩
 have Z2 := Z1.on k2
 have K2 : Hid (On w w2) := K1.out.trans k2
 obtain ⟨a1, c1, a2, c2, a3, c3, rfl, r1, r2, r3⟩ := (hP 0 [] 0 (Or.inr rfl)).ex
 have HP : Hid _ := hP
 have zl := Z1.lt
 clear r1 r2 r3 hP
 have z0 := Z2.at (i := 0) rfl
 have z1 := Z2.at (i := 1) rfl
 have z2 := Z2.at (i := 2) rfl
 have zf := fun i => Z2.fr i
 clear hC1 k2 K1
 go_wp2
 refine bodyPost_ret (v := .agg #[.slice a1 LT.length c1, .slice a2 IN.length c2, .slice a3 LL.length c3]) ?_ rfl ⟨_, rfl, ?_, ?_⟩
 ·
  rw [results_cell rfl]
  go_simp
 ·
  exact HP.out w.heap.size [.slice a1 LT.length c1, .slice a2 IN.length c2, .slice a3 LL.length c3] 0 (Or.inl zl)
 ·
  repeat' (first | with_reducible refine On.setNew ?_ (by omega) _ | with_reducible exact K2.out)
end Go.Proofs.YtioiabfheeglgaaGreatDoor

namespace Go.Proofs.YtioiabfheeglgaaGreatDoor
open Go.RowKit

theorem pl_in (l : Int) : ∀ (LT : List UInt8) (i : Nat), (∃ b ∈ LT, (b.toNat : Int) = l) → (i : Int) ≤ plFrom l i LT ∧ plFrom l i LT < (i : Int) + LT.length
 | [], _, h => by obtain ⟨b, hb, _⟩ := h; exact absurd hb List.not_mem_nil
 | b :: LT, i, h => by
  unfold plFrom
  cases e : ((b.toNat : Int) == l) with
  | true =>
   rw [if_pos rfl, List.length_cons]
   omega
  | false =>
   rw [if_neg (by simp)]
   obtain ⟨c, hc, hl⟩ := h
   have hm : c ∈ LT := by
    rcases List.mem_cons.1 hc with rfl | h1
    ·
     rw [hl] at e; simp at e
    ·
     exact h1
   have := pl_in l LT (i + 1) ⟨c, hm, hl⟩
   rw [List.length_cons]
   omega
theorem mark_keep : ∀ (L : List Int) (f : Nat → Bool) (j : Nat), f j = true → markI L f j = true
 | [], _, _, h => h
 | l :: L, f, j, h => mark_keep L _ j (by
  show (if j = idxL l then true else f j) = true
  split
  ·
   rfl
  ·
   exact h)
theorem mark_mem : ∀ (L : List Int) (f : Nat → Bool) (l : Int), l ∈ L → markI L f (idxL l) = true
 | [], _, _, h => absurd h List.not_mem_nil
 | x :: L, f, l, h => by
  rcases List.mem_cons.1 h with rfl | h1
  ·
   exact mark_keep L _ _ (by show (if idxL l = idxL l then true else f (idxL l)) = true; rw [if_pos rfl])
  ·
   exact mark_mem L _ l h1
theorem letter_in (t : TestT) {l : Int} (h : l ∈ allLs t) (hk : locOk l = true) : ∃ b ∈ locsR t, (b.toNat : Int) = l := by
 have hl : 97 ≤ l ∧ l ≤ 122 := by
  unfold locOk at hk
  simpa using hk
 have hi : idxL l = l.toNat := by unfold idxL; omega
 refine ⟨UInt8.ofNat l.toNat, ?_, ?_⟩
 ·
  unfold locsR outTo
  refine List.mem_map.2 ⟨l.toNat - 97, List.mem_filter.2 ⟨List.mem_range.2 (by omega), ?_⟩, by rw [show 97 + (l.toNat - 97) = l.toNat by omega]⟩
  rw [show 97 + (l.toNat - 97) = l.toNat by omega, ← hi]
  exact mark_mem _ _ _ h
 ·
  rw [UInt8.toNat_ofNat']
  omega
theorem has_loc {x : InsT} (h : insOk x = true) (hk : hasLB x.k = true) : locOk x.l = true := by
 unfold hasLB at hk
 simp only [Bool.or_eq_true, beq_iff_eq] at hk
 unfold insOk at h
 rcases hk with e | e | e
 ·
  rw [e] at h
  simp only [beq_self_eq_true, if_true, Bool.and_eq_true] at h
  exact h.1.2
 ·
  rw [e] at h
  simp at h
  exact h.2
 ·
  rw [e] at h
  simp at h
  exact h.1.1.2
theorem of_lok (zs : List Int) (most : Nat) : ∀ L ∈ ofT zs most, locsOk (locsR (smallP zs most)).length L := by
 intro L hL x hx hk
 unfold ofT at hL
 obtain ⟨L0, hL0, rfl⟩ := List.mem_map.1 hL
 unfold rplRow at hx
 obtain ⟨y, hy, rfl⟩ := List.mem_map.1 hx
 have hok : insOk y = true := List.all_eq_true.1 ((thrOf_ok zs most).2 L0 hL0).1.1 y hy
 have hk0 : (rplIns (locsR (smallP zs most)) y).k = y.k := by unfold rplIns; split <;> rfl
 rw [hk0] at hk
 have hl := has_loc hok hk
 have hl2 : 97 ≤ y.l ∧ y.l ≤ 122 := by unfold locOk at hl; simpa using hl
 have e : rplIns (locsR (smallP zs most)) y = ⟨y.k, y.r, plR (locsR (smallP zs most)) y.l, y.a, y.o, y.b, y.n⟩ := by
  unfold rplIns
  rw [if_neg (by simp; omega)]
 rw [e]
 have hm : y.l ∈ allLs (smallP zs most) := by
  unfold allLs
  refine List.mem_append_right _ (List.mem_append_left _ ?_)
  exact List.mem_flatMap.2 ⟨L0, hL0, List.mem_map.2 ⟨y, hy, rfl⟩⟩
 have := pl_in y.l (locsR (smallP zs most)) 0 (letter_in _ hm hl)
 show 0 ≤ plR _ _ ∧ plR _ _ < _
 unfold plR
 omega
end Go.Proofs.YtioiabfheeglgaaGreatDoor
