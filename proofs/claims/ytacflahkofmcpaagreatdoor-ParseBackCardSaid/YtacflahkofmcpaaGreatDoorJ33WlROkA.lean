/- The document's Ins, kind by kind. -/
import Derived.Test.YtacflahkofmcpaaGreatDoorWlRPrA
import Derived.Test.YtacflahkofmcpaaGreatDoorWlPartP
import Derived.Test.YtacflahkofmcpaaGreatDoorWlTokM
import Derived.Test.YtacflahkofmcpaaGreatDoorJ29WlRegFin3
import Derived.Test.YtacflahkofmcpaaGreatDoorJ27WlOkIns
namespace Go.Proofs.YtacflahkofmcpaaGreatDoor.Wl
open Go.RowKit

set_option maxHeartbeats 2000000 in
set_option maxRecDepth 8000 in
theorem rpr_store (r l ar av o br bv n : Int) (tL tA : ByteArray) (w : World) (hO : ∀ W, Calls Tryz.prog 68 #[.agg #[.int .i64 1, .int .i64 r, .int .i64 l, .int .i64 ar, .int .i64 av, .int .i64 o, .int .i64 br, .int .i64 bv, .int .i64 n]] W fun e w' => e = .returned (.bool true) ∧ On W w') (sL : tL.size ≤ 1000) (sA : tA.size ≤ 1000) (hL : ∀ W, Calls Tryz.prog 24 #[.int .i64 l] W fun e w' => e = .returned (.string tL) ∧ On W w') (hA : ∀ W, Calls Tryz.prog 69 #[.agg #[.int .i64 ar, .int .i64 av]] W fun e w' => e = .returned (.string tA) ∧ On W w') :
    Calls Tryz.prog 26 #[.agg #[.int .i64 1, .int .i64 r, .int .i64 l, .int .i64 ar, .int .i64 av, .int .i64 o, .int .i64 br, .int .i64 bv, .int .i64 n]] w fun e w' => e = .returned (.string ((⟨#[115, 116, 111, 114, 101, 32]⟩ : ByteArray) ++ tL ++ (⟨#[32]⟩ : ByteArray) ++ tA ++ (⟨#[32, 59]⟩ : ByteArray))) ∧ On w w' := by
  have k0 : ∀ T, On w (w.alloc T) := fun T => (On.refl w).alloc T
  have bk : ∀ cs T, Bk (w.alloc (.cells cs T)) w.heap.size cs := fun cs T => Bk.new w cs T
  go_enter Tryz.func26, Tryz.ntmps26
  go_wp2_with fail
  refine (hO _).mono ?_
  rintro _ w0 ⟨rfl, k1⟩
  have B0 : Bk w0 w.heap.size #[.int .i64 1, .int .i64 r, .int .i64 l, .int .i64 ar, .int .i64 av, .int .i64 o, .int .i64 br, .int .i64 bv, .int .i64 n] := (bk _ _).on k1
  have HK0 : Hid (On w w0) := (k0 _).trans k1
  have x0 := B0.at (i := 0) rfl
  have x5 := B0.at (i := 5) rfl
  have xl := B0.lt
  clear k1 bk k0 hO
  go_wp2
  clear x0 x5 xl
  obtain ⟨q1, hq1, zq1⟩ : ∃ q : ByteArray, Hid (q = (⟨#[115, 116, 111, 114, 101, 32]⟩ : ByteArray) ++ tL) ∧ q.size ≤ 1006 := ⟨_, rfl, by rw [ByteArray.size_append]; show 6 + tL.size ≤ 1006; omega⟩
  obtain ⟨q2, hq2, zq2⟩ : ∃ q : ByteArray, Hid (q = q1 ++ (⟨#[32]⟩ : ByteArray)) ∧ q.size ≤ 1007 := ⟨_, rfl, by rw [ByteArray.size_append]; show q1.size + 1 ≤ 1007; omega⟩
  obtain ⟨q3, hq3, zq3⟩ : ∃ q : ByteArray, Hid (q = q2 ++ tA) ∧ q.size ≤ 2007 := ⟨_, rfl, by rw [ByteArray.size_append]; show q2.size + tA.size ≤ 2007; omega⟩
  obtain ⟨q4, hq4, zq4⟩ : ∃ q : ByteArray, Hid (q = q3 ++ (⟨#[32, 59]⟩ : ByteArray)) ∧ q.size ≤ 2009 := ⟨_, rfl, by rw [ByteArray.size_append]; show q3.size + 2 ≤ 2009; omega⟩
  have S100 : Bk w0.drew w.heap.size #[.int .i64 1, .int .i64 r, .int .i64 l, .int .i64 ar, .int .i64 av, .int .i64 o, .int .i64 br, .int .i64 bv, .int .i64 n] := B0
  have K100 : On w w0.drew := (HK0.out).drew
  refine region_fz (fun W => Bk W w.heap.size #[.int .i64 1, .int .i64 r, .int .i64 l, .int .i64 ar, .int .i64 av, .int .i64 o, .int .i64 br, .int .i64 bv, .int .i64 n]) [] 11 (by kernel_rfl) rfl ?_
  refine fz_take 0 (v := ?_) rfl (by kernel_rfl) (by kernel_rfl) (by kernel_rfl) (by kernel_rfl) (fun _ _ _ h => h) rfl ?_ S100 ?_
  rotate_left
  · intro W hW
    go_simp
    (try with_reducible rfl)
  simp only [Act.put, List.setIfInBounds_toArray, List.set_cons_zero, List.set_cons_succ]
  refine fz_take 1 (v := ?_) rfl (by kernel_rfl) (by kernel_rfl) (by kernel_rfl) (by kernel_rfl) (fun _ _ _ h => h) rfl ?_ S100 ?_
  rotate_left
  · intro W hW
    have c2 := hW.at (i := 2) rfl
    have ll := hW.lt
    go_simp
    (try with_reducible rfl)
  simp only [Act.put, List.setIfInBounds_toArray, List.set_cons_zero, List.set_cons_succ]
  refine fz_take 5 (v := ?_) rfl (by kernel_rfl) (by kernel_rfl) (by kernel_rfl) (by kernel_rfl) (fun _ _ _ h => h) rfl ?_ S100 ?_
  rotate_left
  · intro W hW
    go_simp
    (try with_reducible rfl)
  simp only [Act.put, List.setIfInBounds_toArray, List.set_cons_zero, List.set_cons_succ]
  refine fz_take 6 (v := ?_) rfl (by kernel_rfl) (by kernel_rfl) (by kernel_rfl) (by kernel_rfl) (fun _ _ _ h => h) rfl ?_ S100 ?_
  rotate_left
  · intro W hW
    have c3 := hW.at (i := 3) rfl
    have c4 := hW.at (i := 4) rfl
    have ll := hW.lt
    go_simp
    (try with_reducible rfl)
  simp only [Act.put, List.setIfInBounds_toArray, List.set_cons_zero, List.set_cons_succ]
  refine fz_one 2 rfl rfl (by kernel_rfl) (fun K hK => ?_)
  go_simp
  refine (hL _).mono ?_
  rintro _ w1 ⟨rfl, k1⟩
  have B1 := Bk.on S100 k1
  have K1 := On.trans K100 k1
  refine hK.out _ _ (fun _ => B1) ?_
  clear hK
  refine fz_take 3 (v := .string q1) rfl (by kernel_rfl) (by kernel_rfl) (by kernel_rfl) (by kernel_rfl) (fun _ _ _ h => h) rfl ?_ B1 ?_
  · intro W hW
    go_simp
    first
    | rw [if_neg (by omega), hq1.out]
    | rw [hq1.out]
  simp only [Act.put, List.setIfInBounds_toArray, List.set_cons_zero, List.set_cons_succ]
  refine fz_take 4 (v := .string q2) rfl (by kernel_rfl) (by kernel_rfl) (by kernel_rfl) (by kernel_rfl) (fun _ _ _ h => h) rfl ?_ B1 ?_
  · intro W hW
    go_simp
    first
    | rw [if_neg (by omega), hq2.out]
    | rw [hq2.out]
  simp only [Act.put, List.setIfInBounds_toArray, List.set_cons_zero, List.set_cons_succ]
  refine fz_one 7 rfl rfl (by kernel_rfl) (fun K hK => ?_)
  go_simp
  refine (hA _).mono ?_
  rintro _ w2 ⟨rfl, k2⟩
  have B2 := Bk.on B1 k2
  have K2 := On.trans K1 k2
  refine hK.out _ _ (fun _ => B2) ?_
  clear hK
  refine fz_take 8 (v := .string q3) rfl (by kernel_rfl) (by kernel_rfl) (by kernel_rfl) (by kernel_rfl) (fun _ _ _ h => h) rfl ?_ B2 ?_
  · intro W hW
    go_simp
    first
    | rw [if_neg (by omega), hq3.out]
    | rw [hq3.out]
  simp only [Act.put, List.setIfInBounds_toArray, List.set_cons_zero, List.set_cons_succ]
  refine fz_take 9 (v := .string q4) rfl (by kernel_rfl) (by kernel_rfl) (by kernel_rfl) (by kernel_rfl) (fun _ _ _ h => h) rfl ?_ B2 ?_
  · intro W hW
    go_simp
    first
    | rw [if_neg (by omega), hq4.out]
    | rw [hq4.out]
  simp only [Act.put, List.setIfInBounds_toArray, List.set_cons_zero, List.set_cons_succ]
  refine fz_take 10 (v := ?_) rfl (by kernel_rfl) (by kernel_rfl) (by kernel_rfl) (by kernel_rfl) (fun _ _ _ h => h) rfl ?_ B2 ?_
  rotate_left
  · intro W hW
    go_simp
    (try with_reducible rfl)
  simp only [Act.put, List.setIfInBounds_toArray, List.set_cons_zero, List.set_cons_succ]
  refine fz_done (by kernel_rfl) (NoPanic.normal ?_)
  go_wp2
  go_ret
  exact ⟨by rw [← hq1.out, ← hq2.out, ← hq3.out, ← hq4.out]; rfl, K2⟩
set_option maxHeartbeats 2000000 in
set_option maxRecDepth 8000 in
theorem rpr_load (r l ar av o br bv n : Int) (tR tL : ByteArray) (w : World) (hO : ∀ W, Calls Tryz.prog 68 #[.agg #[.int .i64 2, .int .i64 r, .int .i64 l, .int .i64 ar, .int .i64 av, .int .i64 o, .int .i64 br, .int .i64 bv, .int .i64 n]] W fun e w' => e = .returned (.bool true) ∧ On W w') (sR : tR.size ≤ 1000) (sL : tL.size ≤ 1000) (hR : ∀ W, Calls Tryz.prog 70 #[.int .i64 r] W fun e w' => e = .returned (.string tR) ∧ On W w') (hL : ∀ W, Calls Tryz.prog 24 #[.int .i64 l] W fun e w' => e = .returned (.string tL) ∧ On W w') :
    Calls Tryz.prog 26 #[.agg #[.int .i64 2, .int .i64 r, .int .i64 l, .int .i64 ar, .int .i64 av, .int .i64 o, .int .i64 br, .int .i64 bv, .int .i64 n]] w fun e w' => e = .returned (.string (tR ++ (⟨#[32, 61, 32, 108, 111, 97, 100, 32]⟩ : ByteArray) ++ tL ++ (⟨#[32, 59]⟩ : ByteArray))) ∧ On w w' := by
  have k0 : ∀ T, On w (w.alloc T) := fun T => (On.refl w).alloc T
  have bk : ∀ cs T, Bk (w.alloc (.cells cs T)) w.heap.size cs := fun cs T => Bk.new w cs T
  go_enter Tryz.func26, Tryz.ntmps26
  go_wp2_with fail
  refine (hO _).mono ?_
  rintro _ w0 ⟨rfl, k1⟩
  have B0 : Bk w0 w.heap.size #[.int .i64 2, .int .i64 r, .int .i64 l, .int .i64 ar, .int .i64 av, .int .i64 o, .int .i64 br, .int .i64 bv, .int .i64 n] := (bk _ _).on k1
  have HK0 : Hid (On w w0) := (k0 _).trans k1
  have x0 := B0.at (i := 0) rfl
  have x5 := B0.at (i := 5) rfl
  have xl := B0.lt
  clear k1 bk k0 hO
  go_wp2
  clear x0 x5 xl
  obtain ⟨q1, hq1, zq1⟩ : ∃ q : ByteArray, Hid (q = tR ++ (⟨#[32, 61, 32, 108, 111, 97, 100, 32]⟩ : ByteArray)) ∧ q.size ≤ 1008 := ⟨_, rfl, by rw [ByteArray.size_append]; show tR.size + 8 ≤ 1008; omega⟩
  obtain ⟨q2, hq2, zq2⟩ : ∃ q : ByteArray, Hid (q = q1 ++ tL) ∧ q.size ≤ 2008 := ⟨_, rfl, by rw [ByteArray.size_append]; show q1.size + tL.size ≤ 2008; omega⟩
  obtain ⟨q3, hq3, zq3⟩ : ∃ q : ByteArray, Hid (q = q2 ++ (⟨#[32, 59]⟩ : ByteArray)) ∧ q.size ≤ 2010 := ⟨_, rfl, by rw [ByteArray.size_append]; show q2.size + 2 ≤ 2010; omega⟩
  have S100 : Bk w0.drew w.heap.size #[.int .i64 2, .int .i64 r, .int .i64 l, .int .i64 ar, .int .i64 av, .int .i64 o, .int .i64 br, .int .i64 bv, .int .i64 n] := B0
  have K100 : On w w0.drew := (HK0.out).drew
  refine region_fz (fun W => Bk W w.heap.size #[.int .i64 2, .int .i64 r, .int .i64 l, .int .i64 ar, .int .i64 av, .int .i64 o, .int .i64 br, .int .i64 bv, .int .i64 n]) [] 10 (by kernel_rfl) rfl ?_
  refine fz_take 0 (v := ?_) rfl (by kernel_rfl) (by kernel_rfl) (by kernel_rfl) (by kernel_rfl) (fun _ _ _ h => h) rfl ?_ S100 ?_
  rotate_left
  · intro W hW
    go_simp
    (try with_reducible rfl)
  simp only [Act.put, List.setIfInBounds_toArray, List.set_cons_zero, List.set_cons_succ]
  refine fz_take 1 (v := ?_) rfl (by kernel_rfl) (by kernel_rfl) (by kernel_rfl) (by kernel_rfl) (fun _ _ _ h => h) rfl ?_ S100 ?_
  rotate_left
  · intro W hW
    have c1 := hW.at (i := 1) rfl
    have ll := hW.lt
    go_simp
    (try with_reducible rfl)
  simp only [Act.put, List.setIfInBounds_toArray, List.set_cons_zero, List.set_cons_succ]
  refine fz_take 4 (v := ?_) rfl (by kernel_rfl) (by kernel_rfl) (by kernel_rfl) (by kernel_rfl) (fun _ _ _ h => h) rfl ?_ S100 ?_
  rotate_left
  · intro W hW
    go_simp
    (try with_reducible rfl)
  simp only [Act.put, List.setIfInBounds_toArray, List.set_cons_zero, List.set_cons_succ]
  refine fz_take 5 (v := ?_) rfl (by kernel_rfl) (by kernel_rfl) (by kernel_rfl) (by kernel_rfl) (fun _ _ _ h => h) rfl ?_ S100 ?_
  rotate_left
  · intro W hW
    have c2 := hW.at (i := 2) rfl
    have ll := hW.lt
    go_simp
    (try with_reducible rfl)
  simp only [Act.put, List.setIfInBounds_toArray, List.set_cons_zero, List.set_cons_succ]
  refine fz_one 2 rfl rfl (by kernel_rfl) (fun K hK => ?_)
  go_simp
  refine (hR _).mono ?_
  rintro _ w1 ⟨rfl, k1⟩
  have B1 := Bk.on S100 k1
  have K1 := On.trans K100 k1
  refine hK.out _ _ (fun _ => B1) ?_
  clear hK
  refine fz_take 3 (v := .string q1) rfl (by kernel_rfl) (by kernel_rfl) (by kernel_rfl) (by kernel_rfl) (fun _ _ _ h => h) rfl ?_ B1 ?_
  · intro W hW
    go_simp
    first
    | rw [if_neg (by omega), hq1.out]
    | rw [hq1.out]
  simp only [Act.put, List.setIfInBounds_toArray, List.set_cons_zero, List.set_cons_succ]
  refine fz_one 6 rfl rfl (by kernel_rfl) (fun K hK => ?_)
  go_simp
  refine (hL _).mono ?_
  rintro _ w2 ⟨rfl, k2⟩
  have B2 := Bk.on B1 k2
  have K2 := On.trans K1 k2
  refine hK.out _ _ (fun _ => B2) ?_
  clear hK
  refine fz_take 7 (v := .string q2) rfl (by kernel_rfl) (by kernel_rfl) (by kernel_rfl) (by kernel_rfl) (fun _ _ _ h => h) rfl ?_ B2 ?_
  · intro W hW
    go_simp
    first
    | rw [if_neg (by omega), hq2.out]
    | rw [hq2.out]
  simp only [Act.put, List.setIfInBounds_toArray, List.set_cons_zero, List.set_cons_succ]
  refine fz_take 8 (v := .string q3) rfl (by kernel_rfl) (by kernel_rfl) (by kernel_rfl) (by kernel_rfl) (fun _ _ _ h => h) rfl ?_ B2 ?_
  · intro W hW
    go_simp
    first
    | rw [if_neg (by omega), hq3.out]
    | rw [hq3.out]
  simp only [Act.put, List.setIfInBounds_toArray, List.set_cons_zero, List.set_cons_succ]
  refine fz_take 9 (v := ?_) rfl (by kernel_rfl) (by kernel_rfl) (by kernel_rfl) (by kernel_rfl) (fun _ _ _ h => h) rfl ?_ B2 ?_
  rotate_left
  · intro W hW
    go_simp
    (try with_reducible rfl)
  simp only [Act.put, List.setIfInBounds_toArray, List.set_cons_zero, List.set_cons_succ]
  refine fz_done (by kernel_rfl) (NoPanic.normal ?_)
  go_wp2
  go_ret
  exact ⟨by rw [← hq1.out, ← hq2.out, ← hq3.out]; rfl, K2⟩
set_option maxHeartbeats 2000000 in
set_option maxRecDepth 8000 in
theorem rpr_cas (r l ar av o br bv n : Int) (tR tL tA tB : ByteArray) (w : World) (hO : ∀ W, Calls Tryz.prog 68 #[.agg #[.int .i64 4, .int .i64 r, .int .i64 l, .int .i64 ar, .int .i64 av, .int .i64 o, .int .i64 br, .int .i64 bv, .int .i64 n]] W fun e w' => e = .returned (.bool true) ∧ On W w') (sR : tR.size ≤ 1000) (sL : tL.size ≤ 1000) (sA : tA.size ≤ 1000) (sB : tB.size ≤ 1000) (hR : ∀ W, Calls Tryz.prog 70 #[.int .i64 r] W fun e w' => e = .returned (.string tR) ∧ On W w') (hL : ∀ W, Calls Tryz.prog 24 #[.int .i64 l] W fun e w' => e = .returned (.string tL) ∧ On W w') (hA : ∀ W, Calls Tryz.prog 69 #[.agg #[.int .i64 ar, .int .i64 av]] W fun e w' => e = .returned (.string tA) ∧ On W w') (hB : ∀ W, Calls Tryz.prog 69 #[.agg #[.int .i64 br, .int .i64 bv]] W fun e w' => e = .returned (.string tB) ∧ On W w') :
    Calls Tryz.prog 26 #[.agg #[.int .i64 4, .int .i64 r, .int .i64 l, .int .i64 ar, .int .i64 av, .int .i64 o, .int .i64 br, .int .i64 bv, .int .i64 n]] w fun e w' => e = .returned (.string (tR ++ (⟨#[32, 61, 32, 99, 97, 115, 32]⟩ : ByteArray) ++ tL ++ (⟨#[32]⟩ : ByteArray) ++ tA ++ (⟨#[32]⟩ : ByteArray) ++ tB ++ (⟨#[32, 59]⟩ : ByteArray))) ∧ On w w' := by
  have k0 : ∀ T, On w (w.alloc T) := fun T => (On.refl w).alloc T
  have bk : ∀ cs T, Bk (w.alloc (.cells cs T)) w.heap.size cs := fun cs T => Bk.new w cs T
  go_enter Tryz.func26, Tryz.ntmps26
  go_wp2_with fail
  refine (hO _).mono ?_
  rintro _ w0 ⟨rfl, k1⟩
  have B0 : Bk w0 w.heap.size #[.int .i64 4, .int .i64 r, .int .i64 l, .int .i64 ar, .int .i64 av, .int .i64 o, .int .i64 br, .int .i64 bv, .int .i64 n] := (bk _ _).on k1
  have HK0 : Hid (On w w0) := (k0 _).trans k1
  have x0 := B0.at (i := 0) rfl
  have x5 := B0.at (i := 5) rfl
  have xl := B0.lt
  clear k1 bk k0 hO
  go_wp2
  clear x0 x5 xl
  obtain ⟨q1, hq1, zq1⟩ : ∃ q : ByteArray, Hid (q = tR ++ (⟨#[32, 61, 32, 99, 97, 115, 32]⟩ : ByteArray)) ∧ q.size ≤ 1007 := ⟨_, rfl, by rw [ByteArray.size_append]; show tR.size + 7 ≤ 1007; omega⟩
  obtain ⟨q2, hq2, zq2⟩ : ∃ q : ByteArray, Hid (q = q1 ++ tL) ∧ q.size ≤ 2007 := ⟨_, rfl, by rw [ByteArray.size_append]; show q1.size + tL.size ≤ 2007; omega⟩
  obtain ⟨q3, hq3, zq3⟩ : ∃ q : ByteArray, Hid (q = q2 ++ (⟨#[32]⟩ : ByteArray)) ∧ q.size ≤ 2008 := ⟨_, rfl, by rw [ByteArray.size_append]; show q2.size + 1 ≤ 2008; omega⟩
  obtain ⟨q4, hq4, zq4⟩ : ∃ q : ByteArray, Hid (q = q3 ++ tA) ∧ q.size ≤ 3008 := ⟨_, rfl, by rw [ByteArray.size_append]; show q3.size + tA.size ≤ 3008; omega⟩
  obtain ⟨q5, hq5, zq5⟩ : ∃ q : ByteArray, Hid (q = q4 ++ (⟨#[32]⟩ : ByteArray)) ∧ q.size ≤ 3009 := ⟨_, rfl, by rw [ByteArray.size_append]; show q4.size + 1 ≤ 3009; omega⟩
  obtain ⟨q6, hq6, zq6⟩ : ∃ q : ByteArray, Hid (q = q5 ++ tB) ∧ q.size ≤ 4009 := ⟨_, rfl, by rw [ByteArray.size_append]; show q5.size + tB.size ≤ 4009; omega⟩
  obtain ⟨q7, hq7, zq7⟩ : ∃ q : ByteArray, Hid (q = q6 ++ (⟨#[32, 59]⟩ : ByteArray)) ∧ q.size ≤ 4011 := ⟨_, rfl, by rw [ByteArray.size_append]; show q6.size + 2 ≤ 4011; omega⟩
  have S100 : Bk w0.drew w.heap.size #[.int .i64 4, .int .i64 r, .int .i64 l, .int .i64 ar, .int .i64 av, .int .i64 o, .int .i64 br, .int .i64 bv, .int .i64 n] := B0
  have K100 : On w w0.drew := (HK0.out).drew
  refine region_fz (fun W => Bk W w.heap.size #[.int .i64 4, .int .i64 r, .int .i64 l, .int .i64 ar, .int .i64 av, .int .i64 o, .int .i64 br, .int .i64 bv, .int .i64 n]) [] 20 (by kernel_rfl) rfl ?_
  refine fz_take 0 (v := ?_) rfl (by kernel_rfl) (by kernel_rfl) (by kernel_rfl) (by kernel_rfl) (fun _ _ _ h => h) rfl ?_ S100 ?_
  rotate_left
  · intro W hW
    go_simp
    (try with_reducible rfl)
  simp only [Act.put, List.setIfInBounds_toArray, List.set_cons_zero, List.set_cons_succ]
  refine fz_take 1 (v := ?_) rfl (by kernel_rfl) (by kernel_rfl) (by kernel_rfl) (by kernel_rfl) (fun _ _ _ h => h) rfl ?_ S100 ?_
  rotate_left
  · intro W hW
    have c1 := hW.at (i := 1) rfl
    have ll := hW.lt
    go_simp
    (try with_reducible rfl)
  simp only [Act.put, List.setIfInBounds_toArray, List.set_cons_zero, List.set_cons_succ]
  refine fz_take 4 (v := ?_) rfl (by kernel_rfl) (by kernel_rfl) (by kernel_rfl) (by kernel_rfl) (fun _ _ _ h => h) rfl ?_ S100 ?_
  rotate_left
  · intro W hW
    go_simp
    (try with_reducible rfl)
  simp only [Act.put, List.setIfInBounds_toArray, List.set_cons_zero, List.set_cons_succ]
  refine fz_take 5 (v := ?_) rfl (by kernel_rfl) (by kernel_rfl) (by kernel_rfl) (by kernel_rfl) (fun _ _ _ h => h) rfl ?_ S100 ?_
  rotate_left
  · intro W hW
    have c2 := hW.at (i := 2) rfl
    have ll := hW.lt
    go_simp
    (try with_reducible rfl)
  simp only [Act.put, List.setIfInBounds_toArray, List.set_cons_zero, List.set_cons_succ]
  refine fz_take 9 (v := ?_) rfl (by kernel_rfl) (by kernel_rfl) (by kernel_rfl) (by kernel_rfl) (fun _ _ _ h => h) rfl ?_ S100 ?_
  rotate_left
  · intro W hW
    go_simp
    (try with_reducible rfl)
  simp only [Act.put, List.setIfInBounds_toArray, List.set_cons_zero, List.set_cons_succ]
  refine fz_take 10 (v := ?_) rfl (by kernel_rfl) (by kernel_rfl) (by kernel_rfl) (by kernel_rfl) (fun _ _ _ h => h) rfl ?_ S100 ?_
  rotate_left
  · intro W hW
    have c3 := hW.at (i := 3) rfl
    have c4 := hW.at (i := 4) rfl
    have ll := hW.lt
    go_simp
    (try with_reducible rfl)
  simp only [Act.put, List.setIfInBounds_toArray, List.set_cons_zero, List.set_cons_succ]
  refine fz_take 14 (v := ?_) rfl (by kernel_rfl) (by kernel_rfl) (by kernel_rfl) (by kernel_rfl) (fun _ _ _ h => h) rfl ?_ S100 ?_
  rotate_left
  · intro W hW
    go_simp
    (try with_reducible rfl)
  simp only [Act.put, List.setIfInBounds_toArray, List.set_cons_zero, List.set_cons_succ]
  refine fz_take 15 (v := ?_) rfl (by kernel_rfl) (by kernel_rfl) (by kernel_rfl) (by kernel_rfl) (fun _ _ _ h => h) rfl ?_ S100 ?_
  rotate_left
  · intro W hW
    have c6 := hW.at (i := 6) rfl
    have c7 := hW.at (i := 7) rfl
    have ll := hW.lt
    go_simp
    (try with_reducible rfl)
  simp only [Act.put, List.setIfInBounds_toArray, List.set_cons_zero, List.set_cons_succ]
  refine fz_one 2 rfl rfl (by kernel_rfl) (fun K hK => ?_)
  go_simp
  refine (hR _).mono ?_
  rintro _ w1 ⟨rfl, k1⟩
  have B1 := Bk.on S100 k1
  have K1 := On.trans K100 k1
  refine hK.out _ _ (fun _ => B1) ?_
  clear hK
  refine fz_take 3 (v := .string q1) rfl (by kernel_rfl) (by kernel_rfl) (by kernel_rfl) (by kernel_rfl) (fun _ _ _ h => h) rfl ?_ B1 ?_
  · intro W hW
    go_simp
    first
    | rw [if_neg (by omega), hq1.out]
    | rw [hq1.out]
  simp only [Act.put, List.setIfInBounds_toArray, List.set_cons_zero, List.set_cons_succ]
  refine fz_one 6 rfl rfl (by kernel_rfl) (fun K hK => ?_)
  go_simp
  refine (hL _).mono ?_
  rintro _ w2 ⟨rfl, k2⟩
  have B2 := Bk.on B1 k2
  have K2 := On.trans K1 k2
  refine hK.out _ _ (fun _ => B2) ?_
  clear hK
  refine fz_take 7 (v := .string q2) rfl (by kernel_rfl) (by kernel_rfl) (by kernel_rfl) (by kernel_rfl) (fun _ _ _ h => h) rfl ?_ B2 ?_
  · intro W hW
    go_simp
    first
    | rw [if_neg (by omega), hq2.out]
    | rw [hq2.out]
  simp only [Act.put, List.setIfInBounds_toArray, List.set_cons_zero, List.set_cons_succ]
  refine fz_take 8 (v := .string q3) rfl (by kernel_rfl) (by kernel_rfl) (by kernel_rfl) (by kernel_rfl) (fun _ _ _ h => h) rfl ?_ B2 ?_
  · intro W hW
    go_simp
    first
    | rw [if_neg (by omega), hq3.out]
    | rw [hq3.out]
  simp only [Act.put, List.setIfInBounds_toArray, List.set_cons_zero, List.set_cons_succ]
  refine fz_one 11 rfl rfl (by kernel_rfl) (fun K hK => ?_)
  go_simp
  refine (hA _).mono ?_
  rintro _ w3 ⟨rfl, k3⟩
  have B3 := Bk.on B2 k3
  have K3 := On.trans K2 k3
  refine hK.out _ _ (fun _ => B3) ?_
  clear hK
  refine fz_take 12 (v := .string q4) rfl (by kernel_rfl) (by kernel_rfl) (by kernel_rfl) (by kernel_rfl) (fun _ _ _ h => h) rfl ?_ B3 ?_
  · intro W hW
    go_simp
    first
    | rw [if_neg (by omega), hq4.out]
    | rw [hq4.out]
  simp only [Act.put, List.setIfInBounds_toArray, List.set_cons_zero, List.set_cons_succ]
  refine fz_take 13 (v := .string q5) rfl (by kernel_rfl) (by kernel_rfl) (by kernel_rfl) (by kernel_rfl) (fun _ _ _ h => h) rfl ?_ B3 ?_
  · intro W hW
    go_simp
    first
    | rw [if_neg (by omega), hq5.out]
    | rw [hq5.out]
  simp only [Act.put, List.setIfInBounds_toArray, List.set_cons_zero, List.set_cons_succ]
  refine fz_one 16 rfl rfl (by kernel_rfl) (fun K hK => ?_)
  go_simp
  refine (hB _).mono ?_
  rintro _ w4 ⟨rfl, k4⟩
  have B4 := Bk.on B3 k4
  have K4 := On.trans K3 k4
  refine hK.out _ _ (fun _ => B4) ?_
  clear hK
  refine fz_take 17 (v := .string q6) rfl (by kernel_rfl) (by kernel_rfl) (by kernel_rfl) (by kernel_rfl) (fun _ _ _ h => h) rfl ?_ B4 ?_
  · intro W hW
    go_simp
    first
    | rw [if_neg (by omega), hq6.out]
    | rw [hq6.out]
  simp only [Act.put, List.setIfInBounds_toArray, List.set_cons_zero, List.set_cons_succ]
  refine fz_take 18 (v := .string q7) rfl (by kernel_rfl) (by kernel_rfl) (by kernel_rfl) (by kernel_rfl) (fun _ _ _ h => h) rfl ?_ B4 ?_
  · intro W hW
    go_simp
    first
    | rw [if_neg (by omega), hq7.out]
    | rw [hq7.out]
  simp only [Act.put, List.setIfInBounds_toArray, List.set_cons_zero, List.set_cons_succ]
  refine fz_take 19 (v := ?_) rfl (by kernel_rfl) (by kernel_rfl) (by kernel_rfl) (by kernel_rfl) (fun _ _ _ h => h) rfl ?_ B4 ?_
  rotate_left
  · intro W hW
    go_simp
    (try with_reducible rfl)
  simp only [Act.put, List.setIfInBounds_toArray, List.set_cons_zero, List.set_cons_succ]
  refine fz_done (by kernel_rfl) (NoPanic.normal ?_)
  go_wp2
  go_ret
  exact ⟨by rw [← hq1.out, ← hq2.out, ← hq3.out, ← hq4.out, ← hq5.out, ← hq6.out, ← hq7.out]; rfl, K4⟩
set_option maxHeartbeats 2000000 in
set_option maxRecDepth 8000 in
theorem rpr_skip (r l ar av o br bv n : Int) (tN tA tB : ByteArray) (w : World) (hO : ∀ W, Calls Tryz.prog 68 #[.agg #[.int .i64 6, .int .i64 r, .int .i64 l, .int .i64 ar, .int .i64 av, .int .i64 o, .int .i64 br, .int .i64 bv, .int .i64 n]] W fun e w' => e = .returned (.bool true) ∧ On W w') (sN : tN.size ≤ 1000) (sA : tA.size ≤ 1000) (sB : tB.size ≤ 1000) (hN : ∀ W, Calls Tryz.prog 25 #[.int .i64 n] W fun e w' => e = .returned (.string tN) ∧ On W w') (hA : ∀ W, Calls Tryz.prog 69 #[.agg #[.int .i64 ar, .int .i64 av]] W fun e w' => e = .returned (.string tA) ∧ On W w') (hB : ∀ W, Calls Tryz.prog 69 #[.agg #[.int .i64 br, .int .i64 bv]] W fun e w' => e = .returned (.string tB) ∧ On W w') :
    Calls Tryz.prog 26 #[.agg #[.int .i64 6, .int .i64 r, .int .i64 l, .int .i64 ar, .int .i64 av, .int .i64 o, .int .i64 br, .int .i64 bv, .int .i64 n]] w fun e w' => e = .returned (.string ((⟨#[115, 107, 105, 112, 32]⟩ : ByteArray) ++ tN ++ (⟨#[32, 105, 102, 32]⟩ : ByteArray) ++ tA ++ (⟨#[32, 61, 61, 32]⟩ : ByteArray) ++ tB ++ (⟨#[32, 59]⟩ : ByteArray))) ∧ On w w' := by
  have k0 : ∀ T, On w (w.alloc T) := fun T => (On.refl w).alloc T
  have bk : ∀ cs T, Bk (w.alloc (.cells cs T)) w.heap.size cs := fun cs T => Bk.new w cs T
  go_enter Tryz.func26, Tryz.ntmps26
  go_wp2_with fail
  refine (hO _).mono ?_
  rintro _ w0 ⟨rfl, k1⟩
  have B0 : Bk w0 w.heap.size #[.int .i64 6, .int .i64 r, .int .i64 l, .int .i64 ar, .int .i64 av, .int .i64 o, .int .i64 br, .int .i64 bv, .int .i64 n] := (bk _ _).on k1
  have HK0 : Hid (On w w0) := (k0 _).trans k1
  have x0 := B0.at (i := 0) rfl
  have x5 := B0.at (i := 5) rfl
  have xl := B0.lt
  clear k1 bk k0 hO
  go_wp2
  clear x0 x5 xl
  obtain ⟨q1, hq1, zq1⟩ : ∃ q : ByteArray, Hid (q = (⟨#[115, 107, 105, 112, 32]⟩ : ByteArray) ++ tN) ∧ q.size ≤ 1005 := ⟨_, rfl, by rw [ByteArray.size_append]; show 5 + tN.size ≤ 1005; omega⟩
  obtain ⟨q2, hq2, zq2⟩ : ∃ q : ByteArray, Hid (q = q1 ++ (⟨#[32, 105, 102, 32]⟩ : ByteArray)) ∧ q.size ≤ 1009 := ⟨_, rfl, by rw [ByteArray.size_append]; show q1.size + 4 ≤ 1009; omega⟩
  obtain ⟨q3, hq3, zq3⟩ : ∃ q : ByteArray, Hid (q = q2 ++ tA) ∧ q.size ≤ 2009 := ⟨_, rfl, by rw [ByteArray.size_append]; show q2.size + tA.size ≤ 2009; omega⟩
  obtain ⟨q4, hq4, zq4⟩ : ∃ q : ByteArray, Hid (q = q3 ++ (⟨#[32, 61, 61, 32]⟩ : ByteArray)) ∧ q.size ≤ 2013 := ⟨_, rfl, by rw [ByteArray.size_append]; show q3.size + 4 ≤ 2013; omega⟩
  obtain ⟨q5, hq5, zq5⟩ : ∃ q : ByteArray, Hid (q = q4 ++ tB) ∧ q.size ≤ 3013 := ⟨_, rfl, by rw [ByteArray.size_append]; show q4.size + tB.size ≤ 3013; omega⟩
  obtain ⟨q6, hq6, zq6⟩ : ∃ q : ByteArray, Hid (q = q5 ++ (⟨#[32, 59]⟩ : ByteArray)) ∧ q.size ≤ 3015 := ⟨_, rfl, by rw [ByteArray.size_append]; show q5.size + 2 ≤ 3015; omega⟩
  have S100 : Bk w0.drew w.heap.size #[.int .i64 6, .int .i64 r, .int .i64 l, .int .i64 ar, .int .i64 av, .int .i64 o, .int .i64 br, .int .i64 bv, .int .i64 n] := B0
  have K100 : On w w0.drew := (HK0.out).drew
  refine region_fz (fun W => Bk W w.heap.size #[.int .i64 6, .int .i64 r, .int .i64 l, .int .i64 ar, .int .i64 av, .int .i64 o, .int .i64 br, .int .i64 bv, .int .i64 n]) [] 16 (by kernel_rfl) rfl ?_
  refine fz_take 0 (v := ?_) rfl (by kernel_rfl) (by kernel_rfl) (by kernel_rfl) (by kernel_rfl) (fun _ _ _ h => h) rfl ?_ S100 ?_
  rotate_left
  · intro W hW
    go_simp
    (try with_reducible rfl)
  simp only [Act.put, List.setIfInBounds_toArray, List.set_cons_zero, List.set_cons_succ]
  refine fz_take 1 (v := ?_) rfl (by kernel_rfl) (by kernel_rfl) (by kernel_rfl) (by kernel_rfl) (fun _ _ _ h => h) rfl ?_ S100 ?_
  rotate_left
  · intro W hW
    have c8 := hW.at (i := 8) rfl
    have ll := hW.lt
    go_simp
    (try with_reducible rfl)
  simp only [Act.put, List.setIfInBounds_toArray, List.set_cons_zero, List.set_cons_succ]
  refine fz_take 5 (v := ?_) rfl (by kernel_rfl) (by kernel_rfl) (by kernel_rfl) (by kernel_rfl) (fun _ _ _ h => h) rfl ?_ S100 ?_
  rotate_left
  · intro W hW
    go_simp
    (try with_reducible rfl)
  simp only [Act.put, List.setIfInBounds_toArray, List.set_cons_zero, List.set_cons_succ]
  refine fz_take 6 (v := ?_) rfl (by kernel_rfl) (by kernel_rfl) (by kernel_rfl) (by kernel_rfl) (fun _ _ _ h => h) rfl ?_ S100 ?_
  rotate_left
  · intro W hW
    have c3 := hW.at (i := 3) rfl
    have c4 := hW.at (i := 4) rfl
    have ll := hW.lt
    go_simp
    (try with_reducible rfl)
  simp only [Act.put, List.setIfInBounds_toArray, List.set_cons_zero, List.set_cons_succ]
  refine fz_take 10 (v := ?_) rfl (by kernel_rfl) (by kernel_rfl) (by kernel_rfl) (by kernel_rfl) (fun _ _ _ h => h) rfl ?_ S100 ?_
  rotate_left
  · intro W hW
    go_simp
    (try with_reducible rfl)
  simp only [Act.put, List.setIfInBounds_toArray, List.set_cons_zero, List.set_cons_succ]
  refine fz_take 11 (v := ?_) rfl (by kernel_rfl) (by kernel_rfl) (by kernel_rfl) (by kernel_rfl) (fun _ _ _ h => h) rfl ?_ S100 ?_
  rotate_left
  · intro W hW
    have c6 := hW.at (i := 6) rfl
    have c7 := hW.at (i := 7) rfl
    have ll := hW.lt
    go_simp
    (try with_reducible rfl)
  simp only [Act.put, List.setIfInBounds_toArray, List.set_cons_zero, List.set_cons_succ]
  refine fz_one 2 rfl rfl (by kernel_rfl) (fun K hK => ?_)
  go_simp
  refine (hN _).mono ?_
  rintro _ w1 ⟨rfl, k1⟩
  have B1 := Bk.on S100 k1
  have K1 := On.trans K100 k1
  refine hK.out _ _ (fun _ => B1) ?_
  clear hK
  refine fz_take 3 (v := .string q1) rfl (by kernel_rfl) (by kernel_rfl) (by kernel_rfl) (by kernel_rfl) (fun _ _ _ h => h) rfl ?_ B1 ?_
  · intro W hW
    go_simp
    first
    | rw [if_neg (by omega), hq1.out]
    | rw [hq1.out]
  simp only [Act.put, List.setIfInBounds_toArray, List.set_cons_zero, List.set_cons_succ]
  refine fz_take 4 (v := .string q2) rfl (by kernel_rfl) (by kernel_rfl) (by kernel_rfl) (by kernel_rfl) (fun _ _ _ h => h) rfl ?_ B1 ?_
  · intro W hW
    go_simp
    first
    | rw [if_neg (by omega), hq2.out]
    | rw [hq2.out]
  simp only [Act.put, List.setIfInBounds_toArray, List.set_cons_zero, List.set_cons_succ]
  refine fz_one 7 rfl rfl (by kernel_rfl) (fun K hK => ?_)
  go_simp
  refine (hA _).mono ?_
  rintro _ w2 ⟨rfl, k2⟩
  have B2 := Bk.on B1 k2
  have K2 := On.trans K1 k2
  refine hK.out _ _ (fun _ => B2) ?_
  clear hK
  refine fz_take 8 (v := .string q3) rfl (by kernel_rfl) (by kernel_rfl) (by kernel_rfl) (by kernel_rfl) (fun _ _ _ h => h) rfl ?_ B2 ?_
  · intro W hW
    go_simp
    first
    | rw [if_neg (by omega), hq3.out]
    | rw [hq3.out]
  simp only [Act.put, List.setIfInBounds_toArray, List.set_cons_zero, List.set_cons_succ]
  refine fz_take 9 (v := .string q4) rfl (by kernel_rfl) (by kernel_rfl) (by kernel_rfl) (by kernel_rfl) (fun _ _ _ h => h) rfl ?_ B2 ?_
  · intro W hW
    go_simp
    first
    | rw [if_neg (by omega), hq4.out]
    | rw [hq4.out]
  simp only [Act.put, List.setIfInBounds_toArray, List.set_cons_zero, List.set_cons_succ]
  refine fz_one 12 rfl rfl (by kernel_rfl) (fun K hK => ?_)
  go_simp
  refine (hB _).mono ?_
  rintro _ w3 ⟨rfl, k3⟩
  have B3 := Bk.on B2 k3
  have K3 := On.trans K2 k3
  refine hK.out _ _ (fun _ => B3) ?_
  clear hK
  refine fz_take 13 (v := .string q5) rfl (by kernel_rfl) (by kernel_rfl) (by kernel_rfl) (by kernel_rfl) (fun _ _ _ h => h) rfl ?_ B3 ?_
  · intro W hW
    go_simp
    first
    | rw [if_neg (by omega), hq5.out]
    | rw [hq5.out]
  simp only [Act.put, List.setIfInBounds_toArray, List.set_cons_zero, List.set_cons_succ]
  refine fz_take 14 (v := .string q6) rfl (by kernel_rfl) (by kernel_rfl) (by kernel_rfl) (by kernel_rfl) (fun _ _ _ h => h) rfl ?_ B3 ?_
  · intro W hW
    go_simp
    first
    | rw [if_neg (by omega), hq6.out]
    | rw [hq6.out]
  simp only [Act.put, List.setIfInBounds_toArray, List.set_cons_zero, List.set_cons_succ]
  refine fz_take 15 (v := ?_) rfl (by kernel_rfl) (by kernel_rfl) (by kernel_rfl) (by kernel_rfl) (fun _ _ _ h => h) rfl ?_ B3 ?_
  rotate_left
  · intro W hW
    go_simp
    (try with_reducible rfl)
  simp only [Act.put, List.setIfInBounds_toArray, List.set_cons_zero, List.set_cons_succ]
  refine fz_done (by kernel_rfl) (NoPanic.normal ?_)
  go_wp2
  go_ret
  exact ⟨by rw [← hq1.out, ← hq2.out, ← hq3.out, ← hq4.out, ← hq5.out, ← hq6.out]; rfl, K3⟩
set_option maxHeartbeats 2000000 in
set_option maxRecDepth 8000 in
theorem rpr_set (r l ar av o br bv n : Int) (tR tA : ByteArray) (ho : ¬ 0 < o) (w : World) (hO : ∀ W, Calls Tryz.prog 68 #[.agg #[.int .i64 5, .int .i64 r, .int .i64 l, .int .i64 ar, .int .i64 av, .int .i64 o, .int .i64 br, .int .i64 bv, .int .i64 n]] W fun e w' => e = .returned (.bool true) ∧ On W w') (sR : tR.size ≤ 1000) (sA : tA.size ≤ 1000) (hR : ∀ W, Calls Tryz.prog 70 #[.int .i64 r] W fun e w' => e = .returned (.string tR) ∧ On W w') (hA : ∀ W, Calls Tryz.prog 69 #[.agg #[.int .i64 ar, .int .i64 av]] W fun e w' => e = .returned (.string tA) ∧ On W w') :
    Calls Tryz.prog 26 #[.agg #[.int .i64 5, .int .i64 r, .int .i64 l, .int .i64 ar, .int .i64 av, .int .i64 o, .int .i64 br, .int .i64 bv, .int .i64 n]] w fun e w' => e = .returned (.string (tR ++ (⟨#[32, 61, 32]⟩ : ByteArray) ++ tA ++ (⟨#[32, 59]⟩ : ByteArray))) ∧ On w w' := by
  have k0 : ∀ T, On w (w.alloc T) := fun T => (On.refl w).alloc T
  have bk : ∀ cs T, Bk (w.alloc (.cells cs T)) w.heap.size cs := fun cs T => Bk.new w cs T
  go_enter Tryz.func26, Tryz.ntmps26
  go_wp2_with fail
  refine (hO _).mono ?_
  rintro _ w0 ⟨rfl, k1⟩
  have B0 : Bk w0 w.heap.size #[.int .i64 5, .int .i64 r, .int .i64 l, .int .i64 ar, .int .i64 av, .int .i64 o, .int .i64 br, .int .i64 bv, .int .i64 n] := (bk _ _).on k1
  have HK0 : Hid (On w w0) := (k0 _).trans k1
  have x0 := B0.at (i := 0) rfl
  have x5 := B0.at (i := 5) rfl
  have xl := B0.lt
  clear k1 bk k0 hO
  go_wp2
  clear x0 x5 xl
  obtain ⟨q1, hq1, zq1⟩ : ∃ q : ByteArray, Hid (q = tR ++ (⟨#[32, 61, 32]⟩ : ByteArray)) ∧ q.size ≤ 1003 := ⟨_, rfl, by rw [ByteArray.size_append]; show tR.size + 3 ≤ 1003; omega⟩
  obtain ⟨q2, hq2, zq2⟩ : ∃ q : ByteArray, Hid (q = q1 ++ tA) ∧ q.size ≤ 2003 := ⟨_, rfl, by rw [ByteArray.size_append]; show q1.size + tA.size ≤ 2003; omega⟩
  have S100 : Bk w0.drew w.heap.size #[.int .i64 5, .int .i64 r, .int .i64 l, .int .i64 ar, .int .i64 av, .int .i64 o, .int .i64 br, .int .i64 bv, .int .i64 n] := B0
  have K100 : On w w0.drew := (HK0.out).drew
  refine region_fz (fun W => Bk W w.heap.size #[.int .i64 5, .int .i64 r, .int .i64 l, .int .i64 ar, .int .i64 av, .int .i64 o, .int .i64 br, .int .i64 bv, .int .i64 n]) [] 9 (by kernel_rfl) rfl ?_
  refine fz_take 0 (v := ?_) rfl (by kernel_rfl) (by kernel_rfl) (by kernel_rfl) (by kernel_rfl) (fun _ _ _ h => h) rfl ?_ S100 ?_
  rotate_left
  · intro W hW
    go_simp
    (try with_reducible rfl)
  simp only [Act.put, List.setIfInBounds_toArray, List.set_cons_zero, List.set_cons_succ]
  refine fz_take 1 (v := ?_) rfl (by kernel_rfl) (by kernel_rfl) (by kernel_rfl) (by kernel_rfl) (fun _ _ _ h => h) rfl ?_ S100 ?_
  rotate_left
  · intro W hW
    have c1 := hW.at (i := 1) rfl
    have ll := hW.lt
    go_simp
    (try with_reducible rfl)
  simp only [Act.put, List.setIfInBounds_toArray, List.set_cons_zero, List.set_cons_succ]
  refine fz_take 4 (v := ?_) rfl (by kernel_rfl) (by kernel_rfl) (by kernel_rfl) (by kernel_rfl) (fun _ _ _ h => h) rfl ?_ S100 ?_
  rotate_left
  · intro W hW
    go_simp
    (try with_reducible rfl)
  simp only [Act.put, List.setIfInBounds_toArray, List.set_cons_zero, List.set_cons_succ]
  refine fz_take 5 (v := ?_) rfl (by kernel_rfl) (by kernel_rfl) (by kernel_rfl) (by kernel_rfl) (fun _ _ _ h => h) rfl ?_ S100 ?_
  rotate_left
  · intro W hW
    have c3 := hW.at (i := 3) rfl
    have c4 := hW.at (i := 4) rfl
    have ll := hW.lt
    go_simp
    (try with_reducible rfl)
  simp only [Act.put, List.setIfInBounds_toArray, List.set_cons_zero, List.set_cons_succ]
  refine fz_one 2 rfl rfl (by kernel_rfl) (fun K hK => ?_)
  go_simp
  refine (hR _).mono ?_
  rintro _ w1 ⟨rfl, k1⟩
  have B1 := Bk.on S100 k1
  have K1 := On.trans K100 k1
  refine hK.out _ _ (fun _ => B1) ?_
  clear hK
  refine fz_take 3 (v := .string q1) rfl (by kernel_rfl) (by kernel_rfl) (by kernel_rfl) (by kernel_rfl) (fun _ _ _ h => h) rfl ?_ B1 ?_
  · intro W hW
    go_simp
    first
    | rw [if_neg (by omega), hq1.out]
    | rw [hq1.out]
  simp only [Act.put, List.setIfInBounds_toArray, List.set_cons_zero, List.set_cons_succ]
  refine fz_one 6 rfl rfl (by kernel_rfl) (fun K hK => ?_)
  go_simp
  refine (hA _).mono ?_
  rintro _ w2 ⟨rfl, k2⟩
  have B2 := Bk.on B1 k2
  have K2 := On.trans K1 k2
  refine hK.out _ _ (fun _ => B2) ?_
  clear hK
  refine fz_take 7 (v := .string q2) rfl (by kernel_rfl) (by kernel_rfl) (by kernel_rfl) (by kernel_rfl) (fun _ _ _ h => h) rfl ?_ B2 ?_
  · intro W hW
    go_simp
    first
    | rw [if_neg (by omega), hq2.out]
    | rw [hq2.out]
  simp only [Act.put, List.setIfInBounds_toArray, List.set_cons_zero, List.set_cons_succ]
  refine fz_take 8 (v := ?_) rfl (by kernel_rfl) (by kernel_rfl) (by kernel_rfl) (by kernel_rfl) (fun _ _ _ h => h) rfl ?_ B2 ?_
  rotate_left
  · intro W hW
    go_simp
    (try with_reducible rfl)
  simp only [Act.put, List.setIfInBounds_toArray, List.set_cons_zero, List.set_cons_succ]
  refine fz_done (by kernel_rfl) (NoPanic.normal ?_)
  have x5 := B2.at (i := 5) rfl
  have xl := B2.lt
  go_wp2
  go_ret
  exact ⟨by rw [← hq1.out, ← hq2.out]; rfl, K2⟩
set_option maxHeartbeats 2000000 in
set_option maxRecDepth 8000 in
theorem rpr_op (r l ar av o br bv n : Int) (tR tA tG tB : ByteArray) (ho : 0 < o) (w : World) (hO : ∀ W, Calls Tryz.prog 68 #[.agg #[.int .i64 5, .int .i64 r, .int .i64 l, .int .i64 ar, .int .i64 av, .int .i64 o, .int .i64 br, .int .i64 bv, .int .i64 n]] W fun e w' => e = .returned (.bool true) ∧ On W w') (sR : tR.size ≤ 1000) (sA : tA.size ≤ 1000) (sG : tG.size ≤ 1000) (sB : tB.size ≤ 1000) (hR : ∀ W, Calls Tryz.prog 70 #[.int .i64 r] W fun e w' => e = .returned (.string tR) ∧ On W w') (hA : ∀ W, Calls Tryz.prog 69 #[.agg #[.int .i64 ar, .int .i64 av]] W fun e w' => e = .returned (.string tA) ∧ On W w') (hG : ∀ W, Calls Tryz.prog 71 #[.int .i64 o] W fun e w' => e = .returned (.string tG) ∧ On W w') (hB : ∀ W, Calls Tryz.prog 69 #[.agg #[.int .i64 br, .int .i64 bv]] W fun e w' => e = .returned (.string tB) ∧ On W w') :
    Calls Tryz.prog 26 #[.agg #[.int .i64 5, .int .i64 r, .int .i64 l, .int .i64 ar, .int .i64 av, .int .i64 o, .int .i64 br, .int .i64 bv, .int .i64 n]] w fun e w' => e = .returned (.string (tR ++ (⟨#[32, 61, 32]⟩ : ByteArray) ++ tA ++ (⟨#[32]⟩ : ByteArray) ++ tG ++ (⟨#[32]⟩ : ByteArray) ++ tB ++ (⟨#[32, 59]⟩ : ByteArray))) ∧ On w w' := by
  have k0 : ∀ T, On w (w.alloc T) := fun T => (On.refl w).alloc T
  have bk : ∀ cs T, Bk (w.alloc (.cells cs T)) w.heap.size cs := fun cs T => Bk.new w cs T
  go_enter Tryz.func26, Tryz.ntmps26
  go_wp2_with fail
  refine (hO _).mono ?_
  rintro _ w0 ⟨rfl, k1⟩
  have B0 : Bk w0 w.heap.size #[.int .i64 5, .int .i64 r, .int .i64 l, .int .i64 ar, .int .i64 av, .int .i64 o, .int .i64 br, .int .i64 bv, .int .i64 n] := (bk _ _).on k1
  have HK0 : Hid (On w w0) := (k0 _).trans k1
  have x0 := B0.at (i := 0) rfl
  have x5 := B0.at (i := 5) rfl
  have xl := B0.lt
  clear k1 bk k0 hO
  go_wp2
  clear x0 x5 xl
  obtain ⟨q1, hq1, zq1⟩ : ∃ q : ByteArray, Hid (q = tR ++ (⟨#[32, 61, 32]⟩ : ByteArray)) ∧ q.size ≤ 1003 := ⟨_, rfl, by rw [ByteArray.size_append]; show tR.size + 3 ≤ 1003; omega⟩
  obtain ⟨q2, hq2, zq2⟩ : ∃ q : ByteArray, Hid (q = q1 ++ tA) ∧ q.size ≤ 2003 := ⟨_, rfl, by rw [ByteArray.size_append]; show q1.size + tA.size ≤ 2003; omega⟩
  have S100 : Bk w0.drew w.heap.size #[.int .i64 5, .int .i64 r, .int .i64 l, .int .i64 ar, .int .i64 av, .int .i64 o, .int .i64 br, .int .i64 bv, .int .i64 n] := B0
  have K100 : On w w0.drew := (HK0.out).drew
  refine region_fz (fun W => Bk W w.heap.size #[.int .i64 5, .int .i64 r, .int .i64 l, .int .i64 ar, .int .i64 av, .int .i64 o, .int .i64 br, .int .i64 bv, .int .i64 n]) [] 9 (by kernel_rfl) rfl ?_
  refine fz_take 0 (v := ?_) rfl (by kernel_rfl) (by kernel_rfl) (by kernel_rfl) (by kernel_rfl) (fun _ _ _ h => h) rfl ?_ S100 ?_
  rotate_left
  · intro W hW
    go_simp
    (try with_reducible rfl)
  simp only [Act.put, List.setIfInBounds_toArray, List.set_cons_zero, List.set_cons_succ]
  refine fz_take 1 (v := ?_) rfl (by kernel_rfl) (by kernel_rfl) (by kernel_rfl) (by kernel_rfl) (fun _ _ _ h => h) rfl ?_ S100 ?_
  rotate_left
  · intro W hW
    have c1 := hW.at (i := 1) rfl
    have ll := hW.lt
    go_simp
    (try with_reducible rfl)
  simp only [Act.put, List.setIfInBounds_toArray, List.set_cons_zero, List.set_cons_succ]
  refine fz_take 4 (v := ?_) rfl (by kernel_rfl) (by kernel_rfl) (by kernel_rfl) (by kernel_rfl) (fun _ _ _ h => h) rfl ?_ S100 ?_
  rotate_left
  · intro W hW
    go_simp
    (try with_reducible rfl)
  simp only [Act.put, List.setIfInBounds_toArray, List.set_cons_zero, List.set_cons_succ]
  refine fz_take 5 (v := ?_) rfl (by kernel_rfl) (by kernel_rfl) (by kernel_rfl) (by kernel_rfl) (fun _ _ _ h => h) rfl ?_ S100 ?_
  rotate_left
  · intro W hW
    have c3 := hW.at (i := 3) rfl
    have c4 := hW.at (i := 4) rfl
    have ll := hW.lt
    go_simp
    (try with_reducible rfl)
  simp only [Act.put, List.setIfInBounds_toArray, List.set_cons_zero, List.set_cons_succ]
  refine fz_one 2 rfl rfl (by kernel_rfl) (fun K hK => ?_)
  go_simp
  refine (hR _).mono ?_
  rintro _ w1 ⟨rfl, k1⟩
  have B1 := Bk.on S100 k1
  have K1 := On.trans K100 k1
  refine hK.out _ _ (fun _ => B1) ?_
  clear hK
  refine fz_take 3 (v := .string q1) rfl (by kernel_rfl) (by kernel_rfl) (by kernel_rfl) (by kernel_rfl) (fun _ _ _ h => h) rfl ?_ B1 ?_
  · intro W hW
    go_simp
    first
    | rw [if_neg (by omega), hq1.out]
    | rw [hq1.out]
  simp only [Act.put, List.setIfInBounds_toArray, List.set_cons_zero, List.set_cons_succ]
  refine fz_one 6 rfl rfl (by kernel_rfl) (fun K hK => ?_)
  go_simp
  refine (hA _).mono ?_
  rintro _ w2 ⟨rfl, k2⟩
  have B2 := Bk.on B1 k2
  have K2 := On.trans K1 k2
  refine hK.out _ _ (fun _ => B2) ?_
  clear hK
  refine fz_take 7 (v := .string q2) rfl (by kernel_rfl) (by kernel_rfl) (by kernel_rfl) (by kernel_rfl) (fun _ _ _ h => h) rfl ?_ B2 ?_
  · intro W hW
    go_simp
    first
    | rw [if_neg (by omega), hq2.out]
    | rw [hq2.out]
  simp only [Act.put, List.setIfInBounds_toArray, List.set_cons_zero, List.set_cons_succ]
  refine fz_take 8 (v := ?_) rfl (by kernel_rfl) (by kernel_rfl) (by kernel_rfl) (by kernel_rfl) (fun _ _ _ h => h) rfl ?_ B2 ?_
  rotate_left
  · intro W hW
    go_simp
    (try with_reducible rfl)
  simp only [Act.put, List.setIfInBounds_toArray, List.set_cons_zero, List.set_cons_succ]
  refine fz_done (by kernel_rfl) (NoPanic.normal ?_)
  have x5 := B2.at (i := 5) rfl
  have xl := B2.lt
  go_wp2
  clear x5 xl
  obtain ⟨q3, hq3, zq3⟩ : ∃ q : ByteArray, Hid (q = q2 ++ (⟨#[32]⟩ : ByteArray)) ∧ q.size ≤ 2004 := ⟨_, rfl, by rw [ByteArray.size_append]; show q2.size + 1 ≤ 2004; omega⟩
  obtain ⟨q4, hq4, zq4⟩ : ∃ q : ByteArray, Hid (q = q3 ++ tG) ∧ q.size ≤ 3004 := ⟨_, rfl, by rw [ByteArray.size_append]; show q3.size + tG.size ≤ 3004; omega⟩
  obtain ⟨q5, hq5, zq5⟩ : ∃ q : ByteArray, Hid (q = q4 ++ (⟨#[32]⟩ : ByteArray)) ∧ q.size ≤ 3005 := ⟨_, rfl, by rw [ByteArray.size_append]; show q4.size + 1 ≤ 3005; omega⟩
  obtain ⟨q6, hq6, zq6⟩ : ∃ q : ByteArray, Hid (q = q5 ++ tB) ∧ q.size ≤ 4005 := ⟨_, rfl, by rw [ByteArray.size_append]; show q5.size + tB.size ≤ 4005; omega⟩
  have S101 : Bk w2.drew w.heap.size #[.int .i64 5, .int .i64 r, .int .i64 l, .int .i64 ar, .int .i64 av, .int .i64 o, .int .i64 br, .int .i64 bv, .int .i64 n] := B2
  have K101 : On w w2.drew := (K2).drew
  refine region_fz (fun W => Bk W w.heap.size #[.int .i64 5, .int .i64 r, .int .i64 l, .int .i64 ar, .int .i64 av, .int .i64 o, .int .i64 br, .int .i64 bv, .int .i64 n]) [] 12 (by kernel_rfl) rfl ?_
  refine fz_take 0 (v := ?_) rfl (by kernel_rfl) (by kernel_rfl) (by kernel_rfl) (by kernel_rfl) (fun _ _ _ h => h) rfl ?_ S101 ?_
  rotate_left
  · intro W hW
    go_simp
    (try with_reducible rfl)
  simp only [Act.put, List.setIfInBounds_toArray, List.set_cons_zero, List.set_cons_succ]
  refine fz_take 1 (v := .string q3) rfl (by kernel_rfl) (by kernel_rfl) (by kernel_rfl) (by kernel_rfl) (fun _ _ _ h => h) rfl ?_ S101 ?_
  · intro W hW
    go_simp
    first
    | rw [if_neg (by omega), hq3.out]
    | rw [hq3.out]
  simp only [Act.put, List.setIfInBounds_toArray, List.set_cons_zero, List.set_cons_succ]
  refine fz_take 2 (v := ?_) rfl (by kernel_rfl) (by kernel_rfl) (by kernel_rfl) (by kernel_rfl) (fun _ _ _ h => h) rfl ?_ S101 ?_
  rotate_left
  · intro W hW
    go_simp
    (try with_reducible rfl)
  simp only [Act.put, List.setIfInBounds_toArray, List.set_cons_zero, List.set_cons_succ]
  refine fz_take 3 (v := ?_) rfl (by kernel_rfl) (by kernel_rfl) (by kernel_rfl) (by kernel_rfl) (fun _ _ _ h => h) rfl ?_ S101 ?_
  rotate_left
  · intro W hW
    have c5 := hW.at (i := 5) rfl
    have ll := hW.lt
    go_simp
    (try with_reducible rfl)
  simp only [Act.put, List.setIfInBounds_toArray, List.set_cons_zero, List.set_cons_succ]
  refine fz_take 7 (v := ?_) rfl (by kernel_rfl) (by kernel_rfl) (by kernel_rfl) (by kernel_rfl) (fun _ _ _ h => h) rfl ?_ S101 ?_
  rotate_left
  · intro W hW
    go_simp
    (try with_reducible rfl)
  simp only [Act.put, List.setIfInBounds_toArray, List.set_cons_zero, List.set_cons_succ]
  refine fz_take 8 (v := ?_) rfl (by kernel_rfl) (by kernel_rfl) (by kernel_rfl) (by kernel_rfl) (fun _ _ _ h => h) rfl ?_ S101 ?_
  rotate_left
  · intro W hW
    have c6 := hW.at (i := 6) rfl
    have c7 := hW.at (i := 7) rfl
    have ll := hW.lt
    go_simp
    (try with_reducible rfl)
  simp only [Act.put, List.setIfInBounds_toArray, List.set_cons_zero, List.set_cons_succ]
  refine fz_one 4 rfl rfl (by kernel_rfl) (fun K hK => ?_)
  go_simp
  refine (hG _).mono ?_
  rintro _ w3 ⟨rfl, k3⟩
  have B3 := Bk.on S101 k3
  have K3 := On.trans K101 k3
  refine hK.out _ _ (fun _ => B3) ?_
  clear hK
  refine fz_take 5 (v := .string q4) rfl (by kernel_rfl) (by kernel_rfl) (by kernel_rfl) (by kernel_rfl) (fun _ _ _ h => h) rfl ?_ B3 ?_
  · intro W hW
    go_simp
    first
    | rw [if_neg (by omega), hq4.out]
    | rw [hq4.out]
  simp only [Act.put, List.setIfInBounds_toArray, List.set_cons_zero, List.set_cons_succ]
  refine fz_take 6 (v := .string q5) rfl (by kernel_rfl) (by kernel_rfl) (by kernel_rfl) (by kernel_rfl) (fun _ _ _ h => h) rfl ?_ B3 ?_
  · intro W hW
    go_simp
    first
    | rw [if_neg (by omega), hq5.out]
    | rw [hq5.out]
  simp only [Act.put, List.setIfInBounds_toArray, List.set_cons_zero, List.set_cons_succ]
  refine fz_one 9 rfl rfl (by kernel_rfl) (fun K hK => ?_)
  go_simp
  refine (hB _).mono ?_
  rintro _ w4 ⟨rfl, k4⟩
  have B4 := Bk.on B3 k4
  have K4 := On.trans K3 k4
  refine hK.out _ _ (fun _ => B4) ?_
  clear hK
  refine fz_take 10 (v := .string q6) rfl (by kernel_rfl) (by kernel_rfl) (by kernel_rfl) (by kernel_rfl) (fun _ _ _ h => h) rfl ?_ B4 ?_
  · intro W hW
    go_simp
    first
    | rw [if_neg (by omega), hq6.out]
    | rw [hq6.out]
  simp only [Act.put, List.setIfInBounds_toArray, List.set_cons_zero, List.set_cons_succ]
  refine fz_take 11 (v := ?_) rfl (by kernel_rfl) (by kernel_rfl) (by kernel_rfl) (by kernel_rfl) (fun _ _ _ h => h) rfl ?_ B4 ?_
  rotate_left
  · intro W hW
    go_simp
    (try with_reducible rfl)
  simp only [Act.put, List.setIfInBounds_toArray, List.set_cons_zero, List.set_cons_succ]
  refine fz_done (by kernel_rfl) (NoPanic.normal ?_)
  go_wp2
  go_ret
  exact ⟨by rw [← hq1.out, ← hq2.out, ← hq3.out, ← hq4.out, ← hq5.out, ← hq6.out]; rfl, K4⟩
end Go.Proofs.YtacflahkofmcpaaGreatDoor.Wl

namespace Go.Proofs.YtacflahkofmcpaaGreatDoor.Wl
open Go.RowKit
set_option linter.unusedSimpArgs false

theorem rnamed_is (n : Int) (w : World) :
    Calls Tryz.prog 67 #[.int .i64 n] w fun e w' => e = .returned (.bool (locOk n)) ∧ w' = w := by
  unfold locOk
  by_cases h0 : 97 ≤ n
  · by_cases h1 : n ≤ 122
    all_goals
      go_enter Tryz.func67, Tryz.ntmps67
      go_wp2
      all_goals (try go_ret)
      all_goals exact ⟨by simp [h0, h1], rfl⟩
  · go_enter Tryz.func67, Tryz.ntmps67
    go_wp2
    all_goals (try go_ret)
    all_goals exact ⟨by simp <;> omega, rfl⟩
theorem rlet_is (c : UInt8) (w : World) :
    Calls Tryz.prog 110 #[.int .u8 c.toNat] w fun e w' => e = .returned (.bool (locOk c.toNat)) ∧ w' = w := by
  unfold locOk
  generalize hn : ((c.toNat : Nat) : Int) = n
  clear hn
  by_cases h0 : 97 ≤ n
  · by_cases h1 : n ≤ 122
    all_goals
      go_enter Tryz.func110, Tryz.ntmps110
      go_wp2
      all_goals (try go_ret)
      all_goals exact ⟨by simp [h0, h1], rfl⟩
  · go_enter Tryz.func110, Tryz.ntmps110
    go_wp2
    all_goals (try go_ret)
    all_goals exact ⟨by simp <;> omega, rfl⟩
theorem rdig_is (c : UInt8) (w : World) :
    Calls Tryz.prog 111 #[.int .u8 c.toNat] w fun e w' => e = .returned (.bool (decide (48 ≤ c.toNat) && decide (c.toNat ≤ 57))) ∧ w' = w := by
  have e0 : decide (48 ≤ c.toNat) = decide ((48 : Int) ≤ (c.toNat : Nat)) := by simp; omega
  have e1 : decide (c.toNat ≤ 57) = decide (((c.toNat : Nat) : Int) ≤ 57) := by simp; omega
  rw [e0, e1]
  clear e0 e1
  generalize hn : ((c.toNat : Nat) : Int) = n
  clear hn
  by_cases h0 : 48 ≤ n
  · by_cases h1 : n ≤ 57
    all_goals
      go_enter Tryz.func111, Tryz.ntmps111
      go_wp2
      all_goals (try go_ret)
      all_goals exact ⟨by simp [h0, h1], rfl⟩
  · go_enter Tryz.func111, Tryz.ntmps111
    go_wp2
    all_goals (try go_ret)
    all_goals exact ⟨by simp <;> omega, rfl⟩
set_option maxHeartbeats 400000 in
theorem roperandOk_is (o : Opd) (w : World) :
    Calls Tryz.prog 112 #[.agg #[.int .i64 o.r, .int .i64 o.v]] w fun e w' => e = .returned (.bool (opdOk o)) ∧ On w w' := by
  obtain ⟨r, v⟩ := o
  unfold opdOk regOk
  simp only
  cases h1 : (r == -1) with
  | true =>
    go_enter Tryz.func112, Tryz.ntmps112
    go_wp2
    all_goals (try go_ret)
    all_goals exact ⟨by simp, (On.refl w).alloc _⟩
  | false =>
    by_cases h2 : 0 ≤ r
    · by_cases h3 : r ≤ 3
      · cases h4 : (v == 0) with
        | true =>
          go_enter Tryz.func112, Tryz.ntmps112
          go_wp2
          all_goals (try go_ret)
          all_goals exact ⟨by simp [h2, h3], (On.refl w).alloc _⟩
        | false =>
          go_enter Tryz.func112, Tryz.ntmps112
          go_wp2
          all_goals (try go_ret)
          all_goals exact ⟨by simp [h2, h3], (On.refl w).alloc _⟩
      · go_enter Tryz.func112, Tryz.ntmps112
        go_wp2
        all_goals (try go_ret)
        all_goals exact ⟨by simp [h2, h3], (On.refl w).alloc _⟩
    · go_enter Tryz.func112, Tryz.ntmps112
      go_wp2
      all_goals (try go_ret)
      all_goals exact ⟨by simp <;> omega, (On.refl w).alloc _⟩
end Go.Proofs.YtacflahkofmcpaaGreatDoor.Wl
