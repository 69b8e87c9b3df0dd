/- FinalOrders: ends stand in one order. -/
import Derived.Test.YteddggkelbpmaaaDoorAwake13
namespace Go.Proofs.YteddggkelbpmaaaDoor
open Go.RowKit

theorem wpList_fneSame {ops : Array Oper} {rest : List Oper} {o : Oper} {a : Act} {w : World} {Q : Exit → Act → World → Prop} (hw : Region.wanted o (yielded ops a.tmps) = true) {x y : Operand} {u : TypeId} (ho : o.op = .binOp .neq 26 x y u) {f : FinT} (hx : a.eval x = .agg (finA f)) (hy : a.eval y = .agg (finA f))
    (k : wpList Tryd.prog ops Q rest (a.put o.dst (.bool false)) w) : wpList Tryd.prog ops Q (o :: rest) a w := by
  refine wpList_fneG hw ho hx hy ?_
  rw [show (!decide (f = f)) = false by simp]
  exact k
set_option maxRecDepth 8000 in
set_option maxHeartbeats 4000000 in
theorem finalOrders_walk (f g h : FinT) (w : World) (hP : Pw w) : Calls Tryd.prog 6 #[.agg (finA f), .agg (finA g), .agg (finA h)] w fun e w' => e = .returned (.bool true) ∧ On w w' := by
  have HP : Hid (Pw w) := hP
  obtain ⟨W0, hW0⟩ : ∃ W0, W0 = ((w.alloc (.cells (finA f) 26)).alloc (.cells (finA g) 26)).alloc (.cells (finA h) 26) := ⟨_, rfl⟩
  have HW : Hid (W0 = ((w.alloc (.cells (finA f) 26)).alloc (.cells (finA g) 26)).alloc (.cells (finA h) 26)) := hW0
  have Bf : Bk W0 w.heap.size (finA f) := by rw [hW0]; exact ((Bk.new w _ _).alloc _).alloc _
  have Bg : Bk W0 (w.heap.size + 1) (finA g) := by rw [hW0]; exact (Bk.newAtF (by simp only [World.size_alloc]) _ _).alloc _
  have Bh : Bk W0 (w.heap.size + 1 + 1) (finA h) := by rw [hW0]; exact Bk.newAtF (by simp only [World.size_alloc]) _ _
  have Rf : Hid (∀ W, On W0 W → W.rangeAt w.heap.size 0 (finC f)) := fun W k => (Bf.on k).range
  have Rg : Hid (∀ W, On W0 W → W.rangeAt (w.heap.size + 1) 0 (finC g)) := fun W k => (Bg.on k).range
  have Rh : Hid (∀ W, On W0 W → W.rangeAt (w.heap.size + 1 + 1) 0 (finC h)) := fun W k => (Bh.on k).range
  have HO : Hid (On w W0) := by show On _ _; rw [hW0]; exact (((On.refl w).alloc _).alloc _).alloc _
  have S0 : On W0 W0.drew := (On.refl W0).drew
  clear hP hW0 Bf Bg Bh
  rcases Int.lt_trichotomy (finCmp f g) 0 with hc | hc | hc
  · have x1 : decide (finCmp f g < 0) = true := decide_eq_true hc
    have y1 : decide (finCmp g f < 0) = false := decide_eq_false (fin_asym hc)
    have cfg := fun W => fless_is f g W
    have cgf := fun W => fless_is g f W
    have cr := fun W => rless_is f g W
    have cff := fun W => fless_is f f W
    rw [x1] at cfg cr
    rw [y1] at cgf
    rw [decide_eq_false (fin_lt_irr f)] at cff
    have cgh := fun W => fless_is g h W
    have cfh := fun W => fless_is f h W
    have htr : finCmp g h < 0 → decide (finCmp f h < 0) = true := fun e => decide_eq_true (ord_fin.trans f g h hc e)
    have HA := fun W k => awake13_is W (HP.out.on (HO.out.trans k))
    clear hc
    go_enter Tryd.func6, Tryd.ntmps6
    go_wp2
    rw [← HW.out]
    refine region_fin (fun W => On W0 W) 99 8 (by kernel_rfl) rfl ?_
    refine fin_take 0 (v := .agg (finA f)) rfl (by kernel_rfl) (by kernel_rfl) (by kernel_rfl) (by kernel_rfl) (fun _ _ _ h => h) rfl (fun W hW => exec_fld rfl rfl (Rf.out W hW)) S0 ?_
    simp only [Act.put, List.setIfInBounds_toArray, List.set_cons_zero, List.set_cons_succ]
    refine fin_take 1 (v := .agg (finA g)) rfl (by kernel_rfl) (by kernel_rfl) (by kernel_rfl) (by kernel_rfl) (fun _ _ _ h => h) rfl (fun W hW => exec_fld rfl rfl (Rg.out W hW)) S0 ?_
    simp only [Act.put, List.setIfInBounds_toArray, List.set_cons_zero, List.set_cons_succ]
    refine fin_take 3 (v := .agg (finA g)) rfl (by kernel_rfl) (by kernel_rfl) (by kernel_rfl) (by kernel_rfl) (fun _ _ _ h => h) rfl (fun W hW => exec_fld rfl rfl (Rg.out W hW)) S0 ?_
    simp only [Act.put, List.setIfInBounds_toArray, List.set_cons_zero, List.set_cons_succ]
    refine fin_take 4 (v := .agg (finA f)) rfl (by kernel_rfl) (by kernel_rfl) (by kernel_rfl) (by kernel_rfl) (fun _ _ _ h => h) rfl (fun W hW => exec_fld rfl rfl (Rf.out W hW)) S0 ?_
    simp only [Act.put, List.setIfInBounds_toArray, List.set_cons_zero, List.set_cons_succ]
    refine fin_one 2 rfl rfl (by kernel_rfl) (fun K hK => ?_)
    go_simp
    refine (cfg _).mono ?_
    rintro _ w1 ⟨rfl, kw1⟩
    have Sw1 : On W0 w1 := (S0).trans kw1
    refine hK.out _ _ (fun _ => Sw1) ?_
    clear hK
    refine fin_one 5 rfl rfl (by kernel_rfl) (fun K hK => ?_)
    go_simp
    refine (cgf _).mono ?_
    rintro _ w2 ⟨rfl, kw2⟩
    have Sw2 : On W0 w2 := (Sw1).trans kw2
    refine hK.out _ _ (fun _ => Sw2) ?_
    clear hK
    refine fin_take 6 (v := ?_) rfl (by kernel_rfl) (by kernel_rfl) (by kernel_rfl) (by kernel_rfl) (fun _ _ _ h => h) rfl ?_ Sw2 ?_
    rotate_left
    · intro W hW
      go_simp
      (try with_reducible rfl)
    simp only [Act.put, List.setIfInBounds_toArray, List.set_cons_zero, List.set_cons_succ]
    refine fin_take 7 (v := ?_) rfl (by kernel_rfl) (by kernel_rfl) (by kernel_rfl) (by kernel_rfl) (fun _ _ _ h => h) rfl ?_ Sw2 ?_
    rotate_left
    · intro W hW
      go_simp
      (try with_reducible rfl)
    simp only [Act.put, List.setIfInBounds_toArray, List.set_cons_zero, List.set_cons_succ]
    refine fin_done (by kernel_rfl) (NoPanic.normal ?_)
    have rf2 := Rf.out _ Sw2
    have rg2 := Rg.out _ Sw2
    have rh2 := Rh.out _ Sw2
    go_wp2_with (first | (refine wpList_fld rfl rfl rfl rf2 ?_) | (refine wpList_fld rfl rfl rfl rg2 ?_) | (refine wpList_fld rfl rfl rfl rh2 ?_) | (refine wpList_fldG rfl rfl rfl rf2 ?_) | (refine wpList_fldG rfl rfl rfl rg2 ?_) | (refine wpList_fldG rfl rfl rfl rh2 ?_))
    refine (cr _).mono ?_
    rintro _ w3 ⟨rfl, kw3⟩
    have Sw3 : On W0 w3 := Sw2.trans kw3
    have rf3 := Rf.out _ Sw3
    have rg3 := Rg.out _ Sw3
    have rh3 := Rh.out _ Sw3
    clear rf2 rg2 rh2
    go_wp2_with (first | (refine wpList_fld rfl rfl rfl rf3 ?_) | (refine wpList_fld rfl rfl rfl rg3 ?_) | (refine wpList_fld rfl rfl rfl rh3 ?_) | (refine wpList_fldG rfl rfl rfl rf3 ?_) | (refine wpList_fldG rfl rfl rfl rg3 ?_) | (refine wpList_fldG rfl rfl rfl rh3 ?_))
    refine (cff _).mono ?_
    rintro _ w4 ⟨rfl, kw4⟩
    have Sw4 : On W0 w4 := Sw3.trans kw4
    have rf4 := Rf.out _ Sw4
    have rg4 := Rg.out _ Sw4
    have rh4 := Rh.out _ Sw4
    clear rf3 rg3 rh3
    by_cases h2 : finCmp g h < 0
    · rw [decide_eq_true h2] at cgh
      rw [htr h2] at cfh
      clear h2 htr
      go_wp2_with (first | (refine wpList_fld rfl rfl rfl rf4 ?_) | (refine wpList_fld rfl rfl rfl rg4 ?_) | (refine wpList_fld rfl rfl rfl rh4 ?_) | (refine wpList_fldG rfl rfl rfl rf4 ?_) | (refine wpList_fldG rfl rfl rfl rg4 ?_) | (refine wpList_fldG rfl rfl rfl rh4 ?_))
      refine (cgh _).mono ?_
      rintro _ w5 ⟨rfl, kw5⟩
      have Sw5 : On W0 w5 := Sw4.trans kw5
      have rf5 := Rf.out _ Sw5
      have rg5 := Rg.out _ Sw5
      have rh5 := Rh.out _ Sw5
      clear rf4 rg4 rh4
      go_wp2_with (first | (refine wpList_fld rfl rfl rfl rf5 ?_) | (refine wpList_fld rfl rfl rfl rg5 ?_) | (refine wpList_fld rfl rfl rfl rh5 ?_) | (refine wpList_fldG rfl rfl rfl rf5 ?_) | (refine wpList_fldG rfl rfl rfl rg5 ?_) | (refine wpList_fldG rfl rfl rfl rh5 ?_))
      refine (cfh _).mono ?_
      rintro _ w6 ⟨rfl, kw6⟩
      have Sw6 : On W0 w6 := Sw5.trans kw6
      have rf6 := Rf.out _ Sw6
      have rg6 := Rg.out _ Sw6
      have rh6 := Rh.out _ Sw6
      clear rf5 rg5 rh5
      go_wp2_with fail
      refine (HA _ Sw6).mono ?_
      rintro _ w7 ⟨rfl, k7⟩
      go_wp2
      go_ret
      exact ⟨rfl, (HO.out.trans Sw6).trans k7⟩
    · rw [decide_eq_false h2] at cgh
      clear h2 htr cfh
      go_wp2_with (first | (refine wpList_fld rfl rfl rfl rf4 ?_) | (refine wpList_fld rfl rfl rfl rg4 ?_) | (refine wpList_fld rfl rfl rfl rh4 ?_) | (refine wpList_fldG rfl rfl rfl rf4 ?_) | (refine wpList_fldG rfl rfl rfl rg4 ?_) | (refine wpList_fldG rfl rfl rfl rh4 ?_))
      refine (cgh _).mono ?_
      rintro _ w5 ⟨rfl, kw5⟩
      have Sw5 : On W0 w5 := Sw4.trans kw5
      have rf5 := Rf.out _ Sw5
      have rg5 := Rg.out _ Sw5
      have rh5 := Rh.out _ Sw5
      clear rf4 rg4 rh4
      go_wp2_with fail
      refine (HA _ Sw5).mono ?_
      rintro _ w7 ⟨rfl, k7⟩
      go_wp2
      go_ret
      exact ⟨rfl, (HO.out.trans Sw5).trans k7⟩
  · obtain rfl : f = g := (ord_fin.eq f g).1 hc
    have x1 : decide (finCmp f f < 0) = false := decide_eq_false (fin_lt_irr f)
    have cfg := fun W => fless_is f f W
    have cgf := fun W => fless_is f f W
    have cr := fun W => rless_is f f W
    have cff := fun W => fless_is f f W
    rw [x1] at cfg cr
    rw [x1] at cgf
    rw [decide_eq_false (fin_lt_irr f)] at cff
    have HA := fun W k => awake13_is W (HP.out.on (HO.out.trans k))
    clear hc
    go_enter Tryd.func6, Tryd.ntmps6
    go_wp2
    rw [← HW.out]
    refine region_fin (fun W => On W0 W) 99 8 (by kernel_rfl) rfl ?_
    refine fin_take 0 (v := .agg (finA f)) rfl (by kernel_rfl) (by kernel_rfl) (by kernel_rfl) (by kernel_rfl) (fun _ _ _ h => h) rfl (fun W hW => exec_fld rfl rfl (Rf.out W hW)) S0 ?_
    simp only [Act.put, List.setIfInBounds_toArray, List.set_cons_zero, List.set_cons_succ]
    refine fin_take 1 (v := .agg (finA f)) rfl (by kernel_rfl) (by kernel_rfl) (by kernel_rfl) (by kernel_rfl) (fun _ _ _ h => h) rfl (fun W hW => exec_fld rfl rfl (Rg.out W hW)) S0 ?_
    simp only [Act.put, List.setIfInBounds_toArray, List.set_cons_zero, List.set_cons_succ]
    refine fin_take 3 (v := .agg (finA f)) rfl (by kernel_rfl) (by kernel_rfl) (by kernel_rfl) (by kernel_rfl) (fun _ _ _ h => h) rfl (fun W hW => exec_fld rfl rfl (Rg.out W hW)) S0 ?_
    simp only [Act.put, List.setIfInBounds_toArray, List.set_cons_zero, List.set_cons_succ]
    refine fin_take 4 (v := .agg (finA f)) rfl (by kernel_rfl) (by kernel_rfl) (by kernel_rfl) (by kernel_rfl) (fun _ _ _ h => h) rfl (fun W hW => exec_fld rfl rfl (Rf.out W hW)) S0 ?_
    simp only [Act.put, List.setIfInBounds_toArray, List.set_cons_zero, List.set_cons_succ]
    refine fin_one 2 rfl rfl (by kernel_rfl) (fun K hK => ?_)
    go_simp
    refine (cfg _).mono ?_
    rintro _ w1 ⟨rfl, kw1⟩
    have Sw1 : On W0 w1 := (S0).trans kw1
    refine hK.out _ _ (fun _ => Sw1) ?_
    clear hK
    refine fin_one 5 rfl rfl (by kernel_rfl) (fun K hK => ?_)
    go_simp
    refine (cgf _).mono ?_
    rintro _ w2 ⟨rfl, kw2⟩
    have Sw2 : On W0 w2 := (Sw1).trans kw2
    refine hK.out _ _ (fun _ => Sw2) ?_
    clear hK
    refine fin_take 6 (v := ?_) rfl (by kernel_rfl) (by kernel_rfl) (by kernel_rfl) (by kernel_rfl) (fun _ _ _ h => h) rfl ?_ Sw2 ?_
    rotate_left
    · intro W hW
      go_simp
      (try with_reducible rfl)
    simp only [Act.put, List.setIfInBounds_toArray, List.set_cons_zero, List.set_cons_succ]
    refine fin_take 7 (v := ?_) rfl (by kernel_rfl) (by kernel_rfl) (by kernel_rfl) (by kernel_rfl) (fun _ _ _ h => h) rfl ?_ Sw2 ?_
    rotate_left
    · intro W hW
      go_simp
      (try with_reducible rfl)
    simp only [Act.put, List.setIfInBounds_toArray, List.set_cons_zero, List.set_cons_succ]
    refine fin_done (by kernel_rfl) (NoPanic.normal ?_)
    have rf2 := Rf.out _ Sw2
    have rg2 := Rg.out _ Sw2
    have rh2 := Rh.out _ Sw2
    go_wp2_with (first | (refine wpList_fld rfl rfl rfl rf2 ?_) | (refine wpList_fld rfl rfl rfl rg2 ?_) | (refine wpList_fld rfl rfl rfl rh2 ?_) | (refine wpList_fldG rfl rfl rfl rf2 ?_) | (refine wpList_fldG rfl rfl rfl rg2 ?_) | (refine wpList_fldG rfl rfl rfl rh2 ?_) | (refine wpList_fneSame rfl rfl rfl rfl ?_))
    refine (cr _).mono ?_
    rintro _ w3 ⟨rfl, kw3⟩
    have Sw3 : On W0 w3 := Sw2.trans kw3
    have rf3 := Rf.out _ Sw3
    have rg3 := Rg.out _ Sw3
    have rh3 := Rh.out _ Sw3
    clear rf2 rg2 rh2
    go_wp2_with (first | (refine wpList_fld rfl rfl rfl rf3 ?_) | (refine wpList_fld rfl rfl rfl rg3 ?_) | (refine wpList_fld rfl rfl rfl rh3 ?_) | (refine wpList_fldG rfl rfl rfl rf3 ?_) | (refine wpList_fldG rfl rfl rfl rg3 ?_) | (refine wpList_fldG rfl rfl rfl rh3 ?_) | (refine wpList_fneSame rfl rfl rfl rfl ?_))
    refine (cff _).mono ?_
    rintro _ w4 ⟨rfl, kw4⟩
    have Sw4 : On W0 w4 := Sw3.trans kw4
    have rf4 := Rf.out _ Sw4
    have rg4 := Rg.out _ Sw4
    have rh4 := Rh.out _ Sw4
    clear rf3 rg3 rh3
    go_wp2_with fail
    refine (HA _ Sw4).mono ?_
    rintro _ w7 ⟨rfl, k7⟩
    go_wp2
    go_ret
    exact ⟨rfl, (HO.out.trans Sw4).trans k7⟩
  · have hgf : finCmp g f < 0 := by rw [ord_fin.anti f g]; omega
    have x1 : decide (finCmp f g < 0) = false := decide_eq_false (fin_asym hgf)
    have y1 : decide (finCmp g f < 0) = true := decide_eq_true hgf
    have cfg := fun W => fless_is f g W
    have cgf := fun W => fless_is g f W
    have cr := fun W => rless_is f g W
    have cff := fun W => fless_is f f W
    rw [x1] at cfg cr
    rw [y1] at cgf
    rw [decide_eq_false (fin_lt_irr f)] at cff
    have HA := fun W k => awake13_is W (HP.out.on (HO.out.trans k))
    clear hc hgf
    go_enter Tryd.func6, Tryd.ntmps6
    go_wp2
    rw [← HW.out]
    refine region_fin (fun W => On W0 W) 99 8 (by kernel_rfl) rfl ?_
    refine fin_take 0 (v := .agg (finA f)) rfl (by kernel_rfl) (by kernel_rfl) (by kernel_rfl) (by kernel_rfl) (fun _ _ _ h => h) rfl (fun W hW => exec_fld rfl rfl (Rf.out W hW)) S0 ?_
    simp only [Act.put, List.setIfInBounds_toArray, List.set_cons_zero, List.set_cons_succ]
    refine fin_take 1 (v := .agg (finA g)) rfl (by kernel_rfl) (by kernel_rfl) (by kernel_rfl) (by kernel_rfl) (fun _ _ _ h => h) rfl (fun W hW => exec_fld rfl rfl (Rg.out W hW)) S0 ?_
    simp only [Act.put, List.setIfInBounds_toArray, List.set_cons_zero, List.set_cons_succ]
    refine fin_take 3 (v := .agg (finA g)) rfl (by kernel_rfl) (by kernel_rfl) (by kernel_rfl) (by kernel_rfl) (fun _ _ _ h => h) rfl (fun W hW => exec_fld rfl rfl (Rg.out W hW)) S0 ?_
    simp only [Act.put, List.setIfInBounds_toArray, List.set_cons_zero, List.set_cons_succ]
    refine fin_take 4 (v := .agg (finA f)) rfl (by kernel_rfl) (by kernel_rfl) (by kernel_rfl) (by kernel_rfl) (fun _ _ _ h => h) rfl (fun W hW => exec_fld rfl rfl (Rf.out W hW)) S0 ?_
    simp only [Act.put, List.setIfInBounds_toArray, List.set_cons_zero, List.set_cons_succ]
    refine fin_one 2 rfl rfl (by kernel_rfl) (fun K hK => ?_)
    go_simp
    refine (cfg _).mono ?_
    rintro _ w1 ⟨rfl, kw1⟩
    have Sw1 : On W0 w1 := (S0).trans kw1
    refine hK.out _ _ (fun _ => Sw1) ?_
    clear hK
    refine fin_one 5 rfl rfl (by kernel_rfl) (fun K hK => ?_)
    go_simp
    refine (cgf _).mono ?_
    rintro _ w2 ⟨rfl, kw2⟩
    have Sw2 : On W0 w2 := (Sw1).trans kw2
    refine hK.out _ _ (fun _ => Sw2) ?_
    clear hK
    refine fin_take 6 (v := ?_) rfl (by kernel_rfl) (by kernel_rfl) (by kernel_rfl) (by kernel_rfl) (fun _ _ _ h => h) rfl ?_ Sw2 ?_
    rotate_left
    · intro W hW
      go_simp
      (try with_reducible rfl)
    simp only [Act.put, List.setIfInBounds_toArray, List.set_cons_zero, List.set_cons_succ]
    refine fin_take 7 (v := ?_) rfl (by kernel_rfl) (by kernel_rfl) (by kernel_rfl) (by kernel_rfl) (fun _ _ _ h => h) rfl ?_ Sw2 ?_
    rotate_left
    · intro W hW
      go_simp
      (try with_reducible rfl)
    simp only [Act.put, List.setIfInBounds_toArray, List.set_cons_zero, List.set_cons_succ]
    refine fin_done (by kernel_rfl) (NoPanic.normal ?_)
    have rf2 := Rf.out _ Sw2
    have rg2 := Rg.out _ Sw2
    have rh2 := Rh.out _ Sw2
    go_wp2_with (first | (refine wpList_fld rfl rfl rfl rf2 ?_) | (refine wpList_fld rfl rfl rfl rg2 ?_) | (refine wpList_fld rfl rfl rfl rh2 ?_) | (refine wpList_fldG rfl rfl rfl rf2 ?_) | (refine wpList_fldG rfl rfl rfl rg2 ?_) | (refine wpList_fldG rfl rfl rfl rh2 ?_))
    refine (cr _).mono ?_
    rintro _ w3 ⟨rfl, kw3⟩
    have Sw3 : On W0 w3 := Sw2.trans kw3
    have rf3 := Rf.out _ Sw3
    have rg3 := Rg.out _ Sw3
    have rh3 := Rh.out _ Sw3
    clear rf2 rg2 rh2
    go_wp2_with (first | (refine wpList_fld rfl rfl rfl rf3 ?_) | (refine wpList_fld rfl rfl rfl rg3 ?_) | (refine wpList_fld rfl rfl rfl rh3 ?_) | (refine wpList_fldG rfl rfl rfl rf3 ?_) | (refine wpList_fldG rfl rfl rfl rg3 ?_) | (refine wpList_fldG rfl rfl rfl rh3 ?_))
    refine (cff _).mono ?_
    rintro _ w4 ⟨rfl, kw4⟩
    have Sw4 : On W0 w4 := Sw3.trans kw4
    have rf4 := Rf.out _ Sw4
    have rg4 := Rg.out _ Sw4
    have rh4 := Rh.out _ Sw4
    clear rf3 rg3 rh3
    go_wp2_with fail
    refine (HA _ Sw4).mono ?_
    rintro _ w7 ⟨rfl, k7⟩
    go_wp2
    go_ret
    exact ⟨rfl, (HO.out.trans Sw4).trans k7⟩
end Go.Proofs.YteddggkelbpmaaaDoor
