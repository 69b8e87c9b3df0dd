/- vm.step. -/
import Derived.Test.YtplihlmejnohnaaGreatDoorVmH
import Derived.Test.YtplihlmejnohnaaGreatDoorJ40VmE
namespace Go.Proofs.YtplihlmejnohnaaGreatDoor
open Go.RowKit

section
variable {o : Oper} {a : Act} {w : World} {Q : Exit → Act → World → Prop} {ops : Array Oper} {rest : List Oper} {x : Operand} {N : Nat} {y : InsT}
theorem wpList_ild (hgd : o.guard = none) (ho : o.op = .load 107 x) (hx : a.eval x = .pointer (some ⟨N, 0, none⟩)) (h : Tb w N (insC y).toArray 107) (k : wpList Tryz.prog ops Q rest (a.put o.dst (insV y)) w) : wpList Tryz.prog ops Q (o :: rest) a w :=
  wpList_load_mid hgd 107 x ho N 0 hx (insC y) _ h.whole fields_ins rfl (by exact ins_sz) k
end
/-- Behind a step of thread t, its number and the row of steps not yet. -/
def stepV (LL : List (List InsT)) (V : VmT) (t : Nat) (s : StT) : VmT := setLV (dmV V t s) t (afterP (threadP LL t) (V.l t) s.r)
set_option maxHeartbeats 8000000 in
set_option maxRecDepth 8000 in
theorem step_is (LL : List (List InsT)) (N t : Nat) (P0 P1 P2 : Value) (V : VmT) (w : World) (h : VmIn w N P0 P1 P2 V) (hp : ∀ W, OffV N w W → ProgRd W (.agg #[P0, P1, P2]) LL) (ht : t < 4) (hL : LOk LL) (hV : VOk LL V) (x : InsT) (hx : nxt LL V t = some x) :
    Calls Tryz.prog 38 #[ptV N, .int .i64 t] w fun e w' => e = .returned (stV (np (doneS V t x))) ∧ VmIn w' N P0 P1 P2 (stepV LL V t (doneS V t x)) ∧ OffV N w w' := by
  have HV : Hid (VmIn w N P0 P1 P2 V) := h
  have HP : Hid (∀ W, OffV N w W → ProgRd W (.agg #[P0, P1, P2]) LL) := hp
  obtain ⟨B, q, hN, hR⟩ := h
  have HN : Hid (Tb w N (vmA P0 P1 P2 V B q) 80) := hN
  have NE : Hid (N < w.heap.size) := hN.lt
  have b1 : (t : Int) < 4 := by omega
  have b2 : decide ((t : Int) < 0) = false := decide_eq_false (by omega)
  have b4 : (0 : Int) ≤ (t : Int) := by omega
  have cN := fun W (k : On w W) => pnext_is LL t (V.l t) (.agg #[P0, P1, P2]) W (hp W (OffV.of k))
  have cD := fun W (k : On w W) => vdo_is LL N t x P0 P1 P2 V W (HV.out.on k) ht hL hV hx
  have hx' : nextP (threadP LL t) (V.l t) = some x := hx
  rw [hx'] at cN
  simp only [nextV, Option.getD_some, Option.isSome_some] at cN
  unfold stepV
  generalize doneS V t x = s at *
  obtain ⟨sr, hsr⟩ : ∃ sr, sr = s.r := ⟨_, rfl⟩
  rw [← hsr]
  have HSR : Hid (sr = s.r) := hsr
  obtain ⟨W1, hW1⟩ : ∃ W1, W1 = w.alloc (.cells #[.int .i64 0, .int .i64 0, .int .i64 0, .int .i64 0, .int .i64 0, .int .i64 0, .int .i64 0] 39) := ⟨_, rfl⟩
  have K1 : Hid (On w W1) := by show On _ _; rw [hW1]; exact (On.refl w).alloc _
  have RB : Tb W1 w.heap.size (stC stZ).toArray 39 := by rw [hW1]; exact Tb.new w _ _
  clear hN hR hp hL hV hx hx' hsr
  unfold ptV at cD ⊢
  go_enter Tryz.func38, Tryz.ntmps38
  go_upto_region 1 with fail
  rw [← hW1]
  clear hW1
  have SA : On W1 W1.drew := (On.refl W1).drew
  refine region_fz (fun W => On W1 W) [] 18 (by kernel_rfl) rfl ?_
  refine fz_take 0 (v := ?_) rfl (by kernel_rfl) (by kernel_rfl) (by kernel_rfl) (by kernel_rfl) (fun _ _ _ h => h) rfl ?_ SA ?_
  rotate_left
  · intro W hW
    go_simp
    (try with_reducible rfl)
  simp only [Act.put, List.setIfInBounds_toArray, List.set_cons_zero, List.set_cons_succ]
  refine fz_take 1 (v := ?_) rfl (by kernel_rfl) (by kernel_rfl) (by kernel_rfl) (by kernel_rfl) (fun _ _ _ h => h) rfl ?_ SA ?_
  rotate_left
  · intro W hW
    go_simp
    (try with_reducible rfl)
  simp only [Act.put, List.setIfInBounds_toArray, List.set_cons_zero, List.set_cons_succ]
  refine fz_take 2 (v := ?_) rfl (by kernel_rfl) (by kernel_rfl) (by kernel_rfl) (by kernel_rfl) (fun _ _ _ h => h) rfl ?_ SA ?_
  rotate_left
  · intro W hW
    go_simp
    (try with_reducible rfl)
  simp only [Act.put, List.setIfInBounds_toArray, List.set_cons_zero, List.set_cons_succ]
  refine fz_take 3 (v := ?_) rfl (by kernel_rfl) (by kernel_rfl) (by kernel_rfl) (by kernel_rfl) (fun _ _ _ h => h) rfl ?_ SA ?_
  rotate_left
  · intro W hW
    have cP := HN.out.on (K1.out.trans hW)
    have c0 := cP.at (i := 0) (v := P0) rfl
    have c1 := cP.at (i := 1) (v := P1) rfl
    have c2 := cP.at (i := 2) (v := P2) rfl
    have cl := cP.lt
    go_simp
    (try with_reducible rfl)
  simp only [Act.put, List.setIfInBounds_toArray, List.set_cons_zero, List.set_cons_succ]
  refine fz_take 4 (v := ?_) rfl (by kernel_rfl) (by kernel_rfl) (by kernel_rfl) (by kernel_rfl) (fun _ _ _ h => h) rfl ?_ SA ?_
  rotate_left
  · intro W hW
    go_simp
    (try with_reducible rfl)
  simp only [Act.put, List.setIfInBounds_toArray, List.set_cons_zero, List.set_cons_succ]
  refine fz_take 5 (v := ?_) rfl (by kernel_rfl) (by kernel_rfl) (by kernel_rfl) (by kernel_rfl) (fun _ _ _ h => h) rfl ?_ SA ?_
  rotate_left
  · intro W hW
    go_simp
    (try with_reducible rfl)
  simp only [Act.put, List.setIfInBounds_toArray, List.set_cons_zero, List.set_cons_succ]
  refine fz_take 6 (v := ?_) rfl (by kernel_rfl) (by kernel_rfl) (by kernel_rfl) (by kernel_rfl) (fun _ _ _ h => h) rfl ?_ SA ?_
  rotate_left
  · intro W hW
    go_simp
    (try with_reducible rfl)
  simp only [Act.put, List.setIfInBounds_toArray, List.set_cons_zero, List.set_cons_succ]
  refine fz_take 7 (v := ?_) rfl (by kernel_rfl) (by kernel_rfl) (by kernel_rfl) (by kernel_rfl) (fun _ _ _ h => h) rfl ?_ SA ?_
  rotate_left
  · intro W hW
    go_simp
    (try with_reducible rfl)
  simp only [Act.put, List.setIfInBounds_toArray, List.set_cons_zero, List.set_cons_succ]
  refine fz_take 8 (v := ?_) rfl (by kernel_rfl) (by kernel_rfl) (by kernel_rfl) (by kernel_rfl) (fun _ _ _ h => h) rfl ?_ SA ?_
  rotate_left
  · intro W hW
    go_simp
    (try with_reducible rfl)
  simp only [Act.put, List.setIfInBounds_toArray, List.set_cons_zero, List.set_cons_succ]
  refine fz_take 9 (v := ?_) rfl (by kernel_rfl) (by kernel_rfl) (by kernel_rfl) (by kernel_rfl) (fun _ _ _ h => h) rfl ?_ SA ?_
  rotate_left
  · intro W hW
    go_simp
    (try with_reducible rfl)
  simp only [Act.put, List.setIfInBounds_toArray, List.set_cons_zero, List.set_cons_succ]
  refine fz_take 10 (v := locV (V.l t)) rfl (by kernel_rfl) (by kernel_rfl) (by kernel_rfl) (by kernel_rfl) (fun _ _ _ h => h) rfl (fun W hW => exec_loc rfl rfl (HN.out.on (K1.out.trans hW)) ht) SA ?_
  simp only [Act.put, List.setIfInBounds_toArray, List.set_cons_zero, List.set_cons_succ]
  refine fz_two 11 15 rfl rfl rfl rfl (by kernel_rfl) (fun K hK => ?_) (fun K hK => ?_)
  · go_simp
    refine (cN _ ((K1.out.trans SA))).mono ?_
    rintro _ wc ⟨rfl, kc⟩
    have SC : On W1 wc := SA.trans kc
    refine hK.out _ _ (fun _ => SC) ?_
    clear hK
    refine fz_take 12 (v := ?_) rfl (by kernel_rfl) (by kernel_rfl) (by kernel_rfl) (by kernel_rfl) (fun _ _ _ h => h) rfl ?_ SC ?_
    rotate_left
    · intro W hW
      go_simp
      (try with_reducible rfl)
    simp only [Act.put, List.setIfInBounds_toArray, List.set_cons_zero, List.set_cons_succ]
    refine fz_take 13 (v := ?_) rfl (by kernel_rfl) (by kernel_rfl) (by kernel_rfl) (by kernel_rfl) (fun _ _ _ h => h) rfl ?_ SC ?_
    rotate_left
    · intro W hW
      go_simp
      (try with_reducible rfl)
    simp only [Act.put, List.setIfInBounds_toArray, List.set_cons_zero, List.set_cons_succ]
    refine fz_take 14 (v := ?_) rfl (by kernel_rfl) (by kernel_rfl) (by kernel_rfl) (by kernel_rfl) (fun _ _ _ h => h) rfl ?_ SC ?_
    rotate_left
    · intro W hW
      go_simp
      (try with_reducible rfl)
    simp only [Act.put, List.setIfInBounds_toArray, List.set_cons_zero, List.set_cons_succ]
    refine fz_one 15 rfl rfl (by kernel_rfl) (fun K hK => ?_)
    refine wp_al rfl ins_zero (fun wa ka ba => ?_)
    have SL : On W1 wa := SC.trans ka
    have LA := SC.size
    refine hK.out _ _ (fun _ => SL) ?_
    clear hK
    refine fz_one 16 rfl rfl (by kernel_rfl) (fun K hK => ?_)
    refine wp_sto (cs := (insC x).toArray) rfl rfl rfl ba ins_sz rfl (insC_one _) (fun wi BI oi => ?_)
    have SI : On W1 wi := oi.on SL LA
    refine hK.out _ _ (fun _ => SI) ?_
    clear hK
    refine fz_take 17 (v := ?_) rfl (by kernel_rfl) (by kernel_rfl) (by kernel_rfl) (by kernel_rfl) (fun _ _ _ h => h) rfl ?_ SI ?_
    rotate_left
    · intro W hW
      go_simp
      (try with_reducible rfl)
    simp only [Act.put, List.setIfInBounds_toArray, List.set_cons_zero, List.set_cons_succ]
    refine fz_done (by kernel_rfl) (NoPanic.normal ?_)
    have HI : On w wi := K1.out.trans SI
    clear SA LA oi
    go_wp2_with (refine wpList_ild rfl rfl rfl BI ?_)
    refine (cD _ HI).mono ?_
    rintro _ w1 ⟨rfl, V1, O1⟩
    have NW : Hid (N < w.heap.size ∧ w.heap.size ≤ w1.heap.size ∧ w.heap.size < w1.heap.size) := ⟨NE.out, Nat.le_trans HI.size O1.size, Nat.lt_of_lt_of_le (RB.on SI).lt O1.size⟩
    go_wp2_with (refine wpList_al rfl rfl step_zero ?_)
    intro wa ka ba
    go_wp2_with (refine wpList_sto (cs := (stC (np s)).toArray) rfl rfl rfl rfl ba step_sz rfl (stC_one _) ?_)
    intro wj BJ oj
    have RJ := oj.tk ((O1.tk (RB.on SI) (by have := NW.out; omega)).on ka) (by have := NW.out; omega)
    have OJ : OffV N w wj := (((OffV.of HI).trans O1).trans (OffV.of ka)).fresh oj (by have := NW.out; omega)
    obtain ⟨B2, q2, N2, R2⟩ := (V1.on ka).offS oj ba (by have := NW.out; omega)
    have cT : ∀ W, On wj W → Calls Tryz.prog 67 #[.agg #[P0, P1, P2], .int .i64 t, locV (V.l t), .int .i64 sr] W fun e w' => e = .returned (locV (afterP (threadP LL t) (V.l t) sr)) ∧ On W w' := fun W k => after_is LL t (V.l t) sr _ W (HP.out W (OJ.trans (OffV.of k)))
    clear BI SI ka ba O1 V1 oj cN cD
    go_upto_region 3 with fail
    have SA : On wj wj.drew := (On.refl wj).drew
    refine region_fz (fun W => On wj W) [19] 20 (by kernel_rfl) rfl ?_
    refine fzd_take 8 0 (v := ?_) rfl (by kernel_rfl) (by kernel_rfl) (by kernel_rfl) (by kernel_rfl) (fun _ _ _ h => h) rfl ?_ SA ?_
    rotate_left
    · intro W hW
      go_simp
      (try with_reducible rfl)
    simp only [Act.put, List.setIfInBounds_toArray, List.set_cons_zero, List.set_cons_succ]
    refine fzd_take 8 1 (v := ?_) rfl (by kernel_rfl) (by kernel_rfl) (by kernel_rfl) (by kernel_rfl) (fun _ _ _ h => h) rfl ?_ SA ?_
    rotate_left
    · intro W hW
      go_simp
      (try with_reducible rfl)
    simp only [Act.put, List.setIfInBounds_toArray, List.set_cons_zero, List.set_cons_succ]
    refine fzd_take 8 2 (v := ?_) rfl (by kernel_rfl) (by kernel_rfl) (by kernel_rfl) (by kernel_rfl) (fun _ _ _ h => h) rfl ?_ SA ?_
    rotate_left
    · intro W hW
      go_simp
      (try with_reducible rfl)
    simp only [Act.put, List.setIfInBounds_toArray, List.set_cons_zero, List.set_cons_succ]
    refine fzd_take 8 3 (v := ?_) rfl (by kernel_rfl) (by kernel_rfl) (by kernel_rfl) (by kernel_rfl) (fun _ _ _ h => h) rfl ?_ SA ?_
    rotate_left
    · intro W hW
      go_simp
      (try with_reducible rfl)
    simp only [Act.put, List.setIfInBounds_toArray, List.set_cons_zero, List.set_cons_succ]
    refine fzd_take 8 4 (v := ?_) rfl (by kernel_rfl) (by kernel_rfl) (by kernel_rfl) (by kernel_rfl) (fun _ _ _ h => h) rfl ?_ SA ?_
    rotate_left
    · intro W hW
      go_simp
      (try with_reducible rfl)
    simp only [Act.put, List.setIfInBounds_toArray, List.set_cons_zero, List.set_cons_succ]
    refine fzd_take 8 5 (v := ?_) rfl (by kernel_rfl) (by kernel_rfl) (by kernel_rfl) (by kernel_rfl) (fun _ _ _ h => h) rfl ?_ SA ?_
    rotate_left
    · intro W hW
      have cP := N2.on hW
      have c0 := cP.at (i := 0) (v := P0) rfl
      have c1 := cP.at (i := 1) (v := P1) rfl
      have c2 := cP.at (i := 2) (v := P2) rfl
      have cl := cP.lt
      go_simp
      (try with_reducible rfl)
    simp only [Act.put, List.setIfInBounds_toArray, List.set_cons_zero, List.set_cons_succ]
    refine fzd_take 8 6 (v := ?_) rfl (by kernel_rfl) (by kernel_rfl) (by kernel_rfl) (by kernel_rfl) (fun _ _ _ h => h) rfl ?_ SA ?_
    rotate_left
    · intro W hW
      go_simp
      (try with_reducible rfl)
    simp only [Act.put, List.setIfInBounds_toArray, List.set_cons_zero, List.set_cons_succ]
    refine fzd_take 8 7 (v := ?_) rfl (by kernel_rfl) (by kernel_rfl) (by kernel_rfl) (by kernel_rfl) (fun _ _ _ h => h) rfl ?_ SA ?_
    rotate_left
    · intro W hW
      go_simp
      (try with_reducible rfl)
    simp only [Act.put, List.setIfInBounds_toArray, List.set_cons_zero, List.set_cons_succ]
    refine fzd_take 8 8 (v := ?_) rfl (by kernel_rfl) (by kernel_rfl) (by kernel_rfl) (by kernel_rfl) (fun _ _ _ h => h) rfl ?_ SA ?_
    rotate_left
    · intro W hW
      go_simp
      (try with_reducible rfl)
    simp only [Act.put, List.setIfInBounds_toArray, List.set_cons_zero, List.set_cons_succ]
    refine fzd_take 8 9 (v := ?_) rfl (by kernel_rfl) (by kernel_rfl) (by kernel_rfl) (by kernel_rfl) (fun _ _ _ h => h) rfl ?_ SA ?_
    rotate_left
    · intro W hW
      go_simp
      (try with_reducible rfl)
    simp only [Act.put, List.setIfInBounds_toArray, List.set_cons_zero, List.set_cons_succ]
    refine fzd_take 8 10 (v := ?_) rfl (by kernel_rfl) (by kernel_rfl) (by kernel_rfl) (by kernel_rfl) (fun _ _ _ h => h) rfl ?_ SA ?_
    rotate_left
    · intro W hW
      go_simp
      (try with_reducible rfl)
    simp only [Act.put, List.setIfInBounds_toArray, List.set_cons_zero, List.set_cons_succ]
    refine fzd_take 8 11 (v := ?_) rfl (by kernel_rfl) (by kernel_rfl) (by kernel_rfl) (by kernel_rfl) (fun _ _ _ h => h) rfl ?_ SA ?_
    rotate_left
    · intro W hW
      go_simp
      (try with_reducible rfl)
    simp only [Act.put, List.setIfInBounds_toArray, List.set_cons_zero, List.set_cons_succ]
    refine fzd_take 8 12 (v := locV (V.l t)) rfl (by kernel_rfl) (by kernel_rfl) (by kernel_rfl) (by kernel_rfl) (fun _ _ _ h => h) rfl (fun W hW => exec_loc (V := dmV V t s) rfl rfl (N2.on hW) ht) SA ?_
    simp only [Act.put, List.setIfInBounds_toArray, List.set_cons_zero, List.set_cons_succ]
    refine fzd_take 8 13 (v := ?_) rfl (by kernel_rfl) (by kernel_rfl) (by kernel_rfl) (by kernel_rfl) (fun _ _ _ h => h) rfl ?_ SA ?_
    rotate_left
    · intro W hW
      go_simp
      (try with_reducible rfl)
    simp only [Act.put, List.setIfInBounds_toArray, List.set_cons_zero, List.set_cons_succ]
    refine fzd_take 8 14 (v := ?_) rfl (by kernel_rfl) (by kernel_rfl) (by kernel_rfl) (by kernel_rfl) (fun _ _ _ h => h) rfl ?_ SA ?_
    rotate_left
    · intro W hW
      have q4 := (BJ.on hW).at (i := 4) (v := .int .i64 sr) (by rw [HSR.out]; rfl)
      have ql := (BJ.on hW).lt
      go_simp
      (try with_reducible rfl)
    simp only [Act.put, List.setIfInBounds_toArray, List.set_cons_zero, List.set_cons_succ]
    refine fzd_take 8 16 (v := ?_) rfl (by kernel_rfl) (by kernel_rfl) (by kernel_rfl) (by kernel_rfl) (fun _ _ _ h => h) rfl ?_ SA ?_
    rotate_left
    · intro W hW
      go_simp
      (try with_reducible rfl)
    simp only [Act.put, List.setIfInBounds_toArray, List.set_cons_zero, List.set_cons_succ]
    refine fzd_take 8 17 (v := ?_) rfl (by kernel_rfl) (by kernel_rfl) (by kernel_rfl) (by kernel_rfl) (fun _ _ _ h => h) rfl ?_ SA ?_
    rotate_left
    · intro W hW
      go_simp
      (try with_reducible rfl)
    simp only [Act.put, List.setIfInBounds_toArray, List.set_cons_zero, List.set_cons_succ]
    refine fz_one 15 rfl rfl (by kernel_rfl) (fun K hK => ?_)
    go_simp
    refine (cT _ SA).mono ?_
    rintro _ wc ⟨rfl, kwc⟩
    have SC : On wj wc := SA.trans kwc
    refine hK.out _ _ (fun _ => SC) ?_
    clear hK kwc
    refine fzd_take 8 18 (v := ?_) rfl (by kernel_rfl) (by kernel_rfl) (by kernel_rfl) (by kernel_rfl) (fun _ _ _ h => h) rfl ?_ SC ?_
    rotate_left
    · intro W hW
      go_simp
      (try with_reducible rfl)
    simp only [Act.put, List.setIfInBounds_toArray, List.set_cons_zero, List.set_cons_succ]
    refine fz_one 19 rfl rfl (by kernel_rfl) (fun K hK => ?_)
    refine wp_lst (l := afterP (threadP LL t) (V.l t) sr) rfl rfl rfl (N2.on SC) ht (fun wk TK ok => ?_)
    refine hK.out _ _ (fun hq => (hq (by simp)).elim) ?_
    clear hK
    refine fz_done (by kernel_rfl) (NoPanic.normal ?_)
    have R3 : VmR wk (setLV (dmV V t s) t (afterP (threadP LL t) (V.l t) sr)) B2 q2 := ⟨((R2.on SC).off ok (N2.on SC)).buf, ((R2.on SC).off ok (N2.on SC)).lst⟩
    have BK := ok.tk (BJ.on SC) (by have := NW.out; omega)
    have RK := ok.tk (RJ.on SC) (by have := NW.out; omega)
    have OK := (OJ.trans (OffV.of SC)).trans ok
    have VK : VmIn wk N P0 P1 P2 (setLV (dmV V t s) t (afterP (threadP LL t) (V.l t) sr)) := ⟨B2, q2, TK, R3⟩
    clear SA SC TK R3 ok R2 N2 BJ RJ OJ cT
    go_wp2_with (first | (refine wpList_sto (cs := (stC (np s)).toArray) rfl rfl rfl rfl RK step_sz rfl (stC_one _) ?_) | (refine wpList_sld rfl rfl rfl BK ?_))
    intro ws bs os
    go_wp2
    (try simp only [Exit.inBlock, Exit.then]); refine bodyPost_ret (res_step rfl rfl bs) rfl ?_
    exact ⟨rfl, VK.offS os RK (by have := NW.out; omega), OK.fresh os (Nat.le_refl _)⟩
  · refine wp_al rfl ins_zero (fun wa ka ba => ?_)
    have SL : On W1 wa := SA.trans ka
    have LA := SA.size
    refine hK.out _ _ (fun _ => SL) ?_
    clear hK
    refine fz_one 11 rfl rfl (by kernel_rfl) (fun K hK => ?_)
    go_simp
    refine (cN _ ((K1.out.trans SL))).mono ?_
    rintro _ wc ⟨rfl, kc⟩
    have SC : On W1 wc := SL.trans kc
    have BC := ba.on kc
    refine hK.out _ _ (fun _ => SC) ?_
    clear hK
    refine fz_take 12 (v := ?_) rfl (by kernel_rfl) (by kernel_rfl) (by kernel_rfl) (by kernel_rfl) (fun _ _ _ h => h) rfl ?_ SC ?_
    rotate_left
    · intro W hW
      go_simp
      (try with_reducible rfl)
    simp only [Act.put, List.setIfInBounds_toArray, List.set_cons_zero, List.set_cons_succ]
    refine fz_take 13 (v := ?_) rfl (by kernel_rfl) (by kernel_rfl) (by kernel_rfl) (by kernel_rfl) (fun _ _ _ h => h) rfl ?_ SC ?_
    rotate_left
    · intro W hW
      go_simp
      (try with_reducible rfl)
    simp only [Act.put, List.setIfInBounds_toArray, List.set_cons_zero, List.set_cons_succ]
    refine fz_take 14 (v := ?_) rfl (by kernel_rfl) (by kernel_rfl) (by kernel_rfl) (by kernel_rfl) (fun _ _ _ h => h) rfl ?_ SC ?_
    rotate_left
    · intro W hW
      go_simp
      (try with_reducible rfl)
    simp only [Act.put, List.setIfInBounds_toArray, List.set_cons_zero, List.set_cons_succ]
    refine fz_one 16 rfl rfl (by kernel_rfl) (fun K hK => ?_)
    refine wp_sto (cs := (insC x).toArray) rfl rfl rfl BC ins_sz rfl (insC_one _) (fun wi BI oi => ?_)
    have SI : On W1 wi := oi.on SC LA
    refine hK.out _ _ (fun _ => SI) ?_
    clear hK
    refine fz_take 17 (v := ?_) rfl (by kernel_rfl) (by kernel_rfl) (by kernel_rfl) (by kernel_rfl) (fun _ _ _ h => h) rfl ?_ SI ?_
    rotate_left
    · intro W hW
      go_simp
      (try with_reducible rfl)
    simp only [Act.put, List.setIfInBounds_toArray, List.set_cons_zero, List.set_cons_succ]
    refine fz_done (by kernel_rfl) (NoPanic.normal ?_)
    have HI : On w wi := K1.out.trans SI
    clear SA LA oi
    go_wp2_with (refine wpList_ild rfl rfl rfl BI ?_)
    refine (cD _ HI).mono ?_
    rintro _ w1 ⟨rfl, V1, O1⟩
    have NW : Hid (N < w.heap.size ∧ w.heap.size ≤ w1.heap.size ∧ w.heap.size < w1.heap.size) := ⟨NE.out, Nat.le_trans HI.size O1.size, Nat.lt_of_lt_of_le (RB.on SI).lt O1.size⟩
    go_wp2_with (refine wpList_al rfl rfl step_zero ?_)
    intro wa ka ba
    go_wp2_with (refine wpList_sto (cs := (stC (np s)).toArray) rfl rfl rfl rfl ba step_sz rfl (stC_one _) ?_)
    intro wj BJ oj
    have RJ := oj.tk ((O1.tk (RB.on SI) (by have := NW.out; omega)).on ka) (by have := NW.out; omega)
    have OJ : OffV N w wj := (((OffV.of HI).trans O1).trans (OffV.of ka)).fresh oj (by have := NW.out; omega)
    obtain ⟨B2, q2, N2, R2⟩ := (V1.on ka).offS oj ba (by have := NW.out; omega)
    have cT : ∀ W, On wj W → Calls Tryz.prog 67 #[.agg #[P0, P1, P2], .int .i64 t, locV (V.l t), .int .i64 sr] W fun e w' => e = .returned (locV (afterP (threadP LL t) (V.l t) sr)) ∧ On W w' := fun W k => after_is LL t (V.l t) sr _ W (HP.out W (OJ.trans (OffV.of k)))
    clear BI SI ka ba O1 V1 oj cN cD
    go_upto_region 3 with fail
    have SA : On wj wj.drew := (On.refl wj).drew
    refine region_fz (fun W => On wj W) [19] 20 (by kernel_rfl) rfl ?_
    refine fzd_take 8 0 (v := ?_) rfl (by kernel_rfl) (by kernel_rfl) (by kernel_rfl) (by kernel_rfl) (fun _ _ _ h => h) rfl ?_ SA ?_
    rotate_left
    · intro W hW
      go_simp
      (try with_reducible rfl)
    simp only [Act.put, List.setIfInBounds_toArray, List.set_cons_zero, List.set_cons_succ]
    refine fzd_take 8 1 (v := ?_) rfl (by kernel_rfl) (by kernel_rfl) (by kernel_rfl) (by kernel_rfl) (fun _ _ _ h => h) rfl ?_ SA ?_
    rotate_left
    · intro W hW
      go_simp
      (try with_reducible rfl)
    simp only [Act.put, List.setIfInBounds_toArray, List.set_cons_zero, List.set_cons_succ]
    refine fzd_take 8 2 (v := ?_) rfl (by kernel_rfl) (by kernel_rfl) (by kernel_rfl) (by kernel_rfl) (fun _ _ _ h => h) rfl ?_ SA ?_
    rotate_left
    · intro W hW
      go_simp
      (try with_reducible rfl)
    simp only [Act.put, List.setIfInBounds_toArray, List.set_cons_zero, List.set_cons_succ]
    refine fzd_take 8 3 (v := ?_) rfl (by kernel_rfl) (by kernel_rfl) (by kernel_rfl) (by kernel_rfl) (fun _ _ _ h => h) rfl ?_ SA ?_
    rotate_left
    · intro W hW
      go_simp
      (try with_reducible rfl)
    simp only [Act.put, List.setIfInBounds_toArray, List.set_cons_zero, List.set_cons_succ]
    refine fzd_take 8 4 (v := ?_) rfl (by kernel_rfl) (by kernel_rfl) (by kernel_rfl) (by kernel_rfl) (fun _ _ _ h => h) rfl ?_ SA ?_
    rotate_left
    · intro W hW
      go_simp
      (try with_reducible rfl)
    simp only [Act.put, List.setIfInBounds_toArray, List.set_cons_zero, List.set_cons_succ]
    refine fzd_take 8 5 (v := ?_) rfl (by kernel_rfl) (by kernel_rfl) (by kernel_rfl) (by kernel_rfl) (fun _ _ _ h => h) rfl ?_ SA ?_
    rotate_left
    · intro W hW
      have cP := N2.on hW
      have c0 := cP.at (i := 0) (v := P0) rfl
      have c1 := cP.at (i := 1) (v := P1) rfl
      have c2 := cP.at (i := 2) (v := P2) rfl
      have cl := cP.lt
      go_simp
      (try with_reducible rfl)
    simp only [Act.put, List.setIfInBounds_toArray, List.set_cons_zero, List.set_cons_succ]
    refine fzd_take 8 6 (v := ?_) rfl (by kernel_rfl) (by kernel_rfl) (by kernel_rfl) (by kernel_rfl) (fun _ _ _ h => h) rfl ?_ SA ?_
    rotate_left
    · intro W hW
      go_simp
      (try with_reducible rfl)
    simp only [Act.put, List.setIfInBounds_toArray, List.set_cons_zero, List.set_cons_succ]
    refine fzd_take 8 7 (v := ?_) rfl (by kernel_rfl) (by kernel_rfl) (by kernel_rfl) (by kernel_rfl) (fun _ _ _ h => h) rfl ?_ SA ?_
    rotate_left
    · intro W hW
      go_simp
      (try with_reducible rfl)
    simp only [Act.put, List.setIfInBounds_toArray, List.set_cons_zero, List.set_cons_succ]
    refine fzd_take 8 8 (v := ?_) rfl (by kernel_rfl) (by kernel_rfl) (by kernel_rfl) (by kernel_rfl) (fun _ _ _ h => h) rfl ?_ SA ?_
    rotate_left
    · intro W hW
      go_simp
      (try with_reducible rfl)
    simp only [Act.put, List.setIfInBounds_toArray, List.set_cons_zero, List.set_cons_succ]
    refine fzd_take 8 9 (v := ?_) rfl (by kernel_rfl) (by kernel_rfl) (by kernel_rfl) (by kernel_rfl) (fun _ _ _ h => h) rfl ?_ SA ?_
    rotate_left
    · intro W hW
      go_simp
      (try with_reducible rfl)
    simp only [Act.put, List.setIfInBounds_toArray, List.set_cons_zero, List.set_cons_succ]
    refine fzd_take 8 10 (v := ?_) rfl (by kernel_rfl) (by kernel_rfl) (by kernel_rfl) (by kernel_rfl) (fun _ _ _ h => h) rfl ?_ SA ?_
    rotate_left
    · intro W hW
      go_simp
      (try with_reducible rfl)
    simp only [Act.put, List.setIfInBounds_toArray, List.set_cons_zero, List.set_cons_succ]
    refine fzd_take 8 11 (v := ?_) rfl (by kernel_rfl) (by kernel_rfl) (by kernel_rfl) (by kernel_rfl) (fun _ _ _ h => h) rfl ?_ SA ?_
    rotate_left
    · intro W hW
      go_simp
      (try with_reducible rfl)
    simp only [Act.put, List.setIfInBounds_toArray, List.set_cons_zero, List.set_cons_succ]
    refine fzd_take 8 12 (v := locV (V.l t)) rfl (by kernel_rfl) (by kernel_rfl) (by kernel_rfl) (by kernel_rfl) (fun _ _ _ h => h) rfl (fun W hW => exec_loc (V := dmV V t s) rfl rfl (N2.on hW) ht) SA ?_
    simp only [Act.put, List.setIfInBounds_toArray, List.set_cons_zero, List.set_cons_succ]
    refine fzd_take 8 13 (v := ?_) rfl (by kernel_rfl) (by kernel_rfl) (by kernel_rfl) (by kernel_rfl) (fun _ _ _ h => h) rfl ?_ SA ?_
    rotate_left
    · intro W hW
      go_simp
      (try with_reducible rfl)
    simp only [Act.put, List.setIfInBounds_toArray, List.set_cons_zero, List.set_cons_succ]
    refine fzd_take 8 14 (v := ?_) rfl (by kernel_rfl) (by kernel_rfl) (by kernel_rfl) (by kernel_rfl) (fun _ _ _ h => h) rfl ?_ SA ?_
    rotate_left
    · intro W hW
      have q4 := (BJ.on hW).at (i := 4) (v := .int .i64 sr) (by rw [HSR.out]; rfl)
      have ql := (BJ.on hW).lt
      go_simp
      (try with_reducible rfl)
    simp only [Act.put, List.setIfInBounds_toArray, List.set_cons_zero, List.set_cons_succ]
    refine fzd_take 8 16 (v := ?_) rfl (by kernel_rfl) (by kernel_rfl) (by kernel_rfl) (by kernel_rfl) (fun _ _ _ h => h) rfl ?_ SA ?_
    rotate_left
    · intro W hW
      go_simp
      (try with_reducible rfl)
    simp only [Act.put, List.setIfInBounds_toArray, List.set_cons_zero, List.set_cons_succ]
    refine fzd_take 8 17 (v := ?_) rfl (by kernel_rfl) (by kernel_rfl) (by kernel_rfl) (by kernel_rfl) (fun _ _ _ h => h) rfl ?_ SA ?_
    rotate_left
    · intro W hW
      go_simp
      (try with_reducible rfl)
    simp only [Act.put, List.setIfInBounds_toArray, List.set_cons_zero, List.set_cons_succ]
    refine fz_one 15 rfl rfl (by kernel_rfl) (fun K hK => ?_)
    go_simp
    refine (cT _ SA).mono ?_
    rintro _ wc ⟨rfl, kwc⟩
    have SC : On wj wc := SA.trans kwc
    refine hK.out _ _ (fun _ => SC) ?_
    clear hK kwc
    refine fzd_take 8 18 (v := ?_) rfl (by kernel_rfl) (by kernel_rfl) (by kernel_rfl) (by kernel_rfl) (fun _ _ _ h => h) rfl ?_ SC ?_
    rotate_left
    · intro W hW
      go_simp
      (try with_reducible rfl)
    simp only [Act.put, List.setIfInBounds_toArray, List.set_cons_zero, List.set_cons_succ]
    refine fz_one 19 rfl rfl (by kernel_rfl) (fun K hK => ?_)
    refine wp_lst (l := afterP (threadP LL t) (V.l t) sr) rfl rfl rfl (N2.on SC) ht (fun wk TK ok => ?_)
    refine hK.out _ _ (fun hq => (hq (by simp)).elim) ?_
    clear hK
    refine fz_done (by kernel_rfl) (NoPanic.normal ?_)
    have R3 : VmR wk (setLV (dmV V t s) t (afterP (threadP LL t) (V.l t) sr)) B2 q2 := ⟨((R2.on SC).off ok (N2.on SC)).buf, ((R2.on SC).off ok (N2.on SC)).lst⟩
    have BK := ok.tk (BJ.on SC) (by have := NW.out; omega)
    have RK := ok.tk (RJ.on SC) (by have := NW.out; omega)
    have OK := (OJ.trans (OffV.of SC)).trans ok
    have VK : VmIn wk N P0 P1 P2 (setLV (dmV V t s) t (afterP (threadP LL t) (V.l t) sr)) := ⟨B2, q2, TK, R3⟩
    clear SA SC TK R3 ok R2 N2 BJ RJ OJ cT
    go_wp2_with (first | (refine wpList_sto (cs := (stC (np s)).toArray) rfl rfl rfl rfl RK step_sz rfl (stC_one _) ?_) | (refine wpList_sld rfl rfl rfl BK ?_))
    intro ws bs os
    go_wp2
    (try simp only [Exit.inBlock, Exit.then]); refine bodyPost_ret (res_step rfl rfl bs) rfl ?_
    exact ⟨rfl, VK.offS os RK (by have := NW.out; omega), OK.fresh os (Nat.le_refl _)⟩
end Go.Proofs.YtplihlmejnohnaaGreatDoor

namespace Go.Proofs.YtplihlmejnohnaaGreatDoor
open Go.RowKit

theorem dropB_same {b : BufT} {c : Int} (h : spA b c = spB b c) : dropB b c = b := by unfold dropB; rw [dif_pos h]
set_option maxHeartbeats 4000000 in
set_option maxRecDepth 8000 in
theorem drop_is (b : BufT) (c : Int) (w : World) : Calls Tryz.prog 69 #[.agg (bufA b), .int .i64 c] w fun e w' => e = .returned (.agg (bufA (dropB b c))) ∧ On w w' := by
  obtain ⟨W0, hW0⟩ : ∃ W0, W0 = w.alloc (.cells (bufA b) 85) := ⟨_, rfl⟩
  have z0 : W0.heap.size = w.heap.size + 1 := by rw [hW0]; simp
  obtain ⟨W1, hW1⟩ : ∃ W1, W1 = W0.alloc (.cells (bufA bufZ) 85) := ⟨_, rfl⟩
  have B1 : Hid (Bk W1 w.heap.size (bufA b)) := by show Bk _ _ _; rw [hW1, hW0]; exact (Bk.new w _ _).alloc _
  have Z1 : Hid (Bk W1 (w.heap.size + 1) (bufA bufZ)) := by show Bk _ _ _; rw [hW1, ← z0]; exact Bk.new W0 _ _
  have K1 : Hid (On w W1) := by show On _ _; rw [hW1, hW0]; exact ((On.refl w).alloc _).alloc _
  have hz : ∀ w, (zeroValue 85).run Tryz.prog w = .ok (.agg (bufA bufZ)) w := fun w => (zero_of_info buf_info).1 w
  have HW1 : Hid (W1 = (w.alloc (.cells (bufA b) 85)).alloc (.cells (bufA bufZ) 85)) := by show _ = _; rw [hW1, hW0]
  clear hW0 hW1 z0
  have hS := span_is b c W1
  by_cases h : spA b c = spB b c
  · rw [dropB_same h]
    rw [h] at hS
    obtain ⟨y, hy⟩ : ∃ y, y = spB b c := ⟨_, rfl⟩
    rw [← hy] at hS
    clear hy h
    go_enter Tryz.func69, Tryz.ntmps69
    go_upto_region 1 with fail
    rw [← HW1.out]
    clear hz
    go_wp2_with (refine wpList_bld rfl rfl rfl B1.out ?_)
    refine hS.mono ?_
    rintro _ w1 ⟨rfl, k1⟩
    have B2 : Hid (Bk w1 w.heap.size (bufA b)) := B1.out.on k1
    have Z2 : Hid (Bk w1 (w.heap.size + 1) (bufA bufZ)) := Z1.out.on k1
    have K2 : Hid (On w w1) := K1.out.trans k1
    clear k1
    go_wp2_with (first | (refine wpList_bld rfl rfl rfl B2.out ?_) | (refine wpList_bst rfl rfl rfl (by exact rfl) Z2.out ?_))
    refine bodyPost_ret (v := .agg (bufA b)) ?_ rfl ⟨rfl, K2.out.row (Nat.le_succ _) _⟩
    exact buf_ret rfl rfl (Z2.out.row _)
  · have hpad := dropB_pad h
    have hl := b.len
    have hsp := sp_le b c
    obtain ⟨n, hn⟩ : ∃ n : Nat, n = b.l.length := ⟨_, rfl⟩
    obtain ⟨m, hm⟩ : ∃ m, m = b.m := ⟨_, rfl⟩
    obtain ⟨y, hy⟩ : ∃ y, y = spB b c := ⟨_, rfl⟩
    obtain ⟨x, hx⟩ : ∃ x, x = spA b c := ⟨_, rfl⟩
    rw [← hn] at hl hsp
    rw [← hx, ← hy] at hsp hS h
    have hxn : x < n := by omega
    simp only [← hx, ← hn, ← hm] at hpad
    have HP : Hid (bufA (dropB b c) = rowA m ((n : Int) - 1) (((padR b.l).take x ++ ((padR b.l).drop (x + 1)).take (n - (x + 1)) ++ (padR b.l).drop (n - 1)).set (n - 1) enZ)) := hpad
    have HB2 : Hid (Bk W1 w.heap.size (rowA m n (padR b.l))) := by show Bk _ _ _; rw [hm, hn]; exact B1.out
    have HPL : Hid ((padR b.l).length = 24) := padR_len b.len
    have HX : Hid (x < n ∧ n ≤ 24) := ⟨hxn, hl⟩
    have hne : ((x : Int) == (y : Int)) = false := by simp; omega
    obtain ⟨BB, hBB⟩ : ∃ BB, BB = dropB b c := ⟨_, rfl⟩
    rw [← hBB] at HP ⊢
    obtain ⟨R, hR⟩ : ∃ R, R = padR b.l := ⟨_, rfl⟩
    rw [← hR] at HP HB2 HPL
    clear hpad hl hsp hn hm hy hx h hxn hBB hR
    obtain ⟨hxn, hn24⟩ := HX.out
    obtain ⟨k, hk⟩ : ∃ k : Nat, n = k + 1 := ⟨n - 1, by omega⟩
    have HK : Hid (n = k + 1) := hk
    have hov1 : wrap64 ((x : Int) + 1) = ((x + 1 : Nat) : Int) := wrapS (by omega) (by omega)
    have hov3 : IntKind.i64.wrap ((x : Int) + 1) = ((x + 1 : Nat) : Int) := wrapT (by omega) (by omega)
    have hov2 : wrap64 ((n : Int) - 1) = (k : Int) := by rw [wrapS (by omega) (by omega)]; omega
    have hov4 : IntKind.i64.wrap ((n : Int) - 1) = (k : Int) := by rw [wrapT (by omega) (by omega)]; omega
    have b1 : (k : Int) < 24 := by omega
    have b2 : decide ((k : Int) < 0) = false := decide_eq_false (by omega)
    have b4 : (0 : Int) ≤ (k : Int) := by omega
    clear hxn hn24 hk
    go_enter Tryz.func69, Tryz.ntmps69
    go_upto_region 1 with fail
    rw [← HW1.out]
    clear hz HW1
    go_wp2_with (refine wpList_bld rfl rfl rfl B1.out ?_)
    refine hS.mono ?_
    rintro _ w1 ⟨rfl, k1⟩
    have B2 : Hid (Bk w1 w.heap.size (rowA m n R)) := HB2.out.on k1
    have Z2 : Hid (Bk w1 (w.heap.size + 1) (bufA bufZ)) := Z1.out.on k1
    have K2 : Hid (On w w1) := K1.out.trans k1
    clear k1
    go_wp2
    have S4 : w1.drew.cell? ⟨w.heap.size, 1, none⟩ = some (.int .i64 n) ∧ w.heap.size < w1.drew.heap.size := ⟨B2.out.at (row_n _ _ _), B2.out.lt⟩
    refine region_fin (fun W => W.cell? ⟨w.heap.size, 1, none⟩ = some (.int .i64 n) ∧ w.heap.size < W.heap.size) 99 10 (by kernel_rfl) rfl ?_
    refine fin_take 0 (v := ?_) rfl (by kernel_rfl) (by kernel_rfl) (by kernel_rfl) (by kernel_rfl) (fun _ _ _ h => h) rfl ?_ S4 ?_
    rotate_left
    · intro W hW
      have f1 := hW.1
      have fl := hW.2
      go_simp
      (try with_reducible rfl)
    simp only [Act.put, List.setIfInBounds_toArray, List.set_cons_zero, List.set_cons_succ]
    refine fin_take 1 (v := ?_) rfl (by kernel_rfl) (by kernel_rfl) (by kernel_rfl) (by kernel_rfl) (fun _ _ _ h => h) rfl ?_ S4 ?_
    rotate_left
    · intro W hW
      have f1 := hW.1
      have fl := hW.2
      go_simp
      (try with_reducible rfl)
    simp only [Act.put, List.setIfInBounds_toArray, List.set_cons_zero, List.set_cons_succ]
    refine fin_take 2 (v := .slice (some (slA w.heap.size x)) (24 - x) (24 - x)) rfl (by kernel_rfl) (by kernel_rfl) (by kernel_rfl) (by kernel_rfl) (fun _ _ _ h => h) rfl (fun W _ => exec_l rfl rfl rfl (by have := HX.out; omega) W) S4 ?_
    simp only [Act.put, List.setIfInBounds_toArray, List.set_cons_zero, List.set_cons_succ]
    refine fin_take 3 (v := ?_) rfl (by kernel_rfl) (by kernel_rfl) (by kernel_rfl) (by kernel_rfl) (fun _ _ _ h => h) rfl ?_ S4 ?_
    rotate_left
    · intro W hW
      have f1 := hW.1
      have fl := hW.2
      go_simp
      (try with_reducible rfl)
    simp only [Act.put, List.setIfInBounds_toArray, List.set_cons_zero, List.set_cons_succ]
    refine fin_take 4 (v := ?_) rfl (by kernel_rfl) (by kernel_rfl) (by kernel_rfl) (by kernel_rfl) (fun _ _ _ h => h) rfl ?_ S4 ?_
    rotate_left
    · intro W hW
      have f1 := hW.1
      have fl := hW.2
      go_simp
      (try with_reducible rfl)
    simp only [Act.put, List.setIfInBounds_toArray, List.set_cons_zero, List.set_cons_succ]
    refine fin_take 5 (v := ?_) rfl (by kernel_rfl) (by kernel_rfl) (by kernel_rfl) (by kernel_rfl) (fun _ _ _ h => h) rfl ?_ S4 ?_
    rotate_left
    · intro W hW
      have f1 := hW.1
      have fl := hW.2
      go_simp
      (try with_reducible rfl)
    simp only [Act.put, List.setIfInBounds_toArray, List.set_cons_zero, List.set_cons_succ]
    refine fin_take 6 (v := ?_) rfl (by kernel_rfl) (by kernel_rfl) (by kernel_rfl) (by kernel_rfl) (fun _ _ _ h => h) rfl ?_ S4 ?_
    rotate_left
    · intro W hW
      have f1 := hW.1
      have fl := hW.2
      go_simp
      (try with_reducible rfl)
    simp only [Act.put, List.setIfInBounds_toArray, List.set_cons_zero, List.set_cons_succ]
    refine fin_take 7 (v := ?_) rfl (by kernel_rfl) (by kernel_rfl) (by kernel_rfl) (by kernel_rfl) (fun _ _ _ h => h) rfl ?_ S4 ?_
    rotate_left
    · intro W hW
      have f1 := hW.1
      have fl := hW.2
      go_simp
      (try with_reducible rfl)
    simp only [Act.put, List.setIfInBounds_toArray, List.set_cons_zero, List.set_cons_succ]
    refine fin_take 8 (v := .slice (some (slA w.heap.size (x + 1))) (n - (x + 1)) (24 - (x + 1))) rfl (by kernel_rfl) (by kernel_rfl) (by kernel_rfl) (by kernel_rfl) (fun _ _ _ h => h) rfl (fun W _ => exec_lh rfl rfl rfl rfl HX.out.1 (by have := HX.out; omega) W) S4 ?_
    simp only [Act.put, List.setIfInBounds_toArray, List.set_cons_zero, List.set_cons_succ]
    refine fin_one 9 rfl rfl (by kernel_rfl) (fun K hK => ?_)
    refine wp_copyE _ _ rfl (show Bk w1.drew w.heap.size (rowA m n R) from B2.out) HPL.out (by have := HX.out; omega) HX.out.1 (by have := HX.out; omega) (by have := HX.out; omega) rfl rfl fun w3 b3 o3 => ?_
    have B3 : Hid (Bk w3 w.heap.size (rowA m n (R.take x ++ (R.drop (x + 1)).take (n - (x + 1)) ++ R.drop (n - 1)))) := by
      show Bk _ _ _
      rw [show x + (n - (x + 1)) = n - 1 by have := HX.out; omega] at b3
      exact b3
    have L3 : Hid ((R.take x ++ (R.drop (x + 1)).take (n - (x + 1)) ++ R.drop (n - 1)).length = 24) := by
      show _ = _
      have h1 := HPL.out
      have h2 := HX.out
      simp only [List.length_append, List.length_take, List.length_drop]
      omega
    have Z3 : Hid (Bk w3 (w.heap.size + 1) (bufA bufZ)) := o3.bk (by omega) Z2.out
    have K3 : Hid (On w w3) := o3.on K2.out.drew (Nat.le_refl _)
    refine hK.out _ _ (fun _ => ⟨B3.out.at (row_n _ _ _), B3.out.lt⟩) ?_
    have q1 := B3.out.at (row_n _ _ _)
    have f1 := B3.out.fr 1
    have B4 : Hid (Bk (w3.setCell ⟨w.heap.size, 1, none⟩ (.int .i64 (k : Int))) w.heap.size (rowA m (k : Int) (R.take x ++ (R.drop (x + 1)).take (n - (x + 1)) ++ R.drop (n - 1)))) := B3.out.putN _
    have Z4 : Hid (Bk (w3.setCell ⟨w.heap.size, 1, none⟩ (.int .i64 (k : Int))) (w.heap.size + 1) (bufA bufZ)) := Z3.out.far (by omega) _ _
    have K4 : Hid (On w (w3.setCell ⟨w.heap.size, 1, none⟩ (.int .i64 (k : Int)))) := K3.out.setNew (Nat.le_refl _) _
    clear hK b3 o3 S4
    refine fin_done (by kernel_rfl) (NoPanic.normal ?_)
    go_wp2_with (first
      | (refine wpList_mk0 rfl rfl ent_made0 ?_)
      | (refine wpList_est rfl rfl rfl (by exact rfl) B4.out (by rw [L3.out]; have := HX.out; have := HK.out; omega) fun w4 b4' o4 => ?_
         have B5 : Hid (Bk w4 w.heap.size (bufA BB)) := by
           show Bk _ _ _
           rw [HP.out, show (n : Int) - 1 = (k : Int) by have := HK.out; omega, show n - 1 = k by have := HK.out; omega]
           rw [show n - 1 = k by have := HK.out; omega] at b4'
           exact b4'
         have Z5 : Hid (Bk w4 (w.heap.size + 1) (bufA bufZ)) := o4.bk (by omega) Z4.out
         have K5 : Hid (On w w4) := o4.on K4.out (Nat.le_refl _)
         clear b4' o4)
      | (refine wpList_bld rfl rfl rfl B5.out ?_)
      | (refine wpList_bst rfl rfl rfl (by exact rfl) Z5.out ?_))
    refine bodyPost_ret (v := .agg (bufA BB)) ?_ rfl ⟨rfl, K5.out.row (Nat.le_succ _) _⟩
    exact buf_ret rfl rfl (Z5.out.row _)
end Go.Proofs.YtplihlmejnohnaaGreatDoor
