/- vm.store, vm.swap. -/
import Derived.Test.YtplihlmejnohnaaGreatDoorJ40VmE
import Derived.Test.YtplihlmejnohnaaGreatDoorJ36AgS
namespace Go.Proofs.YtplihlmejnohnaaGreatDoor
open Go.RowKit

def addBV (V : VmT) (t : Nat) (e : EnT) : VmT := ⟨V.m, V.l, upf V.b t (V.b t ++ [e]), V.mem, V.wr, V.st⟩
def cutBV (V : VmT) (t : Nat) (c : Int) : VmT := ⟨V.m, V.l, upf V.b t (wcut V.m (V.b t) c), V.mem, V.wr, V.st⟩
section
variable {w W : World} {N t M : Nat} {P0 P1 P2 q : Value} {V : VmT} {B : Nat → Nat}
theorem VmR.addB (k : VmR w V B q) {e : EnT} {b : BufT} (hb : Tb w M (bufA b) 85) (hw : BW V.m b (V.b t ++ [e])) : VmR w (addBV V t e) (upf B t M) q :=
  ⟨fun i hi => by
    by_cases h : i = t
    · subst h
      refine ⟨b, ?_, ?_⟩
      · rw [upf_same]; exact hb
      · show BW V.m b (upf V.b i _ i)
        rw [upf_same]; exact hw
    · obtain ⟨b', h1, h2⟩ := k.buf i hi
      refine ⟨b', ?_, ?_⟩
      · rw [upf_other _ _ h]; exact h1
      · show BW V.m b' (upf V.b t _ i)
        rw [upf_other _ _ h]; exact h2, k.lst⟩
theorem VmR.cutB (k : VmR w V B q) {c : Int} {b : BufT} (hb : Tb w M (bufA b) 85) (hw : BW V.m b (wcut V.m (V.b t) c)) : VmR w (cutBV V t c) (upf B t M) q :=
  ⟨fun i hi => by
    by_cases h : i = t
    · subst h
      refine ⟨b, ?_, ?_⟩
      · rw [upf_same]; exact hb
      · show BW V.m b (upf V.b i _ i)
        rw [upf_same]; exact hw
    · obtain ⟨b', h1, h2⟩ := k.buf i hi
      refine ⟨b', ?_, ?_⟩
      · rw [upf_other _ _ h]; exact h1
      · show BW V.m b' (upf V.b t _ i)
        rw [upf_other _ _ h]; exact h2, k.lst⟩
theorem vm_addB (e : EnT) : vmL P0 P1 P2 (addBV V t e) B q = vmL P0 P1 P2 V B q := rfl
theorem VmIn.offS {cs : Array Value} (k : VmIn w N P0 P1 P2 V) (h : OffV M w W) (hM : Tb w M cs 39) (hn : N ≠ M) : VmIn W N P0 P1 P2 V := by
  obtain ⟨B, q, h1, h2⟩ := k
  exact ⟨B, q, h.tk h1 hn, ⟨fun t ht => by
    obtain ⟨b, h3, h4⟩ := h2.buf t ht
    exact ⟨b, h.tk h3 (h3.ne hM (by decide)), h4⟩, Lst.off h (by decide) hM h2.lst⟩⟩
theorem OffV.fresh {x : World} (h : OffV N x w) (k : OffV M w W) (hM : x.heap.size ≤ M) : OffV N x W :=
  ⟨k.os.trans h.os, k.tape.trans h.tape, k.output.trans h.output, Nat.le_trans h.size k.size, fun j hj hn => (k.block j (Nat.lt_of_lt_of_le hj h.size) (by omega)).trans (h.block j hj hn)⟩
theorem wput_app {m : Int} {w : List EnT} {e : EnT} (hm : m = 2 ∨ m = 3) (h0 : 0 ≤ e.1) (h4 : e.1 < 4) (hl : w.length < 24) : wput m w e = w ++ [e] := by
  unfold wput
  rw [if_pos ⟨hm, h0, by omega, hl⟩]
end
set_option maxHeartbeats 4000000 in
set_option maxRecDepth 8000 in
theorem store_is (N t c : Nat) (x : InsT) (P0 P1 P2 : Value) (V : VmT) (w : World) (h : VmIn w N P0 P1 P2 V) (ht : t < 4) (hc : c < 4) (hx : x.l = (c : Nat)) (he : EnIn (x.l, valOf x.a (V.l t), (V.st.length : Int)))
    (hm : V.m = 1 ∨ V.m = 2 ∨ V.m = 3) (hl : (V.b t).length < 24) :
    Calls Tryz.prog 86 #[ptV N, .int .i64 t, insV x] w fun e w' => e = .returned (stV ⟨0, t, 2, x.l, 0, valOf x.a (V.l t), -1⟩) ∧
      VmIn w' N P0 P1 P2 (if V.m = 1 then setMV V c (valOf x.a (V.l t)) V.st.length else addBV V t (x.l, valOf x.a (V.l t), (V.st.length : Int))) ∧ OffV N w w' := by
  have HV : Hid (VmIn w N P0 P1 P2 V) := h
  obtain ⟨B, q, hN, hR⟩ := h
  have HN : Hid (Tb w N (vmA P0 P1 P2 V B q) 80) := hN
  have HR : Hid (VmR w V B q) := hR
  obtain ⟨b, hb, hw⟩ := hR.buf t ht
  obtain ⟨M, hM⟩ : ∃ M, M = B t := ⟨_, rfl⟩
  have HB : Hid ((vmA P0 P1 P2 V B q)[24 + t]? = some (.pointer (some ⟨B t, 0, none⟩))) := vm_buf ht
  rw [← hM] at hb HB
  have B1 : Hid (Tb w M (bufA b) 85) := hb
  have b1 : (t : Int) < 4 := by omega
  have b2 : decide ((t : Int) < 0) = false := decide_eq_false (by omega)
  have b4 : (0 : Int) ≤ (t : Int) := by omega
  have e1 : (c : Int) < 4 := by omega
  have e2 : decide ((c : Int) < 0) = false := decide_eq_false (by omega)
  have e4 : (0 : Int) ≤ (c : Int) := by omega
  obtain ⟨W1, hW1⟩ : ∃ W1, W1 = (w.alloc (.cells #[.int .i64 x.k, .int .i64 x.r, .int .i64 x.l, .int .i64 x.a.r, .int .i64 x.a.v, .int .i64 x.o, .int .i64 x.b.r, .int .i64 x.b.v, .int .i64 x.n] 107)).alloc (.cells #[.int .i64 0, .int .i64 0, .int .i64 0, .int .i64 0, .int .i64 0, .int .i64 0, .int .i64 0] 39) := ⟨_, rfl⟩
  have W0 : Hid (VmB w W1 x stZ) := ⟨by rw [hW1]; exact ((On.refl w).alloc _).alloc _, by rw [hW1]; exact (Tb.new w _ _).alloc _, by
    rw [hW1]
    have := Tb.new (w.alloc (.cells #[.int .i64 x.k, .int .i64 x.r, .int .i64 x.l, .int .i64 x.a.r, .int .i64 x.a.v, .int .i64 x.o, .int .i64 x.b.r, .int .i64 x.b.v, .int .i64 x.n] 107)) #[.int .i64 0, .int .i64 0, .int .i64 0, .int .i64 0, .int .i64 0, .int .i64 0, .int .i64 0] 39
    rwa [World.size_alloc] at this⟩
  have cV := fun W => pvalue_is x.a (V.l t) W
  have cP := fun W => put_is b x.l (valOf x.a (V.l t)) V.st.length he W
  have HX : Hid (x.l = (c : Int)) := hx
  have HW : Hid (BW V.m b (V.b t)) := hw
  have HL : Hid ((V.b t).length < 24) := hl
  generalize valOf x.a (V.l t) = vv at *
  clear hN hR hb hw hM hx hl
  unfold ptV insV
  rcases hm with h1 | h23
  · have c3 : Hid ((vmA P0 P1 P2 V B q)[3]? = some (.int .i64 1)) := by show _ = _; rw [← h1]; rfl
    rw [if_pos h1]
    clear h1 cP
    go_enter Tryz.func86, Tryz.ntmps86
    go_upto_region 1 with fail
    rw [← hW1]
    clear hW1
    have SA : On W1 W1.drew := (On.refl W1).drew
    refine region_fz (fun W => On W1 W) [] 10 (by kernel_rfl) rfl ?_
    refine fz_take 0 (v := ?_) rfl (by kernel_rfl) (by kernel_rfl) (by kernel_rfl) (by kernel_rfl) (fun _ _ _ h => h) rfl ?_ SA ?_
    rotate_left
    · intro W hW
      go_simp
      (try with_reducible rfl)
    simp only [Act.put, List.setIfInBounds_toArray, List.set_cons_zero, List.set_cons_succ]
    refine fz_take 1 (v := ?_) rfl (by kernel_rfl) (by kernel_rfl) (by kernel_rfl) (by kernel_rfl) (fun _ _ _ h => h) rfl ?_ SA ?_
    rotate_left
    · intro W hW
      have q3 := (W0.out.ib.on hW).at (i := 3) (v := .int .i64 x.a.r) rfl
      have q4 := (W0.out.ib.on hW).at (i := 4) (v := .int .i64 x.a.v) rfl
      have ql := (W0.out.ib.on hW).lt
      go_simp
      (try with_reducible rfl)
    simp only [Act.put, List.setIfInBounds_toArray, List.set_cons_zero, List.set_cons_succ]
    refine fz_take 2 (v := ?_) rfl (by kernel_rfl) (by kernel_rfl) (by kernel_rfl) (by kernel_rfl) (fun _ _ _ h => h) rfl ?_ SA ?_
    rotate_left
    · intro W hW
      go_simp
      (try with_reducible rfl)
    simp only [Act.put, List.setIfInBounds_toArray, List.set_cons_zero, List.set_cons_succ]
    refine fz_take 3 (v := ?_) rfl (by kernel_rfl) (by kernel_rfl) (by kernel_rfl) (by kernel_rfl) (fun _ _ _ h => h) rfl ?_ SA ?_
    rotate_left
    · intro W hW
      go_simp
      (try with_reducible rfl)
    simp only [Act.put, List.setIfInBounds_toArray, List.set_cons_zero, List.set_cons_succ]
    refine fz_take 4 (v := ?_) rfl (by kernel_rfl) (by kernel_rfl) (by kernel_rfl) (by kernel_rfl) (fun _ _ _ h => h) rfl ?_ SA ?_
    rotate_left
    · intro W hW
      go_simp
      (try with_reducible rfl)
    simp only [Act.put, List.setIfInBounds_toArray, List.set_cons_zero, List.set_cons_succ]
    refine fz_take 5 (v := ?_) rfl (by kernel_rfl) (by kernel_rfl) (by kernel_rfl) (by kernel_rfl) (fun _ _ _ h => h) rfl ?_ SA ?_
    rotate_left
    · intro W hW
      go_simp
      (try with_reducible rfl)
    simp only [Act.put, List.setIfInBounds_toArray, List.set_cons_zero, List.set_cons_succ]
    refine fz_take 6 (v := ?_) rfl (by kernel_rfl) (by kernel_rfl) (by kernel_rfl) (by kernel_rfl) (fun _ _ _ h => h) rfl ?_ SA ?_
    rotate_left
    · intro W hW
      go_simp
      (try with_reducible rfl)
    simp only [Act.put, List.setIfInBounds_toArray, List.set_cons_zero, List.set_cons_succ]
    refine fz_take 7 (v := locV (V.l t)) rfl (by kernel_rfl) (by kernel_rfl) (by kernel_rfl) (by kernel_rfl) (fun _ _ _ h => h) rfl (fun W hW => exec_loc rfl rfl (HN.out.on (W0.out.on.trans hW)) ht) SA ?_
    simp only [Act.put, List.setIfInBounds_toArray, List.set_cons_zero, List.set_cons_succ]
    refine fz_one 8 rfl rfl (by kernel_rfl) (fun K hK => ?_)
    go_simp
    refine (cV _).mono ?_
    rintro _ wc ⟨rfl, kwc⟩
    have SC : On W1 wc := SA.trans kwc
    refine hK.out _ _ (fun _ => SC) ?_
    clear hK kwc
    refine fz_take 9 (v := ?_) rfl (by kernel_rfl) (by kernel_rfl) (by kernel_rfl) (by kernel_rfl) (fun _ _ _ h => h) rfl ?_ SC ?_
    rotate_left
    · intro W hW
      go_simp
      (try with_reducible rfl)
    simp only [Act.put, List.setIfInBounds_toArray, List.set_cons_zero, List.set_cons_succ]
    refine fz_done (by kernel_rfl) (NoPanic.normal ?_)
    have W2 : Hid (VmB w wc x stZ) := W0.out.go SC
    have m3 := (HN.out.on W2.out.on).at c3.out
    have ml := HN.out.lt
    clear SC SA
    go_upto_region 3 with fail
    have SA : On wc wc.drew := (On.refl wc).drew
    refine region_fz (fun W => On wc W) [8] 9 (by kernel_rfl) rfl ?_
    refine fzd_take 8 0 (v := ?_) rfl (by kernel_rfl) (by kernel_rfl) (by kernel_rfl) (by kernel_rfl) (fun _ _ _ h => h) rfl ?_ SA ?_
    rotate_left
    · intro W hW
      go_simp
      (try with_reducible rfl)
    simp only [Act.put, List.setIfInBounds_toArray, List.set_cons_zero, List.set_cons_succ]
    refine fzd_take 8 1 (v := ?_) rfl (by kernel_rfl) (by kernel_rfl) (by kernel_rfl) (by kernel_rfl) (fun _ _ _ h => h) rfl ?_ SA ?_
    rotate_left
    · intro W hW
      go_simp
      (try with_reducible rfl)
    simp only [Act.put, List.setIfInBounds_toArray, List.set_cons_zero, List.set_cons_succ]
    refine fzd_take 8 2 (v := ?_) rfl (by kernel_rfl) (by kernel_rfl) (by kernel_rfl) (by kernel_rfl) (fun _ _ _ h => h) rfl ?_ SA ?_
    rotate_left
    · intro W hW
      have q2 := (W2.out.ib.on hW).at (i := 2) (v := .int .i64 x.l) rfl
      rw [HX.out] at q2
      have ql := (W2.out.ib.on hW).lt
      go_simp
      (try with_reducible rfl)
    simp only [Act.put, List.setIfInBounds_toArray, List.set_cons_zero, List.set_cons_succ]
    refine fzd_take 8 3 (v := ?_) rfl (by kernel_rfl) (by kernel_rfl) (by kernel_rfl) (by kernel_rfl) (fun _ _ _ h => h) rfl ?_ SA ?_
    rotate_left
    · intro W hW
      go_simp
      (try with_reducible rfl)
    simp only [Act.put, List.setIfInBounds_toArray, List.set_cons_zero, List.set_cons_succ]
    refine fzd_take 8 4 (v := ?_) rfl (by kernel_rfl) (by kernel_rfl) (by kernel_rfl) (by kernel_rfl) (fun _ _ _ h => h) rfl ?_ SA ?_
    rotate_left
    · intro W hW
      go_simp
      (try with_reducible rfl)
    simp only [Act.put, List.setIfInBounds_toArray, List.set_cons_zero, List.set_cons_succ]
    refine fzd_take 8 5 (v := ?_) rfl (by kernel_rfl) (by kernel_rfl) (by kernel_rfl) (by kernel_rfl) (fun _ _ _ h => h) rfl ?_ SA ?_
    rotate_left
    · intro W hW
      go_simp
      (try with_reducible rfl)
    simp only [Act.put, List.setIfInBounds_toArray, List.set_cons_zero, List.set_cons_succ]
    refine fzd_take 8 6 (v := ?_) rfl (by kernel_rfl) (by kernel_rfl) (by kernel_rfl) (by kernel_rfl) (fun _ _ _ h => h) rfl ?_ SA ?_
    rotate_left
    · intro W hW
      go_simp
      (try with_reducible rfl)
    simp only [Act.put, List.setIfInBounds_toArray, List.set_cons_zero, List.set_cons_succ]
    refine fzd_take 8 7 (v := ?_) rfl (by kernel_rfl) (by kernel_rfl) (by kernel_rfl) (by kernel_rfl) (fun _ _ _ h => h) rfl ?_ SA ?_
    rotate_left
    · intro W hW
      have c0 := (HN.out.on (W2.out.on.trans hW)).at (i := 36) (v := .int .i64 V.st.length) rfl
      have cl := HN.out.lt
      go_simp
      (try with_reducible rfl)
    simp only [Act.put, List.setIfInBounds_toArray, List.set_cons_zero, List.set_cons_succ]
    refine fz_one 8 rfl rfl (by kernel_rfl) (fun K hK => ?_)
    go_simp
    refine (write_is N c vv _ P0 P1 P2 V _ (HV.out.on (W2.out.on.trans SA)) hc).mono ?_
    rintro _ wd ⟨rfl, V3, O3⟩
    have O4 : OffV N wc wd := (OffV.of SA).trans O3
    refine hK.out _ _ (fun hq => (hq (by simp)).elim) ?_
    clear hK O3
    refine fz_done (by kernel_rfl) (NoPanic.normal ?_)
    have NE : Hid (N < w.heap.size) := HN.out.lt
    have IBI := O4.tk W2.out.ib (by have := NE.out; omega)
    have IZ := O4.tk W2.out.rb (by have := NE.out; omega)
    have q2 := IBI.at (i := 2) (v := .int .i64 x.l) rfl
    have ql := IBI.lt
    clear SA
    go_wp2_with (first | (refine wpList_sto (cs := (stC ⟨0, t, 2, x.l, 0, vv, -1⟩).toArray) rfl rfl rfl rfl IZ step_sz rfl (stC_one _) ?_) | (refine wpList_mkW rfl rfl rfl rfl rfl rfl rfl ?_))
    intro ws bs os
    go_wp2
    (try simp only [Exit.inBlock, Exit.then]); refine bodyPost_ret (res_step rfl rfl bs) rfl ?_
    exact ⟨rfl, V3.offS os IZ (by have := NE.out; omega), ((OffV.of W2.out.on).trans O4).fresh os (Nat.le_succ _)⟩
  · have hne : (V.m == 1) = false := by rw [beq_eq_false_iff_ne]; omega
    rw [if_neg (by omega)]
    go_enter Tryz.func86, Tryz.ntmps86
    go_upto_region 1 with fail
    rw [← hW1]
    clear hW1
    have SA : On W1 W1.drew := (On.refl W1).drew
    refine region_fz (fun W => On W1 W) [] 10 (by kernel_rfl) rfl ?_
    refine fz_take 0 (v := ?_) rfl (by kernel_rfl) (by kernel_rfl) (by kernel_rfl) (by kernel_rfl) (fun _ _ _ h => h) rfl ?_ SA ?_
    rotate_left
    · intro W hW
      go_simp
      (try with_reducible rfl)
    simp only [Act.put, List.setIfInBounds_toArray, List.set_cons_zero, List.set_cons_succ]
    refine fz_take 1 (v := ?_) rfl (by kernel_rfl) (by kernel_rfl) (by kernel_rfl) (by kernel_rfl) (fun _ _ _ h => h) rfl ?_ SA ?_
    rotate_left
    · intro W hW
      have q3 := (W0.out.ib.on hW).at (i := 3) (v := .int .i64 x.a.r) rfl
      have q4 := (W0.out.ib.on hW).at (i := 4) (v := .int .i64 x.a.v) rfl
      have ql := (W0.out.ib.on hW).lt
      go_simp
      (try with_reducible rfl)
    simp only [Act.put, List.setIfInBounds_toArray, List.set_cons_zero, List.set_cons_succ]
    refine fz_take 2 (v := ?_) rfl (by kernel_rfl) (by kernel_rfl) (by kernel_rfl) (by kernel_rfl) (fun _ _ _ h => h) rfl ?_ SA ?_
    rotate_left
    · intro W hW
      go_simp
      (try with_reducible rfl)
    simp only [Act.put, List.setIfInBounds_toArray, List.set_cons_zero, List.set_cons_succ]
    refine fz_take 3 (v := ?_) rfl (by kernel_rfl) (by kernel_rfl) (by kernel_rfl) (by kernel_rfl) (fun _ _ _ h => h) rfl ?_ SA ?_
    rotate_left
    · intro W hW
      go_simp
      (try with_reducible rfl)
    simp only [Act.put, List.setIfInBounds_toArray, List.set_cons_zero, List.set_cons_succ]
    refine fz_take 4 (v := ?_) rfl (by kernel_rfl) (by kernel_rfl) (by kernel_rfl) (by kernel_rfl) (fun _ _ _ h => h) rfl ?_ SA ?_
    rotate_left
    · intro W hW
      go_simp
      (try with_reducible rfl)
    simp only [Act.put, List.setIfInBounds_toArray, List.set_cons_zero, List.set_cons_succ]
    refine fz_take 5 (v := ?_) rfl (by kernel_rfl) (by kernel_rfl) (by kernel_rfl) (by kernel_rfl) (fun _ _ _ h => h) rfl ?_ SA ?_
    rotate_left
    · intro W hW
      go_simp
      (try with_reducible rfl)
    simp only [Act.put, List.setIfInBounds_toArray, List.set_cons_zero, List.set_cons_succ]
    refine fz_take 6 (v := ?_) rfl (by kernel_rfl) (by kernel_rfl) (by kernel_rfl) (by kernel_rfl) (fun _ _ _ h => h) rfl ?_ SA ?_
    rotate_left
    · intro W hW
      go_simp
      (try with_reducible rfl)
    simp only [Act.put, List.setIfInBounds_toArray, List.set_cons_zero, List.set_cons_succ]
    refine fz_take 7 (v := locV (V.l t)) rfl (by kernel_rfl) (by kernel_rfl) (by kernel_rfl) (by kernel_rfl) (fun _ _ _ h => h) rfl (fun W hW => exec_loc rfl rfl (HN.out.on (W0.out.on.trans hW)) ht) SA ?_
    simp only [Act.put, List.setIfInBounds_toArray, List.set_cons_zero, List.set_cons_succ]
    refine fz_one 8 rfl rfl (by kernel_rfl) (fun K hK => ?_)
    go_simp
    refine (cV _).mono ?_
    rintro _ wc ⟨rfl, kwc⟩
    have SC : On W1 wc := SA.trans kwc
    refine hK.out _ _ (fun _ => SC) ?_
    clear hK kwc
    refine fz_take 9 (v := ?_) rfl (by kernel_rfl) (by kernel_rfl) (by kernel_rfl) (by kernel_rfl) (fun _ _ _ h => h) rfl ?_ SC ?_
    rotate_left
    · intro W hW
      go_simp
      (try with_reducible rfl)
    simp only [Act.put, List.setIfInBounds_toArray, List.set_cons_zero, List.set_cons_succ]
    refine fz_done (by kernel_rfl) (NoPanic.normal ?_)
    have W2 : Hid (VmB w wc x stZ) := W0.out.go SC
    have m3 := (HN.out.on W2.out.on).at (i := 3) (v := .int .i64 V.m) rfl
    have ml := HN.out.lt
    clear SC SA
    go_upto_region 4 with fail
    have SA : On wc wc.drew := (On.refl wc).drew
    refine region_fz (fun W => On wc W) [] 18 (by kernel_rfl) rfl ?_
    refine fz_take 0 (v := ?_) rfl (by kernel_rfl) (by kernel_rfl) (by kernel_rfl) (by kernel_rfl) (fun _ _ _ h => h) rfl ?_ SA ?_
    rotate_left
    · intro W hW
      go_simp
      (try with_reducible rfl)
    simp only [Act.put, List.setIfInBounds_toArray, List.set_cons_zero, List.set_cons_succ]
    refine fz_take 1 (v := ?_) rfl (by kernel_rfl) (by kernel_rfl) (by kernel_rfl) (by kernel_rfl) (fun _ _ _ h => h) rfl ?_ SA ?_
    rotate_left
    · intro W hW
      go_simp
      (try with_reducible rfl)
    simp only [Act.put, List.setIfInBounds_toArray, List.set_cons_zero, List.set_cons_succ]
    refine fz_take 2 (v := ?_) rfl (by kernel_rfl) (by kernel_rfl) (by kernel_rfl) (by kernel_rfl) (fun _ _ _ h => h) rfl ?_ SA ?_
    rotate_left
    · intro W hW
      go_simp
      (try with_reducible rfl)
    simp only [Act.put, List.setIfInBounds_toArray, List.set_cons_zero, List.set_cons_succ]
    refine fz_take 3 (v := ?_) rfl (by kernel_rfl) (by kernel_rfl) (by kernel_rfl) (by kernel_rfl) (fun _ _ _ h => h) rfl ?_ SA ?_
    rotate_left
    · intro W hW
      go_simp
      (try with_reducible rfl)
    simp only [Act.put, List.setIfInBounds_toArray, List.set_cons_zero, List.set_cons_succ]
    refine fz_take 4 (v := ?_) rfl (by kernel_rfl) (by kernel_rfl) (by kernel_rfl) (by kernel_rfl) (fun _ _ _ h => h) rfl ?_ SA ?_
    rotate_left
    · intro W hW
      go_simp
      (try with_reducible rfl)
    simp only [Act.put, List.setIfInBounds_toArray, List.set_cons_zero, List.set_cons_succ]
    refine fz_take 5 (v := ?_) rfl (by kernel_rfl) (by kernel_rfl) (by kernel_rfl) (by kernel_rfl) (fun _ _ _ h => h) rfl ?_ SA ?_
    rotate_left
    · intro W hW
      have c0 := (HN.out.on (W2.out.on.trans hW)).at HB.out
      have cl := HN.out.lt
      go_simp
      (try with_reducible rfl)
    simp only [Act.put, List.setIfInBounds_toArray, List.set_cons_zero, List.set_cons_succ]
    refine fz_take 6 (v := ?_) rfl (by kernel_rfl) (by kernel_rfl) (by kernel_rfl) (by kernel_rfl) (fun _ _ _ h => h) rfl ?_ SA ?_
    rotate_left
    · intro W hW
      go_simp
      (try with_reducible rfl)
    simp only [Act.put, List.setIfInBounds_toArray, List.set_cons_zero, List.set_cons_succ]
    refine fz_take 7 (v := .agg (bufA b)) rfl (by kernel_rfl) (by kernel_rfl) (by kernel_rfl) (by kernel_rfl) (fun _ _ _ h => h) rfl (fun W hW => exec_bld rfl rfl ((B1.out.on (W2.out.on.trans hW)).bk)) SA ?_
    simp only [Act.put, List.setIfInBounds_toArray, List.set_cons_zero, List.set_cons_succ]
    refine fz_take 8 (v := ?_) rfl (by kernel_rfl) (by kernel_rfl) (by kernel_rfl) (by kernel_rfl) (fun _ _ _ h => h) rfl ?_ SA ?_
    rotate_left
    · intro W hW
      go_simp
      (try with_reducible rfl)
    simp only [Act.put, List.setIfInBounds_toArray, List.set_cons_zero, List.set_cons_succ]
    refine fz_take 9 (v := ?_) rfl (by kernel_rfl) (by kernel_rfl) (by kernel_rfl) (by kernel_rfl) (fun _ _ _ h => h) rfl ?_ SA ?_
    rotate_left
    · intro W hW
      have q2 := (W2.out.ib.on hW).at (i := 2) (v := .int .i64 x.l) rfl
      have ql := (W2.out.ib.on hW).lt
      go_simp
      (try with_reducible rfl)
    simp only [Act.put, List.setIfInBounds_toArray, List.set_cons_zero, List.set_cons_succ]
    refine fz_take 10 (v := ?_) rfl (by kernel_rfl) (by kernel_rfl) (by kernel_rfl) (by kernel_rfl) (fun _ _ _ h => h) rfl ?_ SA ?_
    rotate_left
    · intro W hW
      go_simp
      (try with_reducible rfl)
    simp only [Act.put, List.setIfInBounds_toArray, List.set_cons_zero, List.set_cons_succ]
    refine fz_take 11 (v := ?_) rfl (by kernel_rfl) (by kernel_rfl) (by kernel_rfl) (by kernel_rfl) (fun _ _ _ h => h) rfl ?_ SA ?_
    rotate_left
    · intro W hW
      go_simp
      (try with_reducible rfl)
    simp only [Act.put, List.setIfInBounds_toArray, List.set_cons_zero, List.set_cons_succ]
    refine fz_take 12 (v := ?_) rfl (by kernel_rfl) (by kernel_rfl) (by kernel_rfl) (by kernel_rfl) (fun _ _ _ h => h) rfl ?_ SA ?_
    rotate_left
    · intro W hW
      go_simp
      (try with_reducible rfl)
    simp only [Act.put, List.setIfInBounds_toArray, List.set_cons_zero, List.set_cons_succ]
    refine fz_take 13 (v := ?_) rfl (by kernel_rfl) (by kernel_rfl) (by kernel_rfl) (by kernel_rfl) (fun _ _ _ h => h) rfl ?_ SA ?_
    rotate_left
    · intro W hW
      go_simp
      (try with_reducible rfl)
    simp only [Act.put, List.setIfInBounds_toArray, List.set_cons_zero, List.set_cons_succ]
    refine fz_take 14 (v := ?_) rfl (by kernel_rfl) (by kernel_rfl) (by kernel_rfl) (by kernel_rfl) (fun _ _ _ h => h) rfl ?_ SA ?_
    rotate_left
    · intro W hW
      have c0 := (HN.out.on (W2.out.on.trans hW)).at (i := 36) (v := .int .i64 V.st.length) rfl
      have cl := HN.out.lt
      go_simp
      (try with_reducible rfl)
    simp only [Act.put, List.setIfInBounds_toArray, List.set_cons_zero, List.set_cons_succ]
    refine fz_two 15 16 rfl rfl rfl rfl (by kernel_rfl) (fun K hK => ?_) (fun K hK => ?_)
    · go_simp
      refine (cP _).mono ?_
      rintro _ we ⟨rfl, ke⟩
      have SE : On wc we := SA.trans ke
      refine hK.out _ _ (fun _ => SE) ?_
      clear hK
      refine fz_one 16 rfl rfl (by kernel_rfl) (fun K hK => ?_)
      refine wp_al rfl buf_zero (fun wa ka ba => ?_)
      have SL : On wc wa := SE.trans ka
      have LA := SE.size
      refine hK.out _ _ (fun _ => SL) ?_
      clear hK
      refine fz_one 17 rfl rfl (by kernel_rfl) (fun K hK => ?_)
      refine wp_sto (cs := bufA (putB b (x.l, vv, (V.st.length : Int)) he)) rfl rfl rfl ba (by rw [bufA_size]; exact buf_sz) (by rw [bufA_size]; rfl) (bufA_one _) (fun wi BI oi => ?_)
      have SI : On wc wi := oi.on SL LA
      refine hK.out _ _ (fun _ => SI) ?_
      clear hK
      refine fz_done (by kernel_rfl) (NoPanic.normal ?_)
      have KI : On w wi := W2.out.on.trans SI
      have NE : Hid (N < w.heap.size) := HN.out.lt
      have HI := HN.out.on KI
      have h0 := HI.at HB.out
      have hf := HI.bk.fr (24 + t)
      have hl := HI.lt
      have IBI := W2.out.ib.on SI
      have RBI := W2.out.rb.on SI
      have q2 := IBI.at (i := 2) (v := .int .i64 x.l) rfl
      have ql := IBI.lt
      have n1 : ¬ w.heap.size = N := by have := NE.out; omega
      clear SA LA
      have TZ := HI.put (cs := vmL P0 P1 P2 V B q) (24 + t) (ptV (we.heap.size))
      rw [vm_setB ht] at TZ
      have OZ : OffV N w _ := (OffV.of KI).set (24 + t) (ptV (we.heap.size))
      have RZ := ((HR.out.on KI).off ((OffV.refl N wi).set (24 + t) (ptV (we.heap.size))) HI)
      have BZ := ((OffV.refl N wi).set (24 + t) (ptV (we.heap.size))).tk BI (BI.ne HI (Ne.symm vm_ne_buf))
      have IZ := ((OffV.refl N wi).set (24 + t) (ptV (we.heap.size))).tk RBI (by have := NE.out; omega)
      unfold ptV at TZ OZ RZ BZ IZ
      go_wp2_with (first | (refine wpList_sto (cs := (stC ⟨0, t, 2, x.l, 0, vv, -1⟩).toArray) rfl rfl rfl rfl IZ step_sz rfl (stC_one _) ?_) | (refine wpList_mkW rfl rfl rfl rfl rfl rfl rfl ?_))
      intro ws bs os
      go_wp2
      (try simp only [Exit.inBlock, Exit.then]); refine bodyPost_ret (res_step rfl rfl bs) rfl ?_
      have HP := HW.out.put he
      rw [wput_app h23 (by show (0 : Int) ≤ x.l; rw [HX.out]; omega) (by show x.l < 4; rw [HX.out]; omega) HL.out] at HP
      have VZ : VmIn _ N P0 P1 P2 (addBV V t (x.l, vv, (V.st.length : Int))) := ⟨_, q, TZ, RZ.addB BZ HP⟩
      exact ⟨rfl, VZ.offS os IZ (by have := NE.out; omega), OZ.fresh os (Nat.le_succ _)⟩
    · refine wp_al rfl buf_zero (fun wa ka ba => ?_)
      have SL : On wc wa := SA.trans ka
      have LA := SA.size
      refine hK.out _ _ (fun _ => SL) ?_
      clear hK
      refine fz_one 15 rfl rfl (by kernel_rfl) (fun K hK => ?_)
      go_simp
      refine (cP _).mono ?_
      rintro _ we ⟨rfl, ke⟩
      have SE : On wc we := SL.trans ke
      have BE := ba.on ke
      refine hK.out _ _ (fun _ => SE) ?_
      clear hK
      refine fz_one 17 rfl rfl (by kernel_rfl) (fun K hK => ?_)
      refine wp_sto (cs := bufA (putB b (x.l, vv, (V.st.length : Int)) he)) rfl rfl rfl BE (by rw [bufA_size]; exact buf_sz) (by rw [bufA_size]; rfl) (bufA_one _) (fun wi BI oi => ?_)
      have SI : On wc wi := oi.on SE LA
      refine hK.out _ _ (fun _ => SI) ?_
      clear hK
      refine fz_done (by kernel_rfl) (NoPanic.normal ?_)
      have KI : On w wi := W2.out.on.trans SI
      have NE : Hid (N < w.heap.size) := HN.out.lt
      have HI := HN.out.on KI
      have h0 := HI.at HB.out
      have hf := HI.bk.fr (24 + t)
      have hl := HI.lt
      have IBI := W2.out.ib.on SI
      have RBI := W2.out.rb.on SI
      have q2 := IBI.at (i := 2) (v := .int .i64 x.l) rfl
      have ql := IBI.lt
      have n1 : ¬ w.heap.size = N := by have := NE.out; omega
      clear SA LA
      have TZ := HI.put (cs := vmL P0 P1 P2 V B q) (24 + t) (ptV (wc.drew.heap.size))
      rw [vm_setB ht] at TZ
      have OZ : OffV N w _ := (OffV.of KI).set (24 + t) (ptV (wc.drew.heap.size))
      have RZ := ((HR.out.on KI).off ((OffV.refl N wi).set (24 + t) (ptV (wc.drew.heap.size))) HI)
      have BZ := ((OffV.refl N wi).set (24 + t) (ptV (wc.drew.heap.size))).tk BI (BI.ne HI (Ne.symm vm_ne_buf))
      have IZ := ((OffV.refl N wi).set (24 + t) (ptV (wc.drew.heap.size))).tk RBI (by have := NE.out; omega)
      unfold ptV at TZ OZ RZ BZ IZ
      go_wp2_with (first | (refine wpList_sto (cs := (stC ⟨0, t, 2, x.l, 0, vv, -1⟩).toArray) rfl rfl rfl rfl IZ step_sz rfl (stC_one _) ?_) | (refine wpList_mkW rfl rfl rfl rfl rfl rfl rfl ?_))
      intro ws bs os
      go_wp2
      (try simp only [Exit.inBlock, Exit.then]); refine bodyPost_ret (res_step rfl rfl bs) rfl ?_
      have HP := HW.out.put he
      rw [wput_app h23 (by show (0 : Int) ≤ x.l; rw [HX.out]; omega) (by show x.l < 4; rw [HX.out]; omega) HL.out] at HP
      have VZ : VmIn _ N P0 P1 P2 (addBV V t (x.l, vv, (V.st.length : Int))) := ⟨_, q, TZ, RZ.addB BZ HP⟩
      exact ⟨rfl, VZ.offS os IZ (by have := NE.out; omega), OZ.fresh os (Nat.le_succ _)⟩

end Go.Proofs.YtplihlmejnohnaaGreatDoor

namespace Go.Proofs.YtplihlmejnohnaaGreatDoor
open Go.RowKit

section
variable {o : Oper} {a : Act} {w : World} {Q : Exit → Act → World → Prop} {ops : Array Oper} {rest : List Oper} {x : Operand} {N : Nat} {s : StT}
theorem wpList_sld (hgd : o.guard = none) (ho : o.op = .load 39 x) (hx : a.eval x = .pointer (some ⟨N, 0, none⟩)) (h : Tb w N (stC s).toArray 39) (k : wpList Tryz.prog ops Q rest (a.put o.dst (stV s)) w) : wpList Tryz.prog ops Q (o :: rest) a w :=
  wpList_load_mid hgd 39 x ho N 0 hx (stC s) _ h.whole fields_step rfl (by exact step_sz) k
end
set_option maxHeartbeats 4000000 in
set_option maxRecDepth 8000 in
theorem swap_is (N t c : Nat) (x : InsT) (P0 P1 P2 : Value) (V : VmT) (w : World) (h : VmIn w N P0 P1 P2 V) (ht : t < 4) (hc : c < 4) (hx : x.l = (c : Nat)) :
    Calls Tryz.prog 88 #[ptV N, .int .i64 t, insV x] w fun e w' =>
      e = .returned (stV (if V.mem c == valOf x.a (V.l t) then ⟨0, t, 4, x.l, V.mem c, valOf x.b (V.l t), V.wr c⟩ else ⟨0, t, 5, x.l, V.mem c, 0, V.wr c⟩)) ∧
      VmIn w' N P0 P1 P2 (if V.mem c == valOf x.a (V.l t) then setMV V c (valOf x.b (V.l t)) V.st.length else V) ∧ OffV N w w' := by
  have HV : Hid (VmIn w N P0 P1 P2 V) := h
  obtain ⟨B, q, hN, hR⟩ := h
  have HN : Hid (Tb w N (vmA P0 P1 P2 V B q) 80) := hN
  have HR : Hid (VmR w V B q) := hR
  have b1 : (t : Int) < 4 := by omega
  have b2 : decide ((t : Int) < 0) = false := decide_eq_false (by omega)
  have b4 : (0 : Int) ≤ (t : Int) := by omega
  have e1 : (c : Int) < 4 := by omega
  have e2 : decide ((c : Int) < 0) = false := decide_eq_false (by omega)
  have e4 : (0 : Int) ≤ (c : Int) := by omega
  obtain ⟨W1, hW1⟩ : ∃ W1, W1 = (w.alloc (.cells #[.int .i64 x.k, .int .i64 x.r, .int .i64 x.l, .int .i64 x.a.r, .int .i64 x.a.v, .int .i64 x.o, .int .i64 x.b.r, .int .i64 x.b.v, .int .i64 x.n] 107)).alloc (.cells #[.int .i64 0, .int .i64 0, .int .i64 0, .int .i64 0, .int .i64 0, .int .i64 0, .int .i64 0] 39) := ⟨_, rfl⟩
  have W0 : Hid (VmB w W1 x stZ) := ⟨by rw [hW1]; exact ((On.refl w).alloc _).alloc _, by rw [hW1]; exact (Tb.new w _ _).alloc _, by
    rw [hW1]
    have := Tb.new (w.alloc (.cells #[.int .i64 x.k, .int .i64 x.r, .int .i64 x.l, .int .i64 x.a.r, .int .i64 x.a.v, .int .i64 x.o, .int .i64 x.b.r, .int .i64 x.b.v, .int .i64 x.n] 107)) #[.int .i64 0, .int .i64 0, .int .i64 0, .int .i64 0, .int .i64 0, .int .i64 0, .int .i64 0] 39
    rwa [World.size_alloc] at this⟩
  have cA := fun W => pvalue_is x.a (V.l t) W
  have cB := fun W => pvalue_is x.b (V.l t) W
  have HX : Hid (x.l = (c : Int)) := hx
  have NE : Hid (N < w.heap.size) := hN.lt
  clear hN hR hx
  rw [HX.out]
  generalize valOf x.a (V.l t) = va at *
  generalize valOf x.b (V.l t) = vb at *
  unfold ptV insV
  cases hq : (V.mem c == va) with
  | false =>
    rw [if_neg (by decide), if_neg (by decide)]
    go_enter Tryz.func88, Tryz.ntmps88
    go_upto_region 1 with fail
    rw [← hW1]
    clear hW1
    have SA : On W1 W1.drew := (On.refl W1).drew
    refine region_fz (fun W => On W1 W) [] 20 (by kernel_rfl) rfl ?_
    refine fz_take 0 (v := ?_) rfl (by kernel_rfl) (by kernel_rfl) (by kernel_rfl) (by kernel_rfl) (fun _ _ _ h => h) rfl ?_ SA ?_
    rotate_left
    · intro W hW
      go_simp
      (try with_reducible rfl)
    simp only [Act.put, List.setIfInBounds_toArray, List.set_cons_zero, List.set_cons_succ]
    refine fz_take 1 (v := ?_) rfl (by kernel_rfl) (by kernel_rfl) (by kernel_rfl) (by kernel_rfl) (fun _ _ _ h => h) rfl ?_ SA ?_
    rotate_left
    · intro W hW
      go_simp
      (try with_reducible rfl)
    simp only [Act.put, List.setIfInBounds_toArray, List.set_cons_zero, List.set_cons_succ]
    refine fz_take 2 (v := ?_) rfl (by kernel_rfl) (by kernel_rfl) (by kernel_rfl) (by kernel_rfl) (fun _ _ _ h => h) rfl ?_ SA ?_
    rotate_left
    · intro W hW
      have q2 := (W0.out.ib.on hW).at (i := 2) (v := .int .i64 x.l) rfl
      rw [HX.out] at q2
      have ql := (W0.out.ib.on hW).lt
      go_simp
      (try with_reducible rfl)
    simp only [Act.put, List.setIfInBounds_toArray, List.set_cons_zero, List.set_cons_succ]
    refine fz_take 3 (v := ?_) rfl (by kernel_rfl) (by kernel_rfl) (by kernel_rfl) (by kernel_rfl) (fun _ _ _ h => h) rfl ?_ SA ?_
    rotate_left
    · intro W hW
      go_simp
      (try with_reducible rfl)
    simp only [Act.put, List.setIfInBounds_toArray, List.set_cons_zero, List.set_cons_succ]
    refine fz_take 4 (v := ?_) rfl (by kernel_rfl) (by kernel_rfl) (by kernel_rfl) (by kernel_rfl) (fun _ _ _ h => h) rfl ?_ SA ?_
    rotate_left
    · intro W hW
      go_simp
      (try with_reducible rfl)
    simp only [Act.put, List.setIfInBounds_toArray, List.set_cons_zero, List.set_cons_succ]
    refine fz_take 5 (v := ?_) rfl (by kernel_rfl) (by kernel_rfl) (by kernel_rfl) (by kernel_rfl) (fun _ _ _ h => h) rfl ?_ SA ?_
    rotate_left
    · intro W hW
      have q2 := (W0.out.ib.on hW).at (i := 2) (v := .int .i64 x.l) rfl
      rw [HX.out] at q2
      have ql := (W0.out.ib.on hW).lt
      go_simp
      (try with_reducible rfl)
    simp only [Act.put, List.setIfInBounds_toArray, List.set_cons_zero, List.set_cons_succ]
    refine fz_take 6 (v := ?_) rfl (by kernel_rfl) (by kernel_rfl) (by kernel_rfl) (by kernel_rfl) (fun _ _ _ h => h) rfl ?_ SA ?_
    rotate_left
    · intro W hW
      go_simp
      (try with_reducible rfl)
    simp only [Act.put, List.setIfInBounds_toArray, List.set_cons_zero, List.set_cons_succ]
    refine fz_take 7 (v := ?_) rfl (by kernel_rfl) (by kernel_rfl) (by kernel_rfl) (by kernel_rfl) (fun _ _ _ h => h) rfl ?_ SA ?_
    rotate_left
    · intro W hW
      go_simp
      (try with_reducible rfl)
    simp only [Act.put, List.setIfInBounds_toArray, List.set_cons_zero, List.set_cons_succ]
    refine fz_take 8 (v := ?_) rfl (by kernel_rfl) (by kernel_rfl) (by kernel_rfl) (by kernel_rfl) (fun _ _ _ h => h) rfl ?_ SA ?_
    rotate_left
    · intro W hW
      go_simp
      (try with_reducible rfl)
    simp only [Act.put, List.setIfInBounds_toArray, List.set_cons_zero, List.set_cons_succ]
    refine fz_take 9 (v := ?_) rfl (by kernel_rfl) (by kernel_rfl) (by kernel_rfl) (by kernel_rfl) (fun _ _ _ h => h) rfl ?_ SA ?_
    rotate_left
    · intro W hW
      have c0 := (HN.out.on (W0.out.on.trans hW)).at (vm_mem hc)
      have cl := HN.out.lt
      go_simp
      (try with_reducible rfl)
    simp only [Act.put, List.setIfInBounds_toArray, List.set_cons_zero, List.set_cons_succ]
    refine fz_take 10 (v := ?_) rfl (by kernel_rfl) (by kernel_rfl) (by kernel_rfl) (by kernel_rfl) (fun _ _ _ h => h) rfl ?_ SA ?_
    rotate_left
    · intro W hW
      go_simp
      (try with_reducible rfl)
    simp only [Act.put, List.setIfInBounds_toArray, List.set_cons_zero, List.set_cons_succ]
    refine fz_take 11 (v := ?_) rfl (by kernel_rfl) (by kernel_rfl) (by kernel_rfl) (by kernel_rfl) (fun _ _ _ h => h) rfl ?_ SA ?_
    rotate_left
    · intro W hW
      go_simp
      (try with_reducible rfl)
    simp only [Act.put, List.setIfInBounds_toArray, List.set_cons_zero, List.set_cons_succ]
    refine fz_take 12 (v := ?_) rfl (by kernel_rfl) (by kernel_rfl) (by kernel_rfl) (by kernel_rfl) (fun _ _ _ h => h) rfl ?_ SA ?_
    rotate_left
    · intro W hW
      have q2 := (W0.out.ib.on hW).at (i := 2) (v := .int .i64 x.l) rfl
      rw [HX.out] at q2
      have ql := (W0.out.ib.on hW).lt
      go_simp
      (try with_reducible rfl)
    simp only [Act.put, List.setIfInBounds_toArray, List.set_cons_zero, List.set_cons_succ]
    refine fz_take 13 (v := ?_) rfl (by kernel_rfl) (by kernel_rfl) (by kernel_rfl) (by kernel_rfl) (fun _ _ _ h => h) rfl ?_ SA ?_
    rotate_left
    · intro W hW
      go_simp
      (try with_reducible rfl)
    simp only [Act.put, List.setIfInBounds_toArray, List.set_cons_zero, List.set_cons_succ]
    refine fz_take 14 (v := ?_) rfl (by kernel_rfl) (by kernel_rfl) (by kernel_rfl) (by kernel_rfl) (fun _ _ _ h => h) rfl ?_ SA ?_
    rotate_left
    · intro W hW
      go_simp
      (try with_reducible rfl)
    simp only [Act.put, List.setIfInBounds_toArray, List.set_cons_zero, List.set_cons_succ]
    refine fz_take 15 (v := ?_) rfl (by kernel_rfl) (by kernel_rfl) (by kernel_rfl) (by kernel_rfl) (fun _ _ _ h => h) rfl ?_ SA ?_
    rotate_left
    · intro W hW
      go_simp
      (try with_reducible rfl)
    simp only [Act.put, List.setIfInBounds_toArray, List.set_cons_zero, List.set_cons_succ]
    refine fz_take 16 (v := ?_) rfl (by kernel_rfl) (by kernel_rfl) (by kernel_rfl) (by kernel_rfl) (fun _ _ _ h => h) rfl ?_ SA ?_
    rotate_left
    · intro W hW
      have c0 := (HN.out.on (W0.out.on.trans hW)).at (vm_wr hc)
      have cl := HN.out.lt
      go_simp
      (try with_reducible rfl)
    simp only [Act.put, List.setIfInBounds_toArray, List.set_cons_zero, List.set_cons_succ]
    refine fz_take 17 (v := stV ⟨0, t, 5, (c : Int), V.mem c, 0, V.wr c⟩) rfl (by kernel_rfl) (by kernel_rfl) (by kernel_rfl) (by kernel_rfl) (fun _ _ _ h => h) rfl (fun W hW => exec_mkR rfl rfl rfl rfl rfl rfl W) SA ?_
    simp only [Act.put, List.setIfInBounds_toArray, List.set_cons_zero, List.set_cons_succ]
    refine fz_one 18 rfl rfl (by kernel_rfl) (fun K hK => ?_)
    refine wp_al rfl step_zero (fun wa ka ba => ?_)
    have SL : On W1 wa := SA.trans ka
    have LA : W1.heap.size ≤ W1.heap.size := Nat.le_refl _
    have ba : Tb wa W1.heap.size _ _ := ba
    refine hK.out _ _ (fun _ => SL) ?_
    clear hK
    refine fz_one 19 rfl rfl (by kernel_rfl) (fun K hK => ?_)
    refine wp_sto (cs := (stC ⟨0, t, 5, (c : Int), V.mem c, 0, V.wr c⟩).toArray) rfl rfl rfl ba step_sz rfl (stC_one _) (fun wi BS oi => ?_)
    have SI : On W1 wi := oi.on SL LA
    have BS : Tb wi W1.heap.size (stC ⟨0, t, 5, (c : Int), V.mem c, 0, V.wr c⟩).toArray 39 := BS
    refine hK.out _ _ (fun _ => SI) ?_
    clear hK
    refine fz_done (by kernel_rfl) (NoPanic.normal ?_)
    have W2 : Hid (VmB w wi x stZ) := W0.out.go SI
    clear SA SL LA ka ba oi
    go_upto_region 2 with fail
    have SA : On wi wi.drew := (On.refl wi).drew
    refine region_fz (fun W => On wi W) [] 12 (by kernel_rfl) rfl ?_
    refine fz_take 0 (v := ?_) rfl (by kernel_rfl) (by kernel_rfl) (by kernel_rfl) (by kernel_rfl) (fun _ _ _ h => h) rfl ?_ SA ?_
    rotate_left
    · intro W hW
      go_simp
      (try with_reducible rfl)
    simp only [Act.put, List.setIfInBounds_toArray, List.set_cons_zero, List.set_cons_succ]
    refine fz_take 1 (v := ?_) rfl (by kernel_rfl) (by kernel_rfl) (by kernel_rfl) (by kernel_rfl) (fun _ _ _ h => h) rfl ?_ SA ?_
    rotate_left
    · intro W hW
      have q5 := (BS.on hW).at (i := 4) (v := .int .i64 (V.mem c)) rfl
      have ql := (BS.on hW).lt
      go_simp
      (try with_reducible rfl)
    simp only [Act.put, List.setIfInBounds_toArray, List.set_cons_zero, List.set_cons_succ]
    refine fz_take 2 (v := ?_) rfl (by kernel_rfl) (by kernel_rfl) (by kernel_rfl) (by kernel_rfl) (fun _ _ _ h => h) rfl ?_ SA ?_
    rotate_left
    · intro W hW
      go_simp
      (try with_reducible rfl)
    simp only [Act.put, List.setIfInBounds_toArray, List.set_cons_zero, List.set_cons_succ]
    refine fz_take 3 (v := ?_) rfl (by kernel_rfl) (by kernel_rfl) (by kernel_rfl) (by kernel_rfl) (fun _ _ _ h => h) rfl ?_ SA ?_
    rotate_left
    · intro W hW
      have q3 := (W2.out.ib.on hW).at (i := 3) (v := .int .i64 x.a.r) rfl
      have q4 := (W2.out.ib.on hW).at (i := 4) (v := .int .i64 x.a.v) rfl
      have ql := (W2.out.ib.on hW).lt
      go_simp
      (try with_reducible rfl)
    simp only [Act.put, List.setIfInBounds_toArray, List.set_cons_zero, List.set_cons_succ]
    refine fz_take 4 (v := ?_) rfl (by kernel_rfl) (by kernel_rfl) (by kernel_rfl) (by kernel_rfl) (fun _ _ _ h => h) rfl ?_ SA ?_
    rotate_left
    · intro W hW
      go_simp
      (try with_reducible rfl)
    simp only [Act.put, List.setIfInBounds_toArray, List.set_cons_zero, List.set_cons_succ]
    refine fz_take 5 (v := ?_) rfl (by kernel_rfl) (by kernel_rfl) (by kernel_rfl) (by kernel_rfl) (fun _ _ _ h => h) rfl ?_ SA ?_
    rotate_left
    · intro W hW
      go_simp
      (try with_reducible rfl)
    simp only [Act.put, List.setIfInBounds_toArray, List.set_cons_zero, List.set_cons_succ]
    refine fz_take 6 (v := ?_) rfl (by kernel_rfl) (by kernel_rfl) (by kernel_rfl) (by kernel_rfl) (fun _ _ _ h => h) rfl ?_ SA ?_
    rotate_left
    · intro W hW
      go_simp
      (try with_reducible rfl)
    simp only [Act.put, List.setIfInBounds_toArray, List.set_cons_zero, List.set_cons_succ]
    refine fz_take 7 (v := ?_) rfl (by kernel_rfl) (by kernel_rfl) (by kernel_rfl) (by kernel_rfl) (fun _ _ _ h => h) rfl ?_ SA ?_
    rotate_left
    · intro W hW
      go_simp
      (try with_reducible rfl)
    simp only [Act.put, List.setIfInBounds_toArray, List.set_cons_zero, List.set_cons_succ]
    refine fz_take 8 (v := ?_) rfl (by kernel_rfl) (by kernel_rfl) (by kernel_rfl) (by kernel_rfl) (fun _ _ _ h => h) rfl ?_ SA ?_
    rotate_left
    · intro W hW
      go_simp
      (try with_reducible rfl)
    simp only [Act.put, List.setIfInBounds_toArray, List.set_cons_zero, List.set_cons_succ]
    refine fz_take 9 (v := locV (V.l t)) rfl (by kernel_rfl) (by kernel_rfl) (by kernel_rfl) (by kernel_rfl) (fun _ _ _ h => h) rfl (fun W hW => exec_loc rfl rfl (HN.out.on (W2.out.on.trans hW)) ht) SA ?_
    simp only [Act.put, List.setIfInBounds_toArray, List.set_cons_zero, List.set_cons_succ]
    refine fz_one 10 rfl rfl (by kernel_rfl) (fun K hK => ?_)
    go_simp
    refine (cA _).mono ?_
    rintro _ wc ⟨rfl, kwc⟩
    have SC : On wi wc := SA.trans kwc
    refine hK.out _ _ (fun _ => SC) ?_
    clear hK kwc
    refine fz_take 11 (v := ?_) rfl (by kernel_rfl) (by kernel_rfl) (by kernel_rfl) (by kernel_rfl) (fun _ _ _ h => h) rfl ?_ SC ?_
    rotate_left
    · intro W hW
      go_simp
      (try with_reducible rfl)
    simp only [Act.put, List.setIfInBounds_toArray, List.set_cons_zero, List.set_cons_succ]
    refine fz_done (by kernel_rfl) (NoPanic.normal ?_)
    have W3 : Hid (VmB w wc x stZ) := W2.out.go SC
    have B3 := BS.on SC
    clear SA
    go_wp2_with (first | (refine wpList_sto (cs := (stC ⟨0, t, 5, (c : Int), V.mem c, 0, V.wr c⟩).toArray) rfl rfl rfl rfl W3.out.rb step_sz rfl (stC_one _) ?_) | (refine wpList_sld rfl rfl rfl B3 ?_))
    intro ws bs os
    go_wp2
    (try simp only [Exit.inBlock, Exit.then]); refine bodyPost_ret (res_step rfl rfl bs) rfl ?_
    exact ⟨rfl, (HV.out.on W3.out.on).offS os W3.out.rb (by have := NE.out; omega), (OffV.of W3.out.on).fresh os (Nat.le_succ _)⟩
  | true =>
    rw [if_pos rfl, if_pos rfl]
    go_enter Tryz.func88, Tryz.ntmps88
    go_upto_region 1 with fail
    rw [← hW1]
    clear hW1
    have SA : On W1 W1.drew := (On.refl W1).drew
    refine region_fz (fun W => On W1 W) [] 20 (by kernel_rfl) rfl ?_
    refine fz_take 0 (v := ?_) rfl (by kernel_rfl) (by kernel_rfl) (by kernel_rfl) (by kernel_rfl) (fun _ _ _ h => h) rfl ?_ SA ?_
    rotate_left
    · intro W hW
      go_simp
      (try with_reducible rfl)
    simp only [Act.put, List.setIfInBounds_toArray, List.set_cons_zero, List.set_cons_succ]
    refine fz_take 1 (v := ?_) rfl (by kernel_rfl) (by kernel_rfl) (by kernel_rfl) (by kernel_rfl) (fun _ _ _ h => h) rfl ?_ SA ?_
    rotate_left
    · intro W hW
      go_simp
      (try with_reducible rfl)
    simp only [Act.put, List.setIfInBounds_toArray, List.set_cons_zero, List.set_cons_succ]
    refine fz_take 2 (v := ?_) rfl (by kernel_rfl) (by kernel_rfl) (by kernel_rfl) (by kernel_rfl) (fun _ _ _ h => h) rfl ?_ SA ?_
    rotate_left
    · intro W hW
      have q2 := (W0.out.ib.on hW).at (i := 2) (v := .int .i64 x.l) rfl
      rw [HX.out] at q2
      have ql := (W0.out.ib.on hW).lt
      go_simp
      (try with_reducible rfl)
    simp only [Act.put, List.setIfInBounds_toArray, List.set_cons_zero, List.set_cons_succ]
    refine fz_take 3 (v := ?_) rfl (by kernel_rfl) (by kernel_rfl) (by kernel_rfl) (by kernel_rfl) (fun _ _ _ h => h) rfl ?_ SA ?_
    rotate_left
    · intro W hW
      go_simp
      (try with_reducible rfl)
    simp only [Act.put, List.setIfInBounds_toArray, List.set_cons_zero, List.set_cons_succ]
    refine fz_take 4 (v := ?_) rfl (by kernel_rfl) (by kernel_rfl) (by kernel_rfl) (by kernel_rfl) (fun _ _ _ h => h) rfl ?_ SA ?_
    rotate_left
    · intro W hW
      go_simp
      (try with_reducible rfl)
    simp only [Act.put, List.setIfInBounds_toArray, List.set_cons_zero, List.set_cons_succ]
    refine fz_take 5 (v := ?_) rfl (by kernel_rfl) (by kernel_rfl) (by kernel_rfl) (by kernel_rfl) (fun _ _ _ h => h) rfl ?_ SA ?_
    rotate_left
    · intro W hW
      have q2 := (W0.out.ib.on hW).at (i := 2) (v := .int .i64 x.l) rfl
      rw [HX.out] at q2
      have ql := (W0.out.ib.on hW).lt
      go_simp
      (try with_reducible rfl)
    simp only [Act.put, List.setIfInBounds_toArray, List.set_cons_zero, List.set_cons_succ]
    refine fz_take 6 (v := ?_) rfl (by kernel_rfl) (by kernel_rfl) (by kernel_rfl) (by kernel_rfl) (fun _ _ _ h => h) rfl ?_ SA ?_
    rotate_left
    · intro W hW
      go_simp
      (try with_reducible rfl)
    simp only [Act.put, List.setIfInBounds_toArray, List.set_cons_zero, List.set_cons_succ]
    refine fz_take 7 (v := ?_) rfl (by kernel_rfl) (by kernel_rfl) (by kernel_rfl) (by kernel_rfl) (fun _ _ _ h => h) rfl ?_ SA ?_
    rotate_left
    · intro W hW
      go_simp
      (try with_reducible rfl)
    simp only [Act.put, List.setIfInBounds_toArray, List.set_cons_zero, List.set_cons_succ]
    refine fz_take 8 (v := ?_) rfl (by kernel_rfl) (by kernel_rfl) (by kernel_rfl) (by kernel_rfl) (fun _ _ _ h => h) rfl ?_ SA ?_
    rotate_left
    · intro W hW
      go_simp
      (try with_reducible rfl)
    simp only [Act.put, List.setIfInBounds_toArray, List.set_cons_zero, List.set_cons_succ]
    refine fz_take 9 (v := ?_) rfl (by kernel_rfl) (by kernel_rfl) (by kernel_rfl) (by kernel_rfl) (fun _ _ _ h => h) rfl ?_ SA ?_
    rotate_left
    · intro W hW
      have c0 := (HN.out.on (W0.out.on.trans hW)).at (vm_mem hc)
      have cl := HN.out.lt
      go_simp
      (try with_reducible rfl)
    simp only [Act.put, List.setIfInBounds_toArray, List.set_cons_zero, List.set_cons_succ]
    refine fz_take 10 (v := ?_) rfl (by kernel_rfl) (by kernel_rfl) (by kernel_rfl) (by kernel_rfl) (fun _ _ _ h => h) rfl ?_ SA ?_
    rotate_left
    · intro W hW
      go_simp
      (try with_reducible rfl)
    simp only [Act.put, List.setIfInBounds_toArray, List.set_cons_zero, List.set_cons_succ]
    refine fz_take 11 (v := ?_) rfl (by kernel_rfl) (by kernel_rfl) (by kernel_rfl) (by kernel_rfl) (fun _ _ _ h => h) rfl ?_ SA ?_
    rotate_left
    · intro W hW
      go_simp
      (try with_reducible rfl)
    simp only [Act.put, List.setIfInBounds_toArray, List.set_cons_zero, List.set_cons_succ]
    refine fz_take 12 (v := ?_) rfl (by kernel_rfl) (by kernel_rfl) (by kernel_rfl) (by kernel_rfl) (fun _ _ _ h => h) rfl ?_ SA ?_
    rotate_left
    · intro W hW
      have q2 := (W0.out.ib.on hW).at (i := 2) (v := .int .i64 x.l) rfl
      rw [HX.out] at q2
      have ql := (W0.out.ib.on hW).lt
      go_simp
      (try with_reducible rfl)
    simp only [Act.put, List.setIfInBounds_toArray, List.set_cons_zero, List.set_cons_succ]
    refine fz_take 13 (v := ?_) rfl (by kernel_rfl) (by kernel_rfl) (by kernel_rfl) (by kernel_rfl) (fun _ _ _ h => h) rfl ?_ SA ?_
    rotate_left
    · intro W hW
      go_simp
      (try with_reducible rfl)
    simp only [Act.put, List.setIfInBounds_toArray, List.set_cons_zero, List.set_cons_succ]
    refine fz_take 14 (v := ?_) rfl (by kernel_rfl) (by kernel_rfl) (by kernel_rfl) (by kernel_rfl) (fun _ _ _ h => h) rfl ?_ SA ?_
    rotate_left
    · intro W hW
      go_simp
      (try with_reducible rfl)
    simp only [Act.put, List.setIfInBounds_toArray, List.set_cons_zero, List.set_cons_succ]
    refine fz_take 15 (v := ?_) rfl (by kernel_rfl) (by kernel_rfl) (by kernel_rfl) (by kernel_rfl) (fun _ _ _ h => h) rfl ?_ SA ?_
    rotate_left
    · intro W hW
      go_simp
      (try with_reducible rfl)
    simp only [Act.put, List.setIfInBounds_toArray, List.set_cons_zero, List.set_cons_succ]
    refine fz_take 16 (v := ?_) rfl (by kernel_rfl) (by kernel_rfl) (by kernel_rfl) (by kernel_rfl) (fun _ _ _ h => h) rfl ?_ SA ?_
    rotate_left
    · intro W hW
      have c0 := (HN.out.on (W0.out.on.trans hW)).at (vm_wr hc)
      have cl := HN.out.lt
      go_simp
      (try with_reducible rfl)
    simp only [Act.put, List.setIfInBounds_toArray, List.set_cons_zero, List.set_cons_succ]
    refine fz_take 17 (v := stV ⟨0, t, 5, (c : Int), V.mem c, 0, V.wr c⟩) rfl (by kernel_rfl) (by kernel_rfl) (by kernel_rfl) (by kernel_rfl) (fun _ _ _ h => h) rfl (fun W hW => exec_mkR rfl rfl rfl rfl rfl rfl W) SA ?_
    simp only [Act.put, List.setIfInBounds_toArray, List.set_cons_zero, List.set_cons_succ]
    refine fz_one 18 rfl rfl (by kernel_rfl) (fun K hK => ?_)
    refine wp_al rfl step_zero (fun wa ka ba => ?_)
    have SL : On W1 wa := SA.trans ka
    have LA : W1.heap.size ≤ W1.heap.size := Nat.le_refl _
    have ba : Tb wa W1.heap.size _ _ := ba
    refine hK.out _ _ (fun _ => SL) ?_
    clear hK
    refine fz_one 19 rfl rfl (by kernel_rfl) (fun K hK => ?_)
    refine wp_sto (cs := (stC ⟨0, t, 5, (c : Int), V.mem c, 0, V.wr c⟩).toArray) rfl rfl rfl ba step_sz rfl (stC_one _) (fun wi BS oi => ?_)
    have SI : On W1 wi := oi.on SL LA
    have BS : Tb wi W1.heap.size (stC ⟨0, t, 5, (c : Int), V.mem c, 0, V.wr c⟩).toArray 39 := BS
    refine hK.out _ _ (fun _ => SI) ?_
    clear hK
    refine fz_done (by kernel_rfl) (NoPanic.normal ?_)
    have W2 : Hid (VmB w wi x stZ) := W0.out.go SI
    clear SA SL LA ka ba oi
    go_upto_region 2 with fail
    have SA : On wi wi.drew := (On.refl wi).drew
    refine region_fz (fun W => On wi W) [] 12 (by kernel_rfl) rfl ?_
    refine fz_take 0 (v := ?_) rfl (by kernel_rfl) (by kernel_rfl) (by kernel_rfl) (by kernel_rfl) (fun _ _ _ h => h) rfl ?_ SA ?_
    rotate_left
    · intro W hW
      go_simp
      (try with_reducible rfl)
    simp only [Act.put, List.setIfInBounds_toArray, List.set_cons_zero, List.set_cons_succ]
    refine fz_take 1 (v := ?_) rfl (by kernel_rfl) (by kernel_rfl) (by kernel_rfl) (by kernel_rfl) (fun _ _ _ h => h) rfl ?_ SA ?_
    rotate_left
    · intro W hW
      have q5 := (BS.on hW).at (i := 4) (v := .int .i64 (V.mem c)) rfl
      have ql := (BS.on hW).lt
      go_simp
      (try with_reducible rfl)
    simp only [Act.put, List.setIfInBounds_toArray, List.set_cons_zero, List.set_cons_succ]
    refine fz_take 2 (v := ?_) rfl (by kernel_rfl) (by kernel_rfl) (by kernel_rfl) (by kernel_rfl) (fun _ _ _ h => h) rfl ?_ SA ?_
    rotate_left
    · intro W hW
      go_simp
      (try with_reducible rfl)
    simp only [Act.put, List.setIfInBounds_toArray, List.set_cons_zero, List.set_cons_succ]
    refine fz_take 3 (v := ?_) rfl (by kernel_rfl) (by kernel_rfl) (by kernel_rfl) (by kernel_rfl) (fun _ _ _ h => h) rfl ?_ SA ?_
    rotate_left
    · intro W hW
      have q3 := (W2.out.ib.on hW).at (i := 3) (v := .int .i64 x.a.r) rfl
      have q4 := (W2.out.ib.on hW).at (i := 4) (v := .int .i64 x.a.v) rfl
      have ql := (W2.out.ib.on hW).lt
      go_simp
      (try with_reducible rfl)
    simp only [Act.put, List.setIfInBounds_toArray, List.set_cons_zero, List.set_cons_succ]
    refine fz_take 4 (v := ?_) rfl (by kernel_rfl) (by kernel_rfl) (by kernel_rfl) (by kernel_rfl) (fun _ _ _ h => h) rfl ?_ SA ?_
    rotate_left
    · intro W hW
      go_simp
      (try with_reducible rfl)
    simp only [Act.put, List.setIfInBounds_toArray, List.set_cons_zero, List.set_cons_succ]
    refine fz_take 5 (v := ?_) rfl (by kernel_rfl) (by kernel_rfl) (by kernel_rfl) (by kernel_rfl) (fun _ _ _ h => h) rfl ?_ SA ?_
    rotate_left
    · intro W hW
      go_simp
      (try with_reducible rfl)
    simp only [Act.put, List.setIfInBounds_toArray, List.set_cons_zero, List.set_cons_succ]
    refine fz_take 6 (v := ?_) rfl (by kernel_rfl) (by kernel_rfl) (by kernel_rfl) (by kernel_rfl) (fun _ _ _ h => h) rfl ?_ SA ?_
    rotate_left
    · intro W hW
      go_simp
      (try with_reducible rfl)
    simp only [Act.put, List.setIfInBounds_toArray, List.set_cons_zero, List.set_cons_succ]
    refine fz_take 7 (v := ?_) rfl (by kernel_rfl) (by kernel_rfl) (by kernel_rfl) (by kernel_rfl) (fun _ _ _ h => h) rfl ?_ SA ?_
    rotate_left
    · intro W hW
      go_simp
      (try with_reducible rfl)
    simp only [Act.put, List.setIfInBounds_toArray, List.set_cons_zero, List.set_cons_succ]
    refine fz_take 8 (v := ?_) rfl (by kernel_rfl) (by kernel_rfl) (by kernel_rfl) (by kernel_rfl) (fun _ _ _ h => h) rfl ?_ SA ?_
    rotate_left
    · intro W hW
      go_simp
      (try with_reducible rfl)
    simp only [Act.put, List.setIfInBounds_toArray, List.set_cons_zero, List.set_cons_succ]
    refine fz_take 9 (v := locV (V.l t)) rfl (by kernel_rfl) (by kernel_rfl) (by kernel_rfl) (by kernel_rfl) (fun _ _ _ h => h) rfl (fun W hW => exec_loc rfl rfl (HN.out.on (W2.out.on.trans hW)) ht) SA ?_
    simp only [Act.put, List.setIfInBounds_toArray, List.set_cons_zero, List.set_cons_succ]
    refine fz_one 10 rfl rfl (by kernel_rfl) (fun K hK => ?_)
    go_simp
    refine (cA _).mono ?_
    rintro _ wc ⟨rfl, kwc⟩
    have SC : On wi wc := SA.trans kwc
    refine hK.out _ _ (fun _ => SC) ?_
    clear hK kwc
    refine fz_take 11 (v := ?_) rfl (by kernel_rfl) (by kernel_rfl) (by kernel_rfl) (by kernel_rfl) (fun _ _ _ h => h) rfl ?_ SC ?_
    rotate_left
    · intro W hW
      go_simp
      (try with_reducible rfl)
    simp only [Act.put, List.setIfInBounds_toArray, List.set_cons_zero, List.set_cons_succ]
    refine fz_done (by kernel_rfl) (NoPanic.normal ?_)
    have W3 : Hid (VmB w wc x stZ) := W2.out.go SC
    have B3 := BS.on SC
    have S9 : On W1 wc := SI.trans SC
    clear SA
    go_upto_region 3 with fail
    have SA : On W1 wc.drew := S9.drew
    refine region_fz (fun W => On W1 W) [] 13 (by kernel_rfl) rfl ?_
    refine fz_take 0 (v := ?_) rfl (by kernel_rfl) (by kernel_rfl) (by kernel_rfl) (by kernel_rfl) (fun _ _ _ h => h) rfl ?_ SA ?_
    rotate_left
    · intro W hW
      go_simp
      (try with_reducible rfl)
    simp only [Act.put, List.setIfInBounds_toArray, List.set_cons_zero, List.set_cons_succ]
    refine fz_take 1 (v := ?_) rfl (by kernel_rfl) (by kernel_rfl) (by kernel_rfl) (by kernel_rfl) (fun _ _ _ h => h) rfl ?_ SA ?_
    rotate_left
    · intro W hW
      have q6 := (W0.out.ib.on hW).at (i := 6) (v := .int .i64 x.b.r) rfl
      have q7 := (W0.out.ib.on hW).at (i := 7) (v := .int .i64 x.b.v) rfl
      have ql := (W0.out.ib.on hW).lt
      go_simp
      (try with_reducible rfl)
    simp only [Act.put, List.setIfInBounds_toArray, List.set_cons_zero, List.set_cons_succ]
    refine fz_take 2 (v := ?_) rfl (by kernel_rfl) (by kernel_rfl) (by kernel_rfl) (by kernel_rfl) (fun _ _ _ h => h) rfl ?_ SA ?_
    rotate_left
    · intro W hW
      go_simp
      (try with_reducible rfl)
    simp only [Act.put, List.setIfInBounds_toArray, List.set_cons_zero, List.set_cons_succ]
    refine fz_take 3 (v := ?_) rfl (by kernel_rfl) (by kernel_rfl) (by kernel_rfl) (by kernel_rfl) (fun _ _ _ h => h) rfl ?_ SA ?_
    rotate_left
    · intro W hW
      go_simp
      (try with_reducible rfl)
    simp only [Act.put, List.setIfInBounds_toArray, List.set_cons_zero, List.set_cons_succ]
    refine fz_take 4 (v := ?_) rfl (by kernel_rfl) (by kernel_rfl) (by kernel_rfl) (by kernel_rfl) (fun _ _ _ h => h) rfl ?_ SA ?_
    rotate_left
    · intro W hW
      go_simp
      (try with_reducible rfl)
    simp only [Act.put, List.setIfInBounds_toArray, List.set_cons_zero, List.set_cons_succ]
    refine fz_take 5 (v := ?_) rfl (by kernel_rfl) (by kernel_rfl) (by kernel_rfl) (by kernel_rfl) (fun _ _ _ h => h) rfl ?_ SA ?_
    rotate_left
    · intro W hW
      go_simp
      (try with_reducible rfl)
    simp only [Act.put, List.setIfInBounds_toArray, List.set_cons_zero, List.set_cons_succ]
    refine fz_take 6 (v := ?_) rfl (by kernel_rfl) (by kernel_rfl) (by kernel_rfl) (by kernel_rfl) (fun _ _ _ h => h) rfl ?_ SA ?_
    rotate_left
    · intro W hW
      go_simp
      (try with_reducible rfl)
    simp only [Act.put, List.setIfInBounds_toArray, List.set_cons_zero, List.set_cons_succ]
    refine fz_take 7 (v := locV (V.l t)) rfl (by kernel_rfl) (by kernel_rfl) (by kernel_rfl) (by kernel_rfl) (fun _ _ _ h => h) rfl (fun W hW => exec_loc rfl rfl (HN.out.on (W0.out.on.trans hW)) ht) SA ?_
    simp only [Act.put, List.setIfInBounds_toArray, List.set_cons_zero, List.set_cons_succ]
    refine fz_take 9 (v := ?_) rfl (by kernel_rfl) (by kernel_rfl) (by kernel_rfl) (by kernel_rfl) (fun _ _ _ h => h) rfl ?_ SA ?_
    rotate_left
    · intro W hW
      go_simp
      (try with_reducible rfl)
    simp only [Act.put, List.setIfInBounds_toArray, List.set_cons_zero, List.set_cons_succ]
    refine fz_one 8 rfl rfl (by kernel_rfl) (fun K hK => ?_)
    go_simp
    refine (cB _).mono ?_
    rintro _ wd ⟨rfl, kwd⟩
    have SD : On W1 wd := SA.trans kwd
    have BD := B3.drew.on kwd
    have ID := W3.out.ib.drew.on kwd
    have RD := W3.out.rb.drew.on kwd
    refine hK.out _ _ (fun _ => SD) ?_
    clear hK kwd
    refine fz_one 10 rfl rfl (by kernel_rfl) (fun K hK => ?_)
    have p2 := BD.at (i := 2) (v := .int .i64 5) rfl
    have f2 := BD.bk.fr 2
    have l2 := BD.lt
    go_simp
    have T1 := BD.put (cs := stC ⟨0, t, 5, (c : Int), V.mem c, 0, V.wr c⟩) 2 (.int .i64 4)
    have S1 : On W1 _ := SD.setNew (N := W1.heap.size) (i := 2) (Nat.le_refl _) (.int .i64 4)
    refine hK.out _ _ (fun _ => S1) ?_
    clear hK
    refine fz_take 11 (v := ?_) rfl (by kernel_rfl) (by kernel_rfl) (by kernel_rfl) (by kernel_rfl) (fun _ _ _ h => h) rfl ?_ S1 ?_
    rotate_left
    · intro W hW
      go_simp
      (try with_reducible rfl)
    simp only [Act.put, List.setIfInBounds_toArray, List.set_cons_zero, List.set_cons_succ]
    refine fz_one 12 rfl rfl (by kernel_rfl) (fun K hK => ?_)
    have p5 := BD.at (i := 5) (v := .int .i64 0) rfl
    have f5 := BD.bk.fr 5
    go_simp
    have T2 := T1.put 5 (.int .i64 vb)
    have S2 : On W1 _ := S1.setNew (N := W1.heap.size) (i := 5) (Nat.le_refl _) (.int .i64 vb)
    refine hK.out _ _ (fun _ => S2) ?_
    clear hK
    refine fz_done (by kernel_rfl) (NoPanic.normal ?_)
    obtain ⟨w5, hw5⟩ : ∃ w5, w5 = (wd.setCell ⟨W1.heap.size, 2, none⟩ (.int .i64 4)).setCell ⟨W1.heap.size, 5, none⟩ (.int .i64 vb) := ⟨_, rfl⟩
    rw [← hw5] at T2 S2
    have T5 : Tb w5 W1.heap.size (stC ⟨0, t, 4, (c : Int), V.mem c, vb, V.wr c⟩).toArray 39 := T2
    have S5 : On w w5 := W0.out.on.trans S2
    have n1 : w.heap.size ≠ W1.heap.size := by have := (W0.out.ib).lt; omega
    have n2 : w.heap.size + 1 ≠ W1.heap.size := by have := (W0.out.rb).lt; omega
    have I5 : Tb w5 w.heap.size (insC x).toArray 107 := by rw [hw5]; exact (ID.putFar n1 _ _).putFar n1 _ _
    have R5 : Tb w5 (w.heap.size + 1) (stC stZ).toArray 39 := by rw [hw5]; exact (RD.putFar n2 _ _).putFar n2 _ _
    clear SA T1 S1 T2 S2 p2 f2 l2 p5 f5 BD n1 n2
    go_upto_region 4 with fail
    rw [← hw5]
    clear hw5
    have SA : On w5 w5.drew := (On.refl w5).drew
    refine region_fz (fun W => On w5 W) [9] 10 (by kernel_rfl) rfl ?_
    refine fzd_take 8 0 (v := ?_) rfl (by kernel_rfl) (by kernel_rfl) (by kernel_rfl) (by kernel_rfl) (fun _ _ _ h => h) rfl ?_ SA ?_
    rotate_left
    · intro W hW
      go_simp
      (try with_reducible rfl)
    simp only [Act.put, List.setIfInBounds_toArray, List.set_cons_zero, List.set_cons_succ]
    refine fzd_take 8 1 (v := ?_) rfl (by kernel_rfl) (by kernel_rfl) (by kernel_rfl) (by kernel_rfl) (fun _ _ _ h => h) rfl ?_ SA ?_
    rotate_left
    · intro W hW
      go_simp
      (try with_reducible rfl)
    simp only [Act.put, List.setIfInBounds_toArray, List.set_cons_zero, List.set_cons_succ]
    refine fzd_take 8 2 (v := ?_) rfl (by kernel_rfl) (by kernel_rfl) (by kernel_rfl) (by kernel_rfl) (fun _ _ _ h => h) rfl ?_ SA ?_
    rotate_left
    · intro W hW
      have q2 := (I5.on hW).at (i := 2) (v := .int .i64 x.l) rfl
      rw [HX.out] at q2
      have ql := (I5.on hW).lt
      go_simp
      (try with_reducible rfl)
    simp only [Act.put, List.setIfInBounds_toArray, List.set_cons_zero, List.set_cons_succ]
    refine fzd_take 8 3 (v := ?_) rfl (by kernel_rfl) (by kernel_rfl) (by kernel_rfl) (by kernel_rfl) (fun _ _ _ h => h) rfl ?_ SA ?_
    rotate_left
    · intro W hW
      go_simp
      (try with_reducible rfl)
    simp only [Act.put, List.setIfInBounds_toArray, List.set_cons_zero, List.set_cons_succ]
    refine fzd_take 8 4 (v := ?_) rfl (by kernel_rfl) (by kernel_rfl) (by kernel_rfl) (by kernel_rfl) (fun _ _ _ h => h) rfl ?_ SA ?_
    rotate_left
    · intro W hW
      have q5 := (T5.on hW).at (i := 5) (v := .int .i64 vb) rfl
      have ql := (T5.on hW).lt
      go_simp
      (try with_reducible rfl)
    simp only [Act.put, List.setIfInBounds_toArray, List.set_cons_zero, List.set_cons_succ]
    refine fzd_take 8 5 (v := ?_) rfl (by kernel_rfl) (by kernel_rfl) (by kernel_rfl) (by kernel_rfl) (fun _ _ _ h => h) rfl ?_ SA ?_
    rotate_left
    · intro W hW
      go_simp
      (try with_reducible rfl)
    simp only [Act.put, List.setIfInBounds_toArray, List.set_cons_zero, List.set_cons_succ]
    refine fzd_take 8 6 (v := ?_) rfl (by kernel_rfl) (by kernel_rfl) (by kernel_rfl) (by kernel_rfl) (fun _ _ _ h => h) rfl ?_ SA ?_
    rotate_left
    · intro W hW
      go_simp
      (try with_reducible rfl)
    simp only [Act.put, List.setIfInBounds_toArray, List.set_cons_zero, List.set_cons_succ]
    refine fzd_take 8 7 (v := ?_) rfl (by kernel_rfl) (by kernel_rfl) (by kernel_rfl) (by kernel_rfl) (fun _ _ _ h => h) rfl ?_ SA ?_
    rotate_left
    · intro W hW
      go_simp
      (try with_reducible rfl)
    simp only [Act.put, List.setIfInBounds_toArray, List.set_cons_zero, List.set_cons_succ]
    refine fzd_take 8 8 (v := ?_) rfl (by kernel_rfl) (by kernel_rfl) (by kernel_rfl) (by kernel_rfl) (fun _ _ _ h => h) rfl ?_ SA ?_
    rotate_left
    · intro W hW
      have c0 := (HN.out.on (S5.trans hW)).at (i := 36) (v := .int .i64 V.st.length) rfl
      have cl := HN.out.lt
      go_simp
      (try with_reducible rfl)
    simp only [Act.put, List.setIfInBounds_toArray, List.set_cons_zero, List.set_cons_succ]
    refine fz_one 9 rfl rfl (by kernel_rfl) (fun K hK => ?_)
    go_simp
    refine (write_is N c vb _ P0 P1 P2 V _ (HV.out.on (S5.trans SA)) hc).mono ?_
    rintro _ wz ⟨rfl, V3, O3⟩
    have O4 : OffV N w5 wz := (OffV.of SA).trans O3
    refine hK.out _ _ (fun hq => (hq (by simp)).elim) ?_
    clear hK O3
    refine fz_done (by kernel_rfl) (NoPanic.normal ?_)
    have T6 := O4.tk T5 (by have := NE.out; have := W0.out.on.size; omega)
    have R6 := O4.tk R5 (by have := NE.out; omega)
    clear SA
    go_wp2_with (first | (refine wpList_sto (cs := (stC ⟨0, t, 4, (c : Int), V.mem c, vb, V.wr c⟩).toArray) rfl rfl rfl rfl R6 step_sz rfl (stC_one _) ?_) | (refine wpList_sld rfl rfl rfl T6 ?_))
    intro ws bs os
    go_wp2
    (try simp only [Exit.inBlock, Exit.then]); refine bodyPost_ret (res_step rfl rfl bs) rfl ?_
    exact ⟨rfl, V3.offS os R6 (by have := NE.out; omega), ((OffV.of S5).trans O4).fresh os (Nat.le_succ _)⟩
end Go.Proofs.YtplihlmejnohnaaGreatDoor
