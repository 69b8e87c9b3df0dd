/- vm.flush. -/
import Derived.Test.YtplihlmejnohnaaGreatDoorJ43BufV
namespace Go.Proofs.YtplihlmejnohnaaGreatDoor
open Go.RowKit

/-- Behind the flush of store e of thread t. -/
def flV (V : VmT) (t : Nat) (c : Int) (e : EnT) : VmT := setMV (cutBV V t c) e.1.toNat e.2.1 e.2.2
set_option maxHeartbeats 8000000 in
set_option maxRecDepth 8000 in
theorem flush_is (N t : Nat) (c : Int) (e : EnT) (P0 P1 P2 : Value) (V : VmT) (w : World) (h : VmIn w N P0 P1 P2 V) (ht : t < 4) (ho : oldW V t c = some e) (h0 : 0 ≤ e.1) (h4 : e.1 < 4) :
    Calls Tryz.prog 39 #[ptV N, .int .i64 t, .int .i64 c] w fun e' w' => e' = .returned (stV ⟨0, t, 6, e.1, 0, e.2.1, e.2.2⟩) ∧ VmIn w' N P0 P1 P2 (flV V t c e) ∧ OffV N w w' := by
  have HV : Hid (VmIn w N P0 P1 P2 V) := h
  obtain ⟨B, q, hN, hR⟩ := h
  have HN : Hid (Tb w N (vmA P0 P1 P2 V B q) 80) := hN
  have HR : Hid (VmR w V B q) := hR
  obtain ⟨b, hb, hw⟩ := hR.buf t ht
  obtain ⟨M, hM⟩ : ∃ M, M = B t := ⟨_, rfl⟩
  have HB : Hid ((vmA P0 P1 P2 V B q)[24 + t]? = some (.pointer (some ⟨B t, 0, none⟩))) := vm_buf ht
  rw [← hM] at hb HB
  have B1 : Hid (Tb w M (bufA b) 85) := hb
  have b1 : (t : Int) < 4 := by omega
  have b2 : decide ((t : Int) < 0) = false := decide_eq_false (by omega)
  have b4 : (0 : Int) ≤ (t : Int) := by omega
  have NE : Hid (N < w.heap.size) := hN.lt
  have HE : Hid (e.1 = (e.1.toNat : Nat)) := by show e.1 = _; omega
  have HE4 : Hid (e.1.toNat < 4) := by show e.1.toNat < 4; omega
  have cO := fun W => oldest_is b c W
  have cD := fun W => drop_is b c W
  have ho' : (V.b t)[fstN V.m (V.b t) c]? = some e := ho
  rw [hw.old c, ho'] at cO
  simp only [oldV] at cO
  have HD : Hid (BW V.m (dropB b c) (wcut V.m (V.b t) c)) := hw.drop c
  unfold flV
  generalize dropB b c = b2 at *
  obtain ⟨e1, e2, e3⟩ := e
  simp only at *
  obtain ⟨cc, hcc⟩ : ∃ cc, cc = e1.toNat := ⟨_, rfl⟩
  rw [← hcc] at HE HE4 ⊢
  have he1 := HE.out
  subst he1
  obtain ⟨W1, hW1⟩ : ∃ W1, W1 = w.alloc (.cells #[.int .i64 0, .int .i64 0, .int .i64 0, .int .i64 0, .int .i64 0, .int .i64 0, .int .i64 0] 39) := ⟨_, rfl⟩
  have K1 : Hid (On w W1) := by show On _ _; rw [hW1]; exact (On.refl w).alloc _
  have RB : Hid (Tb W1 w.heap.size (stC stZ).toArray 39) := by show Tb _ _ _ _; rw [hW1]; exact Tb.new w _ _
  clear hN hR hb hw hM ho ho' h0 h4 hcc HE
  have c0 := HN.out.at HB.out
  have cl := HN.out.lt
  unfold ptV
  go_enter Tryz.func39, Tryz.ntmps39
  go_wp2_with (refine wpList_bld rfl rfl rfl (B1.out.bk.alloc _) ?_)
  rw [← hW1]
  clear hW1
  refine (cO _).mono ?_
  rintro _ w1 ⟨rfl, k1⟩
  have K2 : Hid (On w w1) := K1.out.trans k1
  have R2 : Hid (Tb w1 w.heap.size (stC stZ).toArray 39) := RB.out.on k1
  have c1 := (HN.out.on K2.out).at HB.out
  have cl1 := (HN.out.on K2.out).lt
  clear c0 cl k1
  go_wp2_with (refine wpList_bld rfl rfl rfl (B1.out.on K2.out).bk ?_)
  refine (cD _).mono ?_
  rintro _ w2 ⟨rfl, k2⟩
  have K3 : Hid (On w w2) := K2.out.trans k2
  have R3 : Hid (Tb w2 w.heap.size (stC stZ).toArray 39) := R2.out.on k2
  clear c1 cl1 k2
  go_wp2_with (refine wpList_al rfl rfl buf_zero ?_)
  intro wa ka ba
  go_wp2_with (refine wpList_sto (cs := bufA b2) rfl rfl rfl rfl ba (by rw [bufA_size]; exact buf_sz) (by rw [bufA_size]; rfl) (bufA_one _) ?_)
  intro wi BI oi
  have KI : On w wi := oi.on (K3.out.trans ka) K3.out.size
  have RI : Tb wi w.heap.size (stC stZ).toArray 39 := oi.tk (R3.out.on ka) (by have := R3.out.lt; omega)
  have HI := HN.out.on KI
  have h0 := HI.at HB.out
  have hf := HI.bk.fr (24 + t)
  have hl := HI.lt
  obtain ⟨NB, hNB⟩ : ∃ NB, NB = w2.heap.size := ⟨_, rfl⟩
  rw [← hNB] at BI
  have TZ := HI.put (cs := vmL P0 P1 P2 V B q) (24 + t) (ptV NB)
  rw [vm_setB ht] at TZ
  have OZ : OffV N w _ := (OffV.of KI).set (24 + t) (ptV NB)
  have RZ := ((HR.out.on KI).off ((OffV.refl N wi).set (24 + t) (ptV NB)) HI)
  have BZ := ((OffV.refl N wi).set (24 + t) (ptV NB)).tk BI (BI.ne HI (Ne.symm vm_ne_buf))
  have IZ := ((OffV.refl N wi).set (24 + t) (ptV NB)).tk RI (by have := NE.out; omega)
  obtain ⟨wz, hwz⟩ : ∃ wz, wz = wi.setCell ⟨N, 24 + t, none⟩ (ptV NB) := ⟨_, rfl⟩
  rw [← hwz] at TZ OZ RZ BZ IZ
  have VZ : VmIn wz N P0 P1 P2 (cutBV V t c) := ⟨_, q, TZ, RZ.cutB BZ HD.out⟩
  clear TZ RZ BZ
  go_wp2_with fail
  rw [← hNB]
  have hwz' : wz = wi.setCell ⟨N, 24 + t, none⟩ (.pointer (some ⟨NB, 0, none⟩)) := hwz
  rw [← hwz']
  clear hwz hwz' hNB h0 hf hl
  refine (write_is N cc e2 e3 P0 P1 P2 _ wz VZ HE4.out).mono ?_
  rintro _ w5 ⟨rfl, V5, O5⟩
  have R5 := O5.tk IZ (by have := NE.out; omega)
  go_wp2_with (first | (refine wpList_sto (cs := (stC ⟨0, t, 6, (cc : Int), 0, e2, e3⟩).toArray) rfl rfl rfl rfl R5 step_sz rfl (stC_one _) ?_) | (refine wpList_mkW rfl rfl rfl rfl rfl rfl rfl ?_))
  intro ws bs os
  go_wp2
  (try simp only [Exit.inBlock, Exit.then]); refine bodyPost_ret (res_step rfl rfl bs) rfl ?_
  exact ⟨rfl, V5.offS os R5 (by have := NE.out; omega), (OZ.trans O5).fresh os (Nat.le_refl _)⟩
end Go.Proofs.YtplihlmejnohnaaGreatDoor

namespace Go.Proofs.YtplihlmejnohnaaGreatDoor
open Go.RowKit

def consV (V : VmT) (s : StT) : VmT := ⟨V.m, V.l, V.b, V.mem, V.wr, s :: V.st⟩
theorem pick_step (LL : List (List InsT)) (V : VmT) {p : Nat} (hp : p < 4) {x : InsT} (hx : nxt LL V p = some x) : stepOf LL V p = doneS V p x ∧ consV (stepV LL V p (doneS V p x)) (doneS V p x) = pickV LL V p := by
  have h : stepOf LL V p = doneS V p x := by unfold stepOf; rw [if_pos hp, hx]; rfl
  refine ⟨h, ?_⟩
  unfold pickV
  rw [h]
  unfold lA
  rw [if_pos hp]
  rfl
theorem pick_flush (LL : List (List InsT)) (V : VmT) {p : Nat} (hp : ¬ p < 4) {e : EnT} (he : oldW V (cT p) (cC p) = some e) : stepOf LL V p = flushS p (cT p) e ∧ consV (flV V (cT p) (cC p) e) (flushS p (cT p) e) = pickV LL V p := by
  have h : stepOf LL V p = flushS p (cT p) e := by unfold stepOf; rw [if_neg hp, he]; rfl
  refine ⟨h, ?_⟩
  unfold pickV
  rw [h]
  unfold lA bA memA wrA
  rw [if_neg hp, if_neg hp]
  rfl
section
variable {w W : World} {N t d : Nat} {P0 P1 P2 q : Value} {V : VmT} {B : Nat → Nat} {s : StT}
theorem Lst.ptr : ∀ {L : List StT} {q : Value}, Lst w q L → ∃ a, q = .pointer a
  | [], _, h => ⟨none, h⟩
  | _ :: _, _, ⟨_, _, e, _⟩ => ⟨_, e⟩
theorem vm_setS (n : Int) (hn : n = ((V.st.length + 1 : Nat) : Int)) : ((vmL P0 P1 P2 V B q).set 37 (ptV d)).set 36 (.int .i64 n) = vmL P0 P1 P2 (consV V s) B (ptV d) := by
  subst hn
  rfl
theorem VmR.cons (k : VmR w V B q) (h : Tb w d (doneA s q) 95) : VmR w (consV V s) B (ptV d) := ⟨k.buf, d, q, rfl, h, k.lst⟩
end
theorem done_built (s : StT) (qa : Option Addr) : Tryz.prog.built 95 [(0, stV s), (1, .pointer qa)] = some (doneA s (.pointer qa)) := by kernel_rfl
theorem done_one (s : StT) (qa : Option Addr) : ∀ v ∈ doneA s (.pointer qa), v.oneCell' = true := by
  intro v hv
  unfold doneA at hv
  rw [List.mem_toArray, List.mem_append] at hv
  rcases hv with hv | hv
  · exact stC_one s v (by rw [List.mem_toArray]; exact hv)
  · rw [List.mem_singleton.1 hv]
    rfl
section
variable {o : Oper} {a : Act} {w : World} {K : Act → World → Prop} {Q : Exit → Act → World → Prop} {ops : Array Oper} {rest : List Oper} {T : TypeId} {cs : Array Value} {x x0 x1 : Operand} {N : Nat} {s : StT} {qa : Option Addr}
theorem exec_mkD (ho : o.op = .build 95 #[(0, x0), (1, x1)]) (h0 : a.eval x0 = stV s) (h1 : a.eval x1 = .pointer qa) (W : World) : (execOp a.eval o).run Tryz.prog W = .ok (.value (.agg (doneA s (.pointer qa)))) W := by
  unfold execOp
  simp only [ho, Sem.run_bind, List.map_toArray, List.map_cons, List.map_nil, h0, h1, run_build W 95 #[(0, stV s), (1, .pointer qa)] _ (done_built s qa), Result.andThen_ok]
  rfl
theorem exec_sld (ho : o.op = .load 39 x) (hx : a.eval x = .pointer (some ⟨N, 0, none⟩)) (h : Tb w N (stC s).toArray 39) : (execOp a.eval o).run Tryz.prog w = .ok (.value (stV s)) w := by
  unfold execOp
  simp only [ho, hx, Instr.loadAt, Instr.sureAddr, Sem.run_bind, Sem.run_pure, Result.andThen_ok, run_loadVar_mid w N 0 39 (stC s) _ h.whole fields_step rfl (by exact step_sz)]
  rfl
theorem wp_bx (ho : o.op = .box T x) (hx : a.eval x = .agg cs) (k : ∀ w', On w w' → Tb w' w.heap.size cs T → K (a.put o.dst (.pointer (some ⟨w.heap.size, 0, none⟩))) w') : o.wp Tryz.prog a w K Q := by
  have h := k _ ((On.refl w).alloc (.cells cs T)) (Tb.new w cs T)
  unfold Oper.wp execOp
  simp only [ho, hx]
  go_simp
  exact h
theorem built_mk0 : Tryz.prog.built 39 [] = some (stC stZ).toArray := by kernel_rfl
theorem res_step2 {fn : Func} {q u : Tmp} (h : fn.results = #[.cell q 39, .tmp u]) {tmps : Array Value} {w : World} {N : Nat} {s : StT} (hq : tmps.getD q undef = .pointer (some ⟨N, 0, none⟩)) (hb : Tb w N (stC s).toArray 39) {v : Value} (hu : tmps.getD u undef = v) : (results fn tmps).run Tryz.prog w = .ok (.tuple #[stV s, v]) w := by
  rw [results_cell_slot h, hq, hu]
  simp only [asAddr, Sem.run_pure, Result.andThen_ok, run_loadVar_mid w N 0 39 (stC s) _ hb.whole fields_step rfl (by exact step_sz)]
  rfl
end
set_option maxHeartbeats 8000000 in
set_option maxRecDepth 8000 in
theorem pick_is (LL : List (List InsT)) (N : Nat) (i : Int) (P0 P1 P2 : Value) (V : VmT) (w : World) (h : VmIn w N P0 P1 P2 V) (hp : ∀ W, OffV N w W → ProgRd W (.agg #[P0, P1, P2]) LL) (hL : LOk LL) (hV : VOk LL V) :
    Calls Tryz.prog 14 #[ptV N, .int .i64 i] w fun e w' => e = .returned (.tuple #[stV (if mayB LL V i then stepOf LL V i.toNat else stZ), .bool (mayB LL V i)]) ∧ VmIn w' N P0 P1 P2 (if mayB LL V i then pickV LL V i.toNat else V) ∧ OffV N w w' := by
  have HV : Hid (VmIn w N P0 P1 P2 V) := h
  have NE : Hid (N < w.heap.size) := by obtain ⟨_, _, hN, _⟩ := h; exact hN.lt
  have HP : Hid (∀ W, OffV N w W → ProgRd W (.agg #[P0, P1, P2]) LL) := hp
  have hM := fun W (k : On w W) => may_is LL N i P0 P1 P2 V W (HV.out.on k) (HP.out W (OffV.of k))
  obtain ⟨W1, hW1⟩ : ∃ W1, W1 = w.alloc (.cells #[.int .i64 0, .int .i64 0, .int .i64 0, .int .i64 0, .int .i64 0, .int .i64 0, .int .i64 0] 39) := ⟨_, rfl⟩
  have K1 : Hid (On w W1) := by show On _ _; rw [hW1]; exact (On.refl w).alloc _
  have R1 : Hid (Tb W1 w.heap.size (stC stZ).toArray 39) := by show Tb _ _ _ _; rw [hW1]; exact Tb.new w _ _
  cases hb : mayB LL V i with
  | false =>
    rw [hb] at hM
    rw [if_neg (by decide), if_neg (by decide)]
    clear hb h hp
    unfold ptV at hM ⊢
    go_enter Tryz.func14, Tryz.ntmps14
    go_wp2_with fail
    rw [← hW1]
    clear hW1
    refine (hM _ K1.out).mono ?_
    rintro _ w1 ⟨rfl, k1⟩
    have RB := R1.out.on k1
    go_wp2_with (first | (refine wpList_sto (cs := (stC stZ).toArray) rfl rfl rfl rfl RB step_sz rfl (stC_one _) ?_) | (refine wpList_mk0 rfl rfl built_mk0 ?_))
    intro ws bs os
    go_wp2
    (try simp only [Exit.inBlock, Exit.then]); refine bodyPost_ret (res_step2 rfl rfl bs rfl) rfl ?_
    exact ⟨rfl, (HV.out.on (K1.out.trans k1)).offS os RB (by have := NE.out; omega), (OffV.of (K1.out.trans k1)).fresh os (Nat.le_refl _)⟩
  | true =>
    rw [hb] at hM
    rw [if_pos rfl, if_pos rfl]
    have hi : 0 ≤ i ∧ i < 24 := by
      unfold mayB at hb
      split at hb
      · assumption
      · cases hb
    obtain ⟨p, rfl⟩ : ∃ p : Nat, i = (p : Int) := ⟨i.toNat, by omega⟩
    rw [Int.toNat_natCast]
    have hp24 : p < 24 := by omega
    have hm : mayN LL V p = true := by
      unfold mayB at hb
      rw [if_pos hi, Int.toNat_natCast] at hb
      exact hb
    have hn80 := hV.n hL
    obtain ⟨nn, hnn⟩ : ∃ nn, nn = (V.st.length : Int) := ⟨_, rfl⟩
    have hov : IntKind.i64.wrap (nn + 1) = nn + 1 := by rw [wrap_small]; omega; omega
    have hov2 : wrap64 (nn + 1) = nn + 1 := IntWalk.wrap64_in _ ⟨by omega, by omega⟩
    by_cases h4 : p < 4
    · obtain ⟨x, hx⟩ := ready_some (V := V) (t := p) (by unfold mayN at hm; rw [if_pos h4] at hm; exact hm)
      obtain ⟨e1, e2⟩ := pick_step LL V h4 hx
      rw [← e2, e1]
      have cS := fun W (k : On w W) => step_is LL N p P0 P1 P2 V W (HV.out.on k) (fun W' o => HP.out W' ((OffV.of k).trans o)) h4 hL hV x hx
      have HS : Hid ((doneS V p x).p = (p : Int)) := by show (doneS V p x).p = _; unfold doneS; (repeat' split) <;> rfl
      have HNN : Hid (nn = ((stepV LL V p (doneS V p x)).st.length : Int)) := hnn
      generalize doneS V p x = s at *
      generalize stepV LL V p s = VX at *
      have d4 : decide ((p : Int) < 4) = true := decide_eq_true (by omega)
      clear hb h hp hi hm e1 e2 hx hV hL h4 hn80 hnn hp24
      unfold ptV at hM cS ⊢
      go_enter Tryz.func14, Tryz.ntmps14
      go_wp2_with fail
      rw [← hW1]
      clear hW1
      refine (hM _ K1.out).mono ?_
      rintro _ w0 ⟨rfl, k0⟩
      have RB : Hid (Tb w0 w.heap.size (stC stZ).toArray 39) := R1.out.on k0
      have K0 : Hid (On w w0) := K1.out.trans k0
      clear k0 hM
      go_wp2_with (refine wpList_al rfl rfl step_zero ?_)
      intro wa ka ba
      obtain ⟨NA, hNA⟩ : ∃ NA, NA = w0.heap.size := ⟨_, rfl⟩
      have LN : w.heap.size < NA := by rw [hNA]; exact RB.out.lt
      rw [← hNA] at ba
      have KA := K0.out.trans ka
      go_wp2_with fail
      rw [← hNA]
      clear hNA
      refine (cS _ KA).mono ?_
      rintro _ w1 ⟨rfl, V1, O1⟩
      clear cS
      have NW : Hid (N < w.heap.size ∧ w.heap.size < NA) := ⟨NE.out, LN⟩
      have AJ := O1.tk ba (by have := NW.out; omega)
      have RJ := O1.tk (RB.out.on ka) (by have := NW.out; omega)
      go_wp2_with (refine wpList_sto (cs := (stC (np s)).toArray) rfl rfl rfl rfl AJ step_sz rfl (stC_one _) ?_)
      intro wi BI oi
      have RI := oi.tk RJ (by have := NW.out; omega)
      have VI := V1.offS oi AJ (by have := NW.out; omega)
      have OI : OffV N w wi := ((OffV.of KA).trans O1).fresh oi (by have := NW.out; omega)
      have x0 := BI.at (i := 0) (v := .int .i64 0) rfl
      have xf := BI.bk.fr 0
      have xl := BI.lt
      obtain ⟨wj, hwj⟩ : ∃ wj, wj = wi.setCell ⟨NA, 0, none⟩ (.int .i64 (p : Int)) := ⟨_, rfl⟩
      have BJ : Tb wj NA (stC s).toArray 39 := by
        have := BI.put (cs := stC (np s)) 0 (.int .i64 (p : Int))
        have e0 : (stC (np s)).set 0 (.int .i64 (p : Int)) = stC s := by rw [← HS.out]; rfl
        rw [e0, ← hwj] at this
        exact this
      have ok : OffV NA wi wj := by rw [hwj]; exact (OffV.refl NA wi).set _ _
      have RJ2 := ok.tk RI (by have := NW.out; omega)
      obtain ⟨B2, q2, N2, R2⟩ := VI.offS ok BI (by have := NW.out; omega)
      have OJ : OffV N w wj := OI.fresh ok (by have := NW.out; omega)
      obtain ⟨qa, rfl⟩ := R2.lst.ptr
      clear BI RI VI OI RJ AJ oi O1 V1 ok ka ba
      go_upto_region 8 with fail
      have hwj2 : wi.setCell ⟨NA, 0, none⟩ (.int .i64 (p : Int)) = wj := hwj.symm
      rw [hwj2]
      clear hwj hwj2 x0 xf xl
      have SA : On wj wj.drew := (On.refl wj).drew
      refine region_fz (fun W => On wj W) [10] 11 (by kernel_rfl) rfl ?_
      refine fzd_take 8 0 (v := ?_) rfl (by kernel_rfl) (by kernel_rfl) (by kernel_rfl) (by kernel_rfl) (fun _ _ _ h => h) rfl ?_ SA ?_
      rotate_left
      · intro W hW
        go_simp
        (try with_reducible rfl)
      simp only [Act.put, List.setIfInBounds_toArray, List.set_cons_zero, List.set_cons_succ]
      refine fzd_take 8 1 (v := stV s) rfl (by kernel_rfl) (by kernel_rfl) (by kernel_rfl) (by kernel_rfl) (fun _ _ _ h => h) rfl (fun W hW => exec_sld rfl rfl (BJ.on hW)) SA ?_
      simp only [Act.put, List.setIfInBounds_toArray, List.set_cons_zero, List.set_cons_succ]
      refine fzd_take 8 2 (v := ?_) rfl (by kernel_rfl) (by kernel_rfl) (by kernel_rfl) (by kernel_rfl) (fun _ _ _ h => h) rfl ?_ SA ?_
      rotate_left
      · intro W hW
        go_simp
        (try with_reducible rfl)
      simp only [Act.put, List.setIfInBounds_toArray, List.set_cons_zero, List.set_cons_succ]
      refine fzd_take 8 3 (v := ?_) rfl (by kernel_rfl) (by kernel_rfl) (by kernel_rfl) (by kernel_rfl) (fun _ _ _ h => h) rfl ?_ SA ?_
      rotate_left
      · intro W hW
        go_simp
        (try with_reducible rfl)
      simp only [Act.put, List.setIfInBounds_toArray, List.set_cons_zero, List.set_cons_succ]
      refine fzd_take 8 4 (v := ?_) rfl (by kernel_rfl) (by kernel_rfl) (by kernel_rfl) (by kernel_rfl) (fun _ _ _ h => h) rfl ?_ SA ?_
      rotate_left
      · intro W hW
        go_simp
        (try with_reducible rfl)
      simp only [Act.put, List.setIfInBounds_toArray, List.set_cons_zero, List.set_cons_succ]
      refine fzd_take 8 5 (v := ?_) rfl (by kernel_rfl) (by kernel_rfl) (by kernel_rfl) (by kernel_rfl) (fun _ _ _ h => h) rfl ?_ SA ?_
      rotate_left
      · intro W hW
        have c0 := (N2.on hW).at (i := 37) (v := .pointer qa) rfl
        have cl := (N2.on hW).lt
        go_simp
        (try with_reducible rfl)
      simp only [Act.put, List.setIfInBounds_toArray, List.set_cons_zero, List.set_cons_succ]
      refine fzd_take 8 6 (v := .agg (doneA s (.pointer qa))) rfl (by kernel_rfl) (by kernel_rfl) (by kernel_rfl) (by kernel_rfl) (fun _ _ _ h => h) rfl (fun W hW => exec_mkD rfl rfl rfl W) SA ?_
      simp only [Act.put, List.setIfInBounds_toArray, List.set_cons_zero, List.set_cons_succ]
      refine fz_one 7 rfl rfl (by kernel_rfl) (fun K hK => ?_)
      refine wp_bx (cs := doneA s (.pointer qa)) rfl rfl (fun wb kb bb => ?_)
      have SB : On wj wb := SA.trans kb
      refine hK.out _ _ (fun _ => SB) ?_
      clear hK
      refine fzd_take 8 8 (v := ?_) rfl (by kernel_rfl) (by kernel_rfl) (by kernel_rfl) (by kernel_rfl) (fun _ _ _ h => h) rfl ?_ SB ?_
      rotate_left
      · intro W hW
        go_simp
        (try with_reducible rfl)
      simp only [Act.put, List.setIfInBounds_toArray, List.set_cons_zero, List.set_cons_succ]
      refine fzd_take 8 9 (v := ?_) rfl (by kernel_rfl) (by kernel_rfl) (by kernel_rfl) (by kernel_rfl) (fun _ _ _ h => h) rfl ?_ SB ?_
      rotate_left
      · intro W hW
        go_simp
        (try with_reducible rfl)
      simp only [Act.put, List.setIfInBounds_toArray, List.set_cons_zero, List.set_cons_succ]
      refine fz_one 10 rfl rfl (by kernel_rfl) (fun K hK => ?_)
      have HB2 := N2.on SB
      have p7 := HB2.at (i := 37) (v := .pointer qa) rfl
      have f7 := HB2.bk.fr 37
      have l7 := HB2.lt
      go_simp
      refine hK.out _ _ (fun hq => (hq (by simp)).elim) ?_
      clear hK p7 f7 l7
      refine fz_done (by kernel_rfl) (NoPanic.normal ?_)
      have T7 := HB2.put (cs := vmL P0 P1 P2 VX B2 (.pointer qa)) 37 (ptV wj.heap.size)
      have o7 : OffV N wb (wb.setCell ⟨N, 37, none⟩ (ptV wj.heap.size)) := (OffV.refl N wb).set _ _
      have p6 := HB2.at (i := 36) (v := .int .i64 nn) (by rw [HNN.out]; rfl)
      have f6 := HB2.bk.fr 36
      have l6 := HB2.lt
      have T8 := T7.put 36 (.int .i64 (nn + 1))
      rw [vm_setS (s := s) _ (by rw [HNN.out]; rfl)] at T8
      have o8 := o7.set 36 (.int .i64 (nn + 1))
      have R8 := ((R2.on SB).off o8 HB2)
      have b8 := o8.tk bb (bb.ne HB2 (Ne.symm vm_ne_done))
      have BK := o8.tk (BJ.on SB) (by have := NW.out; omega)
      have RK := o8.tk (RJ2.on SB) (by have := NW.out; omega)
      have OK := (OJ.trans (OffV.of SB)).trans o8
      have V8 : VmIn _ N P0 P1 P2 (consV VX s) := ⟨B2, ptV wj.heap.size, T8, R8.cons b8⟩
      unfold ptV at BK RK OK V8
      clear SA R8 b8 T8 T7 o7 o8 bb kb
      go_wp2_with (first | (refine wpList_sto (cs := (stC s).toArray) rfl rfl rfl rfl RK step_sz rfl (stC_one _) ?_) | (refine wpList_sld rfl rfl rfl BK ?_))
      intro ws bs os
      go_wp2
      (try simp only [Exit.inBlock, Exit.then]); refine bodyPost_ret (res_step2 rfl rfl bs rfl) rfl ?_
      exact ⟨rfl, V8.offS os RK (by have := NW.out; omega), OK.fresh os (Nat.le_refl _)⟩
    · obtain ⟨en, hen⟩ := old_some h4 hm
      obtain ⟨e1, e2⟩ := pick_flush LL V h4 hen
      rw [← e2, e1]
      have hct := cT_lt (Nat.not_lt.1 h4) hp24
      obtain ⟨n0, n4, n5, n6, n7⟩ := hV.ent (cT p) en (List.mem_of_getElem? hen)
      have hCell := cell_is p (Nat.not_lt.1 h4) hp24
      have cS := fun W (k : On w W) => flush_is N (cT p) (cC p) en P0 P1 P2 V W (HV.out.on k) hct hen n0 n4
      have HS : Hid ((flushS p (cT p) en).p = (p : Int)) := rfl
      have HNN : Hid (nn = ((flV V (cT p) (cC p) en).st.length : Int)) := hnn
      have hnp : (⟨0, (cT p : Nat), 6, en.1, 0, en.2.1, en.2.2⟩ : StT) = np (flushS p (cT p) en) := rfl
      rw [hnp] at cS
      generalize flushS p (cT p) en = s at *
      generalize flV V (cT p) (cC p) en = VX at *
      generalize ((cT p : Nat) : Int) = ct at *
      generalize ((cC p : Nat) : Int) = cc at *
      have d4 : decide ((p : Int) < 4) = false := decide_eq_false (by omega)
      clear hb h hp hi hm e1 e2 hen hV hL h4 hn80 hnn hp24 hct n0 n4 n5 n6 n7 hnp
      unfold ptV at hM cS ⊢
      go_enter Tryz.func14, Tryz.ntmps14
      go_wp2_with fail
      rw [← hW1]
      clear hW1
      refine (hM _ K1.out).mono ?_
      rintro _ w0 ⟨rfl, k0⟩
      have RB : Hid (Tb w0 w.heap.size (stC stZ).toArray 39) := R1.out.on k0
      have K0 : Hid (On w w0) := K1.out.trans k0
      clear k0 hM
      go_wp2_with (refine wpList_al rfl rfl step_zero ?_)
      intro wa ka ba
      obtain ⟨NA, hNA⟩ : ∃ NA, NA = w0.heap.size := ⟨_, rfl⟩
      have LN : w.heap.size < NA := by rw [hNA]; exact RB.out.lt
      rw [← hNA] at ba
      have KA := K0.out.trans ka
      go_wp2_with fail
      rw [← hNA]
      clear hNA
      refine (hCell _).mono ?_
      rintro _ w9 ⟨rfl, hw9⟩
      subst w9
      go_wp2_with fail
      refine (cS _ KA).mono ?_
      rintro _ w1 ⟨rfl, V1, O1⟩
      clear cS hCell
      have NW : Hid (N < w.heap.size ∧ w.heap.size < NA) := ⟨NE.out, LN⟩
      have AJ := O1.tk ba (by have := NW.out; omega)
      have RJ := O1.tk (RB.out.on ka) (by have := NW.out; omega)
      go_wp2_with (refine wpList_sto (cs := (stC (np s)).toArray) rfl rfl rfl rfl AJ step_sz rfl (stC_one _) ?_)
      intro wi BI oi
      have RI := oi.tk RJ (by have := NW.out; omega)
      have VI := V1.offS oi AJ (by have := NW.out; omega)
      have OI : OffV N w wi := ((OffV.of KA).trans O1).fresh oi (by have := NW.out; omega)
      have x0 := BI.at (i := 0) (v := .int .i64 0) rfl
      have xf := BI.bk.fr 0
      have xl := BI.lt
      obtain ⟨wj, hwj⟩ : ∃ wj, wj = wi.setCell ⟨NA, 0, none⟩ (.int .i64 (p : Int)) := ⟨_, rfl⟩
      have BJ : Tb wj NA (stC s).toArray 39 := by
        have := BI.put (cs := stC (np s)) 0 (.int .i64 (p : Int))
        have e0 : (stC (np s)).set 0 (.int .i64 (p : Int)) = stC s := by rw [← HS.out]; rfl
        rw [e0, ← hwj] at this
        exact this
      have ok : OffV NA wi wj := by rw [hwj]; exact (OffV.refl NA wi).set _ _
      have RJ2 := ok.tk RI (by have := NW.out; omega)
      obtain ⟨B2, q2, N2, R2⟩ := VI.offS ok BI (by have := NW.out; omega)
      have OJ : OffV N w wj := OI.fresh ok (by have := NW.out; omega)
      obtain ⟨qa, rfl⟩ := R2.lst.ptr
      clear BI RI VI OI RJ AJ oi O1 V1 ok ka ba
      go_upto_region 8 with fail
      have hwj2 : wi.setCell ⟨NA, 0, none⟩ (.int .i64 (p : Int)) = wj := hwj.symm
      rw [hwj2]
      clear hwj hwj2 x0 xf xl
      have SA : On wj wj.drew := (On.refl wj).drew
      refine region_fz (fun W => On wj W) [10] 11 (by kernel_rfl) rfl ?_
      refine fzd_take 8 0 (v := ?_) rfl (by kernel_rfl) (by kernel_rfl) (by kernel_rfl) (by kernel_rfl) (fun _ _ _ h => h) rfl ?_ SA ?_
      rotate_left
      · intro W hW
        go_simp
        (try with_reducible rfl)
      simp only [Act.put, List.setIfInBounds_toArray, List.set_cons_zero, List.set_cons_succ]
      refine fzd_take 8 1 (v := stV s) rfl (by kernel_rfl) (by kernel_rfl) (by kernel_rfl) (by kernel_rfl) (fun _ _ _ h => h) rfl (fun W hW => exec_sld rfl rfl (BJ.on hW)) SA ?_
      simp only [Act.put, List.setIfInBounds_toArray, List.set_cons_zero, List.set_cons_succ]
      refine fzd_take 8 2 (v := ?_) rfl (by kernel_rfl) (by kernel_rfl) (by kernel_rfl) (by kernel_rfl) (fun _ _ _ h => h) rfl ?_ SA ?_
      rotate_left
      · intro W hW
        go_simp
        (try with_reducible rfl)
      simp only [Act.put, List.setIfInBounds_toArray, List.set_cons_zero, List.set_cons_succ]
      refine fzd_take 8 3 (v := ?_) rfl (by kernel_rfl) (by kernel_rfl) (by kernel_rfl) (by kernel_rfl) (fun _ _ _ h => h) rfl ?_ SA ?_
      rotate_left
      · intro W hW
        go_simp
        (try with_reducible rfl)
      simp only [Act.put, List.setIfInBounds_toArray, List.set_cons_zero, List.set_cons_succ]
      refine fzd_take 8 4 (v := ?_) rfl (by kernel_rfl) (by kernel_rfl) (by kernel_rfl) (by kernel_rfl) (fun _ _ _ h => h) rfl ?_ SA ?_
      rotate_left
      · intro W hW
        go_simp
        (try with_reducible rfl)
      simp only [Act.put, List.setIfInBounds_toArray, List.set_cons_zero, List.set_cons_succ]
      refine fzd_take 8 5 (v := ?_) rfl (by kernel_rfl) (by kernel_rfl) (by kernel_rfl) (by kernel_rfl) (fun _ _ _ h => h) rfl ?_ SA ?_
      rotate_left
      · intro W hW
        have c0 := (N2.on hW).at (i := 37) (v := .pointer qa) rfl
        have cl := (N2.on hW).lt
        go_simp
        (try with_reducible rfl)
      simp only [Act.put, List.setIfInBounds_toArray, List.set_cons_zero, List.set_cons_succ]
      refine fzd_take 8 6 (v := .agg (doneA s (.pointer qa))) rfl (by kernel_rfl) (by kernel_rfl) (by kernel_rfl) (by kernel_rfl) (fun _ _ _ h => h) rfl (fun W hW => exec_mkD rfl rfl rfl W) SA ?_
      simp only [Act.put, List.setIfInBounds_toArray, List.set_cons_zero, List.set_cons_succ]
      refine fz_one 7 rfl rfl (by kernel_rfl) (fun K hK => ?_)
      refine wp_bx (cs := doneA s (.pointer qa)) rfl rfl (fun wb kb bb => ?_)
      have SB : On wj wb := SA.trans kb
      refine hK.out _ _ (fun _ => SB) ?_
      clear hK
      refine fzd_take 8 8 (v := ?_) rfl (by kernel_rfl) (by kernel_rfl) (by kernel_rfl) (by kernel_rfl) (fun _ _ _ h => h) rfl ?_ SB ?_
      rotate_left
      · intro W hW
        go_simp
        (try with_reducible rfl)
      simp only [Act.put, List.setIfInBounds_toArray, List.set_cons_zero, List.set_cons_succ]
      refine fzd_take 8 9 (v := ?_) rfl (by kernel_rfl) (by kernel_rfl) (by kernel_rfl) (by kernel_rfl) (fun _ _ _ h => h) rfl ?_ SB ?_
      rotate_left
      · intro W hW
        go_simp
        (try with_reducible rfl)
      simp only [Act.put, List.setIfInBounds_toArray, List.set_cons_zero, List.set_cons_succ]
      refine fz_one 10 rfl rfl (by kernel_rfl) (fun K hK => ?_)
      have HB2 := N2.on SB
      have p7 := HB2.at (i := 37) (v := .pointer qa) rfl
      have f7 := HB2.bk.fr 37
      have l7 := HB2.lt
      go_simp
      refine hK.out _ _ (fun hq => (hq (by simp)).elim) ?_
      clear hK p7 f7 l7
      refine fz_done (by kernel_rfl) (NoPanic.normal ?_)
      have T7 := HB2.put (cs := vmL P0 P1 P2 VX B2 (.pointer qa)) 37 (ptV wj.heap.size)
      have o7 : OffV N wb (wb.setCell ⟨N, 37, none⟩ (ptV wj.heap.size)) := (OffV.refl N wb).set _ _
      have p6 := HB2.at (i := 36) (v := .int .i64 nn) (by rw [HNN.out]; rfl)
      have f6 := HB2.bk.fr 36
      have l6 := HB2.lt
      have T8 := T7.put 36 (.int .i64 (nn + 1))
      rw [vm_setS (s := s) _ (by rw [HNN.out]; rfl)] at T8
      have o8 := o7.set 36 (.int .i64 (nn + 1))
      have R8 := ((R2.on SB).off o8 HB2)
      have b8 := o8.tk bb (bb.ne HB2 (Ne.symm vm_ne_done))
      have BK := o8.tk (BJ.on SB) (by have := NW.out; omega)
      have RK := o8.tk (RJ2.on SB) (by have := NW.out; omega)
      have OK := (OJ.trans (OffV.of SB)).trans o8
      have V8 : VmIn _ N P0 P1 P2 (consV VX s) := ⟨B2, ptV wj.heap.size, T8, R8.cons b8⟩
      unfold ptV at BK RK OK V8
      clear SA R8 b8 T8 T7 o7 o8 bb kb
      go_wp2_with (first | (refine wpList_sto (cs := (stC s).toArray) rfl rfl rfl rfl RK step_sz rfl (stC_one _) ?_) | (refine wpList_sld rfl rfl rfl BK ?_))
      intro ws bs os
      go_wp2
      (try simp only [Exit.inBlock, Exit.then]); refine bodyPost_ret (res_step2 rfl rfl bs rfl) rfl ?_
      exact ⟨rfl, V8.offS os RK (by have := NW.out; omega), OK.fresh os (Nat.le_refl _)⟩

end Go.Proofs.YtplihlmejnohnaaGreatDoor
