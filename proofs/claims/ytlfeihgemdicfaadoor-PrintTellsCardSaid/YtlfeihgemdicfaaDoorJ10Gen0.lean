/- The tokens of a beginning, of an atom, of an instruction, told by the plain functions; condWord, gap. -/
import Derived.Test.YtlfeihgemdicfaaDoorTokI
import Derived.Test.YtlfeihgemdicfaaDoorJ03Puts
namespace Go.Proofs.YtlfeihgemdicfaaDoor
open Go.RowKit

set_option maxHeartbeats 2000000 in
set_option maxRecDepth 8000 in
theorem tok_init (l v : Int) (tL tV : ByteArray) (w : World) (hL : ∀ W, On w W → Calls Tryd.prog 68 #[.int .i64 l] W fun e w' => e = .returned (.string tL) ∧ On W w') (hV : ∀ W, On w W → Calls Tryd.prog 71 #[.int .i64 v] W fun e w' => e = .returned (.string tV) ∧ On W w') :
    Calls Tryd.prog 50 #[.agg #[.int .i64 l, .int .i64 v]] w fun e w' => ∃ N, e = .returned (.slice (some ⟨N, 0, none⟩) 4 4) ∧ Bk w' N (([tL, ⟨#[61]⟩, tV, ⟨#[59]⟩] : List ByteArray).map Value.string).toArray ∧ w.heap.size ≤ N ∧ On w w' := by
  obtain ⟨W0, hW0⟩ : ∃ W0, W0 = w.alloc (.cells #[.int .i64 l, .int .i64 v] 33) := ⟨_, rfl⟩
  have K0 : Hid (On w W0.drew) := by show On w W0.drew; rw [hW0]; exact ((On.refl w).alloc _).drew
  have B0 : Bk W0.drew w.heap.size #[.int .i64 l, .int .i64 v] := by rw [hW0]; exact Bk.new w _ _
  go_enter Tryd.func50, Tryd.ntmps50
  go_wp2
  rw [← hW0]
  clear hW0
  refine region_fz (fun W => Bk W w.heap.size #[.int .i64 l, .int .i64 v]) [] 8 (by kernel_rfl) rfl ?_
  refine fz_take 0 (v := ?_) rfl (by kernel_rfl) (by kernel_rfl) (by kernel_rfl) (by kernel_rfl) (fun _ _ _ h => h) rfl ?_ B0 ?_
  rotate_left
  · intro W hW
    go_simp
    (try with_reducible rfl)
  simp only [Act.put, List.setIfInBounds_toArray, List.set_cons_zero, List.set_cons_succ]
  refine fz_take 1 (v := ?_) rfl (by kernel_rfl) (by kernel_rfl) (by kernel_rfl) (by kernel_rfl) (fun _ _ _ h => h) rfl ?_ B0 ?_
  rotate_left
  · intro W hW
    have c0 := hW.at (i := 0) rfl
    have ll := hW.lt
    go_simp
    (try with_reducible rfl)
  simp only [Act.put, List.setIfInBounds_toArray, List.set_cons_zero, List.set_cons_succ]
  refine fz_take 3 (v := ?_) rfl (by kernel_rfl) (by kernel_rfl) (by kernel_rfl) (by kernel_rfl) (fun _ _ _ h => h) rfl ?_ B0 ?_
  rotate_left
  · intro W hW
    go_simp
    (try with_reducible rfl)
  simp only [Act.put, List.setIfInBounds_toArray, List.set_cons_zero, List.set_cons_succ]
  refine fz_take 4 (v := ?_) rfl (by kernel_rfl) (by kernel_rfl) (by kernel_rfl) (by kernel_rfl) (fun _ _ _ h => h) rfl ?_ B0 ?_
  rotate_left
  · intro W hW
    have c1 := hW.at (i := 1) rfl
    have ll := hW.lt
    go_simp
    (try with_reducible rfl)
  simp only [Act.put, List.setIfInBounds_toArray, List.set_cons_zero, List.set_cons_succ]
  refine fz_one 2 rfl rfl (by kernel_rfl) (fun K hK => ?_)
  go_simp
  refine (hL _ K0.out).mono ?_
  rintro _ w1 ⟨rfl, k1⟩
  have B1 := Bk.on B0 k1
  have K1 := On.trans K0.out k1
  refine hK.out _ _ (fun _ => B1) ?_
  clear hK
  refine fz_one 5 rfl rfl (by kernel_rfl) (fun K hK => ?_)
  go_simp
  refine (hV _ K1).mono ?_
  rintro _ w2 ⟨rfl, k2⟩
  have B2 := Bk.on B1 k2
  have K2 := On.trans K1 k2
  refine hK.out _ _ (fun _ => B2) ?_
  clear hK
  refine fz_one 6 rfl rfl (by kernel_rfl) (fun K hK => ?_)
  go_simp
  refine hK.out _ _ (fun _ => B2.alloc _) ?_
  clear hK
  refine fz_take 7 (v := ?_) rfl (by kernel_rfl) (by kernel_rfl) (by kernel_rfl) (by kernel_rfl) (fun _ _ _ h => h) rfl ?_ (B2.alloc _) ?_
  rotate_left
  · intro W hW
    go_simp
    (try with_reducible rfl)
  simp only [Act.put, List.setIfInBounds_toArray, List.set_cons_zero, List.set_cons_succ]
  refine fz_done (by kernel_rfl) (NoPanic.normal ?_)
  go_wp2
  go_ret
  exact ⟨w2.heap.size, rfl, Bk.new w2 _ _, K2.size, K2.alloc _⟩
set_option maxHeartbeats 2000000 in
set_option maxRecDepth 8000 in
theorem tok_atomL (t r l v : Int) (tL tV : ByteArray) (ht : t < 0) (w : World) (hL : ∀ W, On w W → Calls Tryd.prog 68 #[.int .i64 l] W fun e w' => e = .returned (.string tL) ∧ On W w') (hV : ∀ W, On w W → Calls Tryd.prog 71 #[.int .i64 v] W fun e w' => e = .returned (.string tV) ∧ On W w') :
    Calls Tryd.prog 75 #[.agg #[.int .i64 t, .int .i64 r, .int .i64 l, .int .i64 v]] w fun e w' => ∃ N, e = .returned (.slice (some ⟨N, 0, none⟩) 3 3) ∧ Bk w' N (([tL, ⟨#[61]⟩, tV] : List ByteArray).map Value.string).toArray ∧ w.heap.size ≤ N ∧ On w w' := by
  obtain ⟨W0, hW0⟩ : ∃ W0, W0 = w.alloc (.cells #[.int .i64 t, .int .i64 r, .int .i64 l, .int .i64 v] 35) := ⟨_, rfl⟩
  have K0 : Hid (On w W0.drew) := by show On w W0.drew; rw [hW0]; exact ((On.refl w).alloc _).drew
  have B0 : Bk W0.drew w.heap.size #[.int .i64 t, .int .i64 r, .int .i64 l, .int .i64 v] := by rw [hW0]; exact Bk.new w _ _
  go_enter Tryd.func75, Tryd.ntmps75
  go_wp2
  rw [← hW0]
  clear hW0
  refine region_fz (fun W => Bk W w.heap.size #[.int .i64 t, .int .i64 r, .int .i64 l, .int .i64 v]) [] 8 (by kernel_rfl) rfl ?_
  refine fz_take 0 (v := ?_) rfl (by kernel_rfl) (by kernel_rfl) (by kernel_rfl) (by kernel_rfl) (fun _ _ _ h => h) rfl ?_ B0 ?_
  rotate_left
  · intro W hW
    go_simp
    (try with_reducible rfl)
  simp only [Act.put, List.setIfInBounds_toArray, List.set_cons_zero, List.set_cons_succ]
  refine fz_take 1 (v := ?_) rfl (by kernel_rfl) (by kernel_rfl) (by kernel_rfl) (by kernel_rfl) (fun _ _ _ h => h) rfl ?_ B0 ?_
  rotate_left
  · intro W hW
    have c2 := hW.at (i := 2) rfl
    have ll := hW.lt
    go_simp
    (try with_reducible rfl)
  simp only [Act.put, List.setIfInBounds_toArray, List.set_cons_zero, List.set_cons_succ]
  refine fz_take 3 (v := ?_) rfl (by kernel_rfl) (by kernel_rfl) (by kernel_rfl) (by kernel_rfl) (fun _ _ _ h => h) rfl ?_ B0 ?_
  rotate_left
  · intro W hW
    go_simp
    (try with_reducible rfl)
  simp only [Act.put, List.setIfInBounds_toArray, List.set_cons_zero, List.set_cons_succ]
  refine fz_take 4 (v := ?_) rfl (by kernel_rfl) (by kernel_rfl) (by kernel_rfl) (by kernel_rfl) (fun _ _ _ h => h) rfl ?_ B0 ?_
  rotate_left
  · intro W hW
    have c3 := hW.at (i := 3) rfl
    have ll := hW.lt
    go_simp
    (try with_reducible rfl)
  simp only [Act.put, List.setIfInBounds_toArray, List.set_cons_zero, List.set_cons_succ]
  refine fz_one 2 rfl rfl (by kernel_rfl) (fun K hK => ?_)
  go_simp
  refine (hL _ K0.out).mono ?_
  rintro _ w1 ⟨rfl, k1⟩
  have B1 := Bk.on B0 k1
  have K1 := On.trans K0.out k1
  refine hK.out _ _ (fun _ => B1) ?_
  clear hK
  refine fz_one 5 rfl rfl (by kernel_rfl) (fun K hK => ?_)
  go_simp
  refine (hV _ K1).mono ?_
  rintro _ w2 ⟨rfl, k2⟩
  have B2 := Bk.on B1 k2
  have K2 := On.trans K1 k2
  refine hK.out _ _ (fun _ => B2) ?_
  clear hK
  refine fz_one 6 rfl rfl (by kernel_rfl) (fun K hK => ?_)
  go_simp
  refine hK.out _ _ (fun _ => B2.alloc _) ?_
  clear hK
  refine fz_take 7 (v := ?_) rfl (by kernel_rfl) (by kernel_rfl) (by kernel_rfl) (by kernel_rfl) (fun _ _ _ h => h) rfl ?_ (B2.alloc _) ?_
  rotate_left
  · intro W hW
    go_simp
    (try with_reducible rfl)
  simp only [Act.put, List.setIfInBounds_toArray, List.set_cons_zero, List.set_cons_succ]
  refine fz_done (by kernel_rfl) (NoPanic.normal ?_)
  go_wp2
  go_ret
  exact ⟨w2.heap.size, rfl, Bk.new w2 _ _, K2.size, K2.alloc _⟩
set_option maxHeartbeats 2000000 in
set_option maxRecDepth 8000 in
theorem tok_atomR (t r l v : Int) (tT tR tV : ByteArray) (ht : ¬ t < 0) (w : World) (hT : ∀ W, On w W → Calls Tryd.prog 71 #[.int .i64 t] W fun e w' => e = .returned (.string tT) ∧ On W w') (hR : ∀ W, On w W → Calls Tryd.prog 70 #[.int .i64 r] W fun e w' => e = .returned (.string tR) ∧ On W w') (hV : ∀ W, On w W → Calls Tryd.prog 71 #[.int .i64 v] W fun e w' => e = .returned (.string tV) ∧ On W w') :
    Calls Tryd.prog 75 #[.agg #[.int .i64 t, .int .i64 r, .int .i64 l, .int .i64 v]] w fun e w' => ∃ N, e = .returned (.slice (some ⟨N, 0, none⟩) 5 5) ∧ Bk w' N (([tT, ⟨#[58]⟩, tR, ⟨#[61]⟩, tV] : List ByteArray).map Value.string).toArray ∧ w.heap.size ≤ N ∧ On w w' := by
  obtain ⟨W0, hW0⟩ : ∃ W0, W0 = w.alloc (.cells #[.int .i64 t, .int .i64 r, .int .i64 l, .int .i64 v] 35) := ⟨_, rfl⟩
  have K0 : Hid (On w W0.drew) := by show On w W0.drew; rw [hW0]; exact ((On.refl w).alloc _).drew
  have B0 : Bk W0.drew w.heap.size #[.int .i64 t, .int .i64 r, .int .i64 l, .int .i64 v] := by rw [hW0]; exact Bk.new w _ _
  go_enter Tryd.func75, Tryd.ntmps75
  go_wp2
  rw [← hW0]
  clear hW0
  refine region_fz (fun W => Bk W w.heap.size #[.int .i64 t, .int .i64 r, .int .i64 l, .int .i64 v]) [] 11 (by kernel_rfl) rfl ?_
  refine fz_take 0 (v := ?_) rfl (by kernel_rfl) (by kernel_rfl) (by kernel_rfl) (by kernel_rfl) (fun _ _ _ h => h) rfl ?_ B0 ?_
  rotate_left
  · intro W hW
    go_simp
    (try with_reducible rfl)
  simp only [Act.put, List.setIfInBounds_toArray, List.set_cons_zero, List.set_cons_succ]
  refine fz_take 1 (v := ?_) rfl (by kernel_rfl) (by kernel_rfl) (by kernel_rfl) (by kernel_rfl) (fun _ _ _ h => h) rfl ?_ B0 ?_
  rotate_left
  · intro W hW
    have c0 := hW.at (i := 0) rfl
    have ll := hW.lt
    go_simp
    (try with_reducible rfl)
  simp only [Act.put, List.setIfInBounds_toArray, List.set_cons_zero, List.set_cons_succ]
  refine fz_take 3 (v := ?_) rfl (by kernel_rfl) (by kernel_rfl) (by kernel_rfl) (by kernel_rfl) (fun _ _ _ h => h) rfl ?_ B0 ?_
  rotate_left
  · intro W hW
    go_simp
    (try with_reducible rfl)
  simp only [Act.put, List.setIfInBounds_toArray, List.set_cons_zero, List.set_cons_succ]
  refine fz_take 4 (v := ?_) rfl (by kernel_rfl) (by kernel_rfl) (by kernel_rfl) (by kernel_rfl) (fun _ _ _ h => h) rfl ?_ B0 ?_
  rotate_left
  · intro W hW
    have c1 := hW.at (i := 1) rfl
    have ll := hW.lt
    go_simp
    (try with_reducible rfl)
  simp only [Act.put, List.setIfInBounds_toArray, List.set_cons_zero, List.set_cons_succ]
  refine fz_take 6 (v := ?_) rfl (by kernel_rfl) (by kernel_rfl) (by kernel_rfl) (by kernel_rfl) (fun _ _ _ h => h) rfl ?_ B0 ?_
  rotate_left
  · intro W hW
    go_simp
    (try with_reducible rfl)
  simp only [Act.put, List.setIfInBounds_toArray, List.set_cons_zero, List.set_cons_succ]
  refine fz_take 7 (v := ?_) rfl (by kernel_rfl) (by kernel_rfl) (by kernel_rfl) (by kernel_rfl) (fun _ _ _ h => h) rfl ?_ B0 ?_
  rotate_left
  · intro W hW
    have c3 := hW.at (i := 3) rfl
    have ll := hW.lt
    go_simp
    (try with_reducible rfl)
  simp only [Act.put, List.setIfInBounds_toArray, List.set_cons_zero, List.set_cons_succ]
  refine fz_one 2 rfl rfl (by kernel_rfl) (fun K hK => ?_)
  go_simp
  refine (hT _ K0.out).mono ?_
  rintro _ w1 ⟨rfl, k1⟩
  have B1 := Bk.on B0 k1
  have K1 := On.trans K0.out k1
  refine hK.out _ _ (fun _ => B1) ?_
  clear hK
  refine fz_one 5 rfl rfl (by kernel_rfl) (fun K hK => ?_)
  go_simp
  refine (hR _ K1).mono ?_
  rintro _ w2 ⟨rfl, k2⟩
  have B2 := Bk.on B1 k2
  have K2 := On.trans K1 k2
  refine hK.out _ _ (fun _ => B2) ?_
  clear hK
  refine fz_one 8 rfl rfl (by kernel_rfl) (fun K hK => ?_)
  go_simp
  refine (hV _ K2).mono ?_
  rintro _ w3 ⟨rfl, k3⟩
  have B3 := Bk.on B2 k3
  have K3 := On.trans K2 k3
  refine hK.out _ _ (fun _ => B3) ?_
  clear hK
  refine fz_one 9 rfl rfl (by kernel_rfl) (fun K hK => ?_)
  go_simp
  refine hK.out _ _ (fun _ => B3.alloc _) ?_
  clear hK
  refine fz_take 10 (v := ?_) rfl (by kernel_rfl) (by kernel_rfl) (by kernel_rfl) (by kernel_rfl) (fun _ _ _ h => h) rfl ?_ (B3.alloc _) ?_
  rotate_left
  · intro W hW
    go_simp
    (try with_reducible rfl)
  simp only [Act.put, List.setIfInBounds_toArray, List.set_cons_zero, List.set_cons_succ]
  refine fz_done (by kernel_rfl) (NoPanic.normal ?_)
  go_wp2
  go_ret
  exact ⟨w3.heap.size, rfl, Bk.new w3 _ _, K3.size, K3.alloc _⟩
/-- A number of 64 bits. -/
def B64 (v : Int) : Prop := -9223372036854775808 ≤ v ∧ v ≤ 9223372036854775807
/-- A row of strings of its own, just made. -/
def TkPost (w : World) (L : List ByteArray) (e : Ending) (w' : World) : Prop :=
  ∃ N, e = .returned (.slice (some ⟨N, 0, none⟩) L.length L.length) ∧ Bk w' N (L.map Value.string).toArray ∧ w.heap.size ≤ N ∧ On w w'
theorem num_text {v : Int} (h : B64 v) (w : World) : Calls Tryd.prog 71 #[.int .i64 v] w fun e w' => e = .returned (.string (numT v)) ∧ On w w' := number_is v h.1 h.2 w
theorem opd_text {o : Opd} (h : opdOk o = true) (hv : B64 o.v) (w : World) : Calls Tryd.prog 69 #[.agg #[.int .i64 o.r, .int .i64 o.v]] w fun e w' => e = .returned (.string (opdT o)) ∧ On w w' := operand_is o h hv.1 hv.2 w
theorem sgn_text {k : Int} (h : signOk k = true) (w : World) (lw : Lw w) : Calls Tryd.prog 72 #[.int .i64 k] w fun e w' => e = .returned (.string (sgnT k)) ∧ On w w' := by
  unfold signOk at h
  rw [Bool.and_eq_true, decide_eq_true_eq, decide_eq_true_eq] at h
  have := sign_yes k.toNat (by omega) (by omega) w lw
  rw [show ((k.toNat : Nat) : Int) = k by omega] at this
  refine this.mono ?_
  rintro e w' ⟨rfl, rfl⟩
  exact ⟨rfl, On.refl _⟩
theorem initTokens_is (x : InitT) (h : initOk x = true) (hv : B64 x.v) (w : World) : Calls Tryd.prog 50 #[.agg #[.int .i64 x.l, .int .i64 x.v]] w (TkPost w (iniTk x)) :=
  tok_init x.l x.v _ _ w (fun W _ => loc_text h W) (fun W _ => num_text hv W)
theorem atomTokens_is (x : AtomT) (h : atomOk x = true) (ht : B64 x.t) (hv : B64 x.v) (w : World) : Calls Tryd.prog 75 #[.agg #[.int .i64 x.t, .int .i64 x.r, .int .i64 x.l, .int .i64 x.v]] w (TkPost w (atomTk x)) := by
  unfold atomOk at h
  unfold atomTk
  by_cases h1 : x.t = -1
  · simp [h1] at h
    have hn : x.t < 0 := by omega
    rw [if_pos hn]
    exact tok_atomL x.t x.r x.l x.v _ _ hn w (fun W _ => loc_text h.2 W) (fun W _ => num_text hv W)
  · simp [h1] at h
    have hn : ¬ x.t < 0 := by omega
    rw [if_neg hn]
    exact tok_atomR x.t x.r x.l x.v _ _ _ hn w (fun W _ => num_text ht W) (fun W _ => reg_text h.2 W) (fun W _ => num_text hv W)
theorem insTokens_is (x : InsT) (h : insOk x = true) (ha : B64 x.a.v) (hb : B64 x.b.v) (hn : B64 x.n) (w : World) (lw : Lw w) :
    Calls Tryd.prog 43 #[.agg #[.int .i64 x.k, .int .i64 x.r, .int .i64 x.l, .int .i64 x.a.r, .int .i64 x.a.v, .int .i64 x.o, .int .i64 x.b.r, .int .i64 x.b.v, .int .i64 x.n]] w (TkPost w (insTk x)) := by
  unfold insOk at h
  unfold insTk
  by_cases h1 : x.k = 1
  · simp only [h1, Bool.and_eq_true, beq_self_eq_true, if_true] at h ⊢
    exact tok_store x.r x.l x.a.r x.a.v x.o x.b.r x.b.v x.n _ _ w (fun W _ => loc_text h.1.2 W) (fun W _ => opd_text h.2 ha W)
  by_cases h2 : x.k = 2
  · simp [h2] at h ⊢
    exact tok_load x.r x.l x.a.r x.a.v x.o x.b.r x.b.v x.n _ _ w (fun W _ => reg_text h.1.2 W) (fun W _ => loc_text h.2 W)
  by_cases h3 : x.k = 3
  · simp only [h3] at h ⊢
    exact tok_fence x.r x.l x.a.r x.a.v x.o x.b.r x.b.v x.n w
  by_cases h4 : x.k = 4
  · simp [h4] at h ⊢
    exact tok_cas x.r x.l x.a.r x.a.v x.o x.b.r x.b.v x.n _ _ _ _ w (fun W _ => reg_text h.1.1.1.2 W) (fun W _ => loc_text h.1.1.2 W) (fun W _ => opd_text h.1.2 ha W) (fun W _ => opd_text h.2 hb W)
  by_cases h5 : x.k = 5
  · simp [h5] at h ⊢
    obtain ⟨⟨⟨_, hr⟩, hA⟩, hs⟩ := h
    unfold secOk at hs
    by_cases h0 : x.o = 0
    · rw [if_pos h0]
      exact tok_set x.r x.l x.a.r x.a.v x.o x.b.r x.b.v x.n _ _ w (by simp [h0]) (fun W _ => reg_text hr W) (fun W _ => opd_text hA ha W)
    · simp [h0] at hs
      rw [if_neg h0]
      exact tok_op x.r x.l x.a.r x.a.v x.o x.b.r x.b.v x.n _ _ _ _ w (by simp [h0]) (fun W _ => reg_text hr W) (fun W _ => opd_text hA ha W) (fun W k => sgn_text hs.1 W (lw.on k)) (fun W _ => opd_text hs.2 hb W)
  by_cases h6 : x.k = 6
  · simp [h6] at h ⊢
    exact tok_skip x.r x.l x.a.r x.a.v x.o x.b.r x.b.v x.n _ _ _ w (fun W _ => num_text hn W) (fun W _ => opd_text h.1.2 ha W) (fun W _ => opd_text h.2 hb W)
  simp [h1, h2, h3, h4, h5, h6] at h
theorem condWord_is (k : Int) (w : World) : Calls Tryd.prog 74 #[.int .i64 k] w fun e w' => e = .returned (.string (if k == 1 then xEx else xFa)) ∧ w' = w := by
  cases h : (k == 1) with
  | true =>
    go_enter Tryd.func74, Tryd.ntmps74
    go_wp2
    go_ret
    exact ⟨rfl, rfl⟩
  | false =>
    go_enter Tryd.func74, Tryd.ntmps74
    go_wp2
    go_ret
    exact ⟨rfl, rfl⟩
end Go.Proofs.YtlfeihgemdicfaaDoor

namespace Go.Proofs.YtlfeihgemdicfaaDoor
open Go.RowKit

theorem any_here {α : Type} {p : α → Bool} {L : List α} {i : Nat} {x : α} (h : L[i]? = some x) (hp : p x = true) : L.any p = true :=
  List.any_eq_true.2 ⟨x, List.mem_of_getElem? h, hp⟩
theorem drop_at {α : Type} {L : List α} {i : Nat} {x : α} (h : L[i]? = some x) : L.drop i = x :: L.drop (i + 1) := by
  obtain ⟨hi, rfl⟩ := List.getElem?_eq_some_iff.1 h
  exact List.drop_eq_getElem_cons hi
theorem all_not {α : Type} (p : α → Bool) (L : List α) : (!L.any (fun x => !p x)) = L.all p := by
  induction L with
  | nil => rfl
  | cons x L ih => simp only [List.any_cons, List.all_cons, ← ih]; cases p x <;> simp
theorem ret_bool {a b : Bool} (h : a = b) : Ending.returned (.bool a) = .returned (.bool b) := by rw [h]
/-- v is this test, and can be read. -/
structure TestRd (w : World) (v : Value) (t : TestT) : Prop where
  ex : ∃ a1 c1 a2 c2 a3 c3, v = .agg #[.string t.name, .slice a1 t.ini.length c1, .slice a2 t.thr.length c2, .int .i64 t.cond.k, .slice a3 t.cond.any.length c3] ∧ t.name.size ≤ 9223372036854775807 ∧
    Rd iniC 2 w (.slice a1 t.ini.length c1) t.ini ∧ Rd2 insC 9 w (.slice a2 t.thr.length c2) t.thr ∧ Rd2 atomC 4 w (.slice a3 t.cond.any.length c3) t.cond.any
theorem TestRd.on {w w' : World} {v : Value} {t : TestT} (h : TestRd w v t) (k : On w w') : TestRd w' v t := by
  obtain ⟨a1, c1, a2, c2, a3, c3, hv, hn, h1, h2, h3⟩ := h.ex
  exact ⟨a1, c1, a2, c2, a3, c3, hv, hn, h1.on k, h2.on k, h3.on k⟩

def byteV (b : UInt8) : Value := .int .u8 b.toNat
theorem infoByte : (Tryd.prog.info? 5).map (fun i => (i.zero, i.size, i.bytes)) = some (some (.int .u8 0), 1, 1) := by kernel_rfl
def byteC (b : UInt8) : List Value := [.int .u8 b.toNat]
theorem infoI64 : (Tryd.prog.info? 2).map (fun i => (i.zero, i.size, i.bytes)) = some (some (.int .i64 0), 1, 8) := by kernel_rfl
theorem set_split {α : Type} (A B : List α) (z x : α) : (A ++ z :: B).set A.length x = A ++ x :: B := by
  rw [List.set_append_right _ _ (Nat.le_refl _), Nat.sub_self, List.set_cons_zero]
theorem rep_succ {α : Type} (n : Nat) (x : α) : List.replicate (n + 1) x = x :: List.replicate n x := rfl
theorem own_lt {w : World} {base k n c g : Nat} {e : TypeId} {xs : List Value} (h : w.ownsRow base e k (.slice (some ⟨g, 0, none⟩) n c) n xs) : g < w.heap.size := by
  rcases h.2 with ⟨h0, _⟩ | ⟨g', cap, cur, hv, hb, hh, _⟩
  · cases h0
  · have := lt_of_block hh
    simp only [Value.slice.injEq, Option.some.injEq, Addr.mk.injEq] at hv
    omega
theorem puts9 (w : World) (N o : Nat) (v0 v1 v2 v3 v4 v5 v6 v7 v8 : Value) : (((((((((w.setCell ⟨N, o, none⟩ v0).setCell ⟨N, o + 1, none⟩ v1).setCell ⟨N, o + 2, none⟩ v2).setCell ⟨N, o + 3, none⟩ v3).setCell ⟨N, o + 4, none⟩ v4).setCell ⟨N, o + 5, none⟩ v5).setCell ⟨N, o + 6, none⟩ v6).setCell ⟨N, o + 7, none⟩ v7).setCell ⟨N, o + 8, none⟩ v8) = putCells w N o [v0, v1, v2, v3, v4, v5, v6, v7, v8] := rfl
theorem put_lt {w : World} {m : Nat} (h : m < w.heap.size) (N o : Nat) (vs : List Value) (T : Obj) : m < ((putCells w N o vs).alloc T).heap.size := by
  rw [World.size_alloc, size_puts]
  omega
theorem rd_bytes {w : World} {base : Nat} {e : TypeId} {a : Option Addr} {c : Nat} {LT : List UInt8} (h : w.ownsRow base e 1 (.slice a LT.length c) LT.length (LT.map byteV)) : Rd byteC 1 w (.slice a LT.length c) LT := by
  refine Rd.own (C := byteC) (k := 1) (fun _ => rfl) (base := base) (e := e) ?_
  have e1 : LT.flatMap byteC = LT.map byteV := by
    clear h
    induction LT with
    | nil => rfl
    | cons b LT ih => rw [List.flatMap_cons, ih]; rfl
  rw [e1]
  exact h
theorem ne_thr : (49 : TypeId) ≠ 43 := by decide
end Go.Proofs.YtlfeihgemdicfaaDoor
