/- The tokens of a beginning, of an atom, of an instruction, told by the plain functions; condWord, gap. -/
import Derived.Test.YtacflahkofmcpaaGreatDoorWlTokI
import Derived.Test.YtacflahkofmcpaaGreatDoorJ10LexCut
import Derived.Test.YtacflahkofmcpaaGreatDoorJ09WlOwnR
import Derived.Test.YtacflahkofmcpaaGreatDoorJ13WlOkLeaf
import Derived.Deep.LoopGhost
namespace Go.Proofs.YtacflahkofmcpaaGreatDoor.Wl
open Go.RowKit

set_option maxHeartbeats 2000000 in
set_option maxRecDepth 8000 in
theorem tok_init (l v : Int) (tL tV : ByteArray) (w : World) (hL : ∀ W, On w W → Calls Tryz.prog 131 #[.int .i64 l] W fun e w' => e = .returned (.string tL) ∧ On W w') (hV : ∀ W, On w W → Calls Tryz.prog 134 #[.int .i64 v] W fun e w' => e = .returned (.string tV) ∧ On W w') :
    Calls Tryz.prog 91 #[.agg #[.int .i64 l, .int .i64 v]] w fun e w' => ∃ N, e = .returned (.slice (some ⟨N, 0, none⟩) 4 4) ∧ Bk w' N (([tL, ⟨#[61]⟩, tV, ⟨#[59]⟩] : List ByteArray).map Value.string).toArray ∧ w.heap.size ≤ N ∧ On w w' := by
  obtain ⟨W0, hW0⟩ : ∃ W0, W0 = w.alloc (.cells #[.int .i64 l, .int .i64 v] 55) := ⟨_, rfl⟩
  have K0 : Hid (On w W0.drew) := by show On w W0.drew; rw [hW0]; exact ((On.refl w).alloc _).drew
  have B0 : Bk W0.drew w.heap.size #[.int .i64 l, .int .i64 v] := by rw [hW0]; exact Bk.new w _ _
  go_enter Tryz.func91, Tryz.ntmps91
  go_wp2
  rw [← hW0]
  clear hW0
  refine region_fz (fun W => Bk W w.heap.size #[.int .i64 l, .int .i64 v]) [] 8 (by kernel_rfl) rfl ?_
  refine fz_take 0 (v := ?_) rfl (by kernel_rfl) (by kernel_rfl) (by kernel_rfl) (by kernel_rfl) (fun _ _ _ h => h) rfl ?_ B0 ?_
  rotate_left
  · intro W hW
    go_simp
    (try with_reducible rfl)
  simp only [Act.put, List.setIfInBounds_toArray, List.set_cons_zero, List.set_cons_succ]
  refine fz_take 1 (v := ?_) rfl (by kernel_rfl) (by kernel_rfl) (by kernel_rfl) (by kernel_rfl) (fun _ _ _ h => h) rfl ?_ B0 ?_
  rotate_left
  · intro W hW
    have c0 := hW.at (i := 0) rfl
    have ll := hW.lt
    go_simp
    (try with_reducible rfl)
  simp only [Act.put, List.setIfInBounds_toArray, List.set_cons_zero, List.set_cons_succ]
  refine fz_take 3 (v := ?_) rfl (by kernel_rfl) (by kernel_rfl) (by kernel_rfl) (by kernel_rfl) (fun _ _ _ h => h) rfl ?_ B0 ?_
  rotate_left
  · intro W hW
    go_simp
    (try with_reducible rfl)
  simp only [Act.put, List.setIfInBounds_toArray, List.set_cons_zero, List.set_cons_succ]
  refine fz_take 4 (v := ?_) rfl (by kernel_rfl) (by kernel_rfl) (by kernel_rfl) (by kernel_rfl) (fun _ _ _ h => h) rfl ?_ B0 ?_
  rotate_left
  · intro W hW
    have c1 := hW.at (i := 1) rfl
    have ll := hW.lt
    go_simp
    (try with_reducible rfl)
  simp only [Act.put, List.setIfInBounds_toArray, List.set_cons_zero, List.set_cons_succ]
  refine fz_one 2 rfl rfl (by kernel_rfl) (fun K hK => ?_)
  go_simp
  refine (hL _ K0.out).mono ?_
  rintro _ w1 ⟨rfl, k1⟩
  have B1 := Bk.on B0 k1
  have K1 := On.trans K0.out k1
  refine hK.out _ _ (fun _ => B1) ?_
  clear hK
  refine fz_one 5 rfl rfl (by kernel_rfl) (fun K hK => ?_)
  go_simp
  refine (hV _ K1).mono ?_
  rintro _ w2 ⟨rfl, k2⟩
  have B2 := Bk.on B1 k2
  have K2 := On.trans K1 k2
  refine hK.out _ _ (fun _ => B2) ?_
  clear hK
  refine fz_one 6 rfl rfl (by kernel_rfl) (fun K hK => ?_)
  go_simp
  refine hK.out _ _ (fun _ => B2.alloc _) ?_
  clear hK
  refine fz_take 7 (v := ?_) rfl (by kernel_rfl) (by kernel_rfl) (by kernel_rfl) (by kernel_rfl) (fun _ _ _ h => h) rfl ?_ (B2.alloc _) ?_
  rotate_left
  · intro W hW
    go_simp
    (try with_reducible rfl)
  simp only [Act.put, List.setIfInBounds_toArray, List.set_cons_zero, List.set_cons_succ]
  refine fz_done (by kernel_rfl) (NoPanic.normal ?_)
  go_wp2
  go_ret
  exact ⟨w2.heap.size, rfl, Bk.new w2 _ _, K2.size, K2.alloc _⟩
set_option maxHeartbeats 2000000 in
set_option maxRecDepth 8000 in
theorem tok_atomL (t r l v : Int) (tL tV : ByteArray) (ht : t < 0) (w : World) (hL : ∀ W, On w W → Calls Tryz.prog 131 #[.int .i64 l] W fun e w' => e = .returned (.string tL) ∧ On W w') (hV : ∀ W, On w W → Calls Tryz.prog 134 #[.int .i64 v] W fun e w' => e = .returned (.string tV) ∧ On W w') :
    Calls Tryz.prog 137 #[.agg #[.int .i64 t, .int .i64 r, .int .i64 l, .int .i64 v]] w fun e w' => ∃ N, e = .returned (.slice (some ⟨N, 0, none⟩) 3 3) ∧ Bk w' N (([tL, ⟨#[61]⟩, tV] : List ByteArray).map Value.string).toArray ∧ w.heap.size ≤ N ∧ On w w' := by
  obtain ⟨W0, hW0⟩ : ∃ W0, W0 = w.alloc (.cells #[.int .i64 t, .int .i64 r, .int .i64 l, .int .i64 v] 58) := ⟨_, rfl⟩
  have K0 : Hid (On w W0.drew) := by show On w W0.drew; rw [hW0]; exact ((On.refl w).alloc _).drew
  have B0 : Bk W0.drew w.heap.size #[.int .i64 t, .int .i64 r, .int .i64 l, .int .i64 v] := by rw [hW0]; exact Bk.new w _ _
  go_enter Tryz.func137, Tryz.ntmps137
  go_wp2
  rw [← hW0]
  clear hW0
  refine region_fz (fun W => Bk W w.heap.size #[.int .i64 t, .int .i64 r, .int .i64 l, .int .i64 v]) [] 8 (by kernel_rfl) rfl ?_
  refine fz_take 0 (v := ?_) rfl (by kernel_rfl) (by kernel_rfl) (by kernel_rfl) (by kernel_rfl) (fun _ _ _ h => h) rfl ?_ B0 ?_
  rotate_left
  · intro W hW
    go_simp
    (try with_reducible rfl)
  simp only [Act.put, List.setIfInBounds_toArray, List.set_cons_zero, List.set_cons_succ]
  refine fz_take 1 (v := ?_) rfl (by kernel_rfl) (by kernel_rfl) (by kernel_rfl) (by kernel_rfl) (fun _ _ _ h => h) rfl ?_ B0 ?_
  rotate_left
  · intro W hW
    have c2 := hW.at (i := 2) rfl
    have ll := hW.lt
    go_simp
    (try with_reducible rfl)
  simp only [Act.put, List.setIfInBounds_toArray, List.set_cons_zero, List.set_cons_succ]
  refine fz_take 3 (v := ?_) rfl (by kernel_rfl) (by kernel_rfl) (by kernel_rfl) (by kernel_rfl) (fun _ _ _ h => h) rfl ?_ B0 ?_
  rotate_left
  · intro W hW
    go_simp
    (try with_reducible rfl)
  simp only [Act.put, List.setIfInBounds_toArray, List.set_cons_zero, List.set_cons_succ]
  refine fz_take 4 (v := ?_) rfl (by kernel_rfl) (by kernel_rfl) (by kernel_rfl) (by kernel_rfl) (fun _ _ _ h => h) rfl ?_ B0 ?_
  rotate_left
  · intro W hW
    have c3 := hW.at (i := 3) rfl
    have ll := hW.lt
    go_simp
    (try with_reducible rfl)
  simp only [Act.put, List.setIfInBounds_toArray, List.set_cons_zero, List.set_cons_succ]
  refine fz_one 2 rfl rfl (by kernel_rfl) (fun K hK => ?_)
  go_simp
  refine (hL _ K0.out).mono ?_
  rintro _ w1 ⟨rfl, k1⟩
  have B1 := Bk.on B0 k1
  have K1 := On.trans K0.out k1
  refine hK.out _ _ (fun _ => B1) ?_
  clear hK
  refine fz_one 5 rfl rfl (by kernel_rfl) (fun K hK => ?_)
  go_simp
  refine (hV _ K1).mono ?_
  rintro _ w2 ⟨rfl, k2⟩
  have B2 := Bk.on B1 k2
  have K2 := On.trans K1 k2
  refine hK.out _ _ (fun _ => B2) ?_
  clear hK
  refine fz_one 6 rfl rfl (by kernel_rfl) (fun K hK => ?_)
  go_simp
  refine hK.out _ _ (fun _ => B2.alloc _) ?_
  clear hK
  refine fz_take 7 (v := ?_) rfl (by kernel_rfl) (by kernel_rfl) (by kernel_rfl) (by kernel_rfl) (fun _ _ _ h => h) rfl ?_ (B2.alloc _) ?_
  rotate_left
  · intro W hW
    go_simp
    (try with_reducible rfl)
  simp only [Act.put, List.setIfInBounds_toArray, List.set_cons_zero, List.set_cons_succ]
  refine fz_done (by kernel_rfl) (NoPanic.normal ?_)
  go_wp2
  go_ret
  exact ⟨w2.heap.size, rfl, Bk.new w2 _ _, K2.size, K2.alloc _⟩
set_option maxHeartbeats 2000000 in
set_option maxRecDepth 8000 in
theorem tok_atomR (t r l v : Int) (tT tR tV : ByteArray) (ht : ¬ t < 0) (w : World) (hT : ∀ W, On w W → Calls Tryz.prog 134 #[.int .i64 t] W fun e w' => e = .returned (.string tT) ∧ On W w') (hR : ∀ W, On w W → Calls Tryz.prog 133 #[.int .i64 r] W fun e w' => e = .returned (.string tR) ∧ On W w') (hV : ∀ W, On w W → Calls Tryz.prog 134 #[.int .i64 v] W fun e w' => e = .returned (.string tV) ∧ On W w') :
    Calls Tryz.prog 137 #[.agg #[.int .i64 t, .int .i64 r, .int .i64 l, .int .i64 v]] w fun e w' => ∃ N, e = .returned (.slice (some ⟨N, 0, none⟩) 5 5) ∧ Bk w' N (([tT, ⟨#[58]⟩, tR, ⟨#[61]⟩, tV] : List ByteArray).map Value.string).toArray ∧ w.heap.size ≤ N ∧ On w w' := by
  obtain ⟨W0, hW0⟩ : ∃ W0, W0 = w.alloc (.cells #[.int .i64 t, .int .i64 r, .int .i64 l, .int .i64 v] 58) := ⟨_, rfl⟩
  have K0 : Hid (On w W0.drew) := by show On w W0.drew; rw [hW0]; exact ((On.refl w).alloc _).drew
  have B0 : Bk W0.drew w.heap.size #[.int .i64 t, .int .i64 r, .int .i64 l, .int .i64 v] := by rw [hW0]; exact Bk.new w _ _
  go_enter Tryz.func137, Tryz.ntmps137
  go_wp2
  rw [← hW0]
  clear hW0
  refine region_fz (fun W => Bk W w.heap.size #[.int .i64 t, .int .i64 r, .int .i64 l, .int .i64 v]) [] 11 (by kernel_rfl) rfl ?_
  refine fz_take 0 (v := ?_) rfl (by kernel_rfl) (by kernel_rfl) (by kernel_rfl) (by kernel_rfl) (fun _ _ _ h => h) rfl ?_ B0 ?_
  rotate_left
  · intro W hW
    go_simp
    (try with_reducible rfl)
  simp only [Act.put, List.setIfInBounds_toArray, List.set_cons_zero, List.set_cons_succ]
  refine fz_take 1 (v := ?_) rfl (by kernel_rfl) (by kernel_rfl) (by kernel_rfl) (by kernel_rfl) (fun _ _ _ h => h) rfl ?_ B0 ?_
  rotate_left
  · intro W hW
    have c0 := hW.at (i := 0) rfl
    have ll := hW.lt
    go_simp
    (try with_reducible rfl)
  simp only [Act.put, List.setIfInBounds_toArray, List.set_cons_zero, List.set_cons_succ]
  refine fz_take 3 (v := ?_) rfl (by kernel_rfl) (by kernel_rfl) (by kernel_rfl) (by kernel_rfl) (fun _ _ _ h => h) rfl ?_ B0 ?_
  rotate_left
  · intro W hW
    go_simp
    (try with_reducible rfl)
  simp only [Act.put, List.setIfInBounds_toArray, List.set_cons_zero, List.set_cons_succ]
  refine fz_take 4 (v := ?_) rfl (by kernel_rfl) (by kernel_rfl) (by kernel_rfl) (by kernel_rfl) (fun _ _ _ h => h) rfl ?_ B0 ?_
  rotate_left
  · intro W hW
    have c1 := hW.at (i := 1) rfl
    have ll := hW.lt
    go_simp
    (try with_reducible rfl)
  simp only [Act.put, List.setIfInBounds_toArray, List.set_cons_zero, List.set_cons_succ]
  refine fz_take 6 (v := ?_) rfl (by kernel_rfl) (by kernel_rfl) (by kernel_rfl) (by kernel_rfl) (fun _ _ _ h => h) rfl ?_ B0 ?_
  rotate_left
  · intro W hW
    go_simp
    (try with_reducible rfl)
  simp only [Act.put, List.setIfInBounds_toArray, List.set_cons_zero, List.set_cons_succ]
  refine fz_take 7 (v := ?_) rfl (by kernel_rfl) (by kernel_rfl) (by kernel_rfl) (by kernel_rfl) (fun _ _ _ h => h) rfl ?_ B0 ?_
  rotate_left
  · intro W hW
    have c3 := hW.at (i := 3) rfl
    have ll := hW.lt
    go_simp
    (try with_reducible rfl)
  simp only [Act.put, List.setIfInBounds_toArray, List.set_cons_zero, List.set_cons_succ]
  refine fz_one 2 rfl rfl (by kernel_rfl) (fun K hK => ?_)
  go_simp
  refine (hT _ K0.out).mono ?_
  rintro _ w1 ⟨rfl, k1⟩
  have B1 := Bk.on B0 k1
  have K1 := On.trans K0.out k1
  refine hK.out _ _ (fun _ => B1) ?_
  clear hK
  refine fz_one 5 rfl rfl (by kernel_rfl) (fun K hK => ?_)
  go_simp
  refine (hR _ K1).mono ?_
  rintro _ w2 ⟨rfl, k2⟩
  have B2 := Bk.on B1 k2
  have K2 := On.trans K1 k2
  refine hK.out _ _ (fun _ => B2) ?_
  clear hK
  refine fz_one 8 rfl rfl (by kernel_rfl) (fun K hK => ?_)
  go_simp
  refine (hV _ K2).mono ?_
  rintro _ w3 ⟨rfl, k3⟩
  have B3 := Bk.on B2 k3
  have K3 := On.trans K2 k3
  refine hK.out _ _ (fun _ => B3) ?_
  clear hK
  refine fz_one 9 rfl rfl (by kernel_rfl) (fun K hK => ?_)
  go_simp
  refine hK.out _ _ (fun _ => B3.alloc _) ?_
  clear hK
  refine fz_take 10 (v := ?_) rfl (by kernel_rfl) (by kernel_rfl) (by kernel_rfl) (by kernel_rfl) (fun _ _ _ h => h) rfl ?_ (B3.alloc _) ?_
  rotate_left
  · intro W hW
    go_simp
    (try with_reducible rfl)
  simp only [Act.put, List.setIfInBounds_toArray, List.set_cons_zero, List.set_cons_succ]
  refine fz_done (by kernel_rfl) (NoPanic.normal ?_)
  go_wp2
  go_ret
  exact ⟨w3.heap.size, rfl, Bk.new w3 _ _, K3.size, K3.alloc _⟩
/-- A number of 64 bits. -/
def B64 (v : Int) : Prop := -9223372036854775808 ≤ v ∧ v ≤ 9223372036854775807
/-- A row of strings of its own, just made. -/
def TkPost (w : World) (L : List ByteArray) (e : Ending) (w' : World) : Prop :=
  ∃ N, e = .returned (.slice (some ⟨N, 0, none⟩) L.length L.length) ∧ Bk w' N (L.map Value.string).toArray ∧ w.heap.size ≤ N ∧ On w w'
theorem num_text {v : Int} (h : B64 v) (w : World) : Calls Tryz.prog 134 #[.int .i64 v] w fun e w' => e = .returned (.string (numT v)) ∧ On w w' := number_is v h.1 h.2 w
theorem opd_text {o : Opd} (h : opdOk o = true) (hv : B64 o.v) (w : World) : Calls Tryz.prog 132 #[.agg #[.int .i64 o.r, .int .i64 o.v]] w fun e w' => e = .returned (.string (opdT o)) ∧ On w w' := operand_is o h hv.1 hv.2 w
theorem sgn_text {k : Int} (h : signOk k = true) (w : World) (lw : Lw w) : Calls Tryz.prog 135 #[.int .i64 k] w fun e w' => e = .returned (.string (sgnT k)) ∧ On w w' := by
  unfold signOk at h
  rw [Bool.and_eq_true, decide_eq_true_eq, decide_eq_true_eq] at h
  have := sign_yes k.toNat (by omega) (by omega) w lw
  rw [show ((k.toNat : Nat) : Int) = k by omega] at this
  refine this.mono ?_
  rintro e w' ⟨rfl, rfl⟩
  exact ⟨rfl, On.refl _⟩
theorem initTokens_is (x : InitT) (h : initOk x = true) (hv : B64 x.v) (w : World) : Calls Tryz.prog 91 #[.agg #[.int .i64 x.l, .int .i64 x.v]] w (TkPost w (iniTk x)) :=
  tok_init x.l x.v _ _ w (fun W _ => loc_text h W) (fun W _ => num_text hv W)
theorem atomTokens_is (x : AtomT) (h : atomOk x = true) (ht : B64 x.t) (hv : B64 x.v) (w : World) : Calls Tryz.prog 137 #[.agg #[.int .i64 x.t, .int .i64 x.r, .int .i64 x.l, .int .i64 x.v]] w (TkPost w (atomTk x)) := by
  unfold atomOk at h
  unfold atomTk
  by_cases h1 : x.t = -1
  · simp [h1] at h
    have hn : x.t < 0 := by omega
    rw [if_pos hn]
    exact tok_atomL x.t x.r x.l x.v _ _ hn w (fun W _ => loc_text h.2 W) (fun W _ => num_text hv W)
  · simp [h1] at h
    have hn : ¬ x.t < 0 := by omega
    rw [if_neg hn]
    exact tok_atomR x.t x.r x.l x.v _ _ _ hn w (fun W _ => num_text ht W) (fun W _ => reg_text h.2 W) (fun W _ => num_text hv W)
theorem insTokens_is (x : InsT) (h : insOk x = true) (ha : B64 x.a.v) (hb : B64 x.b.v) (hn : B64 x.n) (w : World) (lw : Lw w) :
    Calls Tryz.prog 89 #[.agg #[.int .i64 x.k, .int .i64 x.r, .int .i64 x.l, .int .i64 x.a.r, .int .i64 x.a.v, .int .i64 x.o, .int .i64 x.b.r, .int .i64 x.b.v, .int .i64 x.n]] w (TkPost w (insTk x)) := by
  unfold insOk at h
  unfold insTk
  by_cases h1 : x.k = 1
  · simp only [h1, Bool.and_eq_true, beq_self_eq_true, if_true] at h ⊢
    exact tok_store x.r x.l x.a.r x.a.v x.o x.b.r x.b.v x.n _ _ w (fun W _ => loc_text h.1.2 W) (fun W _ => opd_text h.2 ha W)
  by_cases h2 : x.k = 2
  · simp [h2] at h ⊢
    exact tok_load x.r x.l x.a.r x.a.v x.o x.b.r x.b.v x.n _ _ w (fun W _ => reg_text h.1.2 W) (fun W _ => loc_text h.2 W)
  by_cases h3 : x.k = 3
  · simp only [h3] at h ⊢
    exact tok_fence x.r x.l x.a.r x.a.v x.o x.b.r x.b.v x.n w
  by_cases h4 : x.k = 4
  · simp [h4] at h ⊢
    exact tok_cas x.r x.l x.a.r x.a.v x.o x.b.r x.b.v x.n _ _ _ _ w (fun W _ => reg_text h.1.1.1.2 W) (fun W _ => loc_text h.1.1.2 W) (fun W _ => opd_text h.1.2 ha W) (fun W _ => opd_text h.2 hb W)
  by_cases h5 : x.k = 5
  · simp [h5] at h ⊢
    obtain ⟨⟨⟨_, hr⟩, hA⟩, hs⟩ := h
    unfold secOk at hs
    by_cases h0 : x.o = 0
    · rw [if_pos h0]
      exact tok_set x.r x.l x.a.r x.a.v x.o x.b.r x.b.v x.n _ _ w (by simp [h0]) (fun W _ => reg_text hr W) (fun W _ => opd_text hA ha W)
    · simp [h0] at hs
      rw [if_neg h0]
      exact tok_op x.r x.l x.a.r x.a.v x.o x.b.r x.b.v x.n _ _ _ _ w (by simp [h0]) (fun W _ => reg_text hr W) (fun W _ => opd_text hA ha W) (fun W k => sgn_text hs.1 W (lw.on k)) (fun W _ => opd_text hs.2 hb W)
  by_cases h6 : x.k = 6
  · simp [h6] at h ⊢
    exact tok_skip x.r x.l x.a.r x.a.v x.o x.b.r x.b.v x.n _ _ _ w (fun W _ => num_text hn W) (fun W _ => opd_text h.1.2 ha W) (fun W _ => opd_text h.2 hb W)
  simp [h1, h2, h3, h4, h5, h6] at h
theorem condWord_is (k : Int) (w : World) : Calls Tryz.prog 136 #[.int .i64 k] w fun e w' => e = .returned (.string (if k == 1 then xEx else xFa)) ∧ w' = w := by
  cases h : (k == 1) with
  | true =>
    go_enter Tryz.func136, Tryz.ntmps136
    go_wp2
    go_ret
    exact ⟨rfl, rfl⟩
  | false =>
    go_enter Tryz.func136, Tryz.ntmps136
    go_wp2
    go_ret
    exact ⟨rfl, rfl⟩
end Go.Proofs.YtacflahkofmcpaaGreatDoor.Wl

namespace Go.Proofs.YtacflahkofmcpaaGreatDoor.Wl
open Go.RowKit

theorem okInit_is (x : InitT) (w : World) :
    Calls Tryz.prog 57 #[.agg #[.int .i64 x.l, .int .i64 x.v]] w fun e w' => e = .returned (.bool (initOk x)) ∧ On w w' := by
  have hL := fun W => isLocation_is x.l W
  unfold initOk
  generalize locOk x.l = b at hL ⊢
  go_enter Tryz.func57, Tryz.ntmps57
  go_wp2_with fail
  refine (hL _).mono ?_
  rintro e w1 ⟨rfl, rfl⟩
  go_wp2
  go_ret
  exact ⟨rfl, (On.refl w).alloc _⟩
set_option maxHeartbeats 1000000 in
theorem cloIni_is (x : InitT) (B : Nat) (w : World) (hB : B < w.heap.size) (hc : w.cell? ⟨B, 0, none⟩ = some (.func (.func 57) #[] #[])) :
    Calls Tryz.prog 97 #[.agg #[.int .i64 x.l, .int .i64 x.v], .pointer (some ⟨B, 0, none⟩)] w fun e w' => e = .returned (.bool (!initOk x)) ∧ On w w' := by
  have hO := fun W => okInit_is x W
  have hne : B ≠ w.heap.size := by omega
  generalize initOk x = b at hO ⊢
  cases b
  all_goals
    go_enter Tryz.func97, Tryz.ntmps97
    go_wp2_with (go_at_call 57; refine (hO _).mono ?_; rintro e w1 ⟨rfl, k1⟩)
    go_ret
    exact ⟨rfl, ((On.refl w).alloc _).trans k1⟩
set_option maxHeartbeats 2000000 in
theorem idxIni_is (L : List InitT) (a : Option Addr) (c B : Nat) (w : World) (h : Rd iniC 2 w (.slice a L.length c) L) (hB : B < w.heap.size) (hc : w.cell? ⟨B, 0, none⟩ = some (.func (.func 57) #[] #[])) :
    Calls Tryz.prog 139 #[.slice a L.length c, .func (.func 97) #[] #[.pointer (some ⟨B, 0, none⟩)]] w fun e w' => ∃ r : Int, e = .returned (.int .i64 r) ∧ decide (0 ≤ r) = L.any (fun x => !initOk x) ∧ On w w' := by
  obtain ⟨a', c', hv, hcc, hm, hr⟩ := h
  simp only [Value.slice.injEq] at hv
  obtain ⟨rfl, _, rfl⟩ := hv
  go_enter Tryz.func139, Tryz.ntmps139
  go_wp2
  go_loopg [5, 8] L.length (fun gg _ s8 wr => ∃ n : Nat, n ≤ L.length ∧ gg = L.length - n ∧ s8 = .int .i64 n ∧ Hid (On w wr) ∧ Hid (L.any (fun x => !initOk x) = (L.drop n).any (fun x => !initOk x)))
  case atStart => exact ⟨0, Nat.zero_le _, rfl, rfl, On.refl w, rfl⟩
  case round =>
    obtain ⟨n, hn, hk, rfl, hon, hany⟩ := hrel
    rcases Nat.lt_or_ge n L.length with hlt | hge
    · obtain ⟨x, hx⟩ : ∃ x, L[n]? = some x := ⟨_, List.getElem?_eq_getElem hlt⟩
      obtain ⟨g, off, rfl, hg, hcell⟩ := hr (by omega)
      have u0 : wr.cell? ⟨g, off + n * 2, none⟩ = _ := (hon.out.cell (p := ⟨g, off + n * 2, none⟩) hg).trans (hcell n x 0 _ hx rfl)
      have u1 : wr.cell? ⟨g, off + n * 2 + 1, none⟩ = _ := (hon.out.cell (p := ⟨g, off + n * 2 + 1, none⟩) hg).trans (hcell n x 1 _ hx rfl)
      have hg' := Nat.lt_of_lt_of_le hg hon.out.size
      have hcl := cloIni_is x B wr (Nat.lt_of_lt_of_le hB hon.out.size) ((hon.out.cell (p := ⟨B, 0, none⟩) hB).trans hc)
      have hd : Hid (L.drop n = x :: L.drop (n + 1)) := drop_at hx
      have hx' : Hid (L[n]? = some x) := hx
      clear hcell hr hc hx
      cases hq : initOk x with
      | true =>
        rw [hq] at hcl
        go_wp2_with (go_at_call 97; refine hcl.mono ?_; rintro e w1 ⟨rfl, k1⟩)
        go_roundg (L.length - (n + 1))
        case measure => omega
        case rel => exact ⟨n + 1, by omega, rfl, by go_num, hon.out.trans k1, by rw [hany.out, hd.out, List.any_cons, hq]; rfl⟩
      | false =>
        rw [hq] at hcl
        go_wp2_with (go_at_call 97; refine hcl.mono ?_; rintro e w1 ⟨rfl, k1⟩)
        go_ret
        exact ⟨n, rfl, by rw [any_here hx'.out (by rw [hq]; rfl)]; simp, hon.out.trans k1⟩
    · go_wp2
      go_ret
      exact ⟨-1, rfl, by rw [hany.out, List.drop_of_length_le hge]; rfl, hon.out⟩
set_option maxHeartbeats 1000000 in
theorem conIni_is (L : List InitT) (a : Option Addr) (c B : Nat) (w : World) (h : Rd iniC 2 w (.slice a L.length c) L) (hB : B < w.heap.size) (hc : w.cell? ⟨B, 0, none⟩ = some (.func (.func 57) #[] #[])) :
    Calls Tryz.prog 96 #[.slice a L.length c, .func (.func 97) #[] #[.pointer (some ⟨B, 0, none⟩)]] w fun e w' => e = .returned (.bool (L.any (fun x => !initOk x))) ∧ On w w' := by
  have hI := idxIni_is L a c B w h hB hc
  generalize L.any (fun x => !initOk x) = b at hI ⊢
  go_enter Tryz.func96, Tryz.ntmps96
  go_wp2_with (go_at_call 139; refine hI.mono ?_; rintro e w1 ⟨r, rfl, hr, k1⟩)
  go_ret
  exact ⟨rfl, k1⟩
set_option maxHeartbeats 1000000 in
theorem allIni_is (L : List InitT) (a : Option Addr) (c : Nat) (w : World) (h : Rd iniC 2 w (.slice a L.length c) L) :
    Calls Tryz.prog 56 #[.slice a L.length c, .func (.func 57) #[] #[]] w fun e w' => e = .returned (.bool (L.all initOk)) ∧ On w w' := by
  rw [← all_not]
  have hI := fun T => conIni_is L a c w.heap.size (w.alloc (.cells #[.func (.func 57) #[] #[]] T)) (h.on ((On.refl w).alloc _)) (by simp) (by simp)
  generalize L.any (fun x => !initOk x) = b at hI ⊢
  cases b
  all_goals
    go_enter Tryz.func56, Tryz.ntmps56
    go_wp2_with (go_at_call 96; refine (hI _).mono ?_; rintro e w1 ⟨rfl, k1⟩)
    go_ret
    exact ⟨rfl, ((On.refl w).alloc _).trans k1⟩
end Go.Proofs.YtacflahkofmcpaaGreatDoor.Wl
