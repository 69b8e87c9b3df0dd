/- print.operand, print.insTokens: an instruction's tokens. -/
import Derived.Test.YtacflahkofmcpaaGreatDoorJ13WlOkLeaf
import Derived.Test.YtacflahkofmcpaaGreatDoorJ12BackP
import Derived.Test.YtacflahkofmcpaaGreatDoorJ14WlRegFin3
namespace Go.Proofs.YtacflahkofmcpaaGreatDoor.Wl
open Go.RowKit

theorem reg_text {r : Int} (h : regOk r = true) (w : World) : Calls Tryz.prog 133 #[.int .i64 r] w fun e w' => e = .returned (.string (regT r)) ∧ On w w' := by
  unfold regOk at h
  rw [Bool.and_eq_true, decide_eq_true_eq, decide_eq_true_eq] at h
  have := register_is r.toNat (by omega) w
  rw [show ((r.toNat : Nat) : Int) = r by omega] at this
  exact this
theorem loc_text {l : Int} (h : locOk l = true) (w : World) : Calls Tryz.prog 131 #[.int .i64 l] w fun e w' => e = .returned (.string (locT l)) ∧ On w w' := by
  unfold locOk at h
  rw [Bool.and_eq_true, decide_eq_true_eq, decide_eq_true_eq] at h
  have := location_is l.toNat (by omega) w
  rw [show ((l.toNat : Nat) : Int) = l by omega] at this
  exact this
set_option maxHeartbeats 400000 in
theorem operand_is (o : Opd) (h : opdOk o = true) (h0 : -9223372036854775808 ≤ o.v) (h1 : o.v ≤ 9223372036854775807) (w : World) :
    Calls Tryz.prog 132 #[.agg #[.int .i64 o.r, .int .i64 o.v]] w fun e w' => e = .returned (.string (opdT o)) ∧ On w w' := by
  obtain ⟨r, v⟩ := o
  unfold opdT
  simp only at h0 h1 ⊢
  by_cases hr : r < 0
  · rw [if_pos hr]
    have hN := fun W => number_is v h0 h1 W
    have k0 : ∀ T, On w (w.alloc T) := fun T => (On.refl w).alloc T
    unfold numT
    go_enter Tryz.func132, Tryz.ntmps132
    go_wp2_with fail
    refine (hN _).mono ?_
    rintro e w1 ⟨rfl, k1⟩
    go_wp2
    go_ret
    exact ⟨rfl, (k0 _).trans k1⟩
  · rw [if_neg hr]
    have hk : regOk r = true := by
      unfold opdOk at h
      rw [Bool.or_eq_true, Bool.and_eq_true, beq_iff_eq] at h
      rcases h with h | h
      · simp only at h; omega
      · exact h.2
    have hR := fun W => reg_text hk W
    have k0 : ∀ T, On w (w.alloc T) := fun T => (On.refl w).alloc T
    clear hk h
    go_enter Tryz.func132, Tryz.ntmps132
    go_wp2_with fail
    refine (hR _).mono ?_
    rintro e w1 ⟨rfl, k1⟩
    go_wp2
    go_ret
    exact ⟨rfl, (k0 _).trans k1⟩
set_option maxHeartbeats 2000000 in
set_option maxRecDepth 8000 in
theorem tok_store (r l ar av o br bv n : Int) (tL tA : ByteArray) (w : World) (hL : ∀ W, On w W → Calls Tryz.prog 131 #[.int .i64 l] W fun e w' => e = .returned (.string tL) ∧ On W w') (hA : ∀ W, On w W → Calls Tryz.prog 132 #[.agg #[.int .i64 ar, .int .i64 av]] W fun e w' => e = .returned (.string tA) ∧ On W w') :
    Calls Tryz.prog 89 #[.agg #[.int .i64 1, .int .i64 r, .int .i64 l, .int .i64 ar, .int .i64 av, .int .i64 o, .int .i64 br, .int .i64 bv, .int .i64 n]] w fun e w' => ∃ N, e = .returned (.slice (some ⟨N, 0, none⟩) 4 4) ∧ Bk w' N (([⟨#[115, 116, 111, 114, 101]⟩, tL, tA, ⟨#[59]⟩] : List ByteArray).map Value.string).toArray ∧ w.heap.size ≤ N ∧ On w w' := by
  obtain ⟨W0, hW0⟩ : ∃ W0, W0 = w.alloc (.cells #[.int .i64 1, .int .i64 r, .int .i64 l, .int .i64 ar, .int .i64 av, .int .i64 o, .int .i64 br, .int .i64 bv, .int .i64 n] 52) := ⟨_, rfl⟩
  have K0 : Hid (On w W0.drew) := by show On w W0.drew; rw [hW0]; exact ((On.refl w).alloc _).drew
  have B0 : Bk W0.drew w.heap.size #[.int .i64 1, .int .i64 r, .int .i64 l, .int .i64 ar, .int .i64 av, .int .i64 o, .int .i64 br, .int .i64 bv, .int .i64 n] := by rw [hW0]; exact Bk.new w _ _
  go_enter Tryz.func89, Tryz.ntmps89
  go_wp2
  rw [← hW0]
  clear hW0
  refine region_fz (fun W => Bk W w.heap.size #[.int .i64 1, .int .i64 r, .int .i64 l, .int .i64 ar, .int .i64 av, .int .i64 o, .int .i64 br, .int .i64 bv, .int .i64 n]) [] 8 (by kernel_rfl) rfl ?_
  refine fz_take 0 (v := ?_) rfl (by kernel_rfl) (by kernel_rfl) (by kernel_rfl) (by kernel_rfl) (fun _ _ _ h => h) rfl ?_ B0 ?_
  rotate_left
  · intro W hW
    go_simp
    (try with_reducible rfl)
  simp only [Act.put, List.setIfInBounds_toArray, List.set_cons_zero, List.set_cons_succ]
  refine fz_take 1 (v := ?_) rfl (by kernel_rfl) (by kernel_rfl) (by kernel_rfl) (by kernel_rfl) (fun _ _ _ h => h) rfl ?_ B0 ?_
  rotate_left
  · intro W hW
    have c2 := hW.at (i := 2) rfl
    have ll := hW.lt
    go_simp
    (try with_reducible rfl)
  simp only [Act.put, List.setIfInBounds_toArray, List.set_cons_zero, List.set_cons_succ]
  refine fz_take 3 (v := ?_) rfl (by kernel_rfl) (by kernel_rfl) (by kernel_rfl) (by kernel_rfl) (fun _ _ _ h => h) rfl ?_ B0 ?_
  rotate_left
  · intro W hW
    go_simp
    (try with_reducible rfl)
  simp only [Act.put, List.setIfInBounds_toArray, List.set_cons_zero, List.set_cons_succ]
  refine fz_take 4 (v := ?_) rfl (by kernel_rfl) (by kernel_rfl) (by kernel_rfl) (by kernel_rfl) (fun _ _ _ h => h) rfl ?_ B0 ?_
  rotate_left
  · intro W hW
    have c3 := hW.at (i := 3) rfl
    have c4 := hW.at (i := 4) rfl
    have ll := hW.lt
    go_simp
    (try with_reducible rfl)
  simp only [Act.put, List.setIfInBounds_toArray, List.set_cons_zero, List.set_cons_succ]
  refine fz_one 2 rfl rfl (by kernel_rfl) (fun K hK => ?_)
  go_simp
  refine (hL _ K0.out).mono ?_
  rintro _ w1 ⟨rfl, k1⟩
  have B1 := Bk.on B0 k1
  have K1 := On.trans K0.out k1
  refine hK.out _ _ (fun _ => B1) ?_
  clear hK
  refine fz_one 5 rfl rfl (by kernel_rfl) (fun K hK => ?_)
  go_simp
  refine (hA _ K1).mono ?_
  rintro _ w2 ⟨rfl, k2⟩
  have B2 := Bk.on B1 k2
  have K2 := On.trans K1 k2
  refine hK.out _ _ (fun _ => B2) ?_
  clear hK
  refine fz_one 6 rfl rfl (by kernel_rfl) (fun K hK => ?_)
  go_simp
  refine hK.out _ _ (fun _ => B2.alloc _) ?_
  clear hK
  refine fz_take 7 (v := ?_) rfl (by kernel_rfl) (by kernel_rfl) (by kernel_rfl) (by kernel_rfl) (fun _ _ _ h => h) rfl ?_ (B2.alloc _) ?_
  rotate_left
  · intro W hW
    go_simp
    (try with_reducible rfl)
  simp only [Act.put, List.setIfInBounds_toArray, List.set_cons_zero, List.set_cons_succ]
  refine fz_done (by kernel_rfl) (NoPanic.normal ?_)
  go_wp2
  go_ret
  exact ⟨w2.heap.size, rfl, Bk.new w2 _ _, K2.size, K2.alloc _⟩
set_option maxHeartbeats 2000000 in
set_option maxRecDepth 8000 in
theorem tok_load (r l ar av o br bv n : Int) (tR tL : ByteArray) (w : World) (hR : ∀ W, On w W → Calls Tryz.prog 133 #[.int .i64 r] W fun e w' => e = .returned (.string tR) ∧ On W w') (hL : ∀ W, On w W → Calls Tryz.prog 131 #[.int .i64 l] W fun e w' => e = .returned (.string tL) ∧ On W w') :
    Calls Tryz.prog 89 #[.agg #[.int .i64 2, .int .i64 r, .int .i64 l, .int .i64 ar, .int .i64 av, .int .i64 o, .int .i64 br, .int .i64 bv, .int .i64 n]] w fun e w' => ∃ N, e = .returned (.slice (some ⟨N, 0, none⟩) 5 5) ∧ Bk w' N (([tR, ⟨#[61]⟩, ⟨#[108, 111, 97, 100]⟩, tL, ⟨#[59]⟩] : List ByteArray).map Value.string).toArray ∧ w.heap.size ≤ N ∧ On w w' := by
  obtain ⟨W0, hW0⟩ : ∃ W0, W0 = w.alloc (.cells #[.int .i64 2, .int .i64 r, .int .i64 l, .int .i64 ar, .int .i64 av, .int .i64 o, .int .i64 br, .int .i64 bv, .int .i64 n] 52) := ⟨_, rfl⟩
  have K0 : Hid (On w W0.drew) := by show On w W0.drew; rw [hW0]; exact ((On.refl w).alloc _).drew
  have B0 : Bk W0.drew w.heap.size #[.int .i64 2, .int .i64 r, .int .i64 l, .int .i64 ar, .int .i64 av, .int .i64 o, .int .i64 br, .int .i64 bv, .int .i64 n] := by rw [hW0]; exact Bk.new w _ _
  go_enter Tryz.func89, Tryz.ntmps89
  go_wp2
  rw [← hW0]
  clear hW0
  refine region_fz (fun W => Bk W w.heap.size #[.int .i64 2, .int .i64 r, .int .i64 l, .int .i64 ar, .int .i64 av, .int .i64 o, .int .i64 br, .int .i64 bv, .int .i64 n]) [] 8 (by kernel_rfl) rfl ?_
  refine fz_take 0 (v := ?_) rfl (by kernel_rfl) (by kernel_rfl) (by kernel_rfl) (by kernel_rfl) (fun _ _ _ h => h) rfl ?_ B0 ?_
  rotate_left
  · intro W hW
    go_simp
    (try with_reducible rfl)
  simp only [Act.put, List.setIfInBounds_toArray, List.set_cons_zero, List.set_cons_succ]
  refine fz_take 1 (v := ?_) rfl (by kernel_rfl) (by kernel_rfl) (by kernel_rfl) (by kernel_rfl) (fun _ _ _ h => h) rfl ?_ B0 ?_
  rotate_left
  · intro W hW
    have c1 := hW.at (i := 1) rfl
    have ll := hW.lt
    go_simp
    (try with_reducible rfl)
  simp only [Act.put, List.setIfInBounds_toArray, List.set_cons_zero, List.set_cons_succ]
  refine fz_take 3 (v := ?_) rfl (by kernel_rfl) (by kernel_rfl) (by kernel_rfl) (by kernel_rfl) (fun _ _ _ h => h) rfl ?_ B0 ?_
  rotate_left
  · intro W hW
    go_simp
    (try with_reducible rfl)
  simp only [Act.put, List.setIfInBounds_toArray, List.set_cons_zero, List.set_cons_succ]
  refine fz_take 4 (v := ?_) rfl (by kernel_rfl) (by kernel_rfl) (by kernel_rfl) (by kernel_rfl) (fun _ _ _ h => h) rfl ?_ B0 ?_
  rotate_left
  · intro W hW
    have c2 := hW.at (i := 2) rfl
    have ll := hW.lt
    go_simp
    (try with_reducible rfl)
  simp only [Act.put, List.setIfInBounds_toArray, List.set_cons_zero, List.set_cons_succ]
  refine fz_one 2 rfl rfl (by kernel_rfl) (fun K hK => ?_)
  go_simp
  refine (hR _ K0.out).mono ?_
  rintro _ w1 ⟨rfl, k1⟩
  have B1 := Bk.on B0 k1
  have K1 := On.trans K0.out k1
  refine hK.out _ _ (fun _ => B1) ?_
  clear hK
  refine fz_one 5 rfl rfl (by kernel_rfl) (fun K hK => ?_)
  go_simp
  refine (hL _ K1).mono ?_
  rintro _ w2 ⟨rfl, k2⟩
  have B2 := Bk.on B1 k2
  have K2 := On.trans K1 k2
  refine hK.out _ _ (fun _ => B2) ?_
  clear hK
  refine fz_one 6 rfl rfl (by kernel_rfl) (fun K hK => ?_)
  go_simp
  refine hK.out _ _ (fun _ => B2.alloc _) ?_
  clear hK
  refine fz_take 7 (v := ?_) rfl (by kernel_rfl) (by kernel_rfl) (by kernel_rfl) (by kernel_rfl) (fun _ _ _ h => h) rfl ?_ (B2.alloc _) ?_
  rotate_left
  · intro W hW
    go_simp
    (try with_reducible rfl)
  simp only [Act.put, List.setIfInBounds_toArray, List.set_cons_zero, List.set_cons_succ]
  refine fz_done (by kernel_rfl) (NoPanic.normal ?_)
  go_wp2
  go_ret
  exact ⟨w2.heap.size, rfl, Bk.new w2 _ _, K2.size, K2.alloc _⟩
set_option maxHeartbeats 2000000 in
set_option maxRecDepth 8000 in
theorem tok_fence (r l ar av o br bv n : Int) (w : World) :
    Calls Tryz.prog 89 #[.agg #[.int .i64 3, .int .i64 r, .int .i64 l, .int .i64 ar, .int .i64 av, .int .i64 o, .int .i64 br, .int .i64 bv, .int .i64 n]] w fun e w' => ∃ N, e = .returned (.slice (some ⟨N, 0, none⟩) 2 2) ∧ Bk w' N (([⟨#[102, 101, 110, 99, 101]⟩, ⟨#[59]⟩] : List ByteArray).map Value.string).toArray ∧ w.heap.size ≤ N ∧ On w w' := by
  go_enter Tryz.func89, Tryz.ntmps89
  go_wp2
  go_ret
  exact ⟨w.heap.size + 1, rfl, by have := Bk.new (w.alloc (.cells #[.int .i64 3, .int .i64 r, .int .i64 l, .int .i64 ar, .int .i64 av, .int .i64 o, .int .i64 br, .int .i64 bv, .int .i64 n] 52)) #[.string ⟨#[102, 101, 110, 99, 101]⟩, .string ⟨#[59]⟩] 9; rwa [World.size_alloc] at this, by omega, ((On.refl w).alloc _).alloc _⟩
set_option maxHeartbeats 2000000 in
set_option maxRecDepth 8000 in
theorem tok_cas (r l ar av o br bv n : Int) (tR tL tA tB : ByteArray) (w : World) (hR : ∀ W, On w W → Calls Tryz.prog 133 #[.int .i64 r] W fun e w' => e = .returned (.string tR) ∧ On W w') (hL : ∀ W, On w W → Calls Tryz.prog 131 #[.int .i64 l] W fun e w' => e = .returned (.string tL) ∧ On W w') (hA : ∀ W, On w W → Calls Tryz.prog 132 #[.agg #[.int .i64 ar, .int .i64 av]] W fun e w' => e = .returned (.string tA) ∧ On W w') (hB : ∀ W, On w W → Calls Tryz.prog 132 #[.agg #[.int .i64 br, .int .i64 bv]] W fun e w' => e = .returned (.string tB) ∧ On W w') :
    Calls Tryz.prog 89 #[.agg #[.int .i64 4, .int .i64 r, .int .i64 l, .int .i64 ar, .int .i64 av, .int .i64 o, .int .i64 br, .int .i64 bv, .int .i64 n]] w fun e w' => ∃ N, e = .returned (.slice (some ⟨N, 0, none⟩) 7 7) ∧ Bk w' N (([tR, ⟨#[61]⟩, ⟨#[99, 97, 115]⟩, tL, tA, tB, ⟨#[59]⟩] : List ByteArray).map Value.string).toArray ∧ w.heap.size ≤ N ∧ On w w' := by
  obtain ⟨W0, hW0⟩ : ∃ W0, W0 = w.alloc (.cells #[.int .i64 4, .int .i64 r, .int .i64 l, .int .i64 ar, .int .i64 av, .int .i64 o, .int .i64 br, .int .i64 bv, .int .i64 n] 52) := ⟨_, rfl⟩
  have K0 : Hid (On w W0.drew) := by show On w W0.drew; rw [hW0]; exact ((On.refl w).alloc _).drew
  have B0 : Bk W0.drew w.heap.size #[.int .i64 4, .int .i64 r, .int .i64 l, .int .i64 ar, .int .i64 av, .int .i64 o, .int .i64 br, .int .i64 bv, .int .i64 n] := by rw [hW0]; exact Bk.new w _ _
  go_enter Tryz.func89, Tryz.ntmps89
  go_wp2
  rw [← hW0]
  clear hW0
  refine region_fz (fun W => Bk W w.heap.size #[.int .i64 4, .int .i64 r, .int .i64 l, .int .i64 ar, .int .i64 av, .int .i64 o, .int .i64 br, .int .i64 bv, .int .i64 n]) [] 14 (by kernel_rfl) rfl ?_
  refine fz_take 0 (v := ?_) rfl (by kernel_rfl) (by kernel_rfl) (by kernel_rfl) (by kernel_rfl) (fun _ _ _ h => h) rfl ?_ B0 ?_
  rotate_left
  · intro W hW
    go_simp
    (try with_reducible rfl)
  simp only [Act.put, List.setIfInBounds_toArray, List.set_cons_zero, List.set_cons_succ]
  refine fz_take 1 (v := ?_) rfl (by kernel_rfl) (by kernel_rfl) (by kernel_rfl) (by kernel_rfl) (fun _ _ _ h => h) rfl ?_ B0 ?_
  rotate_left
  · intro W hW
    have c1 := hW.at (i := 1) rfl
    have ll := hW.lt
    go_simp
    (try with_reducible rfl)
  simp only [Act.put, List.setIfInBounds_toArray, List.set_cons_zero, List.set_cons_succ]
  refine fz_take 3 (v := ?_) rfl (by kernel_rfl) (by kernel_rfl) (by kernel_rfl) (by kernel_rfl) (fun _ _ _ h => h) rfl ?_ B0 ?_
  rotate_left
  · intro W hW
    go_simp
    (try with_reducible rfl)
  simp only [Act.put, List.setIfInBounds_toArray, List.set_cons_zero, List.set_cons_succ]
  refine fz_take 4 (v := ?_) rfl (by kernel_rfl) (by kernel_rfl) (by kernel_rfl) (by kernel_rfl) (fun _ _ _ h => h) rfl ?_ B0 ?_
  rotate_left
  · intro W hW
    have c2 := hW.at (i := 2) rfl
    have ll := hW.lt
    go_simp
    (try with_reducible rfl)
  simp only [Act.put, List.setIfInBounds_toArray, List.set_cons_zero, List.set_cons_succ]
  refine fz_take 6 (v := ?_) rfl (by kernel_rfl) (by kernel_rfl) (by kernel_rfl) (by kernel_rfl) (fun _ _ _ h => h) rfl ?_ B0 ?_
  rotate_left
  · intro W hW
    go_simp
    (try with_reducible rfl)
  simp only [Act.put, List.setIfInBounds_toArray, List.set_cons_zero, List.set_cons_succ]
  refine fz_take 7 (v := ?_) rfl (by kernel_rfl) (by kernel_rfl) (by kernel_rfl) (by kernel_rfl) (fun _ _ _ h => h) rfl ?_ B0 ?_
  rotate_left
  · intro W hW
    have c3 := hW.at (i := 3) rfl
    have c4 := hW.at (i := 4) rfl
    have ll := hW.lt
    go_simp
    (try with_reducible rfl)
  simp only [Act.put, List.setIfInBounds_toArray, List.set_cons_zero, List.set_cons_succ]
  refine fz_take 9 (v := ?_) rfl (by kernel_rfl) (by kernel_rfl) (by kernel_rfl) (by kernel_rfl) (fun _ _ _ h => h) rfl ?_ B0 ?_
  rotate_left
  · intro W hW
    go_simp
    (try with_reducible rfl)
  simp only [Act.put, List.setIfInBounds_toArray, List.set_cons_zero, List.set_cons_succ]
  refine fz_take 10 (v := ?_) rfl (by kernel_rfl) (by kernel_rfl) (by kernel_rfl) (by kernel_rfl) (fun _ _ _ h => h) rfl ?_ B0 ?_
  rotate_left
  · intro W hW
    have c6 := hW.at (i := 6) rfl
    have c7 := hW.at (i := 7) rfl
    have ll := hW.lt
    go_simp
    (try with_reducible rfl)
  simp only [Act.put, List.setIfInBounds_toArray, List.set_cons_zero, List.set_cons_succ]
  refine fz_one 2 rfl rfl (by kernel_rfl) (fun K hK => ?_)
  go_simp
  refine (hR _ K0.out).mono ?_
  rintro _ w1 ⟨rfl, k1⟩
  have B1 := Bk.on B0 k1
  have K1 := On.trans K0.out k1
  refine hK.out _ _ (fun _ => B1) ?_
  clear hK
  refine fz_one 5 rfl rfl (by kernel_rfl) (fun K hK => ?_)
  go_simp
  refine (hL _ K1).mono ?_
  rintro _ w2 ⟨rfl, k2⟩
  have B2 := Bk.on B1 k2
  have K2 := On.trans K1 k2
  refine hK.out _ _ (fun _ => B2) ?_
  clear hK
  refine fz_one 8 rfl rfl (by kernel_rfl) (fun K hK => ?_)
  go_simp
  refine (hA _ K2).mono ?_
  rintro _ w3 ⟨rfl, k3⟩
  have B3 := Bk.on B2 k3
  have K3 := On.trans K2 k3
  refine hK.out _ _ (fun _ => B3) ?_
  clear hK
  refine fz_one 11 rfl rfl (by kernel_rfl) (fun K hK => ?_)
  go_simp
  refine (hB _ K3).mono ?_
  rintro _ w4 ⟨rfl, k4⟩
  have B4 := Bk.on B3 k4
  have K4 := On.trans K3 k4
  refine hK.out _ _ (fun _ => B4) ?_
  clear hK
  refine fz_one 12 rfl rfl (by kernel_rfl) (fun K hK => ?_)
  go_simp
  refine hK.out _ _ (fun _ => B4.alloc _) ?_
  clear hK
  refine fz_take 13 (v := ?_) rfl (by kernel_rfl) (by kernel_rfl) (by kernel_rfl) (by kernel_rfl) (fun _ _ _ h => h) rfl ?_ (B4.alloc _) ?_
  rotate_left
  · intro W hW
    go_simp
    (try with_reducible rfl)
  simp only [Act.put, List.setIfInBounds_toArray, List.set_cons_zero, List.set_cons_succ]
  refine fz_done (by kernel_rfl) (NoPanic.normal ?_)
  go_wp2
  go_ret
  exact ⟨w4.heap.size, rfl, Bk.new w4 _ _, K4.size, K4.alloc _⟩
set_option maxHeartbeats 2000000 in
set_option maxRecDepth 8000 in
theorem tok_skip (r l ar av o br bv n : Int) (tN tA tB : ByteArray) (w : World) (hN : ∀ W, On w W → Calls Tryz.prog 134 #[.int .i64 n] W fun e w' => e = .returned (.string tN) ∧ On W w') (hA : ∀ W, On w W → Calls Tryz.prog 132 #[.agg #[.int .i64 ar, .int .i64 av]] W fun e w' => e = .returned (.string tA) ∧ On W w') (hB : ∀ W, On w W → Calls Tryz.prog 132 #[.agg #[.int .i64 br, .int .i64 bv]] W fun e w' => e = .returned (.string tB) ∧ On W w') :
    Calls Tryz.prog 89 #[.agg #[.int .i64 6, .int .i64 r, .int .i64 l, .int .i64 ar, .int .i64 av, .int .i64 o, .int .i64 br, .int .i64 bv, .int .i64 n]] w fun e w' => ∃ N, e = .returned (.slice (some ⟨N, 0, none⟩) 7 7) ∧ Bk w' N (([⟨#[115, 107, 105, 112]⟩, tN, ⟨#[105, 102]⟩, tA, ⟨#[61, 61]⟩, tB, ⟨#[59]⟩] : List ByteArray).map Value.string).toArray ∧ w.heap.size ≤ N ∧ On w w' := by
  obtain ⟨W0, hW0⟩ : ∃ W0, W0 = w.alloc (.cells #[.int .i64 6, .int .i64 r, .int .i64 l, .int .i64 ar, .int .i64 av, .int .i64 o, .int .i64 br, .int .i64 bv, .int .i64 n] 52) := ⟨_, rfl⟩
  have K0 : Hid (On w W0.drew) := by show On w W0.drew; rw [hW0]; exact ((On.refl w).alloc _).drew
  have B0 : Bk W0.drew w.heap.size #[.int .i64 6, .int .i64 r, .int .i64 l, .int .i64 ar, .int .i64 av, .int .i64 o, .int .i64 br, .int .i64 bv, .int .i64 n] := by rw [hW0]; exact Bk.new w _ _
  go_enter Tryz.func89, Tryz.ntmps89
  go_wp2
  rw [← hW0]
  clear hW0
  refine region_fz (fun W => Bk W w.heap.size #[.int .i64 6, .int .i64 r, .int .i64 l, .int .i64 ar, .int .i64 av, .int .i64 o, .int .i64 br, .int .i64 bv, .int .i64 n]) [] 11 (by kernel_rfl) rfl ?_
  refine fz_take 0 (v := ?_) rfl (by kernel_rfl) (by kernel_rfl) (by kernel_rfl) (by kernel_rfl) (fun _ _ _ h => h) rfl ?_ B0 ?_
  rotate_left
  · intro W hW
    go_simp
    (try with_reducible rfl)
  simp only [Act.put, List.setIfInBounds_toArray, List.set_cons_zero, List.set_cons_succ]
  refine fz_take 1 (v := ?_) rfl (by kernel_rfl) (by kernel_rfl) (by kernel_rfl) (by kernel_rfl) (fun _ _ _ h => h) rfl ?_ B0 ?_
  rotate_left
  · intro W hW
    have c8 := hW.at (i := 8) rfl
    have ll := hW.lt
    go_simp
    (try with_reducible rfl)
  simp only [Act.put, List.setIfInBounds_toArray, List.set_cons_zero, List.set_cons_succ]
  refine fz_take 3 (v := ?_) rfl (by kernel_rfl) (by kernel_rfl) (by kernel_rfl) (by kernel_rfl) (fun _ _ _ h => h) rfl ?_ B0 ?_
  rotate_left
  · intro W hW
    go_simp
    (try with_reducible rfl)
  simp only [Act.put, List.setIfInBounds_toArray, List.set_cons_zero, List.set_cons_succ]
  refine fz_take 4 (v := ?_) rfl (by kernel_rfl) (by kernel_rfl) (by kernel_rfl) (by kernel_rfl) (fun _ _ _ h => h) rfl ?_ B0 ?_
  rotate_left
  · intro W hW
    have c3 := hW.at (i := 3) rfl
    have c4 := hW.at (i := 4) rfl
    have ll := hW.lt
    go_simp
    (try with_reducible rfl)
  simp only [Act.put, List.setIfInBounds_toArray, List.set_cons_zero, List.set_cons_succ]
  refine fz_take 6 (v := ?_) rfl (by kernel_rfl) (by kernel_rfl) (by kernel_rfl) (by kernel_rfl) (fun _ _ _ h => h) rfl ?_ B0 ?_
  rotate_left
  · intro W hW
    go_simp
    (try with_reducible rfl)
  simp only [Act.put, List.setIfInBounds_toArray, List.set_cons_zero, List.set_cons_succ]
  refine fz_take 7 (v := ?_) rfl (by kernel_rfl) (by kernel_rfl) (by kernel_rfl) (by kernel_rfl) (fun _ _ _ h => h) rfl ?_ B0 ?_
  rotate_left
  · intro W hW
    have c6 := hW.at (i := 6) rfl
    have c7 := hW.at (i := 7) rfl
    have ll := hW.lt
    go_simp
    (try with_reducible rfl)
  simp only [Act.put, List.setIfInBounds_toArray, List.set_cons_zero, List.set_cons_succ]
  refine fz_one 2 rfl rfl (by kernel_rfl) (fun K hK => ?_)
  go_simp
  refine (hN _ K0.out).mono ?_
  rintro _ w1 ⟨rfl, k1⟩
  have B1 := Bk.on B0 k1
  have K1 := On.trans K0.out k1
  refine hK.out _ _ (fun _ => B1) ?_
  clear hK
  refine fz_one 5 rfl rfl (by kernel_rfl) (fun K hK => ?_)
  go_simp
  refine (hA _ K1).mono ?_
  rintro _ w2 ⟨rfl, k2⟩
  have B2 := Bk.on B1 k2
  have K2 := On.trans K1 k2
  refine hK.out _ _ (fun _ => B2) ?_
  clear hK
  refine fz_one 8 rfl rfl (by kernel_rfl) (fun K hK => ?_)
  go_simp
  refine (hB _ K2).mono ?_
  rintro _ w3 ⟨rfl, k3⟩
  have B3 := Bk.on B2 k3
  have K3 := On.trans K2 k3
  refine hK.out _ _ (fun _ => B3) ?_
  clear hK
  refine fz_one 9 rfl rfl (by kernel_rfl) (fun K hK => ?_)
  go_simp
  refine hK.out _ _ (fun _ => B3.alloc _) ?_
  clear hK
  refine fz_take 10 (v := ?_) rfl (by kernel_rfl) (by kernel_rfl) (by kernel_rfl) (by kernel_rfl) (fun _ _ _ h => h) rfl ?_ (B3.alloc _) ?_
  rotate_left
  · intro W hW
    go_simp
    (try with_reducible rfl)
  simp only [Act.put, List.setIfInBounds_toArray, List.set_cons_zero, List.set_cons_succ]
  refine fz_done (by kernel_rfl) (NoPanic.normal ?_)
  go_wp2
  go_ret
  exact ⟨w3.heap.size, rfl, Bk.new w3 _ _, K3.size, K3.alloc _⟩
set_option maxHeartbeats 2000000 in
set_option maxRecDepth 8000 in
theorem tok_set (r l ar av o br bv n : Int) (tR tA : ByteArray) (w : World) (ho : (o == 0) = true) (hR : ∀ W, On w W → Calls Tryz.prog 133 #[.int .i64 r] W fun e w' => e = .returned (.string tR) ∧ On W w') (hA : ∀ W, On w W → Calls Tryz.prog 132 #[.agg #[.int .i64 ar, .int .i64 av]] W fun e w' => e = .returned (.string tA) ∧ On W w') :
    Calls Tryz.prog 89 #[.agg #[.int .i64 5, .int .i64 r, .int .i64 l, .int .i64 ar, .int .i64 av, .int .i64 o, .int .i64 br, .int .i64 bv, .int .i64 n]] w fun e w' => ∃ N, e = .returned (.slice (some ⟨N, 0, none⟩) 4 4) ∧ Bk w' N (([tR, ⟨#[61]⟩, tA, ⟨#[59]⟩] : List ByteArray).map Value.string).toArray ∧ w.heap.size ≤ N ∧ On w w' := by
  obtain ⟨W0, hW0⟩ : ∃ W0, W0 = w.alloc (.cells #[.int .i64 5, .int .i64 r, .int .i64 l, .int .i64 ar, .int .i64 av, .int .i64 o, .int .i64 br, .int .i64 bv, .int .i64 n] 52) := ⟨_, rfl⟩
  have K0 : Hid (On w W0.drew) := by show On w W0.drew; rw [hW0]; exact ((On.refl w).alloc _).drew
  have B0 : Bk W0.drew w.heap.size #[.int .i64 5, .int .i64 r, .int .i64 l, .int .i64 ar, .int .i64 av, .int .i64 o, .int .i64 br, .int .i64 bv, .int .i64 n] := by rw [hW0]; exact Bk.new w _ _
  go_enter Tryz.func89, Tryz.ntmps89
  go_wp2
  rw [← hW0]
  clear hW0
  refine region_fz (fun W => Bk W w.heap.size #[.int .i64 5, .int .i64 r, .int .i64 l, .int .i64 ar, .int .i64 av, .int .i64 o, .int .i64 br, .int .i64 bv, .int .i64 n]) [] 8 (by kernel_rfl) rfl ?_
  refine fz_take 0 (v := ?_) rfl (by kernel_rfl) (by kernel_rfl) (by kernel_rfl) (by kernel_rfl) (fun _ _ _ h => h) rfl ?_ B0 ?_
  rotate_left
  · intro W hW
    go_simp
    (try with_reducible rfl)
  simp only [Act.put, List.setIfInBounds_toArray, List.set_cons_zero, List.set_cons_succ]
  refine fz_take 1 (v := ?_) rfl (by kernel_rfl) (by kernel_rfl) (by kernel_rfl) (by kernel_rfl) (fun _ _ _ h => h) rfl ?_ B0 ?_
  rotate_left
  · intro W hW
    have c1 := hW.at (i := 1) rfl
    have ll := hW.lt
    go_simp
    (try with_reducible rfl)
  simp only [Act.put, List.setIfInBounds_toArray, List.set_cons_zero, List.set_cons_succ]
  refine fz_take 3 (v := ?_) rfl (by kernel_rfl) (by kernel_rfl) (by kernel_rfl) (by kernel_rfl) (fun _ _ _ h => h) rfl ?_ B0 ?_
  rotate_left
  · intro W hW
    go_simp
    (try with_reducible rfl)
  simp only [Act.put, List.setIfInBounds_toArray, List.set_cons_zero, List.set_cons_succ]
  refine fz_take 4 (v := ?_) rfl (by kernel_rfl) (by kernel_rfl) (by kernel_rfl) (by kernel_rfl) (fun _ _ _ h => h) rfl ?_ B0 ?_
  rotate_left
  · intro W hW
    have c3 := hW.at (i := 3) rfl
    have c4 := hW.at (i := 4) rfl
    have ll := hW.lt
    go_simp
    (try with_reducible rfl)
  simp only [Act.put, List.setIfInBounds_toArray, List.set_cons_zero, List.set_cons_succ]
  refine fz_one 2 rfl rfl (by kernel_rfl) (fun K hK => ?_)
  go_simp
  refine (hR _ K0.out).mono ?_
  rintro _ w1 ⟨rfl, k1⟩
  have B1 := Bk.on B0 k1
  have K1 := On.trans K0.out k1
  refine hK.out _ _ (fun _ => B1) ?_
  clear hK
  refine fz_one 5 rfl rfl (by kernel_rfl) (fun K hK => ?_)
  go_simp
  refine (hA _ K1).mono ?_
  rintro _ w2 ⟨rfl, k2⟩
  have B2 := Bk.on B1 k2
  have K2 := On.trans K1 k2
  refine hK.out _ _ (fun _ => B2) ?_
  clear hK
  refine fz_one 6 rfl rfl (by kernel_rfl) (fun K hK => ?_)
  go_simp
  refine hK.out _ _ (fun _ => B2.alloc _) ?_
  clear hK
  refine fz_take 7 (v := ?_) rfl (by kernel_rfl) (by kernel_rfl) (by kernel_rfl) (by kernel_rfl) (fun _ _ _ h => h) rfl ?_ (B2.alloc _) ?_
  rotate_left
  · intro W hW
    go_simp
    (try with_reducible rfl)
  simp only [Act.put, List.setIfInBounds_toArray, List.set_cons_zero, List.set_cons_succ]
  refine fz_done (by kernel_rfl) (NoPanic.normal ?_)
  go_wp2
  go_ret
  exact ⟨w2.heap.size, rfl, Bk.new w2 _ _, K2.size, K2.alloc _⟩
set_option maxHeartbeats 2000000 in
set_option maxRecDepth 8000 in
theorem tok_op (r l ar av o br bv n : Int) (tR tA tG tB : ByteArray) (w : World) (ho : (o == 0) = false) (hR : ∀ W, On w W → Calls Tryz.prog 133 #[.int .i64 r] W fun e w' => e = .returned (.string tR) ∧ On W w') (hA : ∀ W, On w W → Calls Tryz.prog 132 #[.agg #[.int .i64 ar, .int .i64 av]] W fun e w' => e = .returned (.string tA) ∧ On W w') (hG : ∀ W, On w W → Calls Tryz.prog 135 #[.int .i64 o] W fun e w' => e = .returned (.string tG) ∧ On W w') (hB : ∀ W, On w W → Calls Tryz.prog 132 #[.agg #[.int .i64 br, .int .i64 bv]] W fun e w' => e = .returned (.string tB) ∧ On W w') :
    Calls Tryz.prog 89 #[.agg #[.int .i64 5, .int .i64 r, .int .i64 l, .int .i64 ar, .int .i64 av, .int .i64 o, .int .i64 br, .int .i64 bv, .int .i64 n]] w fun e w' => ∃ N, e = .returned (.slice (some ⟨N, 0, none⟩) 6 6) ∧ Bk w' N (([tR, ⟨#[61]⟩, tA, tG, tB, ⟨#[59]⟩] : List ByteArray).map Value.string).toArray ∧ w.heap.size ≤ N ∧ On w w' := by
  obtain ⟨W0, hW0⟩ : ∃ W0, W0 = w.alloc (.cells #[.int .i64 5, .int .i64 r, .int .i64 l, .int .i64 ar, .int .i64 av, .int .i64 o, .int .i64 br, .int .i64 bv, .int .i64 n] 52) := ⟨_, rfl⟩
  have K0 : Hid (On w W0.drew) := by show On w W0.drew; rw [hW0]; exact ((On.refl w).alloc _).drew
  have B0 : Bk W0.drew w.heap.size #[.int .i64 5, .int .i64 r, .int .i64 l, .int .i64 ar, .int .i64 av, .int .i64 o, .int .i64 br, .int .i64 bv, .int .i64 n] := by rw [hW0]; exact Bk.new w _ _
  go_enter Tryz.func89, Tryz.ntmps89
  go_wp2
  rw [← hW0]
  clear hW0
  refine region_fz (fun W => Bk W w.heap.size #[.int .i64 5, .int .i64 r, .int .i64 l, .int .i64 ar, .int .i64 av, .int .i64 o, .int .i64 br, .int .i64 bv, .int .i64 n]) [] 14 (by kernel_rfl) rfl ?_
  refine fz_take 0 (v := ?_) rfl (by kernel_rfl) (by kernel_rfl) (by kernel_rfl) (by kernel_rfl) (fun _ _ _ h => h) rfl ?_ B0 ?_
  rotate_left
  · intro W hW
    go_simp
    (try with_reducible rfl)
  simp only [Act.put, List.setIfInBounds_toArray, List.set_cons_zero, List.set_cons_succ]
  refine fz_take 1 (v := ?_) rfl (by kernel_rfl) (by kernel_rfl) (by kernel_rfl) (by kernel_rfl) (fun _ _ _ h => h) rfl ?_ B0 ?_
  rotate_left
  · intro W hW
    have c1 := hW.at (i := 1) rfl
    have ll := hW.lt
    go_simp
    (try with_reducible rfl)
  simp only [Act.put, List.setIfInBounds_toArray, List.set_cons_zero, List.set_cons_succ]
  refine fz_take 3 (v := ?_) rfl (by kernel_rfl) (by kernel_rfl) (by kernel_rfl) (by kernel_rfl) (fun _ _ _ h => h) rfl ?_ B0 ?_
  rotate_left
  · intro W hW
    go_simp
    (try with_reducible rfl)
  simp only [Act.put, List.setIfInBounds_toArray, List.set_cons_zero, List.set_cons_succ]
  refine fz_take 4 (v := ?_) rfl (by kernel_rfl) (by kernel_rfl) (by kernel_rfl) (by kernel_rfl) (fun _ _ _ h => h) rfl ?_ B0 ?_
  rotate_left
  · intro W hW
    have c3 := hW.at (i := 3) rfl
    have c4 := hW.at (i := 4) rfl
    have ll := hW.lt
    go_simp
    (try with_reducible rfl)
  simp only [Act.put, List.setIfInBounds_toArray, List.set_cons_zero, List.set_cons_succ]
  refine fz_take 6 (v := ?_) rfl (by kernel_rfl) (by kernel_rfl) (by kernel_rfl) (by kernel_rfl) (fun _ _ _ h => h) rfl ?_ B0 ?_
  rotate_left
  · intro W hW
    go_simp
    (try with_reducible rfl)
  simp only [Act.put, List.setIfInBounds_toArray, List.set_cons_zero, List.set_cons_succ]
  refine fz_take 7 (v := ?_) rfl (by kernel_rfl) (by kernel_rfl) (by kernel_rfl) (by kernel_rfl) (fun _ _ _ h => h) rfl ?_ B0 ?_
  rotate_left
  · intro W hW
    have c5 := hW.at (i := 5) rfl
    have ll := hW.lt
    go_simp
    (try with_reducible rfl)
  simp only [Act.put, List.setIfInBounds_toArray, List.set_cons_zero, List.set_cons_succ]
  refine fz_take 9 (v := ?_) rfl (by kernel_rfl) (by kernel_rfl) (by kernel_rfl) (by kernel_rfl) (fun _ _ _ h => h) rfl ?_ B0 ?_
  rotate_left
  · intro W hW
    go_simp
    (try with_reducible rfl)
  simp only [Act.put, List.setIfInBounds_toArray, List.set_cons_zero, List.set_cons_succ]
  refine fz_take 10 (v := ?_) rfl (by kernel_rfl) (by kernel_rfl) (by kernel_rfl) (by kernel_rfl) (fun _ _ _ h => h) rfl ?_ B0 ?_
  rotate_left
  · intro W hW
    have c6 := hW.at (i := 6) rfl
    have c7 := hW.at (i := 7) rfl
    have ll := hW.lt
    go_simp
    (try with_reducible rfl)
  simp only [Act.put, List.setIfInBounds_toArray, List.set_cons_zero, List.set_cons_succ]
  refine fz_one 2 rfl rfl (by kernel_rfl) (fun K hK => ?_)
  go_simp
  refine (hR _ K0.out).mono ?_
  rintro _ w1 ⟨rfl, k1⟩
  have B1 := Bk.on B0 k1
  have K1 := On.trans K0.out k1
  refine hK.out _ _ (fun _ => B1) ?_
  clear hK
  refine fz_one 5 rfl rfl (by kernel_rfl) (fun K hK => ?_)
  go_simp
  refine (hA _ K1).mono ?_
  rintro _ w2 ⟨rfl, k2⟩
  have B2 := Bk.on B1 k2
  have K2 := On.trans K1 k2
  refine hK.out _ _ (fun _ => B2) ?_
  clear hK
  refine fz_one 8 rfl rfl (by kernel_rfl) (fun K hK => ?_)
  go_simp
  refine (hG _ K2).mono ?_
  rintro _ w3 ⟨rfl, k3⟩
  have B3 := Bk.on B2 k3
  have K3 := On.trans K2 k3
  refine hK.out _ _ (fun _ => B3) ?_
  clear hK
  refine fz_one 11 rfl rfl (by kernel_rfl) (fun K hK => ?_)
  go_simp
  refine (hB _ K3).mono ?_
  rintro _ w4 ⟨rfl, k4⟩
  have B4 := Bk.on B3 k4
  have K4 := On.trans K3 k4
  refine hK.out _ _ (fun _ => B4) ?_
  clear hK
  refine fz_one 12 rfl rfl (by kernel_rfl) (fun K hK => ?_)
  go_simp
  refine hK.out _ _ (fun _ => B4.alloc _) ?_
  clear hK
  refine fz_take 13 (v := ?_) rfl (by kernel_rfl) (by kernel_rfl) (by kernel_rfl) (by kernel_rfl) (fun _ _ _ h => h) rfl ?_ (B4.alloc _) ?_
  rotate_left
  · intro W hW
    go_simp
    (try with_reducible rfl)
  simp only [Act.put, List.setIfInBounds_toArray, List.set_cons_zero, List.set_cons_succ]
  refine fz_done (by kernel_rfl) (NoPanic.normal ?_)
  go_wp2
  go_ret
  exact ⟨w4.heap.size, rfl, Bk.new w4 _ _, K4.size, K4.alloc _⟩
end Go.Proofs.YtacflahkofmcpaaGreatDoor.Wl
