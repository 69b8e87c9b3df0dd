/- The document's reader: look. -/
import Derived.Test.YtacflahkofmcpaaGreatDoorJ16RefLoc
import Derived.Deep.RegionLaw
import Derived.Deep.DeepCutAuto
namespace Go.Proofs.YtacflahkofmcpaaGreatDoor
open Go.RowKit
theorem Bk.newAt {w : World} {N : Nat} {cs : Array Value} {T : TypeId} (h : w.heap.size = N) : Bk (w.alloc (.cells cs T)) N cs := by subst h; exact Bk.new w cs T
theorem Bk.set3 {w : World} {N : Nat} {a b c : Value} (h : Bk w N #[a, b, c]) (x y z : Value) : Bk (((w.setCell ⟨N, 0, none⟩ x).setCell ⟨N, 1, none⟩ y).setCell ⟨N, 2, none⟩ z) N #[x, y, z] := ((h.set 0 x).set 1 y).set 2 z
theorem Bk.set2 {w : World} {N : Nat} {a b : Value} (h : Bk w N #[a, b]) (x y : Value) : Bk ((w.setCell ⟨N, 0, none⟩ x).setCell ⟨N, 1, none⟩ y) N #[x, y] := (h.set 0 x).set 1 y
theorem neF {r M W : Nat} (h1 : r < M) (h2 : M < W) : r ≠ M ∧ r ≠ M + 1 ∧ r ≠ M + 1 + 1 ∧ r ≠ W ∧ r ≠ W + 1 ∧ M ≠ M + 1 ∧ M ≠ M + 1 + 1 ∧ M ≠ W ∧ M ≠ W + 1 ∧ W ≠ W + 1 ∧ W + 1 ≠ W ∧ M ≤ M + 1 ∧ M ≤ M + 1 + 1 ∧ M ≤ W ∧ M ≤ W + 1 ∧ M < M + 1 ∧ M < M + 1 + 1 ∧ M < W + 1 := by omega
theorem neG {M W : Nat} (h : M + 1 < W) : M + 1 ≠ W ∧ W ≠ M + 1 ∧ M + 1 ≠ W + 1 ∧ W + 1 ≠ M + 1 := by omega
theorem neH {M W : Nat} (h : M + 1 + 1 < W) : M + 1 ≠ W ∧ W ≠ M + 1 ∧ M + 1 ≠ W + 1 ∧ W + 1 ≠ M + 1 ∧ M + 1 + 1 ≠ W ∧ W ≠ M + 1 + 1 ∧ M + 1 + 1 ≠ W + 1 ∧ W + 1 ≠ M + 1 + 1 ∧ M + 1 ≠ M + 1 + 1 ∧ M + 1 + 1 ≠ M + 1 := by omega
section
variable (w : World) (r : Nat) (s : ByteArray) (S : St)
set_option maxHeartbeats 16000000
set_option maxRecDepth 8000
/-- look, whatever Next answers: the token, where it ends, the error. -/
theorem look_gen (a k : Nat) (x : ByteArray) (q t : Nat) (K P O C E : Nat) (X : ByteArray) (hb : Bk w r (rdC s a k x q t 0 0))
    (hN : ∀ W, Calls Tryz.prog 86 #[.string s, .int .i64 a] W fun e w' => e = .returned (.tuple #[.agg #[.int .i64 K, .string X, .int .i64 P], .int .i64 O, .agg #[.int .i64 C, .int .i64 E]]) ∧ On W w') (hC : C = 0 → E = 0) :
    Calls Tryz.prog 42 #[.pointer (some ⟨r, 0, none⟩)] w fun e w' => e = .returned (if C = 0 then .agg #[.int .i64 K, .string X, .int .i64 P] else .agg #[.int .i64 4, .string ⟨#[]⟩, .int .i64 0]) ∧ Bk w' r (rdC s a K X P O C E) ∧ Wr r w w' := by
  have hl := hb.lt
  have hl1 := Nat.lt_succ_of_lt hl
  have hl2 := Nat.lt_succ_of_lt hl1
  have HB : Hid (Bk w r (rdC s a k x q t 0 0)) := hb
  obtain ⟨_, c0, c1, _, _, _, _, c6, _⟩ := rFacts hb
  have K1 : Hid ((w.alloc (.cells #[.int .i64 0, .string ⟨#[]⟩, .int .i64 0] 71)).heap.size = w.heap.size + 1) := by show _ = _; simp
  have K2 : Hid (((w.alloc (.cells #[.int .i64 0, .string ⟨#[]⟩, .int .i64 0] 71)).alloc (.cells #[.int .i64 0, .string ⟨#[]⟩, .int .i64 0] 71)).heap.size = w.heap.size + 1 + 1) := by show _ = _; simp
  have K3 : Hid (((w.alloc (.cells #[.int .i64 0, .string ⟨#[]⟩, .int .i64 0] 71)).alloc (.cells #[.int .i64 0, .int .i64 0] 36)).heap.size = w.heap.size + 1 + 1) := by show _ = _; simp
  clear hb
  go_enter Tryz.func42, Tryz.ntmps42
  go_upto_region 3 with fail
  go_cut [3, 4, 5] (fun u3 u4 u5 wx => ∃ Nt Ne, u3 = .pointer (some ⟨Nt, 0, none⟩) ∧ u4 = .int .i64 O ∧ u5 = .pointer (some ⟨Ne, 0, none⟩) ∧ Bk wx Nt #[.int .i64 K, .string X, .int .i64 P] ∧ Bk wx Ne #[.int .i64 C, .int .i64 E] ∧ Bk wx r (rdC s a k x q t 0 0) ∧ Bk wx w.heap.size #[.int .i64 0, .string ⟨#[]⟩, .int .i64 0] ∧ On w wx ∧ w.heap.size < Nt ∧ w.heap.size < Ne ∧ Nt ≠ Ne)
  case first =>
    go_region_law (go_simp; refine (hN _).mono ?_; rintro e w1 ⟨rfl, k0⟩; have k1 := On.undrew k0; first | (have kw : On w w1 := ((((On.refl w).alloc _).alloc _).alloc _).trans k1; have B1 := lastBk k1 K2.out; have B2 := prevBk k1 K1.out; have B0 := Bk.on (Bk.alloc (Bk.alloc (Bk.new w _ _) _) _) k1; obtain ⟨x0, x1, x2, x3, x4⟩ := eFacts B1; have x0' := Nat.lt_succ_of_lt x0; obtain ⟨y0, y1, y2, y3, y4, y5, y6⟩ := tFacts B2; have y0' := Nat.lt_succ_of_lt y0) | (have kw : On w w1 := ((((On.refl w).alloc _).alloc _).alloc _).trans k1; have B1 := lastBk k1 K3.out; have B2 := prevBk k1 K1.out; have B0 := Bk.on (Bk.alloc (Bk.alloc (Bk.new w _ _) _) _) k1; obtain ⟨y0, y1, y2, y3, y4, y5, y6⟩ := tFacts B1; have y0' := Nat.lt_succ_of_lt y0; obtain ⟨x0, x1, x2, x3, x4⟩ := eFacts B2; have x0' := Nat.lt_succ_of_lt x0) | (have kw : On w w1 := (((On.refl w).alloc _).alloc _).trans k1; have B1 := lastBk k1 K1.out; have B0 := Bk.on (Bk.alloc (Bk.new w _ _) _) k1; obtain ⟨y0, y1, y2, y3, y4, y5, y6⟩ := tFacts B1; have y0' := Nat.lt_succ_of_lt y0) | (have kw : On w w1 := (((On.refl w).alloc _).alloc _).trans k1; have B1 := lastBk k1 K1.out; have B0 := Bk.on (Bk.alloc (Bk.new w _ _) _) k1; obtain ⟨x0, x1, x2, x3, x4⟩ := eFacts B1; have x0' := Nat.lt_succ_of_lt x0) | (have kw : On w w1 := ((On.refl w).alloc _).trans k1; have B0 := Bk.on (Bk.new w _ _) k1))
    all_goals
      have hr1 := Bk.on HB.out kw
      have hlz := B0.lt
      have HKW : Hid (On w w1) := kw
      obtain ⟨f1, f2, f3, f4, f5, f6, f7, f8, f9, f10, f11, f12, f13, f14, f15, f16, f17, f18⟩ := neF hl hlz
    all_goals (try (have qq := neH x0; obtain ⟨f21, f22, f23, f24, f25, f26, f27, f28, f29, f30⟩ := qq))
    all_goals (try (have qq := neH y0; obtain ⟨f21, f22, f23, f24, f25, f26, f27, f28, f29, f30⟩ := qq))
    all_goals (try (have qq := neG x0; obtain ⟨f31, f32, f33, f34⟩ := qq))
    all_goals (try (have qq := neG y0; obtain ⟨f31, f32, f33, f34⟩ := qq))
    all_goals (try go_wp2)
    all_goals go_meet
    all_goals (try clear hN)
    all_goals exact ⟨_, _, rfl, rfl, rfl, (by repeat' (first | with_reducible exact B0 | with_reducible exact hr1 | with_reducible exact B1 | with_reducible exact B2 | with_reducible refine Bk.set3 (a := .int .i64 0) (b := .string ⟨#[]⟩) (c := .int .i64 0) ?_ _ _ _ | with_reducible refine Bk.set2 (a := .int .i64 0) (b := .int .i64 0) ?_ _ _ | with_reducible exact Bk.new _ _ _ | with_reducible exact Bk.new2 _ _ _ _ | with_reducible exact Bk.newAt (by simp) | with_reducible refine Bk.setFar ?_ (by with_reducible assumption) _ _ | with_reducible refine Bk.alloc ?_ _)), (by repeat' (first | with_reducible exact B0 | with_reducible exact hr1 | with_reducible exact B1 | with_reducible exact B2 | with_reducible refine Bk.set3 (a := .int .i64 0) (b := .string ⟨#[]⟩) (c := .int .i64 0) ?_ _ _ _ | with_reducible refine Bk.set2 (a := .int .i64 0) (b := .int .i64 0) ?_ _ _ | with_reducible exact Bk.new _ _ _ | with_reducible exact Bk.new2 _ _ _ _ | with_reducible exact Bk.newAt (by simp) | with_reducible refine Bk.setFar ?_ (by with_reducible assumption) _ _ | with_reducible refine Bk.alloc ?_ _)), (by repeat' (first | with_reducible exact B0 | with_reducible exact hr1 | with_reducible exact B1 | with_reducible exact B2 | with_reducible refine Bk.set3 (a := .int .i64 0) (b := .string ⟨#[]⟩) (c := .int .i64 0) ?_ _ _ _ | with_reducible refine Bk.set2 (a := .int .i64 0) (b := .int .i64 0) ?_ _ _ | with_reducible exact Bk.new _ _ _ | with_reducible exact Bk.new2 _ _ _ _ | with_reducible exact Bk.newAt (by simp) | with_reducible refine Bk.setFar ?_ (by with_reducible assumption) _ _ | with_reducible refine Bk.alloc ?_ _)), (by repeat' (first | with_reducible exact B0 | with_reducible exact hr1 | with_reducible exact B1 | with_reducible exact B2 | with_reducible refine Bk.set3 (a := .int .i64 0) (b := .string ⟨#[]⟩) (c := .int .i64 0) ?_ _ _ _ | with_reducible refine Bk.set2 (a := .int .i64 0) (b := .int .i64 0) ?_ _ _ | with_reducible exact Bk.new _ _ _ | with_reducible exact Bk.new2 _ _ _ _ | with_reducible exact Bk.newAt (by simp) | with_reducible refine Bk.setFar ?_ (by with_reducible assumption) _ _ | with_reducible refine Bk.alloc ?_ _)), (by repeat' (first | with_reducible exact HKW.out | with_reducible refine On.setNew ?_ (by with_reducible assumption) _ | with_reducible refine On.drew ?_ | with_reducible refine On.alloc ?_ _)), (by first | with_reducible assumption | omega), (by first | with_reducible assumption | omega), (by first | with_reducible assumption | omega)⟩
  case rest =>
    obtain ⟨Nt, Ne, rfl, rfl, rfl, bt, be, br, b0, hon, ht, he, hne⟩ := hcut
    obtain ⟨r0, r1, r2, r3, r4, r5, r6, r7, r8, r9, r10, r11, r12, r13, r14, r15⟩ := rFacts br
    obtain ⟨z0, z1, z2, z3, z4, z5, z6⟩ := tFacts b0
    have t0 : wc.cell? ⟨Nt, 0, none⟩ = some (.int .i64 K) := bt.at rfl
    have t1 : wc.cell? ⟨Nt, 1, none⟩ = some (.string X) := bt.at rfl
    have t2 : wc.cell? ⟨Nt, 2, none⟩ = some (.int .i64 P) := bt.at rfl
    have e0 : wc.cell? ⟨Ne, 0, none⟩ = some (.int .i64 C) := be.at rfl
    have e1 : wc.cell? ⟨Ne, 1, none⟩ = some (.int .i64 E) := be.at rfl
    have n1 : r ≠ w.heap.size := Nat.ne_of_lt hl
    have n2 : Nt ≠ r := by omega
    have n3 : Ne ≠ r := by omega
    have n4 : w.heap.size ≠ r := by omega
    have HON : Hid (On w wc) := hon
    have HBR : Hid (Bk wc r (rdC s a k x q t 0 0)) := br
    clear hon br bt be b0 hN
    rcases Nat.eq_zero_or_pos C with hC0 | hC0
    · subst hC0
      obtain rfl := hC rfl
      go_wp2
      (try simp only [Exit.inBlock, Exit.then])
      refine bodyPost_ret (v := .agg #[.int .i64 K, .string X, .int .i64 P]) ?_ rfl ⟨rfl, ?_, ?_⟩
      · rw [results_cell rfl]
        go_simp
      · exact Bk.cast (((((((HBR.out.set 2 _).set 3 _).set 4 _).set 5 _).setFar n1 _ _).setFar n1 _ _).setFar n1 _ _) rfl
      · exact ((((((Wr.of_on HON.out).set _).set _).set _).set _).setNew (Nat.le_refl _) _ |>.setNew (Nat.le_refl _) _).setNew (Nat.le_refl _) _
    · have hq : ((C : Int) != 0) = true := by simp; omega
      have hne0 : ¬ C = 0 := by omega
      go_wp2
      (try simp only [Exit.inBlock, Exit.then])
      refine bodyPost_ret (v := .agg #[.int .i64 4, .string ⟨#[]⟩, .int .i64 0]) ?_ rfl ⟨by first | rfl | (rw [if_neg hne0]), ?_, ?_⟩
      · rw [results_cell rfl]
        go_simp
      · exact Bk.cast (((((((((HBR.out.set 2 _).set 3 _).set 4 _).set 5 _).set 6 _).set 7 _).setFar n1 _ _).setFar n1 _ _).setFar n1 _ _) rfl
      · exact ((((((((Wr.of_on HON.out).set _).set _).set _).set _).set _).set _).setNew (Nat.le_refl _) _ |>.setNew (Nat.le_refl _) _).setNew (Nat.le_refl _) _
end

section
set_option maxHeartbeats 1000000
set_option maxRecDepth 8000
theorem look_told (w : World) (r : Nat) (s : ByteArray) (a k : Nat) (x : ByteArray) (q t c e : Nat) (hc : c ≠ 0) (hb : Bk w r (rdC s a k x q t c e)) :
    Calls Tryz.prog 42 #[.pointer (some ⟨r, 0, none⟩)] w fun en w' => en = .returned (.agg #[.int .i64 4, .string ⟨#[]⟩, .int .i64 0]) ∧ Bk w' r (rdC s a k x q t c e) ∧ Wr r w w' := by
  have hl := hb.lt
  have HB : Hid (Bk w r (rdC s a k x q t c e)) := hb
  obtain ⟨_, c0, c1, _, _, _, _, c6, _⟩ := rFacts hb
  have hq : ((c : Int) != 0) = true := by simp; omega
  clear hb
  go_enter Tryz.func42, Tryz.ntmps42
  go_wp2
  (try simp only [Exit.inBlock, Exit.then])
  refine bodyPost_ret (v := .agg #[.int .i64 4, .string ⟨#[]⟩, .int .i64 0]) ?_ rfl ⟨rfl, HB.out.alloc _, (Wr.refl r w).alloc _⟩
  rw [results_cell rfl]
  go_simp
end
theorem look_ok : LookOk := by
  intro w r s S o hs h
  obtain ⟨a, k, x, q, t, c, e, hb, ha, h1, h2⟩ := h
  cases o with
  | false =>
    obtain ⟨hc, rfl⟩ := h2 rfl
    refine (look_told w r s a k x q t c e hc hb).mono ?_
    rintro en w' ⟨rfl, b, k'⟩
    exact ⟨rfl, Or.inr ⟨a, k, x, q, t, c, e, rfl, hc, ha, b⟩, k'⟩
  | true =>
    obtain ⟨rfl, rfl, rfl⟩ := h1 rfl
    have hN := fun W => rnext_is s a (Nat.le_trans hs (by decide)) ha W
    unfold tkV erV rtoV at hN
    by_cases h0 : eC pB s a = 0
    · simp only [h0, if_true] at hN
      refine (look_gen w r s a k x q t (kd s a) (pl s a) (YtacflahkofmcpaaGreatDoor.to s a) 0 0 (tx s a) hb hN (fun _ => rfl)).mono ?_
      rintro en w' ⟨rfl, b, k'⟩
      rw [norm_ok s h0, if_pos rfl]
      exact ⟨rfl, Or.inl ⟨a, rfl, ha, h0, b⟩, k'⟩
    · simp only [h0, if_false] at hN
      refine (look_gen w r s a k x q t 0 0 (pl s a) (eC pB s a) (pl s a) ⟨#[]⟩ hb hN (fun h => absurd h h0)).mono ?_
      rintro en w' ⟨rfl, b, k'⟩
      rw [norm_err s h0, if_neg h0]
      exact ⟨rfl, Or.inr ⟨a, 0, ⟨#[]⟩, 0, pl s a, eC pB s a, pl s a, rfl, h0, ha, b⟩, k'⟩
end Go.Proofs.YtacflahkofmcpaaGreatDoor
