/- The document's instruction and atom, for every place where a reader stands. -/
import Derived.Test.YtacflahkofmcpaaGreatDoorRefIns
namespace Go.Proofs.YtacflahkofmcpaaGreatDoor
open Go.RowKit

theorem Ro.vd {w : World} {r : Nat} {s : ByteArray} {S : St} (h : Ro w r s S) : Vd s S := by
  obtain ⟨o, a, k, x, q, t, c, e, _, ha, h1, h2⟩ := h
  cases o with
  | true => obtain ⟨_, _, rfl⟩ := h1 rfl; exact vd_norm s ha
  | false => obtain ⟨hc, rfl⟩ := h2 rfl; exact hc
theorem isX_er {s x : ByteArray} (e : Nat × Nat) (hx : x.toList ≠ []) : isX s x (.error e) = false := by
  cases h : isX s x (.error e) with
  | false => rfl
  | true => obtain ⟨a, ha⟩ := fl_err s h hx; cases ha
theorem exp_er {s x : ByteArray} (e : Nat × Nat) (hx : x.toList ≠ []) : expS s x (.error e) = .error e := by unfold expS; rw [isX_er e hx]; rfl
theorem num_er {s : ByteArray} (e : Nat × Nat) : numP s (.error e) = (0, .error e) := by unfold numP; rw [if_neg (by simp [tokX, pB_nil])]; rfl
theorem named_er {s : ByteArray} (v : Int) (ok : Bool) (e : Nat × Nat) : (namedP s v ok (.error e)).2 = .error e := by
  unfold namedP; split
  · rfl
  · split <;> rfl
theorem reg_er {s : ByteArray} (e : Nat × Nat) : (regP s (.error e)).2 = .error e := named_er _ _ e
theorem opd_er {s : ByteArray} (e : Nat × Nat) : (opdP s (.error e)).2 = .error e := by
  unfold opdP; rw [if_neg (by simp [tokK])]; exact reg_er (s := s) e
theorem pN_max (x : ByteArray) : pN x ≤ 9223372036854775807 := by
  unfold pN
  cases h : parseV x.data.toList with
  | none => decide
  | some v =>
    unfold parseV at h
    split at h
    · rename_i v' h'
      split at h
      · obtain rfl : v' = v := by simpa using h
        exact (parseIntB_bound h').2
      · cases h
    · cases h

theorem sign_kind {s : ByteArray} {a : Nat} {c : UInt8} {r : List UInt8} (he : eC pB s a = 0) (hl : (tx s a).data.toList = c :: r) (h1 : letN c.toNat = false) (h2 : digN c.toNat = false) (h3 : c.toNat = 45 → r = []) : kd s a = 3 := by
  have hpos : 0 < (tx s a).size := by rw [size_list, hl]; simp
  have h0 : bN s (pl s a) = c.toNat := by
    rw [← tx_hd hpos]
    unfold bN suf
    rw [List.drop_zero, hl]
    rfl
  have hlt : pl s a < s.size := by
    rcases Nat.lt_or_ge (pl s a) s.size with h' | h'
    · exact h'
    · rw [tx_list, suf_ge h'] at hl
      simp at hl
  have hk := kind_at hlt
  have hz := tsize_at hlt
  have hn := eC_kd he
  have e : kd s a = kind (suf s (pl s a)) := rfl
  rw [h0, h1, h2] at hk hz
  rw [e, hk] at hn ⊢
  simp only [Bool.false_eq_true, if_false] at hn hz ⊢
  by_cases c3 : (c.toNat == 45 && digN (bN s (pl s a + 1))) = true
  · exfalso
    rw [if_pos c3] at hz
    simp only [Bool.and_eq_true, beq_iff_eq] at c3
    have hr := h3 c3.1
    have hlen := congrArg List.length (tx_list s a)
    rw [hl, hr, List.length_take] at hlen
    have ez : sz s a = tsize (suf s (pl s a)) := rfl
    have hle := tsize_le (suf s (pl s a))
    have hp1 : pl s a + 1 < s.size := word_lt (by unfold wordN; rw [c3.2]; simp)
    have hrun : 1 ≤ runL (suf s (pl s a + 1)) := by
      rw [suf_lt hp1]
      have hw : wordN (s[pl s a + 1]).toNat = true := by unfold wordN; rw [← bN_lt hp1, c3.2]; simp
      simp only [runL, hw, if_true]
      omega
    simp at hlen
    omega
  · rw [if_neg c3] at hn ⊢
    split
    · rfl
    · rename_i h4
      rw [if_neg h4] at hn
      split
      · rfl
      · rename_i h5
        rw [if_neg h5] at hn
        exact absurd rfl hn
theorem op_kind {s : ByteArray} {a : Nat} (he : eC pB s a = 0) (h : opB (tx s a) = true) : kd s a = 3 := by
  have h11 : opR (tx s a) ≤ 11 := by unfold opB at h; simpa using h
  obtain ⟨r1, r2, r3, r4⟩ := opFrom_is (tx s a) 11 (by omega)
  have h1 : 1 ≤ opR (tx s a) := r1
  have h2 := r4 h11
  have h3 : (tx s a).data.toList = (sgn (opR (tx s a))).data.toList := by
    rw [beq_iff_eq, ByteArray.toList_eq, ByteArray.toList_eq] at h2
    exact h2.symm
  generalize opR (tx s a) = k at *
  match k, h1, h11 with
  | 1, _, _ | 2, _, _ | 3, _, _ | 4, _, _ | 5, _, _ | 6, _, _ | 7, _, _ | 8, _, _ | 9, _, _ | 10, _, _ | 11, _, _ => exact sign_kind he h3 (by decide) (by decide) (by decide)

section
variable (w : World) (r : Nat) (s : ByteArray) (S : St) (hL : LookOk) (hs : s.size ≤ 4000)
include hL hs
/-- What ins leaves: its value is asked only where nothing was refused. -/
def InsPost (w : World) (r : Nat) (s : ByteArray) (R : InsT × St) (e : Ending) (w' : World) : Prop :=
  ∃ x : InsT, e = .returned (insA x) ∧ (flB (expS s xSemi R.2) = false → x = R.1) ∧ Ro w' r s (expS s xSemi R.2) ∧ Wr r w w'
omit hL hs in
theorem InsPost.of {V : InsT} {T : St} {R : InsT × St} (hR : R = (V, T)) {e : Ending} {w' : World} (h : e = .returned (insA V) ∧ Ro w' r s (expS s xSemi T) ∧ Wr r w w') : InsPost w r s R e w' := by
  subst hR
  exact ⟨V, h.1, fun _ => rfl, h.2.1, h.2.2⟩
theorem rins_is (h : Ro w r s S) :
    Calls Tryz.prog 40 #[.pointer (some ⟨r, 0, none⟩)] w (InsPost w r s (insP s S)) := by
  have hv := h.vd
  cases q1 : isX s xStore S with
  | true => exact (rins_store w r s S hL hs q1 h).mono fun e w' k => InsPost.of w r s (by unfold insP; rw [if_pos q1]) k
  | false =>
    cases q2 : isX s xFence S with
    | true => exact (rins_fence w r s S hL hs q1 q2 h).mono fun e w' k => InsPost.of w r s (by unfold insP; rw [q1, q2]; rfl) k
    | false =>
      cases q3 : isX s xSkip S with
      | true =>
        have hI : insP s S = skipP s (nx s S) := by unfold insP; rw [q1, q2, q3]; rfl
        by_cases hn : ∃ a, nx s S = .ok a ∧ kd s a = 2
        · obtain ⟨a, hS, hk⟩ := hn
          have hv2 : Vd s (nx s S) := vd_nx s hv
          rw [hS] at hv2
          have hp := kind_num hv2.1 hk
          have hN : numP s (nx s S) = (pN (tx s a), nx s (nx s S)) := by rw [hS]; unfold numP; rw [if_pos (show pB (tokX s (.ok a)) = true from hp)]; rfl
          by_cases h0 : (numP s (nx s S)).1 < 0
          · have hU : uptoP s 9223372036854775807 6 (nx s S) = (0, .error (6, pl s a)) := by
              rw [hN] at h0
              rw [hS]
              unfold uptoP outB
              rw [show tokX s (.ok a) = tx s a from rfl, hp, if_pos (by simp; omega)]
              rfl
            have hB : (opdP s (skB s (nx s S))).2 = .error (6, pl s a) := by
              have hA : skA s (nx s S) = .error (6, pl s a) := by unfold skA; rw [hU]; exact exp_er _ (ne_nil _ _)
              have hB : skB s (nx s S) = .error (6, pl s a) := by unfold skB; rw [hA, opd_er]; exact exp_er _ (ne_nil _ _)
              rw [hB, opd_er]
            refine (rins_skipneg w r s S hL hs q1 q2 q3 hv2.2 hS hk h0 h).mono ?_
            rintro e w' ⟨rfl, h1, h2⟩
            have hE : expS s xSemi (insP s S).2 = .error (6, pl s a) := by
              rw [hI]
              show expS s xSemi (opdP s (skB s (nx s S))).2 = _
              rw [hB]
              exact exp_er _ (ne_nil _ _)
            rw [exp_er _ (ne_nil _ _), opd_er, exp_er _ (ne_nil _ _), opd_er, exp_er _ (ne_nil _ _)] at h1
            refine ⟨_, rfl, fun hf => ?_, ?_, h2⟩
            · rw [hE] at hf; cases hf
            · rw [hE]; exact h1
          · have hU : uptoP s 9223372036854775807 6 (nx s S) = numP s (nx s S) := by
              rw [hN] at h0
              have hm := pN_max (tx s a)
              unfold uptoP outB
              rw [hS, show tokX s (.ok a) = tx s a from rfl, if_neg]
              simp only [hp, Bool.true_and, Bool.or_eq_true, decide_eq_true_eq]
              rintro (h | h)
              · exact h0 h
              · omega
            refine (rins_skip w r s S hL hs q1 q2 q3 hS hk (by omega) h).mono fun e w' k => InsPost.of w r s ?_ k
            rw [hI]
            unfold skipP skB skA
            rw [hU]
        · have hn' : ∀ a, nx s S = .ok a → kd s a ≠ 2 := fun a h1 h2 => hn ⟨a, h1, h2⟩
          have hp : pB (tokX s (nx s S)) = false := by
            cases hS : nx s S with
            | error er => simp [tokX, pB_nil]
            | ok a =>
              cases hh : pB (tokX s (.ok a)) with
              | false => rfl
              | true => exact absurd (num_kind hh) (hn' a hS)
          have hU : uptoP s 9223372036854775807 6 (nx s S) = numP s (nx s S) := by
            unfold uptoP outB
            rw [hp, if_neg (by simp)]
          refine (rins_skipno w r s S hL hs q1 q2 q3 hn' h).mono fun e w' k => InsPost.of w r s ?_ k
          rw [hI]
          unfold skipP skB skA
          rw [hU]
      | false =>
        have hI : insP s S = asgP s (regP s S).1 (expS s xEq (regP s S).2) := by unfold insP; rw [q1, q2, q3]; rfl
        cases q4 : isX s xLoad (expS s xEq (regP s S).2) with
        | true => exact (rins_load w r s S hL hs q1 q2 q3 q4 h).mono fun e w' k => InsPost.of w r s (by rw [hI]; unfold asgP; rw [if_pos q4]) k
        | false =>
          cases q5 : isX s xCas (expS s xEq (regP s S).2) with
          | true => exact (rins_cas w r s S hL hs q1 q2 q3 q4 q5 h).mono fun e w' k => InsPost.of w r s (by rw [hI]; unfold asgP; rw [q4, q5]; rfl) k
          | false =>
            have hI2 : insP s S = setP s (regP s S).1 (expS s xEq (regP s S).2) := by rw [hI]; unfold asgP; rw [q4, q5]; rfl
            have hv2 : Vd s (opdP s (expS s xEq (regP s S).2)).2 := vd_opd s (vd_exp s _ (vd_named s _ _ hv))
            cases hS : (opdP s (expS s xEq (regP s S).2)).2 with
            | error er =>
              obtain ⟨c, p⟩ := er
              refine (rins_ended w r s S hL hs q1 q2 q3 q4 q5 hS h).mono fun e w' k => InsPost.of w r s ?_ k
              have ho : opB (tokX s (opdP s (expS s xEq (regP s S).2)).2) = false := by rw [hS]; show opB ⟨#[]⟩ = false; kernel_rfl
              rw [hI2]
              unfold setP
              rw [ho]
              rfl
            | ok a =>
              rw [hS] at hv2
              have ht : tokX s (opdP s (expS s xEq (regP s S).2)).2 = tx s a := by rw [hS]; rfl
              cases ho : opB (tx s a) with
              | true =>
                have hk := op_kind hv2.1 ho
                refine (rins_op w r s S hL hs q1 q2 q3 q4 q5 hS (by rw [hk]; rfl) ho h).mono fun e w' k => InsPost.of w r s ?_ k
                rw [hI2]
                unfold setP
                rw [ht, ho]
                rfl
              | false =>
                have hE : insP s S = (⟨5, (regP s S).1, 0, (opdP s (expS s xEq (regP s S).2)).1, 0, ⟨-1, 0⟩, 0⟩, (opdP s (expS s xEq (regP s S).2)).2) := by
                  rw [hI2]
                  unfold setP
                  rw [ht, ho]
                  rfl
                by_cases hk : kd s a = 3
                · exact (rins_nop w r s S hL hs q1 q2 q3 q4 q5 hS (by rw [hk]; rfl) ho h).mono fun e w' k => InsPost.of w r s hE k
                · exact (rins_word w r s S hL hs q1 q2 q3 q4 q5 hS (by rw [beq_eq_false_iff_ne]; omega) h).mono fun e w' k => InsPost.of w r s hE k

/-- What atom leaves. -/
def AtomPost (w : World) (r : Nat) (s : ByteArray) (R : AtomT × St) (e : Ending) (w' : World) : Prop :=
  ∃ x : AtomT, e = .returned (atomA x) ∧ (flB R.2 = false → x = R.1) ∧ Ro w' r s R.2 ∧ Wr r w w'
omit hL hs in
theorem AtomPost.of {V : AtomT} {T : St} {R : AtomT × St} (hR : R = (V, T)) {e : Ending} {w' : World} (h : e = .returned (atomA V) ∧ Ro w' r s T ∧ Wr r w w') : AtomPost w r s R e w' := by
  subst hR
  exact ⟨V, h.1, fun _ => rfl, h.2.1, h.2.2⟩
theorem ratom_is (h : Ro w r s S) :
    Calls Tryz.prog 41 #[.pointer (some ⟨r, 0, none⟩)] w (AtomPost w r s (atomP s S)) := by
  have hv := h.vd
  cases S with
  | error er =>
    obtain ⟨c, p⟩ := er
    refine (ratom_ended w r s (.error (c, p)) hL hs rfl h).mono fun e w' k => AtomPost.of w r s ?_ k
    unfold atomP subP
    rw [if_neg (by simp [tokK])]
  | ok a =>
    by_cases hk : kd s a = 2
    · have hp := kind_num hv.1 hk
      have hz : ((tx s a).size : Int) ≤ 9223372036854775807 := by have := tokX_size (S := .ok a) hs; simp only [tokX] at this; omega
      have hq : ((kd s a : Int) == 2) = true := by rw [hk]; rfl
      have hsub : ∀ R, uptoP s 9 7 (.ok a) = R → subP s (.ok a) = (⟨R.1, (regP s (expS s xColon R.2)).1, 0, 0⟩, (regP s (expS s xColon R.2)).2) := by
        rintro R rfl
        unfold subP
        rw [if_pos (show tokK s (.ok a) = 2 from hk)]
      by_cases hn : pN (tx s a) < 0 ∨ 9 < pN (tx s a)
      · have hU : uptoP s 9 7 (.ok a) = (0, .error (7, pl s a)) := by
          unfold uptoP outB
          rw [show tokX s (.ok a) = tx s a from rfl, hp, if_pos (by simp only [Bool.true_and, Bool.or_eq_true, decide_eq_true_eq]; exact hn)]
          rfl
        have hE : (atomP s (.ok a)).2 = .error (7, pl s a) := by
          show (numP s (expS s xEq (subP s (.ok a)).2)).2 = _
          rw [hsub _ hU]
          simp only [exp_er _ (ne_nil _ _), reg_er, num_er]
        have key : Calls Tryz.prog 41 #[.pointer (some ⟨r, 0, none⟩)] w fun e w' => e = .returned (atomA ⟨-1, 0, 0, 0⟩) ∧ Ro w' r s (flS s 7 (.ok a)) ∧ Wr r w w' := by
          by_cases h0 : pN (tx s a) < 0
          · exact ratom_low w r s (.ok a) hL hs rfl hq hp hz h0 h
          · exact ratom_high w r s (.ok a) hL hs rfl hq hp hz h0 (by omega) h
        refine key.mono ?_
        rintro e w' ⟨rfl, h1, h2⟩
        refine ⟨_, rfl, fun hf => ?_, ?_, h2⟩
        · rw [hE] at hf; cases hf
        · rw [hE]; exact h1
      · have hU : uptoP s 9 7 (.ok a) = (pN (tx s a), nx s (.ok a)) := by
          unfold uptoP outB numP
          rw [show tokX s (.ok a) = tx s a from rfl, hp, if_neg (by simp only [Bool.true_and, Bool.or_eq_true, decide_eq_true_eq]; exact hn), if_pos rfl]
        refine (ratom_own w r s (.ok a) hL hs rfl hq hp hz (by omega) (by omega) h).mono fun e w' k => AtomPost.of w r s ?_ k
        unfold atomP
        rw [hsub _ hU]
    · refine (ratom_word w r s (.ok a) hL hs rfl (by rw [beq_eq_false_iff_ne]; omega) h).mono fun e w' k => AtomPost.of w r s ?_ k
      unfold atomP subP
      rw [if_neg (show ¬ tokK s (.ok a) = 2 from hk)]
end
end Go.Proofs.YtacflahkofmcpaaGreatDoor

namespace Go.Proofs.YtacflahkofmcpaaGreatDoor
open Go.RowKit

theorem own_wr {w w' : World} {b base k n : Nat} {e : TypeId} {v : Value} {xs : List Value} (h : w.ownsRow base e k v n xs) (kk : Wr b w w') (hb : b < base) : w'.ownsRow base e k v n xs := by
  refine ⟨h.1, ?_⟩
  rcases h.2 with h2 | ⟨g, cap, cur, hv, hg, hh, r⟩
  · exact Or.inl h2
  · exact Or.inr ⟨g, cap, cur, hv, hg, (kk.block g (lt_of_block hh) (by simp; omega)).trans hh, r⟩
theorem own_below {w : World} {base k n M i : Nat} {e : TypeId} {v x : Value} {xs : List Value} (h : w.ownsRow base e k v n xs) (hM : M < base) : (w.setCell ⟨M, i, none⟩ x).ownsRow base e k v n xs := by
  refine ⟨h.1, ?_⟩
  rcases h.2 with h2 | ⟨g, cap, cur, hv, hg, hh, r⟩
  · exact Or.inl h2
  · exact Or.inr ⟨g, cap, cur, hv, hg, (Below.heap_setCell _ _ _ _ (show g ≠ M by omega)).trans hh, r⟩
section
variable {α : Type} {C : α → List Value} {k : Nat} {eo ei : TypeId} {w w' : World} {base : Nat} {v : Value} {LL : List (List α)}
theorem Own2.wr {b : Nat} (h : Own2 C k eo ei w base v LL) (kk : Wr b w w') (hb : b < base) : Own2 C k eo ei w' base v LL := by
  obtain ⟨vs, h1, h2, h3⟩ := h
  exact ⟨vs, h1, own_wr h2 kk hb, fun i u L a b => own_wr (h3 i u L a b) kk hb⟩
theorem Own2.below {M i : Nat} {x : Value} (h : Own2 C k eo ei w base v LL) (hM : M < base) : Own2 C k eo ei (w.setCell ⟨M, i, none⟩ x) base v LL := by
  obtain ⟨vs, h1, h2, h3⟩ := h
  exact ⟨vs, h1, own_below h2 hM, fun i u L a b => own_below (h3 i u L a b) hM⟩
theorem Own2.far {b2 k2 m : Nat} {e2 : TypeId} {v2 : Value} {ys : List Value} (h : Own2 C k eo ei w base v LL) (ho : w.ownsRow b2 e2 k2 v2 m ys) (h1 : e2 ≠ eo) (h2 : e2 ≠ ei) (hg : w.grownBy w' v2.ownBlock) : Own2 C k eo ei w' base v LL := by
  obtain ⟨vs, q1, q2, q3⟩ := h
  exact ⟨vs, q1, own_far q2 ho h1 hg, fun i u L a b => own_far (q3 i u L a b) ho h2 hg⟩
theorem Own2.alloc (h : Own2 C k eo ei w base v LL) (o : Obj) : Own2 C k eo ei (w.alloc o) base v LL := by
  obtain ⟨vs, q1, q2, q3⟩ := h
  exact ⟨vs, q1, q2.alloc o, fun i u L a b => (q3 i u L a b).alloc o⟩
end
theorem Ro.grown {w w' : World} {r base : Nat} {s : ByteArray} {S : St} {v : Value} (h : Ro w r s S) (hg : w.grownBy w' v.ownBlock) (hr : r < base) (ho : ∀ g, v.ownBlock = some g → base ≤ g) : Ro w' r s S := by
  obtain ⟨o, a, k, x, q, t, c, e, hb, h1⟩ := h
  exact ⟨o, a, k, x, q, t, c, e, hb.grown hg hr ho, h1⟩
theorem On.grown' {x w w' : World} {v : Value} (h : On x w) (hg : w.grownBy w' v.ownBlock) (hv : ∀ g, v.ownBlock = some g → x.heap.size ≤ g) : On x w' :=
  ⟨hg.os.trans h.os, hg.tape.trans h.tape, hg.output.trans h.output, Nat.le_trans h.size hg.size, fun k hk => (hg.block k (Nat.lt_of_lt_of_le hk h.size) (fun e => by have := hv k e.symm; omega)).trans (h.block k hk)⟩
theorem own_lo {w : World} {base k n : Nat} {e : TypeId} {v : Value} {xs : List Value} (h : w.ownsRow base e k v n xs) : ∀ g, v.ownBlock = some g → base ≤ g := fun g hg => (h.lt g hg).1

abbrev z5 : Array Value := #[.string ⟨#[]⟩, .slice none 0 0, .slice none 0 0, .int .i64 0, .slice none 0 0]
abbrev z2 : Array Value := #[.int .i64 0, .int .i64 0]
structure Tr (w0 w : World) (s : ByteArray) (S : St) (nm : ByteArray) (v1 v2 : Value) (k : Int) (v3 : Value) (li : List InitT) (lt : List (List InsT)) (la : List (List AtomT)) : Prop where
  on : On w0 w
  ro : Ro w (w0.heap.size + 2) s S
  r0 : Bk w w0.heap.size z5
  r1 : Bk w (w0.heap.size + 1) z2
  tb : Bk w (w0.heap.size + 3) #[.string nm, v1, v2, .int .i64 k, v3]
  i1 : IniAt w (w0.heap.size + 4) v1 li
  i2 : ThrAt w (w0.heap.size + 4) v2 lt
  i3 : AnyAt w (w0.heap.size + 4) v3 la

section
variable {w0 w w' : World} {s : ByteArray} {S S' : St} {nm : ByteArray} {v1 v2 v3 : Value} {k : Int} {li : List InitT} {lt : List (List InsT)} {la : List (List AtomT)}
theorem Tr.wr (h : Tr w0 w s S nm v1 v2 k v3 li lt la) (kk : Wr (w0.heap.size + 2) w w') (hr : Ro w' (w0.heap.size + 2) s S') : Tr w0 w' s S' nm v1 v2 k v3 li lt la :=
  ⟨h.on.trans' kk (by omega), hr, h.r0.wr kk (by omega), h.r1.wr kk (by omega), h.tb.wr kk (by omega), own_wr h.i1 kk (by omega), h.i2.wr kk (by omega), h.i3.wr kk (by omega)⟩
theorem Tr.alloc (h : Tr w0 w s S nm v1 v2 k v3 li lt la) (o : Obj) : Tr w0 (w.alloc o) s S nm v1 v2 k v3 li lt la :=
  ⟨h.on.alloc o, h.ro.alloc o, h.r0.alloc o, h.r1.alloc o, h.tb.alloc o, h.i1.alloc o, h.i2.alloc o, h.i3.alloc o⟩
theorem Tr.drew (h : Tr w0 w s S nm v1 v2 k v3 li lt la) : Tr w0 w.drew s S nm v1 v2 k v3 li lt la := ⟨h.on.drew, h.ro, h.r0, h.r1, h.tb, h.i1, h.i2, h.i3⟩
theorem Tr.name (h : Tr w0 w s S nm v1 v2 k v3 li lt la) (x : ByteArray) : Tr w0 (w.setCell ⟨w0.heap.size + 3, 0, none⟩ (.string x)) s S x v1 v2 k v3 li lt la :=
  ⟨h.on.setNew (by omega) _, h.ro.setFar (by omega) _, h.r0.setFar (by omega) _ _, h.r1.setFar (by omega) _ _, h.tb.set 0 _, own_below h.i1 (by omega), h.i2.below (by omega), h.i3.below (by omega)⟩
theorem Tr.kind (h : Tr w0 w s S nm v1 v2 k v3 li lt la) (k' : Int) : Tr w0 (w.setCell ⟨w0.heap.size + 3, 3, none⟩ (.int .i64 k')) s S nm v1 v2 k' v3 li lt la :=
  ⟨h.on.setNew (by omega) _, h.ro.setFar (by omega) _, h.r0.setFar (by omega) _ _, h.r1.setFar (by omega) _ _, h.tb.set 3 _, own_below h.i1 (by omega), h.i2.below (by omega), h.i3.below (by omega)⟩
/-- A first value more. -/
theorem Tr.putIni {v1' : Value} {li' : List InitT} (h : Tr w0 w s S nm v1 v2 k v3 li lt la) (hg : w.grownBy w' v1.ownBlock) (ho : IniAt w' (w0.heap.size + 4) v1' li') : Tr w0 (w'.setCell ⟨w0.heap.size + 3, 1, none⟩ v1') s S nm v1' v2 k v3 li' lt la := by
  have hb := own_lo h.i1
  exact ⟨(h.on.grown' hg (fun g e => by have := hb g e; omega)).setNew (by omega) _, (h.ro.grown hg (by omega) hb).setFar (by omega) _, (h.r0.grown hg (by omega) hb).setFar (by omega) _ _, (h.r1.grown hg (by omega) hb).setFar (by omega) _ _, (h.tb.grown hg (by omega) hb).set 1 _, own_below ho (by omega), (h.i2.far h.i1 (by decide) (by decide) hg).below (by omega), (h.i3.far h.i1 (by decide) (by decide) hg).below (by omega)⟩
/-- A thread more. -/
theorem Tr.putThr {v2' : Value} {lt' : List (List InsT)} {vs : List Value} {m : Nat} (h : Tr w0 w s S nm v1 v2 k v3 li lt la) (hv : w.ownsRow (w0.heap.size + 4) 48 1 v2 m vs) (hg : w.grownBy w' v2.ownBlock) (ho : ThrAt w' (w0.heap.size + 4) v2' lt') : Tr w0 (w'.setCell ⟨w0.heap.size + 3, 2, none⟩ v2') s S nm v1 v2' k v3 li lt' la := by
  have hb := own_lo hv
  exact ⟨(h.on.grown' hg (fun g e => by have := hb g e; omega)).setNew (by omega) _, (h.ro.grown hg (by omega) hb).setFar (by omega) _, (h.r0.grown hg (by omega) hb).setFar (by omega) _ _, (h.r1.grown hg (by omega) hb).setFar (by omega) _ _, (h.tb.grown hg (by omega) hb).set 2 _, own_below (own_far h.i1 hv (by decide) hg) (by omega), ho.below (by omega), (h.i3.far hv (by decide) (by decide) hg).below (by omega)⟩
/-- A row of atoms more. -/
theorem Tr.putAny {v3' : Value} {la' : List (List AtomT)} {vs : List Value} {m : Nat} (h : Tr w0 w s S nm v1 v2 k v3 li lt la) (hv : w.ownsRow (w0.heap.size + 4) 59 1 v3 m vs) (hg : w.grownBy w' v3.ownBlock) (ho : AnyAt w' (w0.heap.size + 4) v3' la') : Tr w0 (w'.setCell ⟨w0.heap.size + 3, 4, none⟩ v3') s S nm v1 v2 k v3' li lt la' := by
  have hb := own_lo hv
  exact ⟨(h.on.grown' hg (fun g e => by have := hb g e; omega)).setNew (by omega) _, (h.ro.grown hg (by omega) hb).setFar (by omega) _, (h.r0.grown hg (by omega) hb).setFar (by omega) _ _, (h.r1.grown hg (by omega) hb).setFar (by omega) _ _, (h.tb.grown hg (by omega) hb).set 4 _, own_below (own_far h.i1 hv (by decide) hg) (by omega), (h.i2.far hv (by decide) (by decide) hg).below (by omega), ho.below (by omega)⟩
end
end Go.Proofs.YtacflahkofmcpaaGreatDoor
