/- Both printers tell the same of any test, instruction and condition that is few enough. -/
import Derived.Test.YtlfeihgemdicfaaDoorPNo
import Derived.Test.YtlfeihgemdicfaaDoorTokL
import Derived.Test.YtlfeihgemdicfaaDoorFewB
import Derived.Test.YtlfeihgemdicfaaDoorTestArg
namespace Go.Proofs.YtlfeihgemdicfaaDoor
open Go.RowKit

theorem testB_of {t : TestT} (hf : FewT t) (hi : testI t) : TestB t :=
  ⟨fun x hx => (hi.1 x hx).2, fun L hL x hx => ⟨(hi.2.1 L hL x hx).2.2.2.2.1, (hi.2.1 L hL x hx).2.2.2.2.2.2.2.1, (hi.2.1 L hL x hx).2.2.2.2.2.2.2.2⟩, fun r hr x hx => ⟨(hi.2.2.2 r hr x hx).1, (hi.2.2.2 r hr x hx).2.2.2⟩,
    by have := hf.l1; omega, by have := hf.l2; omega, fun L hL => by have := hf.l3 L hL; omega, by have := hf.l4; omega, fun r hr => by have := hf.l5 r hr; omega⟩
theorem test_both (t : TestT) (v : Value) (w : World) (lw : Lw w) (h : TestRd w v t) (hf : FewT t) (hi : testI t) : ∃ S : ByteArray,
    (∀ W, On w W → Calls Tryd.prog 7 #[v] W fun e w' => e = .returned (.string S) ∧ On W w') ∧ (∀ W, On w W → Calls Tryd.prog 8 #[v] W fun e w' => e = .returned (.string S) ∧ On W w') := by
  cases hx : testOk t with
  | false => exact ⟨⟨#[]⟩, fun W k => ptest_no t v W (lw.on k) (h.on k) hx, fun W k => rprint_no t v W (h.on k) hx⟩
  | true =>
    have hB := testB_of hf hi
    have hl := text_len hB (by have := hf.nm; show t.name.data.toList.length ≤ 100000; rw [Array.length_toList]; exact Nat.le_trans this (by decide))
    exact ⟨_, fun W k => ptest_is t v W (lw.on k) (h.on k) hx hB hl, fun W k => rprint_is t v W (h.on k) hx hB hl⟩
theorem ins_both (x : InsT) (w : World) (lw : Lw w) (hi : insI x) : ∃ S : ByteArray,
    (∀ W, On w W → Calls Tryd.prog 13 #[.agg #[.int .i64 x.k, .int .i64 x.r, .int .i64 x.l, .int .i64 x.a.r, .int .i64 x.a.v, .int .i64 x.o, .int .i64 x.b.r, .int .i64 x.b.v, .int .i64 x.n]] W fun e w' => e = .returned (.string S) ∧ On W w') ∧
    (∀ W, On w W → Calls Tryd.prog 14 #[.agg #[.int .i64 x.k, .int .i64 x.r, .int .i64 x.l, .int .i64 x.a.r, .int .i64 x.a.v, .int .i64 x.o, .int .i64 x.b.r, .int .i64 x.b.v, .int .i64 x.n]] W fun e w' => e = .returned (.string S) ∧ On W w') := by
  obtain ⟨_, _, _, _, ha, _, _, hb, hn⟩ := hi
  cases hx : insOk x with
  | false => exact ⟨⟨#[]⟩, fun W k => pins_no x hx W (lw.on k), fun W _ => rins_no x hx W⟩
  | true => exact ⟨_, fun W k => pins_is x hx ha hb hn W (lw.on k), fun W _ => rins_yes x hx ha hb hn W⟩
set_option maxHeartbeats 1000000 in
theorem pcond_zero (a : Option Addr) (cap : Nat) (w : World) :
    Calls Tryd.prog 15 #[.agg #[.int .i64 0, .slice a 0 cap]] w fun e w' => e = .returned (.string ⟨#[]⟩) ∧ On w w' := by
  have h : Rd2 atomC 4 w (.slice a 0 cap) ([] : List (List AtomT)) := ⟨[], rfl, ⟨a, cap, rfl, Nat.zero_le _, by simp, fun h => absurd h (Nat.lt_irrefl 0)⟩, fun i u L p _ => by simp at p⟩
  have hO := fun W (k : On w W) => okCond_is ⟨0, []⟩ a cap W (h.on k)
  have hI := fun W (k : On w W) => condTokens_is ⟨0, []⟩ a cap W (h.on k) (fun r hr => by simp at hr) (by simp) (fun r hr => by simp at hr)
  have e1 : condOk ⟨0, []⟩ = true := by decide
  have e2 : condTk ⟨0, []⟩ = [] := rfl
  rw [e1] at hO
  rw [e2] at hI
  simp only [List.length_nil] at hO hI
  have bk : ∀ cs T, Bk (w.alloc (.cells cs T)) w.heap.size cs := fun cs T => Bk.new w cs T
  have hL := fun a c W => line0_is a c W
  clear h
  go_enter Tryd.func15, Tryd.ntmps15
  go_wp2_with fail
  refine (hO _ ((On.refl w).alloc _)).mono ?_
  rintro e w1 ⟨rfl, k1⟩
  have B1 := (bk _ _).on k1
  have K1 : On w w1 := ((On.refl w).alloc _).trans k1
  have x0 := B1.at (i := 0) rfl
  have x1 := B1.at (i := 1) rfl
  have xl := B1.lt
  clear hO k1 bk
  go_wp2_with fail
  refine (hI _ K1).mono ?_
  rintro e w2 ⟨v, rfl, hB, k2⟩
  obtain ⟨la, lc, rfl⟩ := own_slice hB
  simp only [List.length_nil]
  clear hI hB x0 x1 xl
  go_wp2_with fail
  refine (hL _ _ _).mono ?_
  rintro e w3 ⟨rfl, k3⟩
  go_wp2
  go_ret
  exact ⟨rfl, (K1.trans k2).trans k3⟩
theorem cond_both (c : CondT) (a : Option Addr) (cap : Nat) (w : World) (h : Rd2 atomC 4 w (.slice a c.any.length cap) c.any) (hl : c.any.length ≤ 12) (hl2 : ∀ r ∈ c.any, r.length ≤ 12) (hi : ∀ L ∈ c.any, ∀ y ∈ L, atmI y) : ∃ S : ByteArray,
    (∀ W, On w W → Calls Tryd.prog 15 #[.agg #[.int .i64 c.k, .slice a c.any.length cap]] W fun e w' => e = .returned (.string S) ∧ On W w') ∧
    (∀ W, On w W → Calls Tryd.prog 16 #[.agg #[.int .i64 c.k, .slice a c.any.length cap]] W fun e w' => e = .returned (.string S) ∧ On W w') := by
  cases hx : condOk c with
  | false => exact ⟨⟨#[]⟩, fun W k => pcond_no c a cap W (h.on k) hx, fun W k => rcond_no c a cap W (h.on k) hx⟩
  | true =>
    by_cases h0 : c.k = 0
    · obtain ⟨k, LL⟩ := c
      simp only at h0 h hl hl2 hi ⊢
      subst h0
      have hz : LL = [] := by
        unfold condOk at hx
        simp only [beq_self_eq_true, if_true, beq_iff_eq] at hx
        exact List.eq_nil_of_length_eq_zero hx
      subst hz
      exact ⟨⟨#[]⟩, fun W _ => pcond_zero a cap W, fun W k => rcond_zero [] a cap W (h.on k) hx⟩
    · have hok : ∀ r ∈ c.any, ∀ x ∈ r, atomOk x = true ∧ B64 x.t ∧ B64 x.v := fun r hr x hxr => by
        refine ⟨?_, (hi r hr x hxr).1, (hi r hr x hxr).2.2.2⟩
        have hc := hx
        unfold condOk at hc
        have e0 : (c.k == 0) = false := by rw [beq_eq_false_iff_ne]; exact h0
        rw [e0] at hc
        simp only [Bool.false_eq_true, if_false] at hc
        split at hc
        · rw [Bool.and_eq_true, List.all_eq_true] at hc
          have hrw := hc.2 r hr
          unfold rowOk at hrw
          rw [Bool.and_eq_true, List.all_eq_true] at hrw
          exact hrw.2 x hxr
        · cases hc
      have hl3 : (jn (condTk c)).length ≤ 140737488355328 := by
        have e0 : (c.k == 0) = false := by rw [beq_eq_false_iff_ne]; exact h0
        have hl1 : (condTk c).length ≤ 10000000 := by
          unfold condTk
          rw [e0]
          simp only [Bool.false_eq_true, if_false]
          rw [List.length_append]
          have := any_len c.any (if c.k == 1 then xEx else xFa) (fun r hr => by have := hl2 r hr; omega)
          have : [xEnd].length = 1 := rfl
          omega
        refine Nat.le_trans (jn_len _ 21 ?_) (by omega)
        unfold condTk
        rw [e0]
        simp only [Bool.false_eq_true, if_false]
        intro y hy
        rw [List.mem_append, List.mem_singleton] at hy
        rcases hy with hy | rfl
        · exact sz_any c.any _ (by split <;> decide) (fun r hr x hx => (hok r hr x hx).2) y hy
        · decide
      exact ⟨_, fun W k => pcond_is c a cap W (h.on k) hx h0 hok (by omega) (fun r hr => by have := hl2 r hr; omega), fun W k => rcond_is c a cap W (h.on k) hx h0 hok hl3⟩
/-- A condition as an argument. -/
theorem cond_of {H : Type} {enc : TypeId × Value → H} {w : World} {base : Nat} {sp : Nat → Bool} {held : Bool} (n : Nat) (cs : List Value) (x : DataW H × List MemPlace) (h : DataW.trod enc Tryd.prog w base sp held n 27 cs = some x) :
    ∃ (c : CondT) (a : Option Addr) (cap : Nat), cs = [.int .i64 c.k, .slice a c.any.length cap] ∧ Rd2 atomC 4 w (.slice a c.any.length cap) c.any ∧ ∀ L ∈ c.any, ∀ y ∈ L, atmI y := by
  have hl := trod_len Tryd.underlying27 h
  rw [cCnd'] at hl
  obtain ⟨c0, c1, rfl⟩ := two hl
  obtain ⟨k, hk, e3⟩ := field_int Tryd.underlying27 h 0 3 0 rfl Tryd.underlying3 cInt'
  obtain ⟨_, _, h4⟩ := trod_field Tryd.underlying27 h 1 25 1 rfl
  rw [cS5'] at h4
  obtain ⟨a3, L3, c3', e4, r3, q3⟩ := rd_rows atomC 4 atmI Tryd.underlying25 Tryd.underlying36 cS4' cAtm' (by decide) (fun _ => rfl) atm_of h4
  simp at e3 e4
  subst e3; subst e4
  exact ⟨⟨k, L3⟩, a3, c3', rfl, r3, q3⟩
end Go.Proofs.YtlfeihgemdicfaaDoor
