/- Both printers tell the same of any test, instruction and condition that is few enough. -/
import Derived.Test.YtacflahkofmcpaaGreatDoorWlPNo
import Derived.Test.YtacflahkofmcpaaGreatDoorJ19WlTokL
import Derived.Test.YtacflahkofmcpaaGreatDoorJ42WlTestArg
namespace Go.Proofs.YtacflahkofmcpaaGreatDoor.Wl
open Go.RowKit

theorem testB_of {t : TestT} (hf : FewT t) (hi : testI t) : TestB t :=
  ⟨fun x hx => (hi.1 x hx).2, fun L hL x hx => ⟨(hi.2.1 L hL x hx).2.2.2.2.1, (hi.2.1 L hL x hx).2.2.2.2.2.2.2.1, (hi.2.1 L hL x hx).2.2.2.2.2.2.2.2⟩, fun r hr x hx => ⟨(hi.2.2.2 r hr x hx).1, (hi.2.2.2 r hr x hx).2.2.2⟩,
    by have := hf.l1; omega, by have := hf.l2; omega, fun L hL => by have := hf.l3 L hL; omega, by have := hf.l4; omega, fun r hr => by have := hf.l5 r hr; omega⟩
theorem test_both (t : TestT) (v : Value) (w : World) (lw : Lw w) (h : TestRd w v t) (hf : FewT t) (hi : testI t) : ∃ S : ByteArray,
    (∀ W, On w W → Calls Tryz.prog 16 #[v] W fun e w' => e = .returned (.string S) ∧ On W w') ∧ (∀ W, On w W → Calls Tryz.prog 10 #[v] W fun e w' => e = .returned (.string S) ∧ On W w') := by
  cases hx : testOk t with
  | false => exact ⟨⟨#[]⟩, fun W k => ptest_no t v W (lw.on k) (h.on k) hx, fun W k => rprint_no t v W (h.on k) hx⟩
  | true =>
    have hB := testB_of hf hi
    have hl := text_len hB (by have := hf.nm; show t.name.data.toList.length ≤ 100000; rw [Array.length_toList]; exact Nat.le_trans this (by decide))
    exact ⟨_, fun W k => ptest_is t v W (lw.on k) (h.on k) hx hB hl, fun W k => rprint_is t v W (h.on k) hx hB hl⟩
theorem ins_both (x : InsT) (w : World) (lw : Lw w) (hi : insI x) : ∃ S : ByteArray,
    (∀ W, On w W → Calls Tryz.prog 44 #[.agg #[.int .i64 x.k, .int .i64 x.r, .int .i64 x.l, .int .i64 x.a.r, .int .i64 x.a.v, .int .i64 x.o, .int .i64 x.b.r, .int .i64 x.b.v, .int .i64 x.n]] W fun e w' => e = .returned (.string S) ∧ On W w') ∧
    (∀ W, On w W → Calls Tryz.prog 26 #[.agg #[.int .i64 x.k, .int .i64 x.r, .int .i64 x.l, .int .i64 x.a.r, .int .i64 x.a.v, .int .i64 x.o, .int .i64 x.b.r, .int .i64 x.b.v, .int .i64 x.n]] W fun e w' => e = .returned (.string S) ∧ On W w') := by
  obtain ⟨_, _, _, _, ha, _, _, hb, hn⟩ := hi
  cases hx : insOk x with
  | false => exact ⟨⟨#[]⟩, fun W k => pins_no x hx W (lw.on k), fun W _ => rins_no x hx W⟩
  | true => exact ⟨_, fun W k => pins_is x hx ha hb hn W (lw.on k), fun W _ => rins_yes x hx ha hb hn W⟩
/-- A condition as an argument. -/
theorem cond_of {H : Type} {enc : TypeId × Value → H} {w : World} {base : Nat} {sp : Nat → Bool} {held : Bool} (n : Nat) (cs : List Value) (x : DataW H × List MemPlace) (h : DataW.trod enc Tryz.prog w base sp held n 26 cs = some x) :
    ∃ (c : CondT) (a : Option Addr) (cap : Nat), cs = [.int .i64 c.k, .slice a c.any.length cap] ∧ Rd2 atomC 4 w (.slice a c.any.length cap) c.any ∧ ∀ L ∈ c.any, ∀ y ∈ L, atmI y := by
  have hl := trod_len Tryz.underlying26 h
  rw [cCnd'] at hl
  obtain ⟨c0, c1, rfl⟩ := two hl
  obtain ⟨k, hk, e3⟩ := field_int Tryz.underlying26 h 0 3 0 rfl Tryz.underlying3 cInt'
  obtain ⟨_, _, h4⟩ := trod_field Tryz.underlying26 h 1 24 1 rfl
  rw [cS5'] at h4
  obtain ⟨a3, L3, c3', e4, r3, q3⟩ := rd_rows atomC 4 atmI Tryz.underlying24 Tryz.underlying59 cS4' cAtm' (by decide) (fun _ => rfl) atm_of h4
  simp at e3 e4
  subst e3; subst e4
  exact ⟨⟨k, L3⟩, a3, c3', rfl, r3, q3⟩
end Go.Proofs.YtacflahkofmcpaaGreatDoor.Wl
