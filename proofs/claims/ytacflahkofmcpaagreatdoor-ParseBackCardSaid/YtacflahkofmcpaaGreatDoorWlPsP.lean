/- A made test with one part turned: it may be, it is another one, and its text is as long as no other. Of no memory. -/
import Derived.Test.YtacflahkofmcpaaGreatDoorWlPSame
import Derived.Test.YtacflahkofmcpaaGreatDoorWlTokM
import Derived.Laws.Strings
namespace Go.Proofs.YtacflahkofmcpaaGreatDoor.Wl
open Go.RowKit

def clen (L : List ByteArray) : Nat := (L.flatMap chunk).length
theorem clen_app (L M : List ByteArray) : clen (L ++ M) = clen L + clen M := by unfold clen; rw [List.flatMap_append, List.length_append]
theorem clen_ge : ∀ L : List ByteArray, L.length ≤ clen L
  | [] => Nat.zero_le _
  | x :: L => by
    have := clen_ge L
    have hx : (chunk x).length = x.data.toList.length + 1 := by unfold chunk; simp only [List.length_append, List.length_cons, List.length_nil]
    unfold clen at this ⊢
    rw [List.flatMap_cons, List.length_append, hx, List.length_cons]
    omega
def iniPart (L : List InitT) : List ByteArray := if 0 < L.length then blockTk xIni iniTk L else []
theorem text_sum (t : TestT) : (textL t).length = clen [xTst] + clen [t.name] + clen [xOp] + clen (iniPart t.ini) + clen (t.thr.flatMap (blockTk xThr insTk)) + clen (condTk t.cond) + clen [xCl] := by
  show clen (testTk t) = _
  unfold testTk
  rw [clen_app, clen_app, clen_app, clen_app, show ([xTst, t.name, xOp] : List ByteArray) = [xTst] ++ ([t.name] ++ [xOp]) from rfl, clen_app, clen_app]
  unfold iniPart
  omega
/-- All that the law asks of the turned test. -/
structure Turned (T U : TestT) : Prop where
  ok : testOk U = true
  b : TestB U
  len : (textL U).length ≤ 140737488355328
  ne1 : sameT T U = false
  ne2 : sameT U T = false
  txt : ((⟨(textL T).toArray⟩ : ByteArray).toList != (⟨(textL U).toArray⟩ : ByteArray).toList) = true
theorem txt_ne {T U : TestT} (h : (textL T).length ≠ (textL U).length) : ((⟨(textL T).toArray⟩ : ByteArray).toList != (⟨(textL U).toArray⟩ : ByteArray).toList) = true := by
  rw [ByteArray.toList_mk, ByteArray.toList_mk, bne_iff_ne]
  exact fun e => h (congrArg List.length e)
section
variable (l : List Int) (most : Nat)
theorem small_parts4 : (smallP l most).ini.all initOk = true ∧ (smallP l most).thr.all threadOk = true ∧ condOk (smallP l most).cond = true := by
  have := small_ok l most
  unfold testOk at this
  simp only [Bool.and_eq_true] at this
  exact ⟨this.1.1.2, this.1.2, this.2⟩
theorem iniE2_self (x : InitT) : iniE2 x x = true := by simp [iniE2]
theorem insE2_self (x : InsT) : insE2 x x = true := by simp [insE2]
theorem atmE2_self (x : AtomT) : atmE2 x x = true := by simp [atmE2]
def turn0 (t : TestT) : TestT := ⟨⟨#[116, 120]⟩, t.ini, t.thr, t.cond⟩
def turn1 (t : TestT) : TestT := ⟨t.name, t.ini, t.thr ++ [[]], t.cond⟩
def turn2 (t : TestT) : TestT := ⟨t.name, t.ini ++ [⟨122, 1⟩], t.thr, t.cond⟩
def turn3 (t : TestT) : TestT := ⟨t.name, t.ini, t.thr, ⟨1, [[⟨-1, 0, 113, 77⟩]]⟩⟩
theorem sames (T : TestT) : sameT T T = true := by
  unfold sameT
  rw [eqL_self iniE2_self, eqL_self (eqL_self insE2_self), eqL_self (eqL_self atmE2_self)]
  simp
theorem turned0 : Turned (smallP l most) (turn0 (smallP l most)) := by
  obtain ⟨p1, p2, p3⟩ := small_parts4 l most
  have B := small_B l most
  have hw : wordOk ⟨#[116, 120]⟩ = true := by decide
  have BU : TestB (turn0 (smallP l most)) := ⟨B.ini, B.thr, B.any, B.l1, B.l2, B.l3, B.l4, B.l5⟩
  refine ⟨?_, BU, text_len BU (by show 2 ≤ 100000; decide), ?_, ?_, txt_ne ?_⟩
  · unfold testOk turn0
    simp only [hw, p1, p2, p3, Bool.and_self]
  · unfold sameT turn0
    have : ((smallP l most).name.toList == (⟨#[116, 120]⟩ : ByteArray).toList) = false := by
      show ((⟨#[116]⟩ : ByteArray).toList == (⟨#[116, 120]⟩ : ByteArray).toList) = false
      rw [ByteArray.toList_eq, ByteArray.toList_eq]
      decide
    simp only [this, Bool.false_and]
  · unfold sameT turn0
    have : ((⟨#[116, 120]⟩ : ByteArray).toList == (smallP l most).name.toList) = false := by
      show ((⟨#[116, 120]⟩ : ByteArray).toList == (⟨#[116]⟩ : ByteArray).toList) = false
      rw [ByteArray.toList_eq, ByteArray.toList_eq]
      decide
    simp only [this, Bool.false_and]
  · rw [text_sum, text_sum]
    have e1 : clen [(smallP l most).name] = 2 := by show clen [⟨#[116]⟩] = 2; decide
    have e2 : clen [(turn0 (smallP l most)).name] = 3 := by show clen [⟨#[116, 120]⟩] = 3; decide
    rw [e1, e2]
    show _ ≠ clen [xTst] + 3 + clen [xOp] + clen (iniPart (smallP l most).ini) + clen ((smallP l most).thr.flatMap (blockTk xThr insTk)) + clen (condTk (smallP l most).cond) + clen [xCl]
    omega
theorem turned1 : Turned (smallP l most) (turn1 (smallP l most)) := by
  obtain ⟨p1, p2, p3⟩ := small_parts4 l most
  have B := small_B l most
  obtain ⟨h1, h2⟩ := thrOf_ok l most
  have hw : wordOk ⟨#[116]⟩ = true := by decide
  have hl : (smallP l most).thr.length ≤ 3 := by
    have : (smallP l most).thr = (thrOf l most).1 := rfl
    rw [this]
    omega
  have BU : TestB (turn1 (smallP l most)) := ⟨B.ini, fun L hL x hx => by
      rcases List.mem_append.1 hL with h | h
      · exact B.thr L h x hx
      · simp only [List.mem_cons, List.not_mem_nil, or_false] at h
        subst h
        simp at hx, B.any, B.l1, by unfold turn1; simp only [List.length_append, List.length_cons, List.length_nil]; omega, fun L hL => by
      rcases List.mem_append.1 hL with h | h
      · exact B.l3 L h
      · simp only [List.mem_cons, List.not_mem_nil, or_false] at h
        subst h
        simp, B.l4, B.l5⟩
  have hne : (smallP l most).thr.length ≠ ((smallP l most).thr ++ [[]]).length := by simp
  refine ⟨?_, BU, text_len BU (by show 1 ≤ 100000; decide), ?_, ?_, txt_ne ?_⟩
  · unfold testOk turn1
    have hn : wordOk (smallP l most).name = true := hw
    simp only [hn, p1, p3, List.all_append, p2, List.all_cons, List.all_nil, Bool.and_true, Bool.true_and]
    rfl
  · unfold sameT turn1
    simp only [eqL_len _ _ hne, Bool.false_and, Bool.and_false]
  · unfold sameT turn1
    simp only [eqL_len _ _ (Ne.symm hne), Bool.false_and, Bool.and_false]
  · rw [text_sum, text_sum]
    unfold turn1
    simp only [List.flatMap_append, clen_app]
    have e : clen ([([] : List InsT)].flatMap (blockTk xThr insTk)) = 11 := by decide
    rw [e]
    omega
theorem turned2 : Turned (smallP l most) (turn2 (smallP l most)) := by
  obtain ⟨p1, p2, p3⟩ := small_parts4 l most
  have B := small_B l most
  have hw : wordOk ⟨#[116]⟩ = true := by decide
  have hl : (smallP l most).ini.length ≤ 1 := by
    have : (smallP l most).ini = iniOf l := rfl
    rw [this]
    unfold iniOf
    split <;> simp
  have z1 : B64 1 := ⟨by omega, by omega⟩
  have BU : TestB (turn2 (smallP l most)) := ⟨fun x hx => by
      rcases List.mem_append.1 hx with h | h
      · exact B.ini x h
      · simp only [List.mem_cons, List.not_mem_nil, or_false] at h
        subst h
        exact z1, B.thr, B.any, by unfold turn2; simp only [List.length_append, List.length_cons, List.length_nil]; omega, B.l2, B.l3, B.l4, B.l5⟩
  have hne : (smallP l most).ini.length ≠ ((smallP l most).ini ++ [(⟨122, 1⟩ : InitT)]).length := by simp
  refine ⟨?_, BU, text_len BU (by show 1 ≤ 100000; decide), ?_, ?_, txt_ne ?_⟩
  · unfold testOk turn2
    have hn : wordOk (smallP l most).name = true := hw
    simp only [hn, p1, p3, List.all_append, p2, List.all_cons, List.all_nil, Bool.and_true, Bool.true_and]
    decide
  · unfold sameT turn2
    simp only [eqL_len _ _ hne, Bool.false_and, Bool.and_false]
  · unfold sameT turn2
    simp only [eqL_len _ _ (Ne.symm hne), Bool.false_and, Bool.and_false]
  · rw [text_sum, text_sum]
    unfold turn2
    simp only
    have e1 : clen (iniPart (smallP l most).ini) < clen (iniPart ((smallP l most).ini ++ [⟨122, 1⟩])) := by
      generalize (smallP l most).ini = L
      unfold iniPart
      rw [if_pos (by simp : 0 < (L ++ [(⟨122, 1⟩ : InitT)]).length)]
      have h4 : 4 ≤ clen ([(⟨122, 1⟩ : InitT)].flatMap iniTk) := clen_ge ([(⟨122, 1⟩ : InitT)].flatMap iniTk)
      unfold blockTk
      split
      · rw [clen_app, clen_app, clen_app, clen_app, List.flatMap_append, clen_app]
        omega
      · rw [clen_app, clen_app, List.flatMap_append, clen_app]
        show 0 < _
        omega
    omega
theorem turned3 : Turned (smallP l most) (turn3 (smallP l most)) := by
  obtain ⟨p1, p2, p3⟩ := small_parts4 l most
  have B := small_B l most
  have hw : wordOk ⟨#[116]⟩ = true := by decide
  have zm : B64 (-1) := ⟨by omega, by omega⟩
  have z7 : B64 77 := ⟨by omega, by omega⟩
  have BU : TestB (turn3 (smallP l most)) := ⟨B.ini, B.thr, fun r hr x hx => by
      simp only [turn3, List.mem_cons, List.not_mem_nil, or_false] at hr
      subst hr
      simp only [List.mem_cons, List.not_mem_nil, or_false] at hx
      subst hx
      exact ⟨zm, z7⟩, B.l1, B.l2, B.l3, by unfold turn3; simp, fun r hr => by
      simp only [turn3, List.mem_cons, List.not_mem_nil, or_false] at hr
      subst hr
      simp⟩
  have hc : (smallP l most).cond = condOf (nxtV l (thrOf l most).2) := rfl
  have hne : (smallP l most).cond.any.length ≠ ([[⟨-1, 0, 113, 77⟩]] : List (List AtomT)).length := by
    rw [hc]
    unfold condOf anyOf
    split <;> simp
  refine ⟨?_, BU, text_len BU (by show 1 ≤ 100000; decide), ?_, ?_, txt_ne ?_⟩
  · unfold testOk turn3
    have hn : wordOk (smallP l most).name = true := hw
    simp only [hn, p1, p2, Bool.and_true, Bool.true_and]
    decide
  · unfold sameT turn3
    simp only [eqL_len _ _ hne, Bool.and_false]
  · unfold sameT turn3
    simp only [eqL_len _ _ (Ne.symm hne), Bool.and_false]
  · rw [text_sum, text_sum]
    unfold turn3
    simp only
    have e1 : clen (condTk ⟨1, [[⟨-1, 0, 113, 77⟩]]⟩) = 16 := by decide +kernel
    have e2 : clen (condTk (smallP l most).cond) ≠ 16 := by
      rw [hc]
      unfold condOf
      split
      · rename_i hx
        have hk : (((nxtV l (thrOf l most).2 / 3 % 2 + 1 : Nat) : Int) == 0) = false := by rw [beq_eq_false_iff_ne]; omega
        have hg := clen_ge (condTk ⟨((nxtV l (thrOf l most).2 / 3 % 2 + 1 : Nat) : Int), anyOf (nxtV l (thrOf l most).2)⟩)
        have hlen : (condTk ⟨((nxtV l (thrOf l most).2 / 3 % 2 + 1 : Nat) : Int), anyOf (nxtV l (thrOf l most).2)⟩).length = 17 := by
          unfold condTk
          simp only [hk, Bool.false_eq_true, if_false, anyOf, anyTk, rowTk, atomTk]
          simp
        omega
      · decide
    rw [e1]
    omega
end
end Go.Proofs.YtacflahkofmcpaaGreatDoor.Wl
