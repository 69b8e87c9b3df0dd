/- What Parse answers, in the numeral's own words: a text is a number just if it is that number's numeral. -/
import Derived.Test.YtacflahkofmcpaaGreatDoorJ02LexTake
import Derived.Test.YtacflahkofmcpaaGreatDoorJ15Canon
import Derived.Test.YtacflahkofmcpaaGreatDoorJ13WlOwnR
import Derived.Lib.ItoaNum
import Derived.Test.YtacflahkofmcpaaGreatDoorJ14LexCut
namespace Go.Proofs.YtacflahkofmcpaaGreatDoor

theorem parseV_itoa {l : List UInt8} (v : Int) (h0 : -9223372036854775808 ≤ v) (h1 : v ≤ 9223372036854775807) (h : Lib.itoa v = l) : parseV l = some v := by
  subst h
  unfold parseV
  rw [parse_itoa v h0 h1]
  simp
theorem parseV_of {l : List UInt8} {v : Int} (h : parseV l = some v) : Lib.itoa v = l := by
  unfold parseV at h
  split at h
  · split at h
    · rename_i e; obtain rfl := Option.some.inj h; exact e
    · cases h
  · cases h
theorem parseV_range {l : List UInt8} (h : Lib.parseIntB 64 l = .range) : parseV l = none := by unfold parseV; rw [h]
theorem parseV_no {l : List UInt8} (h : (match Lib.parseIntB 64 l with | .ok _ => true | _ => false) = false) : parseV l = none := by
  unfold parseV
  split
  · rename_i e; rw [e] at h; cases h
  · rfl

theorem parseV_bound {l : List UInt8} {v : Int} (h : parseV l = some v) : -9223372036854775808 ≤ v ∧ v ≤ 9223372036854775807 := by
  unfold parseV at h
  split at h
  · rename_i hp
    split at h
    · obtain rfl := Option.some.inj h
      exact parseIntB_bound hp
    · cases h
  · cases h

/-- Behind a minus. -/
theorem neg_yes {m : List UInt8} {u : Nat} (hne : m ≠ []) (hh : ∀ c r, m = c :: r → c.toNat ≠ 48) (h : Lib.decFrom 0 m = some u) (hu : u ≤ 9223372036854775808) : parseV (45 :: m) = some (-(u : Int)) := by
  obtain ⟨n, hn⟩ : ∃ n, m.length = n + 1 := ⟨m.length - 1, by cases m with | nil => exact absurd rfl hne | cons a r => simp⟩
  obtain ⟨e, h1⟩ := digits_of n m u hn h hh
  refine parseV_itoa _ (by omega) (by omega) ?_
  unfold Lib.itoa
  rw [if_pos (by omega), show (-(u : Int)).natAbs = u by omega, e]
theorem neg_shape {m : List UInt8} {v : Int} (h : parseV (45 :: m) = some v) : m ≠ [] ∧ m.length ≤ 19 ∧ (∀ c r, m = c :: r → c.toNat ≠ 48) ∧ ∃ u : Nat, Lib.decFrom 0 m = some u ∧ u ≤ 9223372036854775808 := by
  obtain ⟨b0, b1⟩ := parseV_bound h
  have e := parseV_of h
  by_cases hn : v < 0
  · unfold Lib.itoa at e
    rw [if_pos hn] at e
    obtain ⟨-, rfl⟩ := List.cons.inj e
    obtain ⟨d, r, ed, c1, _⟩ := digits_lead v.natAbs (by omega)
    refine ⟨by rw [ed]; simp, ?_, ?_, v.natAbs, decFrom_digits _, by omega⟩
    · rw [Lib.decDigits_length]; exact nDigits_le 18 _ (by omega)
    · intro c r' hc
      rw [ed] at hc
      obtain ⟨rfl, _⟩ := List.cons.inj hc
      omega
  · unfold Lib.itoa at e
    rw [if_neg hn] at e
    obtain ⟨d, r, ed, c1, c2, _⟩ := digits_head v.toNat
    rw [ed] at e
    obtain ⟨rfl, _⟩ := List.cons.inj e
    simp at c1
/-- Without one. -/
theorem pos_yes {m : List UInt8} {u : Nat} (hne : m ≠ []) (hh : (∀ c r, m = c :: r → c.toNat ≠ 48) ∨ m.length = 1) (h : Lib.decFrom 0 m = some u) (hu : u < 9223372036854775808) : parseV m = some (u : Int) := by
  refine parseV_itoa _ (by omega) (by omega) ?_
  unfold Lib.itoa
  rw [if_neg (by omega), show (u : Int).toNat = u by omega]
  rcases hh with hh | h1
  · obtain ⟨n, hn⟩ : ∃ n, m.length = n + 1 := ⟨m.length - 1, by cases m with | nil => exact absurd rfl hne | cons a r => simp⟩
    exact (digits_of n m u hn h hh).1
  · match m, h1 with
    | [c], _ =>
      simp only [Lib.decFrom] at h
      cases hd : Lib.digitVal c with
      | none => rw [hd] at h; cases h
      | some d =>
        rw [hd] at h
        simp only [Option.some.injEq, Nat.zero_mul, Nat.zero_add] at h
        unfold Lib.digitVal at hd
        split at hd
        · rename_i hb
          obtain rfl := Option.some.inj hd
          subst h
          rw [Lib.decDigits_one (by omega), dig_of hb.1 hb.2]
        · cases hd
theorem pos_shape {c : UInt8} {r : List UInt8} {v : Int} (hc : c.toNat ≠ 45) (h : parseV (c :: r) = some v) : (c :: r).length ≤ 19 ∧ (c.toNat = 48 → r = []) ∧ ∃ u : Nat, Lib.decFrom 0 (c :: r) = some u ∧ u < 9223372036854775808 := by
  obtain ⟨b0, b1⟩ := parseV_bound h
  have e := parseV_of h
  by_cases hn : v < 0
  · unfold Lib.itoa at e
    rw [if_pos hn] at e
    obtain ⟨rfl, _⟩ := List.cons.inj e
    exact absurd rfl hc
  · refine ⟨?_, fun h48 => ?_, v.toNat, ?_, by omega⟩
    · rw [← e]
      unfold Lib.itoa
      rw [if_neg hn, Lib.decDigits_length]
      exact nDigits_le 18 _ (by omega)
    · have : c = 48 := UInt8.toNat_inj.1 h48
      subst this
      exact itoa_lead v r e
    · rw [← e]
      unfold Lib.itoa
      rw [if_neg hn]
      exact decFrom_digits _
end Go.Proofs.YtacflahkofmcpaaGreatDoor

namespace Go.Proofs.YtacflahkofmcpaaGreatDoor

theorem digits_all (u : Nat) : ∀ c ∈ Lib.decDigits u, digN c.toNat = true := by
  intro c hc
  obtain ⟨k, hk⟩ := List.getElem?_of_mem hc
  obtain ⟨x, hx⟩ := Lib.digit_of_decFrom _ _ _ (decFrom_digits u) k _ hk
  unfold Lib.digitVal at hx
  by_cases h : 48 ≤ c.toNat ∧ c.toNat ≤ 57
  · unfold digN; simp [h.1, h.2]
  · rw [if_neg h] at hx; cases hx

/-- A numeral: digits, a minus ahead or none. -/
def Numeral (l : List UInt8) : Prop := ∃ ds, ds ≠ [] ∧ (∀ c ∈ ds, digN c.toNat = true) ∧ (l = ds ∨ l = 45 :: ds)
theorem digits_ne (u : Nat) : Lib.decDigits u ≠ [] := by
  have h := Lib.decDigits_length u
  have p := Lib.nDigits_pos u
  intro e
  rw [e] at h
  simp at h
  omega
theorem itoa_numeral (v : Int) : Numeral (Lib.itoa v) := by
  refine ⟨Lib.decDigits v.natAbs, digits_ne _, digits_all _, ?_⟩
  by_cases h : v < 0
  · exact Or.inr (by unfold Lib.itoa; rw [if_pos h])
  · exact Or.inl (by unfold Lib.itoa; rw [if_neg h, show v.toNat = v.natAbs by omega])

theorem dig_word {n : Nat} (h : digN n = true) : wordN n = true := by unfold wordN; rw [h]; simp
theorem dig_let {n : Nat} (h : digN n = true) : letN n = false := by
  simp only [digN, Bool.and_eq_true, decide_eq_true_eq] at h
  simp only [letN, Bool.and_eq_false_iff, decide_eq_false_iff_not]
  omega
theorem runL_digits (m : List UInt8) : ∀ ds : List UInt8, (∀ c ∈ ds, digN c.toNat = true) → runL (ds ++ m) = ds.length + runL m
  | [], _ => by simp
  | c :: ds, h => by
    rw [List.cons_append]
    simp only [runL, dig_word (h c (by simp)), if_true, List.length_cons]
    rw [runL_digits m ds (fun x hx => h x (by simp [hx]))]
    omega

theorem num_tok {l : List UInt8} (h : Numeral l) (m : List UInt8) : kind (l ++ m) = 2 ∧ tsize (l ++ m) = l.length + runL m := by
  obtain ⟨ds, hne, hd, hl⟩ := h
  cases ds with
  | nil => exact absurd rfl hne
  | cons c ds =>
    have hc := hd c (by simp)
    have hr := runL_digits m ds (fun x hx => hd x (by simp [hx]))
    rcases hl with rfl | rfl
    · rw [List.cons_append, kind_cons, tsize_cons]
      simp only [dig_let hc, hc, if_true, Bool.false_eq_true, if_false, hr, List.length_cons]
      exact ⟨trivial, by omega⟩
    · rw [List.cons_append, List.cons_append, kind_cons, tsize_cons, hd_cons]
      have e1 : letN (45 : UInt8).toNat = false := by decide
      have e2 : digN (45 : UInt8).toNat = false := by decide
      have e3 : ((45 : UInt8).toNat == 45 && digN c.toNat) = true := by rw [hc]; decide
      have hr' : runL (c :: (ds ++ m)) = ds.length + runL m + 1 := by
        simp only [runL, dig_word hc, if_true, hr]; omega
      simp only [e1, e2, e3, if_true, Bool.false_eq_true, if_false, hr', List.length_cons]
      exact ⟨trivial, by omega⟩


/-- A token's text is a number's if and only if its kind says so. -/
theorem num_kind {s : ByteArray} {a : Nat} (h : pB (tx s a) = true) : kd s a = 2 := by
  unfold pB at h
  obtain ⟨v, hv⟩ := Option.isSome_iff_exists.1 h
  have hi := parseV_of hv
  rw [tx_list] at hi
  have e : suf s (pl s a) = Lib.itoa v ++ (suf s (pl s a)).drop (sz s a) := by rw [hi, List.take_append_drop]
  show kind (suf s (pl s a)) = 2
  rw [e]
  exact (num_tok (itoa_numeral v) _).1
theorem kind_num {s : ByteArray} {a : Nat} (he : eC pB s a = 0) (h : kd s a = 2) : pB (tx s a) = true := by
  unfold eC at he
  rw [if_neg (by omega)] at he
  cases hp : pB (tx s a) with
  | true => rfl
  | false => rw [if_pos ⟨h, hp⟩] at he; cases he
end Go.Proofs.YtacflahkofmcpaaGreatDoor

namespace Go.Proofs.YtacflahkofmcpaaGreatDoor.Wl
open Go.RowKit

def numT (n : Int) : ByteArray := ⟨(Lib.itoa n).toArray⟩
def regT (r : Int) : ByteArray := ⟨#[114, UInt8.ofNat (48 + r.toNat)]⟩
def locT (l : Int) : ByteArray := ⟨#[UInt8.ofNat l.toNat]⟩
def opdT (o : Opd) : ByteArray := if o.r < 0 then numT o.v else regT o.r
def sgnT (k : Int) : ByteArray := [⟨#[]⟩, ⟨#[43]⟩, ⟨#[45]⟩, ⟨#[42]⟩, ⟨#[38]⟩, ⟨#[124]⟩, ⟨#[94]⟩, ⟨#[60, 60]⟩, ⟨#[62, 62]⟩, ⟨#[61, 61]⟩, ⟨#[33, 61]⟩, ⟨#[60]⟩].getD k.toNat ⟨#[]⟩
def xEq : ByteArray := ⟨#[61]⟩
def xEnd : ByteArray := ⟨#[59]⟩
def xOp : ByteArray := ⟨#[123]⟩
def xCl : ByteArray := ⟨#[125]⟩
def xStore : ByteArray := ⟨#[115, 116, 111, 114, 101]⟩
def xLoad : ByteArray := ⟨#[108, 111, 97, 100]⟩
def xFence : ByteArray := ⟨#[102, 101, 110, 99, 101]⟩
def xCas : ByteArray := ⟨#[99, 97, 115]⟩
def xSkip : ByteArray := ⟨#[115, 107, 105, 112]⟩
def xIf : ByteArray := ⟨#[105, 102]⟩
def xEqs : ByteArray := ⟨#[61, 61]⟩
def xTst : ByteArray := ⟨#[116, 101, 115, 116]⟩
def xIni : ByteArray := ⟨#[105, 110, 105, 116]⟩
def xThr : ByteArray := ⟨#[116, 104, 114, 101, 97, 100]⟩
def xEx : ByteArray := ⟨#[101, 120, 105, 115, 116, 115]⟩
def xFa : ByteArray := ⟨#[102, 111, 114, 97, 108, 108]⟩
def xAnd : ByteArray := ⟨#[38]⟩
def xOr : ByteArray := ⟨#[124]⟩
def xCol : ByteArray := ⟨#[58]⟩

def iniTk (x : InitT) : List ByteArray := [locT x.l, xEq, numT x.v, xEnd]
def insTk (x : InsT) : List ByteArray :=
  if x.k == 1 then [xStore, locT x.l, opdT x.a, xEnd]
  else if x.k == 2 then [regT x.r, xEq, xLoad, locT x.l, xEnd]
  else if x.k == 3 then [xFence, xEnd]
  else if x.k == 4 then [regT x.r, xEq, xCas, locT x.l, opdT x.a, opdT x.b, xEnd]
  else if x.k == 6 then [xSkip, numT x.n, xIf, opdT x.a, xEqs, opdT x.b, xEnd]
  else if x.o == 0 then [regT x.r, xEq, opdT x.a, xEnd]
  else [regT x.r, xEq, opdT x.a, sgnT x.o, opdT x.b, xEnd]
def atomTk (x : AtomT) : List ByteArray := if x.t < 0 then [locT x.l, xEq, numT x.v] else [numT x.t, xCol, regT x.r, xEq, numT x.v]
def rowTk (ahead : ByteArray) : List AtomT → List ByteArray
  | [] => []
  | x :: r => ahead :: (atomTk x ++ rowTk xAnd r)
/-- What stands ahead of the next row: an empty row leaves the bar as well. -/
def anyTk (ahead : ByteArray) : List (List AtomT) → List ByteArray
  | [] => []
  | r :: rs => rowTk ahead r ++ anyTk xOr rs
def condTk (c : CondT) : List ByteArray := if c.k == 0 then [] else anyTk (if c.k == 1 then xEx else xFa) c.any ++ [xEnd]
def blockTk {α : Type} (head : ByteArray) (f : α → List ByteArray) (L : List α) : List ByteArray := [head, xOp] ++ L.flatMap f ++ [xCl]
def testTk (t : TestT) : List ByteArray :=
  [xTst, t.name, xOp] ++ (if 0 < t.ini.length then blockTk xIni iniTk t.ini else []) ++ t.thr.flatMap (blockTk xThr insTk) ++ condTk t.cond ++ [xCl]
def endTk (x : ByteArray) : Bool := x.data.toList == [123] || x.data.toList == [59] || x.data.toList == [125]
def gapB (x : ByteArray) : UInt8 := if endTk x then 10 else 32
def chunk (x : ByteArray) : List UInt8 := x.data.toList ++ [gapB x]
def textL (t : TestT) : List UInt8 := (testTk t).flatMap chunk

/-! Tokens: none is empty, and none but the three that end a line has such a byte, or a blank. -/
def isEnd (b : UInt8) : Bool := b == 123 || b == 59 || b == 125
def plainB (b : UInt8) : Bool := !(b == 10 || b == 32 || isEnd b)
def plainTk (x : ByteArray) : Bool := decide (0 < x.data.toList.length) && x.data.toList.all plainB
def goodTk (x : ByteArray) : Bool := plainTk x || endTk x
def fineL (s : List UInt8) : Prop := ∀ (i : Nat) (c : UInt8), s[i]? = some c → (c = 10 → ∃ d, 1 ≤ i ∧ s[i - 1]? = some d ∧ isEnd d = true) ∧ (c = 32 → ∃ d, 1 ≤ i ∧ s[i - 1]? = some d ∧ d ≠ 32 ∧ d ≠ 10)
theorem fine_nil : fineL [] := fun i c h => by simp at h
theorem fine_append {s t : List UInt8} (h : fineL s) (k : fineL t) : fineL (s ++ t) := by
  intro i c hc
  rcases Nat.lt_or_ge i s.length with hi | hi
  · rw [List.getElem?_append_left hi] at hc
    obtain ⟨h1, h2⟩ := h i c hc
    refine ⟨fun e => ?_, fun e => ?_⟩
    · obtain ⟨d, hd, he, hf⟩ := h1 e
      exact ⟨d, hd, by rw [List.getElem?_append_left (by omega)]; exact he, hf⟩
    · obtain ⟨d, hd, he, hf⟩ := h2 e
      exact ⟨d, hd, by rw [List.getElem?_append_left (by omega)]; exact he, hf⟩
  · rw [List.getElem?_append_right hi] at hc
    obtain ⟨h1, h2⟩ := k (i - s.length) c hc
    refine ⟨fun e => ?_, fun e => ?_⟩
    · obtain ⟨d, hd, he, hf⟩ := h1 e
      exact ⟨d, by omega, by rw [List.getElem?_append_right (by omega), show i - 1 - s.length = i - s.length - 1 by omega]; exact he, hf⟩
    · obtain ⟨d, hd, he, hf⟩ := h2 e
      exact ⟨d, by omega, by rw [List.getElem?_append_right (by omega), show i - 1 - s.length = i - s.length - 1 by omega]; exact he, hf⟩
theorem plain_no {b : UInt8} (h : plainB b = true) : b ≠ 10 ∧ b ≠ 32 ∧ isEnd b = false := by
  unfold plainB at h
  simp only [Bool.not_eq_true', Bool.or_eq_false_iff, beq_eq_false_iff_ne] at h
  exact ⟨h.1.1, h.1.2, h.2⟩
theorem plain_gap {x : ByteArray} (h : plainTk x = true) : gapB x = 32 := by
  unfold plainTk at h
  rw [Bool.and_eq_true, List.all_eq_true] at h
  unfold gapB
  rw [if_neg]
  intro hx
  unfold endTk at hx
  simp only [Bool.or_eq_true, beq_iff_eq] at hx
  rcases hx with (e | e) | e
  · exact absurd (h.2 123 (by rw [e]; decide)) (by decide)
  · exact absurd (h.2 59 (by rw [e]; decide)) (by decide)
  · exact absurd (h.2 125 (by rw [e]; decide)) (by decide)
theorem end_chunk {x : ByteArray} (h : endTk x = true) : chunk x = [123, 10] ∨ chunk x = [59, 10] ∨ chunk x = [125, 10] := by
  have hg : gapB x = 10 := by unfold gapB; rw [if_pos h]
  unfold endTk at h
  simp only [Bool.or_eq_true, beq_iff_eq] at h
  unfold chunk
  rw [hg]
  rcases h with (e | e) | e
  · exact Or.inl (by rw [e]; rfl)
  · exact Or.inr (Or.inl (by rw [e]; rfl))
  · exact Or.inr (Or.inr (by rw [e]; rfl))
theorem fine_chunk {x : ByteArray} (h : goodTk x = true) : fineL (chunk x) := by
  unfold goodTk at h
  rw [Bool.or_eq_true] at h
  rcases h with h | h
  · have hg := plain_gap h
    unfold plainTk at h
    rw [Bool.and_eq_true, List.all_eq_true, decide_eq_true_eq] at h
    obtain ⟨h0, h1⟩ := h
    intro i c hc
    unfold chunk at hc ⊢
    rw [hg] at hc ⊢
    rcases Nat.lt_or_ge i x.data.toList.length with hi | hi
    · rw [List.getElem?_append_left hi] at hc
      have := plain_no (h1 c (List.mem_of_getElem? hc))
      exact ⟨fun e => absurd e this.1, fun e => absurd e this.2.1⟩
    · rw [List.getElem?_append_right hi] at hc
      have hz : i - x.data.toList.length = 0 := by
        rcases Nat.eq_zero_or_pos (i - x.data.toList.length) with h | h
        · exact h
        · rw [List.getElem?_eq_none (by rw [List.length_singleton]; omega)] at hc
          cases hc
      rw [hz] at hc
      simp only [List.getElem?_cons_zero, Option.some.injEq] at hc
      subst hc
      have hl : (x.data.toList)[i - 1]? = some (x.data.toList[i - 1]'(by omega)) := List.getElem?_eq_getElem (by omega)
      have hp := plain_no (h1 _ (List.mem_of_getElem? hl))
      refine ⟨fun e => absurd e (by decide), fun _ => ⟨_, by omega, ?_, hp.2.1, hp.1⟩⟩
      rw [List.getElem?_append_left (by omega)]
      exact hl
  · have key : ∀ b : UInt8, isEnd b = true → b ≠ 10 → b ≠ 32 → fineL [b, 10] := by
      intro b hb h1 h2 i c hc
      match i, hc with
      | 0, hc =>
        simp only [List.getElem?_cons_zero, Option.some.injEq] at hc
        subst hc
        exact ⟨fun e => absurd e h1, fun e => absurd e h2⟩
      | 1, hc =>
        simp only [List.getElem?_cons_succ, List.getElem?_cons_zero, Option.some.injEq] at hc
        subst hc
        exact ⟨fun _ => ⟨b, by omega, rfl, hb⟩, fun e => absurd e (by decide)⟩
      | i + 2, hc => simp at hc
    rcases end_chunk h with e | e | e <;> rw [e]
    · exact key 123 (by decide) (by decide) (by decide)
    · exact key 59 (by decide) (by decide) (by decide)
    · exact key 125 (by decide) (by decide) (by decide)
theorem fine_text : ∀ L : List ByteArray, (∀ x ∈ L, goodTk x = true) → fineL (L.flatMap chunk)
  | [], _ => fine_nil
  | x :: L, h => by
    rw [List.flatMap_cons]
    exact fine_append (fine_chunk (h x (by simp))) (fine_text L fun y hy => h y (by simp [hy]))
/-- As many lines as bytes that end one. -/
def nlB (b : UInt8) : Bool := b == 10
theorem cnt_chunk {x : ByteArray} (h : goodTk x = true) : (chunk x).countP nlB = (chunk x).countP isEnd := by
  unfold goodTk at h
  rw [Bool.or_eq_true] at h
  rcases h with h | h
  · have hg := plain_gap h
    unfold plainTk at h
    rw [Bool.and_eq_true, List.all_eq_true] at h
    unfold chunk
    rw [hg, List.countP_append, List.countP_append]
    have z1 : x.data.toList.countP nlB = 0 := List.countP_eq_zero.2 fun b hb => by simpa [nlB] using (plain_no (h.2 b hb)).1
    have z2 : x.data.toList.countP isEnd = 0 := List.countP_eq_zero.2 fun b hb => by simpa using (plain_no (h.2 b hb)).2.2
    rw [z1, z2]
    decide
  · rcases end_chunk h with e | e | e <;> rw [e] <;> decide
theorem cnt_text : ∀ L : List ByteArray, (∀ x ∈ L, goodTk x = true) → (L.flatMap chunk).countP nlB = (L.flatMap chunk).countP isEnd
  | [], _ => rfl
  | x :: L, h => by
    rw [List.flatMap_cons, List.countP_append, List.countP_append, cnt_chunk (h x (by simp)), cnt_text L fun y hy => h y (by simp [hy])]
/-! Every token of a test that may be is a good one. -/
theorem plain_dig {d : Nat} (h : d < 10) : plainB (UInt8.ofNat (48 + d)) = true := by
  have : ∀ d : Fin 10, plainB (UInt8.ofNat (48 + d.val)) = true := by decide
  exact this ⟨d, h⟩
theorem plain_digits (u : Nat) : Lib.decDigits u ≠ [] ∧ ∀ c ∈ Lib.decDigits u, plainB c = true := by
  induction u using Nat.strongRecOn with
  | ind u ih =>
    rw [Lib.decDigits]
    split
    · rename_i h
      exact ⟨by simp, fun c hc => by rw [List.mem_singleton] at hc; subst hc; exact plain_dig h⟩
    · rename_i h
      refine ⟨by simp, fun c hc => ?_⟩
      rw [List.mem_append, List.mem_singleton] at hc
      rcases hc with hc | rfl
      · exact (ih (u / 10) (by omega)).2 c hc
      · exact plain_dig (Nat.mod_lt _ (by omega))
theorem good_num (n : Int) : goodTk (numT n) = true := by
  unfold goodTk plainTk numT
  rw [Bool.or_eq_true, Bool.and_eq_true, decide_eq_true_eq, List.all_eq_true]
  refine Or.inl ?_
  show 0 < (Lib.itoa n).length ∧ ∀ c ∈ Lib.itoa n, plainB c = true
  unfold Lib.itoa
  split
  · refine ⟨by simp, fun c hc => ?_⟩
    rw [List.mem_cons] at hc
    rcases hc with rfl | hc
    · decide
    · exact (plain_digits _).2 c hc
  · exact ⟨List.length_pos_iff.2 (plain_digits _).1, (plain_digits _).2⟩
theorem good_reg {r : Int} (h : regOk r = true) : goodTk (regT r) = true := by
  unfold regOk at h
  rw [Bool.and_eq_true, decide_eq_true_eq, decide_eq_true_eq] at h
  have : ∀ d : Fin 10, goodTk ⟨#[114, UInt8.ofNat (48 + d.val)]⟩ = true := by decide
  exact this ⟨r.toNat, by omega⟩
theorem good_loc {l : Int} (h : locOk l = true) : goodTk (locT l) = true := by
  unfold locOk at h
  rw [Bool.and_eq_true, decide_eq_true_eq, decide_eq_true_eq] at h
  have : ∀ d : Fin 26, goodTk ⟨#[UInt8.ofNat (97 + d.val)]⟩ = true := by decide
  have k := this ⟨(l - 97).toNat, by omega⟩
  unfold locT
  rw [show l.toNat = 97 + (l - 97).toNat by omega]
  exact k
theorem good_opd {o : Opd} (h : opdOk o = true) : goodTk (opdT o) = true := by
  unfold opdT
  split
  · exact good_num _
  · rename_i hr
    unfold opdOk at h
    rw [Bool.or_eq_true, Bool.and_eq_true, beq_iff_eq] at h
    rcases h with h | h
    · omega
    · exact good_reg h.2
theorem good_sgn {k : Int} (h : signOk k = true) : goodTk (sgnT k) = true := by
  unfold signOk at h
  rw [Bool.and_eq_true, decide_eq_true_eq, decide_eq_true_eq] at h
  have : ∀ d : Fin 11, goodTk (sgnT ((d.val : Int) + 1)) = true := by decide
  have k' := this ⟨(k - 1).toNat, by omega⟩
  rw [show (((k - 1).toNat : Nat) : Int) + 1 = k by omega] at k'
  exact k'
theorem good_ini {x : InitT} (h : initOk x = true) : ∀ y ∈ iniTk x, goodTk y = true := by
  intro y hy
  unfold iniTk at hy
  simp only [List.mem_cons, List.not_mem_nil, or_false] at hy
  rcases hy with rfl | rfl | rfl | rfl
  · exact good_loc h
  · decide
  · exact good_num _
  · decide
theorem good_ins {x : InsT} (h : insOk x = true) : ∀ y ∈ insTk x, goodTk y = true := by
  intro y hy
  unfold insOk at h
  unfold insTk at hy
  by_cases h1 : x.k = 1
  · simp only [h1, Bool.and_eq_true, beq_self_eq_true, if_true] at h hy
    simp only [List.mem_cons, List.not_mem_nil, or_false] at hy
    rcases hy with rfl | rfl | rfl | rfl
    · decide
    · exact good_loc h.1.2
    · exact good_opd h.2
    · decide
  by_cases h2 : x.k = 2
  · simp [h2] at h hy
    rcases hy with rfl | rfl | rfl | rfl | rfl
    · exact good_reg h.1.2
    · decide
    · decide
    · exact good_loc h.2
    · decide
  by_cases h3 : x.k = 3
  · simp [h3] at h hy
    rcases hy with rfl | rfl <;> decide
  by_cases h4 : x.k = 4
  · simp [h4] at h hy
    rcases hy with rfl | rfl | rfl | rfl | rfl | rfl | rfl
    · exact good_reg h.1.1.1.2
    · decide
    · decide
    · exact good_loc h.1.1.2
    · exact good_opd h.1.2
    · exact good_opd h.2
    · decide
  by_cases h5 : x.k = 5
  · simp [h5] at h hy
    obtain ⟨⟨⟨_, hr⟩, ha⟩, hs⟩ := h
    unfold secOk at hs
    by_cases h0 : x.o = 0
    · simp [h0] at hy
      rcases hy with rfl | rfl | rfl | rfl
      · exact good_reg hr
      · decide
      · exact good_opd ha
      · decide
    · simp [h0] at hs hy
      rcases hy with rfl | rfl | rfl | rfl | rfl | rfl
      · exact good_reg hr
      · decide
      · exact good_opd ha
      · exact good_sgn hs.1
      · exact good_opd hs.2
      · decide
  by_cases h6 : x.k = 6
  · simp [h6] at h hy
    rcases hy with rfl | rfl | rfl | rfl | rfl | rfl | rfl
    · decide
    · exact good_num _
    · decide
    · exact good_opd h.1.2
    · decide
    · exact good_opd h.2
    · decide
  simp [h1, h2, h3, h4, h5, h6] at h
theorem good_atom {x : AtomT} (h : atomOk x = true) : ∀ y ∈ atomTk x, goodTk y = true := by
  intro y hy
  unfold atomOk at h
  unfold atomTk at hy
  by_cases ht : x.t = -1
  · simp [ht] at h hy
    rcases hy with rfl | rfl | rfl
    · exact good_loc h.2
    · decide
    · exact good_num _
  · simp [ht] at h
    have hn : ¬ x.t < 0 := by omega
    simp [hn] at hy
    rcases hy with rfl | rfl | rfl | rfl | rfl
    · exact good_num _
    · decide
    · exact good_reg h.2
    · decide
    · exact good_num _
theorem good_row : ∀ (L : List AtomT) (a : ByteArray), goodTk a = true → L.all atomOk = true → ∀ y ∈ rowTk a L, goodTk y = true
  | [], _, _, _, y, hy => by simp [rowTk] at hy
  | x :: r, a, ha, h, y, hy => by
    rw [List.all_cons, Bool.and_eq_true] at h
    rw [rowTk, List.mem_cons, List.mem_append] at hy
    rcases hy with rfl | hy | hy
    · exact ha
    · exact good_atom h.1 y hy
    · exact good_row r xAnd (by decide) h.2 y hy
theorem good_any : ∀ (L : List (List AtomT)) (a : ByteArray), goodTk a = true → L.all rowOk = true → ∀ y ∈ anyTk a L, goodTk y = true
  | [], _, _, _, y, hy => by simp [anyTk] at hy
  | x :: r, a, ha, h, y, hy => by
    rw [List.all_cons, Bool.and_eq_true] at h
    rw [anyTk, List.mem_append] at hy
    rcases hy with hy | hy
    · unfold rowOk at h
      exact good_row x a ha (by have := h.1; rw [Bool.and_eq_true] at this; exact this.2) y hy
    · exact good_any r xOr (by decide) h.2 y hy
theorem good_cond {c : CondT} (h : condOk c = true) : ∀ y ∈ condTk c, goodTk y = true := by
  intro y hy
  unfold condOk at h
  unfold condTk at hy
  by_cases h0 : c.k = 0
  · simp [h0] at hy
  · have e0 : (c.k == 0) = false := by rw [beq_eq_false_iff_ne]; exact h0
    rw [e0] at h hy
    simp only [Bool.false_eq_true, if_false] at h hy
    rw [List.mem_append, List.mem_singleton] at hy
    rcases hy with hy | rfl
    · split at h
      · rw [Bool.and_eq_true] at h
        exact good_any c.any _ (by split <;> decide) h.2 y hy
      · cases h
    · decide
theorem good_block {α : Type} {f : α → List ByteArray} {L : List α} {hd : ByteArray} (hh : goodTk hd = true) (hf : ∀ x ∈ L, ∀ y ∈ f x, goodTk y = true) : ∀ y ∈ blockTk hd f L, goodTk y = true := by
  intro y hy
  unfold blockTk at hy
  simp only [List.mem_append, List.mem_cons, List.not_mem_nil, or_false, List.mem_flatMap] at hy
  rcases hy with ((rfl | rfl) | ⟨x, hx, hy⟩) | rfl
  · exact hh
  · decide
  · exact hf x hx y hy
  · decide
theorem plain_chs : ∀ (l : List UInt8) (i : Nat), chsOk i l = true → ∀ c ∈ l, plainB c = true
  | [], _, _, c, hc => by simp at hc
  | b :: r, i, h, c, hc => by
    rw [chsOk, Bool.and_eq_true] at h
    rw [List.mem_cons] at hc
    rcases hc with rfl | hc
    · have := h.1
      unfold chOk locOk at this
      simp only [Bool.or_eq_true, Bool.and_eq_true, decide_eq_true_eq] at this
      replace this := this.imp id And.right
      unfold plainB isEnd
      simp only [Bool.not_eq_true', Bool.or_eq_false_iff, beq_eq_false_iff_ne]
      refine ⟨⟨?_, ?_⟩, ⟨?_, ?_⟩, ?_⟩ <;> (rintro rfl; revert this; decide)
    · exact plain_chs r (i + 1) h.2 c hc
theorem good_name {s : ByteArray} (h : wordOk s = true) : goodTk s = true := by
  unfold wordOk at h
  rw [Bool.and_eq_true, decide_eq_true_eq] at h
  unfold goodTk plainTk
  rw [Bool.or_eq_true, Bool.and_eq_true, decide_eq_true_eq, List.all_eq_true]
  exact Or.inl ⟨by have := h.2; rw [ByteArray.size] at this; simpa using this, plain_chs _ 0 h.1⟩
theorem good_test {t : TestT} (h : testOk t = true) : ∀ y ∈ testTk t, goodTk y = true := by
  intro y hy
  unfold testOk at h
  simp only [Bool.and_eq_true, List.all_eq_true] at h
  obtain ⟨⟨⟨h1, h2⟩, h3⟩, h4⟩ := h
  unfold testTk at hy
  simp only [List.mem_append, List.mem_cons, List.not_mem_nil, or_false, List.mem_flatMap] at hy
  rcases hy with ((((rfl | rfl | rfl) | hy) | ⟨L, hL, hy⟩) | hy) | rfl
  · decide
  · exact good_name h1
  · decide
  · split at hy
    · exact good_block (by decide) (fun x hx => good_ini (h2 x hx)) y hy
    · simp at hy
  · have := h3 L hL
    unfold threadOk at this
    rw [List.all_eq_true] at this
    exact good_block (by decide) (fun x hx => good_ins (this x hx)) y hy
  · exact good_cond h4 y hy
  · decide
/-- What PrintLines looks for, of every test that may be. -/
theorem text_fine {t : TestT} (h : testOk t = true) : fineL (textL t) := fine_text _ (good_test h)
theorem text_cnt {t : TestT} (h : testOk t = true) : (textL t).countP nlB = (textL t).countP isEnd := cnt_text _ (good_test h)
theorem text_last (t : TestT) : ∃ r, textL t = r ++ [125, 10] := by
  unfold textL testTk
  rw [List.flatMap_append]
  exact ⟨_, rfl⟩
end Go.Proofs.YtacflahkofmcpaaGreatDoor.Wl

namespace Go.Proofs.YtacflahkofmcpaaGreatDoor

/-- A token's bytes: of kind K, whole ahead of a blank. -/
structure Gd (K : Nat) (x : ByteArray) : Prop where
  k : kind (x.data.toList ++ [32]) = K
  z : tsize (x.data.toList ++ [32]) = x.data.toList.length
  k0 : K ≠ 0
  k4 : K ≠ 4
  n : K = 2 → pB x = true
def blL (g : List UInt8) : Prop := ∀ c ∈ g, blN c.toNat = true
/-- Tokens, one or more blanks behind each. -/
def Sp : List ByteArray → List UInt8 → Prop
  | [], l => l = []
  | x :: L, l => ∃ b g l', blN b.toNat = true ∧ blL g ∧ l = x.data.toList ++ (b :: (g ++ l')) ∧ Sp L l'
/-- A parser stands ahead of these tokens. -/
def Stand (s : ByteArray) (S : St) (L : List ByteArray) : Prop := ∃ a g l, S = norm s a ∧ a ≤ s.size ∧ blL g ∧ suf s a = g ++ l ∧ Sp L l

theorem gap_bl : ∀ (g l : List UInt8), blL g → gap false (g ++ l) = g.length + gap false l
  | [], l, _ => by simp
  | c :: g, l, h => by
    have hc := h c (by simp)
    have hn : c.toNat ≠ 35 := by intro e; rw [e] at hc; revert hc; decide
    rw [List.cons_append, gap_f, if_neg hn, if_pos hc, gap_bl g l fun x hx => h x (by simp [hx]), List.length_cons]
    omega

section
variable {s : ByteArray} {S : St} {L : List ByteArray} {K : Nat} {x : ByteArray}
theorem Stand.ok (h : Stand s S (x :: L)) (g : Gd K x) : (∃ a, S = .ok a ∧ norm s a = .ok a ∧ a ≤ s.size) ∧ tokK s S = K ∧ tokX s S = x ∧ Stand s (nx s S) L := by
  obtain ⟨a, q, l, rfl, ha, hq, hs, b, q', l', hb, hq', rfl, hL⟩ := h
  have hk0 : kind (x.data.toList ++ [32]) ≠ 0 := by rw [g.k]; exact g.k0
  have hk4 : kind (x.data.toList ++ [32]) ≠ 4 := by rw [g.k]; exact g.k4
  obtain ⟨e1, e2⟩ := keep (x.data.toList ++ [32]) (q' ++ l') b hb hk0 hk4
  rw [g.z, List.take_left] at e1 e2
  rw [g.k] at e1
  have hg : gap false (suf s a) = q.length := by
    rw [hs, gap_bl _ _ hq, gap_tok (by rw [e1]; exact g.k0)]
    omega
  have hp : pl s a = a + q.length := by unfold pl; rw [hg]
  have hs' : suf s (a + q.length) = x.data.toList ++ b :: (q' ++ l') := by rw [suf_add, hs, List.drop_left]
  have hk : kd s a = K := by unfold kd; rw [hp, hs', e1]
  have hz : sz s a = x.data.toList.length := by unfold sz; rw [hp, hs', e2]
  have ht : to s a = a + q.length + x.data.toList.length := by unfold Go.Proofs.YtacflahkofmcpaaGreatDoor.to; rw [hp, hz]
  have hx : tx s a = x := by
    apply bytes_ext
    rw [tx_list, hp, hz, hs', List.take_left]
  have he : eC pB s a = 0 := by
    unfold eC
    rw [hk, if_neg g.k0, if_neg]
    rintro ⟨h2, h3⟩
    rw [hx, g.n h2] at h3
    cases h3
  have hn := norm_ok s he
  refine ⟨⟨a, hn, hn, ha⟩, ?_, ?_, to s a, b :: q', l', ?_, to_le ha, ?_, ?_, hL⟩
  · rw [hn]; exact hk
  · rw [hn]; exact hx
  · rw [hn]; rfl
  · intro c hc
    rw [List.mem_cons] at hc
    rcases hc with rfl | hc
    · exact hb
    · exact hq' c hc
  · rw [ht, suf_add, hs', List.drop_left, List.cons_append]
theorem Stand.kk (h : Stand s S (x :: L)) (g : Gd K x) : tokK s S = K := (h.ok g).2.1
theorem Stand.tt (h : Stand s S (x :: L)) (g : Gd K x) : tokX s S = x := (h.ok g).2.2.1
theorem Stand.nx (h : Stand s S (x :: L)) (g : Gd K x) : Stand s (nx s S) L := (h.ok g).2.2.2
theorem Stand.fl (h : Stand s S (x :: L)) (g : Gd K x) : flB S = false := by obtain ⟨a, rfl, _⟩ := (h.ok g).1; rfl
theorem Stand.vd (h : Stand s S L) : Vd s S := by
  obtain ⟨a, _, _, rfl, ha, _⟩ := h
  exact vd_norm s ha
theorem Stand.is (h : Stand s S (x :: L)) (g : Gd K x) (y : ByteArray) : isX s y S = (x.data.toList == y.data.toList) := by unfold isX; rw [h.tt g]
theorem Stand.isnt (h : Stand s S (x :: L)) (g : Gd K x) {y : ByteArray} (hy : (x.data.toList == y.data.toList) = false) : isX s y S = false := by rw [h.is g, hy]
theorem Stand.eat (h : Stand s S (x :: L)) (g : Gd K x) : expS s x S = Go.Proofs.YtacflahkofmcpaaGreatDoor.nx s S := by unfold expS; rw [h.is g, beq_self_eq_true, if_pos rfl]
theorem Stand.exp (h : Stand s S (x :: L)) (g : Gd K x) : Stand s (expS s x S) L := by rw [h.eat g]; exact h.nx g
end

/-! Tokens that are good. -/
def B6 (n : Int) : Prop := -9223372036854775808 ≤ n ∧ n ≤ 9223372036854775807
theorem gd_num {n : Int} (h : B6 n) : Gd 2 (Wl.numT n) := by
  have h1 := num_tok (itoa_numeral n) [32]
  exact ⟨h1.1, h1.2, by decide, by decide, fun _ => by
    show (parseV (Lib.itoa n)).isSome = true
    rw [parseV_itoa n h.1 h.2 rfl]; rfl⟩
theorem pN_num {n : Int} (h : B6 n) : pN (Wl.numT n) = n := by
  show (parseV (Lib.itoa n)).getD 0 = n
  rw [parseV_itoa n h.1 h.2 rfl]; rfl
theorem reg_all : ∀ d : Fin 4, kind ((Wl.regT d.val).data.toList ++ [32]) = 1 ∧ tsize ((Wl.regT d.val).data.toList ++ [32]) = (Wl.regT d.val).data.toList.length ∧ regB (Wl.regT d.val) = true ∧ regV (Wl.regT d.val) = (d.val : Int) ∧
    ((Wl.regT d.val).data.toList == xStore.data.toList) = false ∧ ((Wl.regT d.val).data.toList == xFence.data.toList) = false ∧ ((Wl.regT d.val).data.toList == xSkip.data.toList) = false ∧ ((Wl.regT d.val).data.toList == xLoad.data.toList) = false ∧ ((Wl.regT d.val).data.toList == xCas.data.toList) = false ∧ ((Wl.regT d.val).data.toList == xShut.data.toList) = false := by decide +kernel
theorem reg_at {r : Int} (h : Wl.regOk r = true) : ∃ d : Fin 4, r = (d.val : Int) := by
  unfold Wl.regOk at h
  rw [Bool.and_eq_true, decide_eq_true_eq, decide_eq_true_eq] at h
  exact ⟨⟨r.toNat, by omega⟩, by show r = (r.toNat : Int); omega⟩
theorem gd_reg {r : Int} (h : Wl.regOk r = true) : Gd 1 (Wl.regT r) := by
  obtain ⟨d, rfl⟩ := reg_at h
  have := reg_all d
  exact ⟨this.1, this.2.1, by decide, by decide, fun h => by cases h⟩
theorem loc_all : ∀ d : Fin 26, kind ((Wl.locT ((d.val : Int) + 97)).data.toList ++ [32]) = 1 ∧ tsize ((Wl.locT ((d.val : Int) + 97)).data.toList ++ [32]) = (Wl.locT ((d.val : Int) + 97)).data.toList.length ∧ locB 1 (Wl.locT ((d.val : Int) + 97)) = true ∧ locV 1 (Wl.locT ((d.val : Int) + 97)) = (d.val : Int) + 97 ∧ ((Wl.locT ((d.val : Int) + 97)).data.toList == xShut.data.toList) = false := by decide +kernel
theorem loc_at {l : Int} (h : Wl.locOk l = true) : ∃ d : Fin 26, l = (d.val : Int) + 97 := by
  unfold Wl.locOk at h
  rw [Bool.and_eq_true, decide_eq_true_eq, decide_eq_true_eq] at h
  exact ⟨⟨(l - 97).toNat, by omega⟩, by show l = ((l - 97).toNat : Int) + 97; omega⟩
theorem gd_loc {l : Int} (h : Wl.locOk l = true) : Gd 1 (Wl.locT l) := by
  obtain ⟨d, rfl⟩ := loc_at h
  have := loc_all d
  exact ⟨this.1, this.2.1, by decide, by decide, fun h => by cases h⟩
theorem sgn_all : ∀ d : Fin 11, kind ((Wl.sgnT ((d.val : Int) + 1)).data.toList ++ [32]) = 3 ∧ tsize ((Wl.sgnT ((d.val : Int) + 1)).data.toList ++ [32]) = (Wl.sgnT ((d.val : Int) + 1)).data.toList.length ∧ opB (Wl.sgnT ((d.val : Int) + 1)) = true ∧ opV (Wl.sgnT ((d.val : Int) + 1)) = (d.val : Int) + 1 := by decide +kernel
theorem sgn_at {k : Int} (h : Wl.signOk k = true) : ∃ d : Fin 11, k = (d.val : Int) + 1 := by
  unfold Wl.signOk at h
  rw [Bool.and_eq_true, decide_eq_true_eq, decide_eq_true_eq] at h
  exact ⟨⟨(k - 1).toNat, by omega⟩, by show k = ((k - 1).toNat : Int) + 1; omega⟩
theorem gd_sgn {k : Int} (h : Wl.signOk k = true) : Gd 3 (Wl.sgnT k) := by
  obtain ⟨d, rfl⟩ := sgn_at h
  have := sgn_all d
  exact ⟨this.1, this.2.1, by decide, by decide, fun h => by cases h⟩
theorem gEq : Gd 3 xEq := ⟨by decide, by decide, by decide, by decide, fun h => by cases h⟩
theorem gEqq : Gd 3 xEqq := ⟨by decide, by decide, by decide, by decide, fun h => by cases h⟩
theorem gColon : Gd 3 xColon := ⟨by decide, by decide, by decide, by decide, fun h => by cases h⟩
theorem gSemi : Gd 3 xSemi := ⟨by decide, by decide, by decide, by decide, fun h => by cases h⟩
theorem gOpen : Gd 3 xOpen := ⟨by decide, by decide, by decide, by decide, fun h => by cases h⟩
theorem gShut : Gd 3 xShut := ⟨by decide, by decide, by decide, by decide, fun h => by cases h⟩
theorem gAnd : Gd 3 xAnd := ⟨by decide, by decide, by decide, by decide, fun h => by cases h⟩
theorem gOr : Gd 3 xOr := ⟨by decide, by decide, by decide, by decide, fun h => by cases h⟩
theorem gTest : Gd 1 xTest := ⟨by decide, by decide, by decide, by decide, fun h => by cases h⟩
theorem gInit : Gd 1 xInit := ⟨by decide, by decide, by decide, by decide, fun h => by cases h⟩
theorem gThread : Gd 1 xThread := ⟨by decide, by decide, by decide, by decide, fun h => by cases h⟩
theorem gExists : Gd 1 xExists := ⟨by decide, by decide, by decide, by decide, fun h => by cases h⟩
theorem gForall : Gd 1 xForall := ⟨by decide, by decide, by decide, by decide, fun h => by cases h⟩
theorem gStore : Gd 1 xStore := ⟨by decide, by decide, by decide, by decide, fun h => by cases h⟩
theorem gFence : Gd 1 xFence := ⟨by decide, by decide, by decide, by decide, fun h => by cases h⟩
theorem gSkip : Gd 1 xSkip := ⟨by decide, by decide, by decide, by decide, fun h => by cases h⟩
theorem gLoad : Gd 1 xLoad := ⟨by decide, by decide, by decide, by decide, fun h => by cases h⟩
theorem gCas : Gd 1 xCas := ⟨by decide, by decide, by decide, by decide, fun h => by cases h⟩
theorem gIf : Gd 1 xIf := ⟨by decide, by decide, by decide, by decide, fun h => by cases h⟩
theorem chs_run : ∀ (l m : List UInt8) (i : Nat), Wl.chsOk (i + 1) l = true → runL (l ++ m) = l.length + runL m
  | [], m, _, _ => by simp
  | c :: r, m, i, h => by
    rw [Wl.chsOk, Bool.and_eq_true] at h
    have hw : wordN c.toNat = true := by
      have h1 := h.1
      unfold Wl.chOk Wl.locOk at h1
      unfold wordN letN digN
      simp only [Bool.or_eq_true, Bool.and_eq_true, decide_eq_true_eq] at h1 ⊢
      omega
    rw [List.cons_append]
    simp only [runL, hw, if_true, List.length_cons]
    rw [chs_run r m (i + 1) h.2]
    omega
theorem gd_name {s : ByteArray} (h : Wl.wordOk s = true) : Gd 1 s := by
  unfold Wl.wordOk at h
  rw [Bool.and_eq_true, decide_eq_true_eq, size_list] at h
  obtain ⟨h1, h2⟩ := h
  generalize hl : s.data.toList = l at h1 h2
  cases l with
  | nil => simp at h2
  | cons c r =>
    rw [Wl.chsOk, Bool.and_eq_true] at h1
    have hc : letN c.toNat = true := by
      have h1 := h1.1
      unfold Wl.chOk Wl.locOk at h1
      unfold letN
      simp only [Bool.or_eq_true, Bool.and_eq_true, decide_eq_true_eq] at h1 ⊢
      omega
    have hr := chs_run r [32] 0 h1.2
    refine ⟨?_, ?_, by decide, by decide, fun h => by cases h⟩
    · rw [hl, List.cons_append, kind_cons, if_pos hc]
    · rw [hl, List.cons_append, tsize_cons, if_pos hc, hr, List.length_cons]
      simp [runL, wordN, letN, digN]
      omega
/-- A number is no word. -/
theorem num_isnt {n : Int} {x : ByteArray} (h : B6 n) (hx : kind (x.data.toList ++ [32]) ≠ 2) : ((Wl.numT n).data.toList == x.data.toList) = false := by
  rw [beq_eq_false_iff_ne]
  intro e
  apply hx
  rw [← e]
  exact (gd_num h).k

/-! What is taken. -/
section
variable {s : ByteArray} {S : St} {L : List ByteArray}
theorem st_num {n : Int} (h : Stand s S (Wl.numT n :: L)) (hn : B6 n) : (numP s S).1 = n ∧ Stand s (numP s S).2 L := by
  have g := gd_num hn
  unfold numP
  rw [h.tt g, g.n rfl, if_pos rfl]
  exact ⟨pN_num hn, h.nx g⟩
theorem st_upto {n : Int} {m : Int} {c : Nat} (h : Stand s S (Wl.numT n :: L)) (hn : B6 n) (h0 : 0 ≤ n) (h1 : n ≤ m) : (uptoP s m c S).1 = n ∧ Stand s (uptoP s m c S).2 L := by
  have g := gd_num hn
  unfold uptoP
  rw [if_neg]
  · exact st_num h hn
  · unfold outB
    rw [h.tt g, pN_num hn]
    simp
    omega
theorem st_reg {r : Int} (h : Stand s S (Wl.regT r :: L)) (hr : Wl.regOk r = true) : (regP s S).1 = r ∧ Stand s (regP s S).2 L := by
  have g := gd_reg hr
  have h1 := h.tt g
  have h2 := h.nx g
  obtain ⟨d, rfl⟩ := reg_at hr
  have := reg_all d
  unfold regP namedP
  rw [h1, this.2.2.1, if_pos rfl]
  exact ⟨this.2.2.2.1, h2⟩
theorem st_loc {l : Int} (h : Stand s S (Wl.locT l :: L)) (hr : Wl.locOk l = true) : (locP s S).1 = l ∧ Stand s (locP s S).2 L := by
  have g := gd_loc hr
  have h0 := h.kk g
  have h1 := h.tt g
  have h2 := h.nx g
  obtain ⟨d, rfl⟩ := loc_at hr
  have := loc_all d
  unfold locP namedP
  rw [h0, h1, this.2.2.1, if_pos rfl]
  exact ⟨this.2.2.2.1, h2⟩
theorem opd_cases {o : Opd} (h : Wl.opdOk (cO o) = true) : (o.r = -1 ∧ Wl.opdT (cO o) = Wl.numT o.v) ∨ (o.v = 0 ∧ Wl.regOk o.r = true ∧ Wl.opdT (cO o) = Wl.regT o.r) := by
  unfold Wl.opdOk cO at h
  simp only [Bool.or_eq_true, Bool.and_eq_true, beq_iff_eq] at h
  unfold Wl.opdT cO
  rcases h with h | h
  · exact Or.inl ⟨h, by rw [if_pos (by show o.r < 0; omega)]⟩
  · have h2 := h.2
    unfold Wl.regOk at h2
    rw [Bool.and_eq_true, decide_eq_true_eq, decide_eq_true_eq] at h2
    exact Or.inr ⟨h.1, h.2, by rw [if_neg (by show ¬ o.r < 0; omega)]⟩
theorem gd_opd {o : Opd} (h : Wl.opdOk (cO o) = true) (hb : B6 o.v) : ∃ K, Gd K (Wl.opdT (cO o)) := by
  rcases opd_cases h with ⟨_, e⟩ | ⟨_, hr, e⟩
  · rw [e]; exact ⟨_, gd_num hb⟩
  · rw [e]; exact ⟨_, gd_reg hr⟩
theorem st_opd {o : Opd} (h : Stand s S (Wl.opdT (cO o) :: L)) (ho : Wl.opdOk (cO o) = true) (hb : B6 o.v) : (opdP s S).1 = o ∧ Stand s (opdP s S).2 L := by
  obtain ⟨r, v⟩ := o
  unfold opdP
  rcases opd_cases ho with ⟨h1, e⟩ | ⟨h1, h2, e⟩
  · rw [e] at h
    obtain ⟨k1, k2⟩ := st_num h hb
    rw [if_pos (h.kk (gd_num hb))]
    refine ⟨?_, k2⟩
    show Opd.mk (-1) (numP s S).1 = _
    rw [k1]
    simp only at h1 ⊢
    rw [h1]
  · rw [e] at h
    obtain ⟨k1, k2⟩ := st_reg h h2
    rw [if_neg (by rw [h.kk (gd_reg h2)]; decide)]
    refine ⟨?_, k2⟩
    show Opd.mk (regP s S).1 0 = _
    rw [k1]
    simp only at h1 ⊢
    rw [h1]
theorem opd_isnt {o : Opd} (h : Stand s S (Wl.opdT (cO o) :: L)) (ho : Wl.opdOk (cO o) = true) (hb : B6 o.v) : isX s xLoad S = false ∧ isX s xCas S = false := by
  rcases opd_cases ho with ⟨_, e⟩ | ⟨_, h2, e⟩
  · rw [e] at h
    exact ⟨h.isnt (gd_num hb) (num_isnt hb (by decide)), h.isnt (gd_num hb) (num_isnt hb (by decide))⟩
  · rw [e] at h
    have g := gd_reg h2
    have hA := h.is g xLoad
    have hB := h.is g xCas
    obtain ⟨d, hd⟩ := reg_at h2
    have := reg_all d
    rw [hA, hB, hd]
    exact ⟨this.2.2.2.2.2.2.2.1, this.2.2.2.2.2.2.2.2.1⟩

/-! A beginning, an instruction, an atom. -/
theorem st_ini {x : InitT} (h : Stand s S (Wl.iniTk (cN x) ++ L)) (ho : Wl.initOk (cN x) = true) (hb : B6 x.v) : (iniP s S).1 = x ∧ Stand s (iniP s S).2 (xSemi :: L) := by
  obtain ⟨l, v⟩ := x
  have h0 : Stand s S (Wl.locT l :: xEq :: Wl.numT v :: xSemi :: L) := h
  obtain ⟨a1, a2⟩ := st_loc h0 ho
  obtain ⟨b1, b2⟩ := st_num (a2.exp gEq) hb
  exact ⟨by show InitT.mk (locP s S).1 (numP s (expS s xEq (locP s S).2)).1 = _; rw [a1, b1], b2⟩
structure InsB (x : InsT) : Prop where
  a : B6 x.a.v
  b : B6 x.b.v
  n : B6 x.n
theorem reg_isnt {r : Int} (h : Stand s S (Wl.regT r :: L)) (hr : Wl.regOk r = true) : isX s xStore S = false ∧ isX s xFence S = false ∧ isX s xSkip S = false ∧ isX s xShut S = false := by
  have g := gd_reg hr
  rw [h.is g, h.is g, h.is g, h.is g]
  obtain ⟨d, rfl⟩ := reg_at hr
  have := reg_all d
  exact ⟨this.2.2.2.2.1, this.2.2.2.2.2.1, this.2.2.2.2.2.2.1, this.2.2.2.2.2.2.2.2.2⟩
theorem st_ins {x : InsT} (h : Stand s S (Wl.insTk (cI x) ++ L)) (ho : Wl.insOk (cI x) = true) (hb : InsB x) : (insP s S).1 = x ∧ Stand s (insP s S).2 (xSemi :: L) := by
  obtain ⟨k, r, l, ⟨ar, av⟩, o, ⟨br, bv⟩, n⟩ := x
  have hba : B6 av := hb.a
  have hbb : B6 bv := hb.b
  have hbn : B6 n := hb.n
  clear hb
  unfold Wl.insOk at ho
  unfold Wl.insTk at h
  simp only [cI, cO] at ho h
  by_cases h1 : k = 1
  · subst h1
    simp only [Bool.and_eq_true, beq_iff_eq, beq_self_eq_true, if_true] at ho h
    obtain ⟨⟨⟨⟨⟨⟨rfl, rfl⟩, rfl⟩, rfl⟩, rfl⟩, hl⟩, ha⟩ := ho
    have h0 : Stand s S (xStore :: Wl.locT l :: Wl.opdT (cO ⟨ar, av⟩) :: xSemi :: L) := h
    obtain ⟨a1, a2⟩ := st_loc (h0.nx gStore) hl
    obtain ⟨b1, b2⟩ := st_opd a2 ha hba
    unfold insP
    rw [h0.is gStore, if_pos (by decide)]
    exact ⟨by show InsT.mk 1 0 _ _ 0 ⟨0, 0⟩ 0 = _; rw [a1, b1], b2⟩
  by_cases h2 : k = 2
  · subst h2
    simp at ho h
    obtain ⟨⟨⟨⟨⟨⟨⟨rfl, rfl⟩, rfl⟩, rfl⟩, rfl⟩, rfl⟩, hr⟩, hl⟩ := ho
    have h0 : Stand s S (Wl.regT r :: xEq :: xLoad :: Wl.locT l :: xSemi :: L) := h
    obtain ⟨n1, n2, n3, _⟩ := reg_isnt h0 hr
    obtain ⟨a1, a2⟩ := st_reg h0 hr
    have a3 := a2.exp gEq
    obtain ⟨b1, b2⟩ := st_loc (a3.nx gLoad) hl
    unfold insP
    rw [n1, n2, n3]
    simp only [Bool.false_eq_true, if_false]
    unfold asgP
    rw [a3.is gLoad, if_pos (by decide)]
    exact ⟨by show InsT.mk 2 _ _ ⟨0, 0⟩ 0 ⟨0, 0⟩ 0 = _; rw [a1, b1], b2⟩
  by_cases h3 : k = 3
  · subst h3
    simp at ho h
    obtain ⟨⟨⟨⟨⟨⟨⟨rfl, rfl⟩, rfl⟩, rfl⟩, rfl⟩, rfl⟩, rfl⟩, rfl⟩ := ho
    have h0 : Stand s S (xFence :: xSemi :: L) := h
    unfold insP
    rw [h0.isnt gFence (by decide), h0.is gFence]
    simp only [Bool.false_eq_true, if_false]
    rw [if_pos (by decide)]
    exact ⟨rfl, h0.nx gFence⟩
  by_cases h4 : k = 4
  · subst h4
    simp at ho h
    obtain ⟨⟨⟨⟨⟨rfl, rfl⟩, hr⟩, hl⟩, ha⟩, hb⟩ := ho
    have h0 : Stand s S (Wl.regT r :: xEq :: xCas :: Wl.locT l :: Wl.opdT (cO ⟨ar, av⟩) :: Wl.opdT (cO ⟨br, bv⟩) :: xSemi :: L) := h
    obtain ⟨n1, n2, n3, _⟩ := reg_isnt h0 hr
    obtain ⟨a1, a2⟩ := st_reg h0 hr
    have a3 := a2.exp gEq
    obtain ⟨b1, b2⟩ := st_loc (a3.nx gCas) hl
    obtain ⟨c1, c2⟩ := st_opd b2 ha hba
    obtain ⟨d1, d2⟩ := st_opd c2 hb hbb
    unfold insP
    rw [n1, n2, n3]
    simp only [Bool.false_eq_true, if_false]
    unfold asgP
    rw [a3.isnt gCas (by decide), a3.is gCas]
    simp only [Bool.false_eq_true, if_false]
    rw [if_pos (by decide)]
    exact ⟨by show InsT.mk 4 _ _ _ 0 _ 0 = _; rw [a1, b1, c1, d1], d2⟩
  by_cases h5 : k = 5
  · subst h5
    simp at ho h
    obtain ⟨⟨⟨⟨rfl, rfl⟩, hr⟩, ha⟩, hs⟩ := ho
    unfold Wl.secOk at hs
    by_cases e0 : o = 0
    · subst e0
      simp at hs h
      obtain ⟨rfl, rfl⟩ := hs
      have h0 : Stand s S (Wl.regT r :: xEq :: Wl.opdT (cO ⟨ar, av⟩) :: xSemi :: L) := h
      obtain ⟨n1, n2, n3, _⟩ := reg_isnt h0 hr
      obtain ⟨a1, a2⟩ := st_reg h0 hr
      have a3 := a2.exp gEq
      obtain ⟨m1, m2⟩ := opd_isnt a3 ha hba
      obtain ⟨b1, b2⟩ := st_opd a3 ha hba
      have b3 := b2.tt gSemi
      unfold insP
      rw [n1, n2, n3]
      simp only [Bool.false_eq_true, if_false]
      unfold asgP
      rw [m1, m2]
      simp only [Bool.false_eq_true, if_false]
      unfold setP
      rw [b3, if_neg (by decide +kernel)]
      exact ⟨by show InsT.mk 5 _ 0 _ 0 ⟨-1, 0⟩ 0 = _; rw [a1, b1], b2⟩
    · simp [e0] at hs h
      have h0 : Stand s S (Wl.regT r :: xEq :: Wl.opdT (cO ⟨ar, av⟩) :: Wl.sgnT o :: Wl.opdT (cO ⟨br, bv⟩) :: xSemi :: L) := h
      obtain ⟨n1, n2, n3, _⟩ := reg_isnt h0 hr
      obtain ⟨a1, a2⟩ := st_reg h0 hr
      have a3 := a2.exp gEq
      obtain ⟨m1, m2⟩ := opd_isnt a3 ha hba
      obtain ⟨b1, b2⟩ := st_opd a3 ha hba
      have g := gd_sgn hs.1
      have b3 := b2.tt g
      obtain ⟨c1, c2⟩ := st_opd (b2.nx g) hs.2 hbb
      unfold insP
      rw [n1, n2, n3]
      simp only [Bool.false_eq_true, if_false]
      unfold asgP
      rw [m1, m2]
      simp only [Bool.false_eq_true, if_false]
      unfold setP
      obtain ⟨d, hd⟩ := sgn_at hs.1
      have hA := sgn_all d
      rw [← hd] at hA
      rw [b3, hA.2.2.1, if_pos rfl]
      exact ⟨by show InsT.mk 5 _ 0 _ _ _ 0 = _; rw [a1, b1, c1, hA.2.2.2], c2⟩
  by_cases h6 : k = 6
  · subst h6
    simp at ho h
    obtain ⟨⟨⟨⟨⟨rfl, rfl⟩, rfl⟩, hn⟩, ha⟩, hb⟩ := ho
    have h0 : Stand s S (xSkip :: Wl.numT n :: xIf :: Wl.opdT (cO ⟨ar, av⟩) :: xEqq :: Wl.opdT (cO ⟨br, bv⟩) :: xSemi :: L) := h
    obtain ⟨a1, a2⟩ := st_upto (m := 9223372036854775807) (c := 6) (h0.nx gSkip) hbn (of_decide_eq_true hn) hbn.2
    obtain ⟨b1, b2⟩ := st_opd (a2.exp gIf) ha hba
    obtain ⟨c1, c2⟩ := st_opd (b2.exp gEqq) hb hbb
    unfold insP
    rw [h0.isnt gSkip (by decide), h0.isnt gSkip (by decide), h0.is gSkip]
    simp only [Bool.false_eq_true, if_false]
    rw [if_pos (by decide)]
    exact ⟨by show InsT.mk 6 0 0 (opdP s (skA s (nx s S))).1 0 (opdP s (skB s (nx s S))).1 (uptoP s 9223372036854775807 6 (nx s S)).1 = _; rw [a1]; unfold skB skA; rw [b1, c1], c2⟩
  simp [h1, h2, h3, h4, h5, h6] at ho
theorem st_atom {x : AtomT} (h : Stand s S (Wl.atomTk (cA x) ++ L)) (ho : Wl.atomOk (cA x) = true) (hv : B6 x.v) : (atomP s S).1 = x ∧ Stand s (atomP s S).2 L := by
  obtain ⟨t, r, l, v⟩ := x
  replace hv : B6 v := hv
  unfold Wl.atomOk at ho
  unfold Wl.atomTk at h
  simp only [cA] at ho h
  unfold atomP subP
  by_cases ht : t = -1
  · subst ht
    simp at ho h
    obtain ⟨rfl, hl⟩ := ho
    have h0 : Stand s S (Wl.locT l :: xEq :: Wl.numT v :: L) := h
    obtain ⟨a1, a2⟩ := st_loc h0 hl
    obtain ⟨b1, b2⟩ := st_num (a2.exp gEq) hv
    rw [h0.kk (gd_loc hl), if_neg (by decide)]
    exact ⟨by show AtomT.mk (-1) 0 _ (numP s (expS s xEq (locP s S).2)).1 = _; rw [a1, b1], b2⟩
  · simp [ht] at ho
    obtain ⟨⟨⟨rfl, h0⟩, h9⟩, hr⟩ := ho
    replace h0 := of_decide_eq_true h0
    replace h9 := of_decide_eq_true h9
    have hn : ¬ t < 0 := by omega
    simp [hn] at h
    have hb : B6 t := ⟨by omega, by omega⟩
    have h0' : Stand s S (Wl.numT t :: xColon :: Wl.regT r :: xEq :: Wl.numT v :: L) := h
    obtain ⟨a1, a2⟩ := st_upto (m := 9) (c := 7) h0' hb h0 h9
    obtain ⟨b1, b2⟩ := st_reg (a2.exp gColon) hr
    obtain ⟨c1, c2⟩ := st_num (b2.exp gEq) hv
    rw [h0'.kk (gd_num hb), if_pos rfl]
    exact ⟨by show AtomT.mk _ _ 0 (numP s (expS s xEq (regP s (expS s xColon (uptoP s 9 7 S).2)).2)).1 = _; rw [a1, b1, c1], c2⟩
end

/-! Rows of these. -/
section
variable {s : ByteArray}
theorem st_blk {α : Type} {f : St → α × St} (hf : Goes s f) (tkf : α → List ByteArray) (P : α → Prop)
    (hx : ∀ x S L, P x → Stand s S (tkf x ++ L) → (f S).1 = x ∧ Stand s (f S).2 (xSemi :: L) ∧ isX s xShut S = false ∧ flB S = false) :
    ∀ (M : List α) (S : St) (L : List ByteArray), (∀ x ∈ M, P x) → Stand s S (M.flatMap tkf ++ (xShut :: L)) → (blkP s f S).1 = M ∧ Stand s (blkP s f S).2 L
  | [], S, L, _, h => by
    have h' : Stand s S (xShut :: L) := h
    rw [blk_end s (h'.fl gShut) (by rw [h'.is gShut]; decide)]
    exact ⟨rfl, h'.nx gShut⟩
  | x :: M, S, L, hp, h => by
    rw [List.flatMap_cons, List.append_assoc] at h
    obtain ⟨a1, a2, a3, a4⟩ := hx x S _ (hp x (by simp)) h
    obtain ⟨b1, b2⟩ := st_blk hf tkf P hx M _ L (fun y hy => hp y (by simp [hy])) (a2.exp gSemi)
    rw [blk_on s hf h.vd a4 a3, a1, b1]
    exact ⟨rfl, b2⟩
theorem st_more {α : Type} {f : St → α × St} (hf : Goes s f) {y : ByteArray} (hy : y.toList ≠ []) {Ky : Nat} (gy : Gd Ky y) (tkf : α → List ByteArray) (P : α → Prop) (Q : List ByteArray → Prop) (hQ : ∀ L, Q (y :: L))
    (hx : ∀ x S L, P x → Q L → Stand s S (tkf x ++ L) → (f S).1 = x ∧ Stand s (f S).2 L) :
    ∀ (M : List α) (S : St) (L : List ByteArray), (∀ x ∈ M, P x) → Q L → (∀ S', Stand s S' L → isX s y S' = false) → Stand s S (M.flatMap (fun x => y :: tkf x) ++ L) → (moreP s f y S).1 = M ∧ Stand s (moreP s f y S).2 L
  | [], S, L, _, _, hL, h => by
    rw [more_end s (hL S h)]
    exact ⟨rfl, h⟩
  | x :: M, S, L, hp, qL, hL, h => by
    rw [List.flatMap_cons, List.append_assoc, List.cons_append] at h
    have hm : Q (M.flatMap (fun x => y :: tkf x) ++ L) := by
      cases M with
      | nil => exact qL
      | cons z M => exact hQ _
    obtain ⟨a1, a2⟩ := hx x _ _ (hp x (by simp)) hm (h.nx gy)
    obtain ⟨b1, b2⟩ := st_more hf hy gy tkf P Q hQ hx M _ L (fun z hz => hp z (by simp [hz])) qL hL a2
    rw [more_on s hf hy h.vd (by rw [h.is gy]; exact beq_self_eq_true _), a1, b1]
    exact ⟨rfl, b2⟩
theorem row_flat : ∀ (r : List AtomT), Wl.rowTk Wl.xAnd (r.map cA) = r.flatMap (fun x => xAnd :: Wl.atomTk (cA x))
  | [] => rfl
  | x :: r => by rw [List.map_cons, Wl.rowTk, row_flat r, List.flatMap_cons]; rfl
def AtomG (x : AtomT) : Prop := Wl.atomOk (cA x) = true ∧ B6 x.v
def RowG (r : List AtomT) : Prop := ∃ x q, r = x :: q ∧ ∀ y ∈ r, AtomG y
/-- A row behind the sign ahead of it. -/
def rowT (r : List AtomT) : List ByteArray := match r with
  | [] => []
  | x :: q => Wl.atomTk (cA x) ++ q.flatMap (fun x => xAnd :: Wl.atomTk (cA x))
theorem st_row {r : List AtomT} {S : St} {L : List ByteArray} (hr : RowG r) (hL : ∀ S', Stand s S' L → isX s xAnd S' = false) (h : Stand s S (rowT r ++ L)) : (rowP s S).1 = r ∧ Stand s (rowP s S).2 L := by
  obtain ⟨x, q, rfl, hq⟩ := hr
  unfold rowT at h
  simp only [List.append_assoc] at h
  have hx := hq x (by simp)
  obtain ⟨a1, a2⟩ := st_atom h hx.1 hx.2
  obtain ⟨b1, b2⟩ := st_more (goes_atom s) (ne_nil _ _) gAnd (fun x => Wl.atomTk (cA x)) AtomG (fun _ => True) (fun _ => trivial) (fun x S L hx _ h => st_atom h hx.1 hx.2) q _ L (fun y hy => hq y (by simp [hy])) trivial hL a2
  show (prtP s (atomP s) xAnd S).1 = _ ∧ Stand s (prtP s (atomP s) xAnd S).2 L
  unfold prtP
  rw [a1]
  simp only
  rw [b1]
  exact ⟨rfl, b2⟩
theorem any_flat {ahead : ByteArray} : ∀ (M : List (List AtomT)), (∀ r ∈ M, RowG r) → Wl.anyTk Wl.xOr (M.map fun L => L.map cA) = M.flatMap (fun r => xOr :: rowT r)
  | [], _ => rfl
  | r :: M, h => by
    obtain ⟨x, q, rfl, _⟩ := h r (by simp)
    rw [List.map_cons, Wl.anyTk, any_flat (ahead := ahead) M fun y hy => h y (by simp [hy]), List.flatMap_cons, List.map_cons, Wl.rowTk, row_flat]
    rfl
theorem st_any {r : List AtomT} {M : List (List AtomT)} {S : St} {L : List ByteArray} (hr : RowG r) (hM : ∀ q ∈ M, RowG q) (h : Stand s S (rowT r ++ (M.flatMap (fun r => xOr :: rowT r) ++ (xSemi :: L)))) : (rowsP s S).1 = r :: M ∧ Stand s (rowsP s S).2 (xSemi :: L) := by
  have hsemi : ∀ (y : ByteArray), (xSemi.data.toList == y.data.toList) = false → ∀ S', Stand s S' (xSemi :: L) → isX s y S' = false := fun y hy S' h => by rw [h.is gSemi, hy]
  have hor : ∀ (L' : List ByteArray), ∀ S', Stand s S' (xOr :: L') → isX s xAnd S' = false := fun L' S' h => by rw [h.is gOr]; decide
  have hL : ∀ S', Stand s S' (M.flatMap (fun r => xOr :: rowT r) ++ (xSemi :: L)) → isX s xAnd S' = false := by
    cases M with
    | nil => exact hsemi xAnd (by decide)
    | cons q M => exact hor _
  obtain ⟨a1, a2⟩ := st_row hr hL h
  obtain ⟨b1, b2⟩ := st_more (goes_row s) (ne_nil _ _) gOr rowT RowG (fun L => ∀ S', Stand s S' L → isX s xAnd S' = false) hor (fun x S L' hx hm h => st_row hx hm h) M _ (xSemi :: L) hM (hsemi xAnd (by decide)) (hsemi xOr (by decide)) a2
  show (prtP s (rowP s) xOr S).1 = _ ∧ Stand s (prtP s (rowP s) xOr S).2 _
  unfold prtP
  rw [a1]
  simp only
  rw [b1]
  exact ⟨rfl, b2⟩
def CondG (c : CondT) : Prop := (c.k = 0 ∧ c.any = []) ∨ ((c.k = 1 ∨ c.k = 2) ∧ ∃ r M, c.any = r :: M ∧ ∀ q ∈ c.any, RowG q)
def cC (c : CondT) : Wl.CondT := ⟨c.k, c.any.map (fun L => L.map cA)⟩
theorem st_cond {c : CondT} {S : St} {L : List ByteArray} (hc : CondG c) (h : Stand s S (Wl.condTk (cC c) ++ (xShut :: L))) : (condP s S).1 = c ∧ Stand s (condP s S).2 (xShut :: L) := by
  obtain ⟨k, any⟩ := c
  unfold condP
  rcases hc with ⟨h0, ha⟩ | ⟨hk, r, M, ha, hq⟩
  · simp only at h0 ha
    subst h0 ha
    have h' : Stand s S (xShut :: L) := h
    rw [h'.isnt gShut (by decide), h'.isnt gShut (by decide)]
    exact ⟨rfl, h'⟩
  · simp only at hk ha hq
    subst ha
    have hr := hq r (by simp)
    have hM : ∀ q ∈ M, RowG q := fun q hq' => hq q (by simp [hq'])
    have key : ∀ a : ByteArray, Wl.anyTk a ((r :: M).map fun L => L.map cA) ++ [Wl.xEnd] ++ (xShut :: L) = a :: (rowT r ++ (M.flatMap (fun r => xOr :: rowT r) ++ (xSemi :: xShut :: L))) := by
      intro a
      obtain ⟨x, q, rfl, _⟩ := hr
      rw [List.map_cons, Wl.anyTk, any_flat (ahead := a) M hM, List.map_cons, Wl.rowTk, row_flat]
      unfold rowT
      simp only [List.append_assoc, List.cons_append]
      rfl
    unfold Wl.condTk cC at h
    simp only at h
    rcases hk with rfl | rfl
    · rw [if_neg (by decide), if_pos (by decide), key] at h
      have h' : Stand s S (xExists :: _) := h
      obtain ⟨a1, a2⟩ := st_any hr hM (h'.nx gExists)
      rw [h'.is gExists, if_pos (by decide), a1]
      exact ⟨rfl, a2.exp gSemi⟩
    · rw [if_neg (by decide), if_neg (by decide), key] at h
      have h' : Stand s S (xForall :: _) := h
      obtain ⟨a1, a2⟩ := st_any hr hM (h'.nx gForall)
      rw [h'.isnt gForall (by decide), h'.is gForall]
      simp only [Bool.false_eq_true, if_false]
      rw [if_pos (by decide), a1]
      exact ⟨rfl, a2.exp gSemi⟩
def IniG (x : InitT) : Prop := Wl.initOk (cN x) = true ∧ B6 x.v
def InsG (x : InsT) : Prop := Wl.insOk (cI x) = true ∧ InsB x
theorem ini_head {x : InitT} {S : St} {L : List ByteArray} (hx : IniG x) (h : Stand s S (Wl.iniTk (cN x) ++ L)) : isX s xShut S = false ∧ flB S = false := by
  have h0 : Stand s S (Wl.locT x.l :: _) := h
  have hl : Wl.locOk x.l = true := hx.1
  have g := gd_loc hl
  refine ⟨?_, h0.fl g⟩
  rw [h0.is g]
  obtain ⟨d, hd⟩ := loc_at hl
  rw [hd]
  exact (loc_all d).2.2.2.2
theorem ins_head {x : InsT} {S : St} {L : List ByteArray} (hx : InsG x) (h : Stand s S (Wl.insTk (cI x) ++ L)) : isX s xShut S = false ∧ flB S = false := by
  have ho := hx.1
  unfold Wl.insOk at ho
  unfold Wl.insTk at h
  have key : ∀ {L' : List ByteArray} {r : Int}, Wl.regOk r = true → Stand s S (Wl.regT r :: L') → isX s xShut S = false ∧ flB S = false := fun hr h => ⟨(reg_isnt h hr).2.2.2, h.fl (gd_reg hr)⟩
  by_cases h1 : (cI x).k = 1
  · simp [h1] at h
    have h0 : Stand s S (xStore :: _) := h
    exact ⟨h0.isnt gStore (by decide), h0.fl gStore⟩
  by_cases h2 : (cI x).k = 2
  · simp [h2] at ho h
    exact key ho.1.2 h
  by_cases h3 : (cI x).k = 3
  · simp [h3] at h
    have h0 : Stand s S (xFence :: _) := h
    exact ⟨h0.isnt gFence (by decide), h0.fl gFence⟩
  by_cases h4 : (cI x).k = 4
  · simp [h4] at ho h
    exact key ho.1.1.1.2 h
  by_cases h5 : (cI x).k = 5
  · simp [h5] at ho h
    by_cases e0 : (cI x).o = 0
    · simp [e0] at h
      exact key ho.1.1.2 h
    · simp [e0] at h
      exact key ho.1.1.2 h
  by_cases h6 : (cI x).k = 6
  · simp [h6] at h
    have h0 : Stand s S (xSkip :: _) := h
    exact ⟨h0.isnt gSkip (by decide), h0.fl gSkip⟩
  simp [h1, h2, h3, h4, h5, h6] at ho
structure TestG (t : TestT) : Prop where
  name : Wl.wordOk t.name = true
  ini : ∀ x ∈ t.ini, IniG x
  thr : ∀ M ∈ t.thr, ∀ x ∈ M, InsG x
  cond : CondG t.cond
def insBT (M : List InsT) : List ByteArray := xOpen :: (M.flatMap (fun x => Wl.insTk (cI x)) ++ [xShut])
theorem st_insB {M : List InsT} {S : St} {L : List ByteArray} (hM : ∀ x ∈ M, InsG x) (h : Stand s S (insBT M ++ L)) : (insB s S).1 = M ∧ Stand s (insB s S).2 L := by
  unfold insBT at h
  rw [List.cons_append, List.append_assoc] at h
  exact st_blk (goes_ins s) (fun x => Wl.insTk (cI x)) InsG (fun x S L hx h => ⟨(st_ins h hx.1 hx.2).1, (st_ins h hx.1 hx.2).2, (ins_head hx h).1, (ins_head hx h).2⟩) M _ L hM (h.exp gOpen)
theorem cond_head (c : CondT) (hc : CondG c) (L : List ByteArray) (S : St) (h : Stand s S (Wl.condTk (cC c) ++ (xShut :: L))) : isX s xThread S = false ∧ isX s xInit S = false := by
  obtain ⟨k, any⟩ := c
  rcases hc with ⟨h0, ha⟩ | ⟨hk, r, M, ha, hq⟩
  · simp only at h0 ha
    subst h0 ha
    have h' : Stand s S (xShut :: L) := h
    exact ⟨h'.isnt gShut (by decide), h'.isnt gShut (by decide)⟩
  · simp only at hk ha hq
    subst ha
    obtain ⟨x, q, rfl, _⟩ := hq r (by simp)
    unfold Wl.condTk cC at h
    simp only at h
    rcases hk with rfl | rfl
    · rw [if_neg (by decide), if_pos (by decide)] at h
      have h' : Stand s S (xExists :: _) := h
      exact ⟨h'.isnt gExists (by decide), h'.isnt gExists (by decide)⟩
    · rw [if_neg (by decide), if_neg (by decide)] at h
      have h' : Stand s S (xForall :: _) := h
      exact ⟨h'.isnt gForall (by decide), h'.isnt gForall (by decide)⟩
theorem st_end {S : St} (h : Stand s S []) : endS s S = S ∧ flB S = false := by
  obtain ⟨a, g, l, rfl, ha, hg, hs, hl⟩ := h
  have hl' : l = [] := hl
  subst hl'
  have hz := congrArg List.length hs
  rw [suf_length, List.append_nil] at hz
  have hp : pl s a = s.size := by
    unfold pl
    rw [hs, gap_bl _ _ hg]
    simp only [gap]
    omega
  have hk : kd s a = 4 := by unfold kd; rw [hp, suf_ge (Nat.le_refl _)]; rfl
  have he : eC pB s a = 0 := by unfold eC; rw [hk]; rfl
  rw [norm_ok s he]
  have hk' : tokK s (.ok a) = 4 := hk
  unfold endS
  rw [if_pos hk']
  exact ⟨rfl, rfl⟩
/-- The whole: tokens of a test that may be, blanks behind each. -/
theorem back_is {t : TestT} (ht : TestG t) (hs : Sp (Wl.testTk (cT t)) s.data.toList) : ∃ S, testP s (startS s) = (t, S) ∧ flB S = false := by
  obtain ⟨nm, ini, thr, c⟩ := t
  have h0 : Stand s (startS s) (Wl.testTk (cT ⟨nm, ini, thr, c⟩)) := ⟨0, [], s.data.toList, rfl, Nat.zero_le _, fun _ h => by simp at h, rfl, hs⟩
  have e0 : Wl.testTk (cT ⟨nm, ini, thr, c⟩) = xTest :: nm :: xOpen :: ((if 0 < ini.length then xInit :: xOpen :: (ini.flatMap (fun x => Wl.iniTk (cN x)) ++ [xShut]) else []) ++ (thr.flatMap (fun M => xThread :: insBT M) ++ (Wl.condTk (cC c) ++ [xShut]))) := by
    unfold Wl.testTk cT
    simp only [List.length_map, List.flatMap_map, Wl.blockTk, List.append_assoc, List.cons_append, List.nil_append]
    rfl
  rw [e0] at h0
  have g := gd_name ht.name
  have a1 := h0.exp gTest
  have a2 := a1.kk g
  have a3 := a1.tt g
  have a4 := a1.nx g
  have hN : nameP s (expS s xTest (startS s)) = (nm, Go.Proofs.YtacflahkofmcpaaGreatDoor.nx s (expS s xTest (startS s))) := by unfold nameP; rw [a2, if_pos rfl, a3]
  have a5 := a4.exp gOpen
  have hH : hdS s (startS s) = (nm, expS s xOpen (Go.Proofs.YtacflahkofmcpaaGreatDoor.nx s (expS s xTest (startS s)))) := by unfold hdS; rw [hN]
  generalize expS s xOpen (Go.Proofs.YtacflahkofmcpaaGreatDoor.nx s (expS s xTest (startS s))) = S1 at *
  have hI : (initP s S1).1 = ini ∧ Stand s (initP s S1).2 (thr.flatMap (fun M => xThread :: insBT M) ++ (Wl.condTk (cC c) ++ [xShut])) := by
    unfold initP
    cases ini with
    | nil =>
      have h' : Stand s S1 (thr.flatMap (fun M => xThread :: insBT M) ++ (Wl.condTk (cC c) ++ [xShut])) := a5
      have hx : isX s xInit S1 = false := by
        cases thr with
        | nil => exact (cond_head c ht.cond [] S1 h').2
        | cons M thr =>
          have h'' : Stand s S1 (xThread :: _) := h'
          exact h''.isnt gThread (by decide)
      rw [hx]
      exact ⟨rfl, h'⟩
    | cons x ini =>
      rw [if_pos (by simp), List.cons_append, List.cons_append, List.append_assoc] at a5
      rw [a5.is gInit, if_pos (by decide)]
      exact st_blk (goes_ini s) (fun x => Wl.iniTk (cN x)) IniG (fun x S L hx h => ⟨(st_ini h hx.1 hx.2).1, (st_ini h hx.1 hx.2).2, (ini_head hx h).1, (ini_head hx h).2⟩) (x :: ini) _ _ ht.ini ((a5.nx gInit).exp gOpen)
  obtain ⟨i1, i2⟩ := hI
  have hT := st_more (goes_insB s) (ne_nil _ _) gThread insBT (fun M => ∀ x ∈ M, InsG x) (fun _ => True) (fun _ => trivial) (fun M S L hM _ h => st_insB hM h) thr _ _ ht.thr trivial (fun S' h' => (cond_head c ht.cond [] S' h').1) i2
  obtain ⟨t1, t2⟩ := hT
  obtain ⟨c1, c2⟩ := st_cond ht.cond t2
  obtain ⟨f1, f2⟩ := st_end (c2.exp gShut)
  refine ⟨endS s (expS s xShut (condP s (thrP s (initP s S1).2).2).2), ?_, ?_⟩
  · unfold testP
    rw [hH]
    simp only
    have t1' : (thrP s (initP s S1).2).1 = thr := t1
    have c1' : (condP s (thrP s (initP s S1).2).2).1 = c := c1
    rw [i1, t1', c1']
  · show flB (endS s (expS s xShut (condP s (moreP s (insB s) xThread (initP s S1).2).2).2)) = false
    rw [f1]
    exact f2
theorem back_parse {t : TestT} (ht : TestG t) (hs : Sp (Wl.testTk (cT t)) s.data.toList) (hz : s.size ≤ 4000) : parseP s = (t, 0, 0) := by
  obtain ⟨S, h1, h2⟩ := back_is ht hs
  unfold parseP
  rw [if_neg (by omega), h1]
  unfold endP
  rw [h2]
  rfl
end
/-- What may be, with numbers in bounds, is what the above asks. -/
theorem testG_of {t : TestT} (h : Wl.testOk (cT t) = true) (b1 : ∀ x ∈ t.ini, B6 x.v) (b2 : ∀ M ∈ t.thr, ∀ x ∈ M, InsB x) (b3 : ∀ r ∈ t.cond.any, ∀ x ∈ r, B6 x.v) : TestG t := by
  unfold Wl.testOk cT at h
  simp only [Bool.and_eq_true, List.all_map, List.all_eq_true, Function.comp_apply] at h
  obtain ⟨⟨⟨h1, h2⟩, h3⟩, h4⟩ := h
  refine ⟨h1, fun x hx => ⟨h2 x hx, b1 x hx⟩, fun M hM x hx => ⟨?_, b2 M hM x hx⟩, ?_⟩
  · have := h3 M hM
    unfold Wl.threadOk at this
    simp only [List.all_map, List.all_eq_true, Function.comp_apply] at this
    exact this x hx
  · unfold Wl.condOk at h4
    simp only at h4
    by_cases h0 : t.cond.k = 0
    · rw [h0] at h4
      simp at h4
      exact Or.inl ⟨h0, h4⟩
    · have e0 : (t.cond.k == 0) = false := by rw [beq_eq_false_iff_ne]; exact h0
      rw [e0] at h4
      simp only [Bool.false_eq_true, if_false] at h4
      split at h4
      · rename_i hk
        simp only [Bool.or_eq_true, beq_iff_eq] at hk
        simp only [Bool.and_eq_true, List.all_map, List.all_eq_true, Function.comp_apply, decide_eq_true_eq, List.length_map] at h4
        refine Or.inr ⟨hk, ?_⟩
        have hq : ∀ q ∈ t.cond.any, RowG q := by
          intro q hq
          have := h4.2 q hq
          unfold Wl.rowOk at this
          simp only [Bool.and_eq_true, List.all_map, List.all_eq_true, Function.comp_apply, decide_eq_true_eq, List.length_map] at this
          cases q with
          | nil => simp at this
          | cons x q => exact ⟨x, q, rfl, fun y hy => ⟨this.2 y hy, b3 _ hq y hy⟩⟩
        cases ha : t.cond.any with
        | nil => rw [ha] at h4; simp at h4
        | cons r M => exact ⟨r, M, rfl, by rw [← ha]; exact hq⟩
      · cases h4
/-- A printed text is such a text. -/
theorem sp_flat : ∀ L : List ByteArray, Sp L (L.flatMap Wl.chunk)
  | [] => rfl
  | x :: L => by
    refine ⟨Wl.gapB x, [], L.flatMap Wl.chunk, ?_, fun _ h => by simp at h, ?_, sp_flat L⟩
    · unfold Wl.gapB; split <;> decide
    · rw [List.flatMap_cons]
      unfold Wl.chunk
      simp
end Go.Proofs.YtacflahkofmcpaaGreatDoor
