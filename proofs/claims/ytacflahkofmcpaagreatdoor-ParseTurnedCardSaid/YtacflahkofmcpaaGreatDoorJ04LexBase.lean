/- What Parse answers, in the numeral's own words: a text is a number just if it is that number's numeral. -/
import Derived.Test.YtacflahkofmcpaaGreatDoorJ02Canon
import Derived.IntWalk
import Derived.Test.YtacflahkofmcpaaGreatDoorRefNum
import Derived.Lib.IndexBytes
import Derived.Test.YtacflahkofmcpaaGreatDoorProg
import Derived.Test.YtacflahkofmcpaaGreatDoorJ00LexPure
import Derived.WalkKit
import Derived.WalkSpells
import Derived.WalkLawsBesides
import Derived.WalkSmall
import Derived.Maps.AppendAt
namespace Go.Proofs.YtacflahkofmcpaaGreatDoor

theorem parseV_itoa {l : List UInt8} (v : Int) (h0 : -9223372036854775808 ≤ v) (h1 : v ≤ 9223372036854775807) (h : Lib.itoa v = l) : parseV l = some v := by
  subst h
  unfold parseV
  rw [parse_itoa v h0 h1]
  simp
theorem parseV_of {l : List UInt8} {v : Int} (h : parseV l = some v) : Lib.itoa v = l := by
  unfold parseV at h
  split at h
  · split at h
    · rename_i e; obtain rfl := Option.some.inj h; exact e
    · cases h
  · cases h
theorem parseV_range {l : List UInt8} (h : Lib.parseIntB 64 l = .range) : parseV l = none := by unfold parseV; rw [h]
theorem parseV_no {l : List UInt8} (h : (match Lib.parseIntB 64 l with | .ok _ => true | _ => false) = false) : parseV l = none := by
  unfold parseV
  split
  · rename_i e; rw [e] at h; cases h
  · rfl

theorem parseV_bound {l : List UInt8} {v : Int} (h : parseV l = some v) : -9223372036854775808 ≤ v ∧ v ≤ 9223372036854775807 := by
  unfold parseV at h
  split at h
  · rename_i hp
    split at h
    · obtain rfl := Option.some.inj h
      exact parseIntB_bound hp
    · cases h
  · cases h

/-- Behind a minus. -/
theorem neg_yes {m : List UInt8} {u : Nat} (hne : m ≠ []) (hh : ∀ c r, m = c :: r → c.toNat ≠ 48) (h : Lib.decFrom 0 m = some u) (hu : u ≤ 9223372036854775808) : parseV (45 :: m) = some (-(u : Int)) := by
  obtain ⟨n, hn⟩ : ∃ n, m.length = n + 1 := ⟨m.length - 1, by cases m with | nil => exact absurd rfl hne | cons a r => simp⟩
  obtain ⟨e, h1⟩ := digits_of n m u hn h hh
  refine parseV_itoa _ (by omega) (by omega) ?_
  unfold Lib.itoa
  rw [if_pos (by omega), show (-(u : Int)).natAbs = u by omega, e]
theorem neg_shape {m : List UInt8} {v : Int} (h : parseV (45 :: m) = some v) : m ≠ [] ∧ m.length ≤ 19 ∧ (∀ c r, m = c :: r → c.toNat ≠ 48) ∧ ∃ u : Nat, Lib.decFrom 0 m = some u ∧ u ≤ 9223372036854775808 := by
  obtain ⟨b0, b1⟩ := parseV_bound h
  have e := parseV_of h
  by_cases hn : v < 0
  · unfold Lib.itoa at e
    rw [if_pos hn] at e
    obtain ⟨-, rfl⟩ := List.cons.inj e
    obtain ⟨d, r, ed, c1, _⟩ := digits_lead v.natAbs (by omega)
    refine ⟨by rw [ed]; simp, ?_, ?_, v.natAbs, decFrom_digits _, by omega⟩
    · rw [Lib.decDigits_length]; exact nDigits_le 18 _ (by omega)
    · intro c r' hc
      rw [ed] at hc
      obtain ⟨rfl, _⟩ := List.cons.inj hc
      omega
  · unfold Lib.itoa at e
    rw [if_neg hn] at e
    obtain ⟨d, r, ed, c1, c2, _⟩ := digits_head v.toNat
    rw [ed] at e
    obtain ⟨rfl, _⟩ := List.cons.inj e
    simp at c1
/-- Without one. -/
theorem pos_yes {m : List UInt8} {u : Nat} (hne : m ≠ []) (hh : (∀ c r, m = c :: r → c.toNat ≠ 48) ∨ m.length = 1) (h : Lib.decFrom 0 m = some u) (hu : u < 9223372036854775808) : parseV m = some (u : Int) := by
  refine parseV_itoa _ (by omega) (by omega) ?_
  unfold Lib.itoa
  rw [if_neg (by omega), show (u : Int).toNat = u by omega]
  rcases hh with hh | h1
  · obtain ⟨n, hn⟩ : ∃ n, m.length = n + 1 := ⟨m.length - 1, by cases m with | nil => exact absurd rfl hne | cons a r => simp⟩
    exact (digits_of n m u hn h hh).1
  · match m, h1 with
    | [c], _ =>
      simp only [Lib.decFrom] at h
      cases hd : Lib.digitVal c with
      | none => rw [hd] at h; cases h
      | some d =>
        rw [hd] at h
        simp only [Option.some.injEq, Nat.zero_mul, Nat.zero_add] at h
        unfold Lib.digitVal at hd
        split at hd
        · rename_i hb
          obtain rfl := Option.some.inj hd
          subst h
          rw [Lib.decDigits_one (by omega), dig_of hb.1 hb.2]
        · cases hd
theorem pos_shape {c : UInt8} {r : List UInt8} {v : Int} (hc : c.toNat ≠ 45) (h : parseV (c :: r) = some v) : (c :: r).length ≤ 19 ∧ (c.toNat = 48 → r = []) ∧ ∃ u : Nat, Lib.decFrom 0 (c :: r) = some u ∧ u < 9223372036854775808 := by
  obtain ⟨b0, b1⟩ := parseV_bound h
  have e := parseV_of h
  by_cases hn : v < 0
  · unfold Lib.itoa at e
    rw [if_pos hn] at e
    obtain ⟨rfl, _⟩ := List.cons.inj e
    exact absurd rfl hc
  · refine ⟨?_, fun h48 => ?_, v.toNat, ?_, by omega⟩
    · rw [← e]
      unfold Lib.itoa
      rw [if_neg hn, Lib.decDigits_length]
      exact nDigits_le 18 _ (by omega)
    · have : c = 48 := UInt8.toNat_inj.1 h48
      subst this
      exact itoa_lead v r e
    · rw [← e]
      unfold Lib.itoa
      rw [if_neg hn]
      exact decFrom_digits _
end Go.Proofs.YtacflahkofmcpaaGreatDoor

namespace Go.Proofs.YtacflahkofmcpaaGreatDoor

theorem list_append (a b : ByteArray) : (a ++ b).data.toList = a.data.toList ++ b.data.toList := by
  obtain ⟨⟨x⟩⟩ := a
  obtain ⟨⟨y⟩⟩ := b
  rfl
theorem size_list (a : ByteArray) : a.size = a.data.toList.length := by
  obtain ⟨⟨x⟩⟩ := a
  rfl
theorem bytes_ext {a b : ByteArray} (h : a.data.toList = b.data.toList) : a = b := by
  obtain ⟨⟨x⟩⟩ := a
  obtain ⟨⟨y⟩⟩ := b
  simp only at h
  rw [h]
end Go.Proofs.YtacflahkofmcpaaGreatDoor

namespace Go.Proofs.YtacflahkofmcpaaGreatDoor
open Go.RowKit

theorem p_none {s : ByteArray} (h : parseV s.data.toList = none) : pN s = 0 ∧ pB s = false := by unfold pN pB; rw [h]; exact ⟨rfl, rfl⟩
theorem p_some {s : ByteArray} {v : Int} (h : parseV s.data.toList = some v) : pN s = v ∧ pB s = true := by unfold pN pB; rw [h]; exact ⟨rfl, rfl⟩
theorem isEmpty_list (d : ByteArray) : d.toList.isEmpty = d.data.toList.isEmpty := by rw [ByteArray.toList_eq]
theorem head_at {d : ByteArray} {c : UInt8} {r : List UInt8} (h : d.data.toList = c :: r) : ∃ h0 : 0 < d.size, (d[0]'h0) = c := by
  have hz : 0 < d.size := by rw [size_list, h]; simp
  refine ⟨hz, ?_⟩
  have e := getElem_list d 0 hz
  rw [h] at e
  simpa using e.symm

theorem rq (s : ByteArray) (x : Int) {b : Bool} (w : World) (hP : Calls Tryz.prog 82 #[.string s] w fun e w' => e = .returned (.tuple #[.int .i64 x, .bool b]) ∧ w' = w) :
    Calls Tryz.prog 82 #[.string s] w fun e w' => ∃ x : Int, e = .returned (.tuple #[.int .i64 x, .bool b]) ∧ w' = w :=
  hP.mono fun _ _ h => ⟨x, h⟩

/-- PARSE, as the document says it, takes what num.Parse takes. -/
theorem rparse_is (s : ByteArray) (hmax : (s.size : Int) ≤ 9223372036854775807) (w : World) :
    Calls Tryz.prog 82 #[.string s] w fun e w' => ∃ x : Int, e = .returned (.tuple #[.int .i64 x, .bool (pB s)]) ∧ w' = w := by
  cases hl : s.data.toList with
  | nil =>
    obtain ⟨a, b⟩ := p_none (s := s) (by rw [hl]; rfl)
    rw [b]
    refine rq s 0 w (rp_early_pos s w hmax (Or.inl ⟨by rw [size_list, hl]; rfl, by rw [isEmpty_list, hl]; rfl⟩))
  | cons c r =>
    obtain ⟨h0, hc⟩ := head_at hl
    by_cases h45 : c.toNat = 45
    · have ec : c = 45 := UInt8.toNat_inj.1 h45
      subst ec
      have c0 : (((s[0]'h0).toNat : Int) == 45) = true := by rw [hc]; rfl
      obtain ⟨d, hx⟩ : ∃ d : ByteArray, s.extract 1 s.size = d := ⟨_, rfl⟩
      have hd : d.data.toList = r := by rw [← hx, Lib.extract_to_end, hl]; rfl
      by_cases hshape : r ≠ [] ∧ r.length ≤ 19 ∧ (∀ a b, r = a :: b → a.toNat ≠ 48)
      · obtain ⟨n1, n2, n3⟩ := hshape
        obtain ⟨a, b, er⟩ : ∃ a b, r = a :: b := by cases r with | nil => exact absurd rfl n1 | cons a b => exact ⟨a, b, rfl⟩
        obtain ⟨hd0, hda⟩ := head_at (hd.trans er)
        have hP := rp_neg s d w h0 hmax c0 hx (by rw [isEmpty_list, hd, er]; rfl) (by rw [size_list, hd]; exact n2) hd0 (by have := n3 a b er; rw [hda, beq_eq_false_iff_ne]; omega)
        rw [hd] at hP
        cases hu : Lib.decFrom 0 r with
        | none =>
          obtain ⟨x, y⟩ := ref_none (m := r) true hu
          obtain ⟨p, q⟩ := p_none (s := s) (by
            rw [hl]
            cases e : parseV (45 :: r) with
            | none => rfl
            | some v =>
              obtain ⟨_, _, _, u, hu', _⟩ := neg_shape e
              rw [hu] at hu'; cases hu')
          rw [x] at hP
          rw [q]
          exact rq s _ w hP
        | some u =>
          obtain ⟨x, y⟩ := ref_neg hu
          rw [x, y] at hP
          have hub : u < 10000000000000000000 := by
            have := Lib.decFrom_lt _ _ _ hu
            have k := Nat.pow_le_pow_right (n := 10) (by decide) n2
            omega
          by_cases hle : u ≤ 9223372036854775808
          · obtain ⟨p, q⟩ := p_some (s := s) (by rw [hl]; exact neg_yes n1 n3 hu hle)
            rw [q]
            refine rq s (-(u : Int)) w ?_
            have e1 : wrap64 (IntKind.u64.wrap (-(u : Int))) = -(u : Int) := by rw [IntKind.wrap_u64]; unfold wrap64; omega
            have e2 : decide ((u : Int) ≤ 9223372036854775808) = true := by simp; omega
            rw [e1, e2] at hP
            exact hP
          · obtain ⟨p, q⟩ := p_none (s := s) (by
              rw [hl]
              cases e : parseV (45 :: r) with
              | none => rfl
              | some v =>
                obtain ⟨_, _, _, u', hu', hle'⟩ := neg_shape e
                rw [hu] at hu'
                obtain rfl := Option.some.inj hu'
                exact absurd hle' hle)
            rw [q]
            have e2 : decide ((u : Int) ≤ 9223372036854775808) = false := by simp; omega
            rw [e2] at hP
            exact rq s _ w hP
      · obtain ⟨p, q⟩ := p_none (s := s) (by
          rw [hl]
          cases e : parseV (45 :: r) with
          | none => rfl
          | some v =>
            obtain ⟨a, b, c, _⟩ := neg_shape e
            exact absurd ⟨a, b, c⟩ hshape)
        rw [q]
        refine rq s 0 w (rp_early_neg s d w h0 hmax c0 hx ?_)
        cases r with
        | nil => exact Or.inl (by rw [isEmpty_list, hd]; rfl)
        | cons a b =>
          have ee : d.toList.isEmpty = false := by rw [isEmpty_list, hd]; rfl
          have es : d.size = (a :: b).length := by rw [size_list, hd]
          by_cases h19 : 19 < d.size
          · exact Or.inr (Or.inl ⟨ee, h19⟩)
          · obtain ⟨hd0, hda⟩ := head_at hd
            refine Or.inr (Or.inr ⟨ee, by omega, hd0, ?_⟩)
            rw [hda]
            by_cases h48 : a.toNat = 48
            · rw [h48]; rfl
            · exact absurd ⟨by simp, by omega, fun a' b' hab => by obtain ⟨rfl, _⟩ := List.cons.inj hab; exact h48⟩ hshape
    · have c0 : (((s[0]'h0).toNat : Int) == 45) = false := by rw [hc, beq_eq_false_iff_ne]; omega
      have ee : s.toList.isEmpty = false := by rw [isEmpty_list, hl]; rfl
      have es : s.size = (c :: r).length := by rw [size_list, hl]
      by_cases hshape : (c :: r).length ≤ 19 ∧ (c.toNat = 48 → r = [])
      · obtain ⟨n2, n3⟩ := hshape
        have hP := rp_pos s w h0 hmax c0 ee (by omega) (by
          by_cases h48 : c.toNat = 48
          · refine Or.inr ⟨by rw [hc, h48]; rfl, ?_⟩
            rw [es, n3 h48]; simp
          · exact Or.inl (by rw [hc, beq_eq_false_iff_ne]; omega))
        rw [hl] at hP
        cases hu : Lib.decFrom 0 (c :: r) with
        | none =>
          obtain ⟨x, y⟩ := ref_none (m := c :: r) false hu
          obtain ⟨p, q⟩ := p_none (s := s) (by
            rw [hl]
            cases e : parseV (c :: r) with
            | none => rfl
            | some v =>
              obtain ⟨_, _, u, hu', _⟩ := pos_shape h45 e
              rw [hu] at hu'; cases hu')
          rw [x] at hP
          rw [q]
          exact rq s _ w hP
        | some u =>
          obtain ⟨x, y⟩ := ref_pos hu
          rw [x, y] at hP
          have hub : u < 10000000000000000000 := by
            have := Lib.decFrom_lt _ _ _ hu
            have k := Nat.pow_le_pow_right (n := 10) (by decide) n2
            omega
          by_cases hle : u < 9223372036854775808
          · obtain ⟨p, q⟩ := p_some (s := s) (by
              rw [hl]
              refine pos_yes (by simp) ?_ hu hle
              by_cases h48 : c.toNat = 48
              · exact Or.inr (by rw [n3 h48]; rfl)
              · exact Or.inl (fun a b hab => by obtain ⟨rfl, _⟩ := List.cons.inj hab; exact h48))
            rw [q]
            refine rq s (u : Int) w ?_
            have e1 : wrap64 (u : Int) = (u : Int) := by unfold wrap64; omega
            have e2 : decide ((u : Int) < 9223372036854775808) = true := by simp; omega
            rw [e1, e2] at hP
            exact hP
          · obtain ⟨p, q⟩ := p_none (s := s) (by
              rw [hl]
              cases e : parseV (c :: r) with
              | none => rfl
              | some v =>
                obtain ⟨_, _, u', hu', hle'⟩ := pos_shape h45 e
                rw [hu] at hu'
                obtain rfl := Option.some.inj hu'
                exact absurd hle' hle)
            rw [q]
            have e2 : decide ((u : Int) < 9223372036854775808) = false := by simp; omega
            rw [e2] at hP
            exact rq s _ w hP
      · obtain ⟨p, q⟩ := p_none (s := s) (by
          rw [hl]
          cases e : parseV (c :: r) with
          | none => rfl
          | some v =>
            obtain ⟨a, b, _⟩ := pos_shape h45 e
            exact absurd ⟨a, b⟩ hshape)
        rw [q]
        refine rq s 0 w (rp_early_pos s w hmax (Or.inr ⟨h0, c0, ee, ?_⟩))
        by_cases h19 : 19 < s.size
        · exact Or.inl h19
        · by_cases h48 : c.toNat = 48
          · refine Or.inr ⟨by omega, ?_, by rw [hc, h48]; rfl⟩
            cases r with
            | nil => exact absurd ⟨by omega, fun _ => rfl⟩ hshape
            | cons a b => rw [es]; simp
          · exact absurd ⟨by omega, fun h => absurd h h48⟩ hshape
end Go.Proofs.YtacflahkofmcpaaGreatDoor

namespace Go.Proofs.YtacflahkofmcpaaGreatDoor
open Go.RowKit

/-- Block b holds a lexer: its text, its place, how far it has read. -/
structure Lx (w : World) (b : Nat) (s : ByteArray) (a r : Nat) : Prop where
  blk : ∃ T, w.heap[b]? = some (.cells #[.string s, .int .i64 a, .int .i64 r] T (0, 0))

variable {w w' : World} {b : Nat} {s : ByteArray} {a r : Nat}

theorem Lx.c0 (h : Lx w b s a r) : w.cell? ⟨b, 0, none⟩ = some (.string s) := by obtain ⟨T, h⟩ := h.blk; simp [World.cell?, h]
theorem Lx.c1 (h : Lx w b s a r) : w.cell? ⟨b, 1, none⟩ = some (.int .i64 a) := by obtain ⟨T, h⟩ := h.blk; simp [World.cell?, h]
theorem Lx.c2 (h : Lx w b s a r) : w.cell? ⟨b, 2, none⟩ = some (.int .i64 r) := by obtain ⟨T, h⟩ := h.blk; simp [World.cell?, h]
theorem Lx.f0 (h : Lx w b s a r) : w.frozen? ⟨b, 0, none⟩ = false := by obtain ⟨T, h⟩ := h.blk; simp [World.frozen?, h]
theorem Lx.f1 (h : Lx w b s a r) : w.frozen? ⟨b, 1, none⟩ = false := by obtain ⟨T, h⟩ := h.blk; simp [World.frozen?, h]
theorem Lx.f2 (h : Lx w b s a r) : w.frozen? ⟨b, 2, none⟩ = false := by obtain ⟨T, h⟩ := h.blk; simp [World.frozen?, h]
theorem Lx.lt (h : Lx w b s a r) : b < w.heap.size := by obtain ⟨T, h⟩ := h.blk; exact lt_of_block h
theorem Lx.drew (h : Lx w b s a r) : Lx w.drew b s a r := ⟨h.blk⟩

theorem heap_set {w : World} {b i : Nat} {cs : Array Value} {T : TypeId} {u : Value} (h : w.heap[b]? = some (.cells cs T (0, 0))) : (w.setCell ⟨b, i, none⟩ u).heap[b]? = some (.cells (cs.setIfInBounds i u) T (0, 0)) := by
  have hlt := lt_of_block h
  have h' : w.heap[b] = .cells cs T (0, 0) := by simpa [Array.getElem?_eq_getElem hlt] using h
  show (w.heap.modify b _)[b]? = _
  rw [Array.getElem?_eq_getElem (by simpa using hlt), Array.getElem_modify_self, h']
  rfl
theorem Lx.set1 (h : Lx w b s a r) (x : Nat) : Lx (w.setCell ⟨b, 1, none⟩ (.int .i64 x)) b s x r := by obtain ⟨T, h⟩ := h.blk; exact ⟨T, heap_set h⟩
theorem Lx.set2 (h : Lx w b s a r) (x : Nat) : Lx (w.setCell ⟨b, 2, none⟩ (.int .i64 x)) b s a x := by obtain ⟨T, h⟩ := h.blk; exact ⟨T, heap_set h⟩

theorem Lx.to1 (h : Lx w b s a r) {x : Int} {n : Nat} (e : x = n) : Lx (w.setCell ⟨b, 1, none⟩ (.int .i64 x)) b s n r := by subst e; exact h.set1 n
theorem Lx.to2 (h : Lx w b s a r) {x : Int} {n : Nat} (e : x = n) : Lx (w.setCell ⟨b, 2, none⟩ (.int .i64 x)) b s a n := by subst e; exact h.set2 n

/-- Only block b is written; new blocks may be. -/
def Wr (b : Nat) (w w' : World) : Prop := w.grownBy w' (some b)
theorem Wr.refl (b : Nat) (w : World) : Wr b w w := World.grownBy.refl _ _
theorem Wr.trans {b : Nat} {x y z : World} (h : Wr b x y) (k : Wr b y z) : Wr b x z := World.grownBy.trans h k
theorem Wr.drew {b : Nat} {x y : World} (h : Wr b x y) : Wr b x y.drew := ⟨h.os, h.tape, h.output, h.size, h.block⟩
theorem Wr.set {b i : Nat} {x y : World} (h : Wr b x y) (u : Value) : Wr b x (y.setCell ⟨b, i, none⟩ u) :=
  h.trans ⟨rfl, rfl, rfl, by simp [World.setCell], fun k _ hne => Below.heap_setCell _ _ _ _ (fun e => hne (by rw [e]))⟩

/-- Kinds of bytes. -/
def hasB (set c : Int) : Bool := bits .and .u64 (set / 2 ^ min c.toNat 64) 1 == 1
theorem has_is (set c : Int) (hc : 0 ≤ c) (w : World) :
    Calls Tryz.prog 169 #[.int .u64 set, .int .u8 c] w fun e w' => e = .returned (.bool (hasB set c)) ∧ w' = w := by
  go_enter Tryz.func169, Tryz.ntmps169
  go_wp2
  go_ret
  exact ⟨rfl, rfl⟩
theorem hasHigh_is (set c : Int) (w : World) :
    Calls Tryz.prog 180 #[.int .u64 set, .int .u8 c] w fun e w' => e = .returned (.bool (hasB set (IntKind.u8.wrap (c - 64)))) ∧ w' = w := by
  have h0 := wrap_u8_nonneg (c - 64)
  go_enter Tryz.func180, Tryz.ntmps180
  go_wp2_with (go_at_call 169; refine (has_is _ _ (by assumption) _).mono ?_; rintro e w' ⟨rfl, rfl⟩)
  go_ret
  exact ⟨rfl, rfl⟩

theorem dig_all : ∀ c : Fin 256, hasB 287948901175001088 (c.val : Int) = digN c.val := by decide +kernel
theorem let_all : ∀ c : Fin 256, hasB 576460743713488896 (IntKind.u8.wrap ((c.val : Int) - 64)) = letN c.val := by decide +kernel
theorem one_all : ∀ c : Fin 256, (hasB 4323504295665205248 (c.val : Int) || hasB 4035225267197706240 (IntKind.u8.wrap ((c.val : Int) - 64))) = oneN c.val := by decide +kernel
theorem bl_all : ∀ c : Fin 256, hasB 4294968832 (c.val : Int) = blN c.val := by decide +kernel

theorem isDigit_is (c : Nat) (hc : c ≤ 255) (w : World) :
    Calls Tryz.prog 172 #[.int .u8 c] w fun e w' => e = .returned (.bool (digN c)) ∧ w' = w := by
  have e : hasB 287948901175001088 (c : Int) = digN c := dig_all ⟨c, by omega⟩
  have hP := has_is 287948901175001088 (c : Int) (by omega) w
  rw [e] at hP
  clear e
  go_enter Tryz.func172, Tryz.ntmps172
  go_wp2_with (go_at_call 169; refine hP.mono ?_; rintro e w' ⟨rfl, rfl⟩)
  go_ret
  exact ⟨rfl, rfl⟩
theorem isLetter_is (c : Nat) (hc : c ≤ 255) (w : World) :
    Calls Tryz.prog 170 #[.int .u8 c] w fun e w' => e = .returned (.bool (letN c)) ∧ w' = w := by
  have e : hasB 576460743713488896 (IntKind.u8.wrap ((c : Int) - 64)) = letN c := let_all ⟨c, by omega⟩
  have hP := hasHigh_is 576460743713488896 (c : Int) w
  rw [e] at hP
  clear e
  go_enter Tryz.func170, Tryz.ntmps170
  go_wp2_with (go_at_call 180; refine hP.mono ?_; rintro e w' ⟨rfl, rfl⟩)
  go_ret
  exact ⟨rfl, rfl⟩
theorem hasBl_is (c : Nat) (hc : c ≤ 255) (w : World) :
    Calls Tryz.prog 169 #[.int .u64 4294968832, .int .u8 c] w fun e w' => e = .returned (.bool (blN c)) ∧ w' = w := by
  have e : hasB 4294968832 (c : Int) = blN c := bl_all ⟨c, by omega⟩
  have hP := has_is 4294968832 (c : Int) (by omega) w
  rw [e] at hP
  exact hP
theorem isSign_is (c : Nat) (hc : c ≤ 255) (w : World) :
    Calls Tryz.prog 174 #[.int .u8 c] w fun e w' => e = .returned (.bool (oneN c)) ∧ w' = w := by
  have e := one_all ⟨c, by omega⟩
  have hP := has_is 4323504295665205248 (c : Int) (by omega) w
  have hQ := hasHigh_is 4035225267197706240 (c : Int) w
  dsimp only at e
  rw [← e]
  clear e
  generalize hasB 4035225267197706240 (IntKind.u8.wrap ((c : Int) - 64)) = y at *
  generalize hasB 4323504295665205248 (c : Int) = x at *
  cases x
  all_goals
    go_enter Tryz.func174, Tryz.ntmps174
    go_wp2_with (first | (go_at_call 169; refine hP.mono ?_; rintro e w' ⟨rfl, rfl⟩) | (go_at_call 180; refine hQ.mono ?_; rintro e w' ⟨rfl, rfl⟩))
    go_ret
    exact ⟨rfl, rfl⟩

/-- How far it has read once place i was looked at. -/
def rd (s : ByteArray) (r i : Nat) : Nat := if i < s.size then max r (i + 1) else r

set_option maxHeartbeats 400000 in
theorem look_is (w : World) (b : Nat) (s : ByteArray) (a r k : Nat) (hs : s.size ≤ 140737488351232) (ha : a ≤ s.size) (hk : k ≤ s.size + 2) (hl : Lx w b s a r) :
    Calls Tryz.prog 167 #[.pointer (some ⟨b, 0, none⟩), .int .i64 k] w fun e w' => e = .returned (.int .u8 (bN s (a + k))) ∧ Lx w' b s a (rd s r (a + k)) ∧ Wr b w w' := by
  have c0 := hl.c0
  have c1 := hl.c1
  have c2 := hl.c2
  have f2 := hl.f2
  have HL : Hid (Lx w b s a r) := hl
  clear hl
  by_cases hik : a + k < s.size
  · go_enter Tryz.func167, Tryz.ntmps167
    go_wp2
    all_goals
      go_ret
      refine ⟨by rw [bN_lt hik]; rfl, ?_, (Wr.refl _ _).set _⟩
      exact HL.out.to2 (by unfold rd; rw [if_pos hik]; omega)
  · go_enter Tryz.func167, Tryz.ntmps167
    go_wp2
    go_ret
    refine ⟨?_, ?_, Wr.refl _ _⟩
    · rw [bN_ge (by omega)]; rfl
    · unfold rd; rw [if_neg hik]; exact HL.out

theorem nat_beq (x y : Nat) : ((x : Int) == (y : Int)) = decide (x = y) := by
  by_cases h : x = y
  · subst h; simp
  · rw [decide_eq_false h, beq_eq_false_iff_ne]; omega

set_option maxHeartbeats 400000 in
theorem atEnd_is (w : World) (b : Nat) (s : ByteArray) (a r : Nat) (hl : Lx w b s a r) :
    Calls Tryz.prog 166 #[.pointer (some ⟨b, 0, none⟩)] w fun e w' => e = .returned (.bool (decide (a = s.size))) ∧ Lx w' b s a r ∧ Wr b w w' := by
  have c0 := hl.c0
  have c1 := hl.c1
  have HL : Hid (Lx w b s a r) := hl
  clear hl
  go_enter Tryz.func166, Tryz.ntmps166
  go_wp2
  go_region
  all_goals (try go_wp2)
  all_goals go_ret
  refine ⟨?_, HL.out.drew, (Wr.refl _ _).drew⟩
  show Ending.returned (.bool ((a : Int) == (s.size : Int))) = _
  rw [nat_beq]
end Go.Proofs.YtacflahkofmcpaaGreatDoor
