/- The document's own Parse takes what num.Parse takes. -/
import Derived.Test.YtnfmagafajpmpaaDoorRefNum
import Derived.Test.YtnfmagafajpmpaaDoorRead
import Derived.Test.YtnfmagafajpmpaaDoorBytes
import Derived.Lib.IndexBytes
namespace Go.Proofs.YtnfmagafajpmpaaDoor
open Go.RowKit

theorem p_none {s : ByteArray} (h : parseV s.data.toList = none) : pN s = 0 ∧ pB s = false := by unfold pN pB; rw [h]; exact ⟨rfl, rfl⟩
theorem p_some {s : ByteArray} {v : Int} (h : parseV s.data.toList = some v) : pN s = v ∧ pB s = true := by unfold pN pB; rw [h]; exact ⟨rfl, rfl⟩
theorem isEmpty_list (d : ByteArray) : d.toList.isEmpty = d.data.toList.isEmpty := by rw [ByteArray.toList_eq]
theorem head_at {d : ByteArray} {c : UInt8} {r : List UInt8} (h : d.data.toList = c :: r) : ∃ h0 : 0 < d.size, (d[0]'h0) = c := by
  have hz : 0 < d.size := by rw [size_list, h]; simp
  refine ⟨hz, ?_⟩
  have e := getElem_list d 0 hz
  rw [h] at e
  simpa using e.symm

theorem rq (s : ByteArray) (x : Int) {b : Bool} (w : World) (hP : Calls Tryd.prog 15 #[.string s] w fun e w' => e = .returned (.tuple #[.int .i64 x, .bool b]) ∧ w' = w) :
    Calls Tryd.prog 15 #[.string s] w fun e w' => ∃ x : Int, e = .returned (.tuple #[.int .i64 x, .bool b]) ∧ w' = w :=
  hP.mono fun _ _ h => ⟨x, h⟩

/-- PARSE, as the document says it, takes what num.Parse takes. -/
theorem rparse_is (s : ByteArray) (hmax : (s.size : Int) ≤ 9223372036854775807) (w : World) :
    Calls Tryd.prog 15 #[.string s] w fun e w' => ∃ x : Int, e = .returned (.tuple #[.int .i64 x, .bool (pB s)]) ∧ w' = w := by
  cases hl : s.data.toList with
  | nil =>
    obtain ⟨a, b⟩ := p_none (s := s) (by rw [hl]; rfl)
    rw [b]
    refine rq s 0 w (rp_early_pos s w hmax (Or.inl ⟨by rw [size_list, hl]; rfl, by rw [isEmpty_list, hl]; rfl⟩))
  | cons c r =>
    obtain ⟨h0, hc⟩ := head_at hl
    by_cases h45 : c.toNat = 45
    · have ec : c = 45 := UInt8.toNat_inj.1 h45
      subst ec
      have c0 : (((s[0]'h0).toNat : Int) == 45) = true := by rw [hc]; rfl
      obtain ⟨d, hx⟩ : ∃ d : ByteArray, s.extract 1 s.size = d := ⟨_, rfl⟩
      have hd : d.data.toList = r := by rw [← hx, Lib.extract_to_end, hl]; rfl
      by_cases hshape : r ≠ [] ∧ r.length ≤ 19 ∧ (∀ a b, r = a :: b → a.toNat ≠ 48)
      · obtain ⟨n1, n2, n3⟩ := hshape
        obtain ⟨a, b, er⟩ : ∃ a b, r = a :: b := by cases r with | nil => exact absurd rfl n1 | cons a b => exact ⟨a, b, rfl⟩
        obtain ⟨hd0, hda⟩ := head_at (hd.trans er)
        have hP := rp_neg s d w h0 hmax c0 hx (by rw [isEmpty_list, hd, er]; rfl) (by rw [size_list, hd]; exact n2) hd0 (by have := n3 a b er; rw [hda, beq_eq_false_iff_ne]; omega)
        rw [hd] at hP
        cases hu : Lib.decFrom 0 r with
        | none =>
          obtain ⟨x, y⟩ := ref_none (m := r) true hu
          obtain ⟨p, q⟩ := p_none (s := s) (by
            rw [hl]
            cases e : parseV (45 :: r) with
            | none => rfl
            | some v =>
              obtain ⟨_, _, _, u, hu', _⟩ := neg_shape e
              rw [hu] at hu'; cases hu')
          rw [x] at hP
          rw [q]
          exact rq s _ w hP
        | some u =>
          obtain ⟨x, y⟩ := ref_neg hu
          rw [x, y] at hP
          have hub : u < 10000000000000000000 := by
            have := Lib.decFrom_lt _ _ _ hu
            have k := Nat.pow_le_pow_right (n := 10) (by decide) n2
            omega
          by_cases hle : u ≤ 9223372036854775808
          · obtain ⟨p, q⟩ := p_some (s := s) (by rw [hl]; exact neg_yes n1 n3 hu hle)
            rw [q]
            refine rq s (-(u : Int)) w ?_
            have e1 : wrap64 (IntKind.u64.wrap (-(u : Int))) = -(u : Int) := by rw [IntKind.wrap_u64]; unfold wrap64; omega
            have e2 : decide ((u : Int) ≤ 9223372036854775808) = true := by simp; omega
            rw [e1, e2] at hP
            exact hP
          · obtain ⟨p, q⟩ := p_none (s := s) (by
              rw [hl]
              cases e : parseV (45 :: r) with
              | none => rfl
              | some v =>
                obtain ⟨_, _, _, u', hu', hle'⟩ := neg_shape e
                rw [hu] at hu'
                obtain rfl := Option.some.inj hu'
                exact absurd hle' hle)
            rw [q]
            have e2 : decide ((u : Int) ≤ 9223372036854775808) = false := by simp; omega
            rw [e2] at hP
            exact rq s _ w hP
      · obtain ⟨p, q⟩ := p_none (s := s) (by
          rw [hl]
          cases e : parseV (45 :: r) with
          | none => rfl
          | some v =>
            obtain ⟨a, b, c, _⟩ := neg_shape e
            exact absurd ⟨a, b, c⟩ hshape)
        rw [q]
        refine rq s 0 w (rp_early_neg s d w h0 hmax c0 hx ?_)
        cases r with
        | nil => exact Or.inl (by rw [isEmpty_list, hd]; rfl)
        | cons a b =>
          have ee : d.toList.isEmpty = false := by rw [isEmpty_list, hd]; rfl
          have es : d.size = (a :: b).length := by rw [size_list, hd]
          by_cases h19 : 19 < d.size
          · exact Or.inr (Or.inl ⟨ee, h19⟩)
          · obtain ⟨hd0, hda⟩ := head_at hd
            refine Or.inr (Or.inr ⟨ee, by omega, hd0, ?_⟩)
            rw [hda]
            by_cases h48 : a.toNat = 48
            · rw [h48]; rfl
            · exact absurd ⟨by simp, by omega, fun a' b' hab => by obtain ⟨rfl, _⟩ := List.cons.inj hab; exact h48⟩ hshape
    · have c0 : (((s[0]'h0).toNat : Int) == 45) = false := by rw [hc, beq_eq_false_iff_ne]; omega
      have ee : s.toList.isEmpty = false := by rw [isEmpty_list, hl]; rfl
      have es : s.size = (c :: r).length := by rw [size_list, hl]
      by_cases hshape : (c :: r).length ≤ 19 ∧ (c.toNat = 48 → r = [])
      · obtain ⟨n2, n3⟩ := hshape
        have hP := rp_pos s w h0 hmax c0 ee (by omega) (by
          by_cases h48 : c.toNat = 48
          · refine Or.inr ⟨by rw [hc, h48]; rfl, ?_⟩
            rw [es, n3 h48]; simp
          · exact Or.inl (by rw [hc, beq_eq_false_iff_ne]; omega))
        rw [hl] at hP
        cases hu : Lib.decFrom 0 (c :: r) with
        | none =>
          obtain ⟨x, y⟩ := ref_none (m := c :: r) false hu
          obtain ⟨p, q⟩ := p_none (s := s) (by
            rw [hl]
            cases e : parseV (c :: r) with
            | none => rfl
            | some v =>
              obtain ⟨_, _, u, hu', _⟩ := pos_shape h45 e
              rw [hu] at hu'; cases hu')
          rw [x] at hP
          rw [q]
          exact rq s _ w hP
        | some u =>
          obtain ⟨x, y⟩ := ref_pos hu
          rw [x, y] at hP
          have hub : u < 10000000000000000000 := by
            have := Lib.decFrom_lt _ _ _ hu
            have k := Nat.pow_le_pow_right (n := 10) (by decide) n2
            omega
          by_cases hle : u < 9223372036854775808
          · obtain ⟨p, q⟩ := p_some (s := s) (by
              rw [hl]
              refine pos_yes (by simp) ?_ hu hle
              by_cases h48 : c.toNat = 48
              · exact Or.inr (by rw [n3 h48]; rfl)
              · exact Or.inl (fun a b hab => by obtain ⟨rfl, _⟩ := List.cons.inj hab; exact h48))
            rw [q]
            refine rq s (u : Int) w ?_
            have e1 : wrap64 (u : Int) = (u : Int) := by unfold wrap64; omega
            have e2 : decide ((u : Int) < 9223372036854775808) = true := by simp; omega
            rw [e1, e2] at hP
            exact hP
          · obtain ⟨p, q⟩ := p_none (s := s) (by
              rw [hl]
              cases e : parseV (c :: r) with
              | none => rfl
              | some v =>
                obtain ⟨_, _, u', hu', hle'⟩ := pos_shape h45 e
                rw [hu] at hu'
                obtain rfl := Option.some.inj hu'
                exact absurd hle' hle)
            rw [q]
            have e2 : decide ((u : Int) < 9223372036854775808) = false := by simp; omega
            rw [e2] at hP
            exact rq s _ w hP
      · obtain ⟨p, q⟩ := p_none (s := s) (by
          rw [hl]
          cases e : parseV (c :: r) with
          | none => rfl
          | some v =>
            obtain ⟨a, b, _⟩ := pos_shape h45 e
            exact absurd ⟨a, b⟩ hshape)
        rw [q]
        refine rq s 0 w (rp_early_pos s w hmax (Or.inr ⟨h0, c0, ee, ?_⟩))
        by_cases h19 : 19 < s.size
        · exact Or.inl h19
        · by_cases h48 : c.toNat = 48
          · refine Or.inr ⟨by omega, ?_, by rw [hc, h48]; rfl⟩
            cases r with
            | nil => exact absurd ⟨by omega, fun _ => rfl⟩ hshape
            | cons a b => rw [es]; simp
          · exact absurd ⟨by omega, fun h => absurd h h48⟩ hshape
end Go.Proofs.YtnfmagafajpmpaaDoor
