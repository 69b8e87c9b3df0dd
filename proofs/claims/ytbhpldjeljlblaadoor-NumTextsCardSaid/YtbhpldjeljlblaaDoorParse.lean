/- What num.Parse, Sign, Narrow and awake answer. -/
import Derived.Test.YtbhpldjeljlblaaDoorBase
namespace Go.Proofs.YtbhpldjeljlblaaDoor
open Go.RowKit

/-- What Parse answers of these bytes. -/
def parseV (l : List UInt8) : Option Int :=
  match Lib.parseIntB 64 l with
  | .ok v => if Lib.itoa v = l then some v else none
  | _ => none

theorem parseIntB_bound {l : List UInt8} {v : Int} (h : Lib.parseIntB 64 l = .ok v) : -9223372036854775808 ≤ v ∧ v ≤ 9223372036854775807 := by
  unfold Lib.parseIntB at h
  cases l with
  | nil => simp at h
  | cons c r =>
    simp only at h
    split at h
    · cases h
    · cases h
    · rename_i u _
      split at h
      · cases h
      · split at h
        · cases h
        · simp only [Lib.NumEnd.ok.injEq] at h
          split at h <;> omega

theorem pint_ok (s : ByteArray) (hs : s.size ≤ 281474976710656) (v : Int) (h : Lib.parseIntB 64 s.data.toList = .ok v) (w : World) :
    Calls Tryd.prog 24 #[.string s, .int .i64 10, .int .i64 64] w fun e w' => e = .returned (.tuple #[.int .i64 v, .nilIface]) ∧ On w w' := by
  refine (Any.strconv_ParseInt_10_at64_ok Tryd.laysC174 s (by omega) v h w).mono ?_
  rintro e w' ⟨rfl, rfl | ⟨t, rfl⟩⟩
  · exact ⟨rfl, On.refl _⟩
  · exact ⟨rfl, Lib.bytesWorld_below _ _ _⟩

theorem pint_no (s : ByteArray) (hs : s.size ≤ 281474976710656) (h : ∀ v, Lib.parseIntB 64 s.data.toList ≠ .ok v) (w : World) (hw : Lw w) :
    Calls Tryd.prog 24 #[.string s, .int .i64 10, .int .i64 64] w fun e w' => ∃ v tp p, e = .returned (.tuple #[.int .i64 v, .iface tp p]) ∧ On w w' := by
  cases hc : Lib.parseIntB 64 s.data.toList
  case ok v => exact absurd hc (h v)
  case range =>
    obtain ⟨tp, p, hv⟩ := hw.rng
    refine (Any.strconv_ParseInt_10_at64_range_var Tryd.laysC174 s hs hc tp p w hv).mono ?_
    rintro e w' ⟨N, rfl, _, _, hb⟩
    exact ⟨_, _, _, rfl, hb⟩
  all_goals
    obtain ⟨tp, p, hv⟩ := hw.syn
    refine (Any.strconv_ParseInt_10_at64_syntax_var Tryd.laysC174 s hs hc tp p w hv).mono ?_
    rintro e w' ⟨N, rfl, _, _, hb⟩
    exact ⟨_, _, _, rfl, hb⟩

theorem text_at (n : Int) (s : ByteArray) (h0 : -9223372036854775808 ≤ n) (h1 : n ≤ 9223372036854775807) (he : Lib.itoa n = s.data.toList) (w : World) (hw : Lw w) :
    Calls Tryd.prog 11 #[.int .i64 n] w fun e w' => e = .returned (.string s) ∧ On w w' := by
  refine (text_any n h0 h1 w hw).mono ?_
  rintro e w' ⟨rfl, hb⟩
  rw [he]
  exact ⟨rfl, hb⟩

theorem text_off (n : Int) (s : ByteArray) (h0 : -9223372036854775808 ≤ n) (h1 : n ≤ 9223372036854775807) (he : Lib.itoa n ≠ s.data.toList) (w : World) (hw : Lw w) :
    Calls Tryd.prog 11 #[.int .i64 n] w fun e w' => ∃ t : ByteArray, e = .returned (.string t) ∧ (t.toList == s.toList) = false ∧ On w w' := by
  refine (text_any n h0 h1 w hw).mono ?_
  rintro e w' ⟨rfl, hb⟩
  refine ⟨_, rfl, ?_, hb⟩
  rw [ByteArray.toList_eq, ByteArray.toList_eq]
  simpa using he

set_option maxHeartbeats 400000 in
theorem parse_ok (s : ByteArray) (hs : s.size ≤ 281474976710656) (v : Int) (h : Lib.parseIntB 64 s.data.toList = .ok v) (he : Lib.itoa v = s.data.toList) (w : World) (hw : Lw w) :
    Calls Tryd.prog 14 #[.string s] w fun e w' => e = .returned (.tuple #[.int .i64 v, .bool true]) ∧ On w w' := by
  obtain ⟨h0, h1⟩ := parseIntB_bound h
  have hP := pint_ok s hs v h w
  have hT : ∀ w1, On w w1 → Calls Tryd.prog 11 #[.int .i64 v] w1 fun e w' => e = .returned (.string s) ∧ On w1 w' := fun w1 k => text_at v s h0 h1 he w1 (hw.on k)
  clear h he hs hw h0 h1
  go_enter Tryd.func14, Tryd.ntmps14
  go_wp2_with (first | (go_at_call 24; refine hP.mono ?_; rintro e w1 ⟨rfl, hW1⟩) | (go_at_call 11; refine (hT _ hW1).mono ?_; rintro e w2 ⟨rfl, hW2⟩))
  go_ret2
  exact ⟨rfl, hW1.trans hW2⟩

set_option maxHeartbeats 400000 in
theorem parse_off (s : ByteArray) (hs : s.size ≤ 281474976710656) (v : Int) (h : Lib.parseIntB 64 s.data.toList = .ok v) (he : Lib.itoa v ≠ s.data.toList) (w : World) (hw : Lw w) :
    Calls Tryd.prog 14 #[.string s] w fun e w' => e = .returned (.tuple #[.int .i64 0, .bool false]) ∧ On w w' := by
  obtain ⟨h0, h1⟩ := parseIntB_bound h
  have hP := pint_ok s hs v h w
  have hT : ∀ w1, On w w1 → Calls Tryd.prog 11 #[.int .i64 v] w1 fun e w' => ∃ t : ByteArray, e = .returned (.string t) ∧ (t.toList == s.toList) = false ∧ On w1 w' := fun w1 k => text_off v s h0 h1 he w1 (hw.on k)
  clear h he hs hw h0 h1
  go_enter Tryd.func14, Tryd.ntmps14
  go_wp2_with (first | (go_at_call 24; refine hP.mono ?_; rintro e w1 ⟨rfl, hW1⟩) | (go_at_call 11; refine (hT _ hW1).mono ?_; rintro e w2 ⟨t, rfl, hne, hW2⟩))
  go_ret2
  exact ⟨rfl, hW1.trans hW2⟩

set_option maxHeartbeats 400000 in
theorem parse_no (s : ByteArray) (hs : s.size ≤ 281474976710656) (h : ∀ v, Lib.parseIntB 64 s.data.toList ≠ .ok v) (w : World) (hw : Lw w) :
    Calls Tryd.prog 14 #[.string s] w fun e w' => e = .returned (.tuple #[.int .i64 0, .bool false]) ∧ On w w' := by
  have hP := pint_no s hs h w hw
  clear h hs hw
  go_enter Tryd.func14, Tryd.ntmps14
  go_wp2_with (go_at_call 24; refine hP.mono ?_; rintro e w1 ⟨v, tp, p, rfl, hW1⟩)
  go_ret2
  exact ⟨rfl, hW1⟩

/-- PARSE at every text that is not beyond any machine. -/
def pN (s : ByteArray) : Int := (parseV s.data.toList).getD 0
def pB (s : ByteArray) : Bool := (parseV s.data.toList).isSome
theorem parse_is (s : ByteArray) (hs : s.size ≤ 281474976710656) (w : World) (hw : Lw w) :
    Calls Tryd.prog 14 #[.string s] w fun e w' => e = .returned (.tuple #[.int .i64 (pN s), .bool (pB s)]) ∧ On w w' := by
  unfold pN pB parseV
  cases hc : Lib.parseIntB 64 s.data.toList
  case ok v =>
    by_cases he : Lib.itoa v = s.data.toList
    · simp only [he, if_true]
      exact parse_ok s hs v hc he w hw
    · simp only [he, if_false]
      exact parse_off s hs v hc he w hw
  all_goals exact parse_no s hs (fun v h => by rw [hc] at h; cases h) w hw

theorem cell_sign {w : World} (hw : Lw w) (i : Nat) (h : i < 12) : w.cell? ⟨0, i, none⟩ = some (.string (signTexts.getD i ⟨#[]⟩)) := by
  have h0 := World.var?_cell gSgs hw.sgs i
  rw [h0]
  match i, h with
  | 0, _ | 1, _ | 2, _ | 3, _ | 4, _ | 5, _ | 6, _ | 7, _ | 8, _ | 9, _ | 10, _ | 11, _ => rfl
  | n + 12, h => omega

theorem sign11 (w : World) (hw : Lw w) :
    Calls Tryd.prog 17 #[.int .i64 11] w fun e w' => e = .returned (.string ⟨#[60]⟩) ∧ w' = w := by
  have hc : w.cell? ⟨0, 11, none⟩ = some (.string ⟨#[60]⟩) := cell_sign hw 11 (by decide)
  clear hw
  go_enter Tryd.func17, Tryd.ntmps17
  go_wp2
  go_ret
  exact ⟨rfl, rfl⟩

theorem parse_m12 : Lib.parseIntB 64 [45, 49, 50] = .ok (-12) := by decide
theorem itoa_m12 : Lib.itoa (-12) = [45, 49, 50] := by simp [Lib.itoa, Lib.decDigits]
theorem itoa_m7 : Lib.itoa (-7) = [45, 55] := by simp [Lib.itoa, Lib.decDigits]
theorem sh65 : wrap64 (1 * 2 ^ sh 65) = 2 := by unfold wrap64 sh; decide

set_option maxHeartbeats 400000 in
theorem awake_any (w : World) (hw : Lw w) :
    Calls Tryd.prog 10 #[] w fun e w' => e = .returned (.bool true) ∧ On w w' := by
  have h1 : ∀ w1, Calls Tryd.prog 9 #[.int .i64 7, .int .i64 1, .int .i64 65] w1 fun e w' => e = .returned (.tuple #[.int .i64 2, .bool true]) ∧ w' = w1 := fun w1 => sh65 ▸ do7 1 65 w1
  have h2 := parse_ok ⟨#[45, 49, 50]⟩ (by decide) (-12) parse_m12 itoa_m12 w hw
  have h3 : ∀ w1, On w w1 → Calls Tryd.prog 11 #[.int .i64 (-7)] w1 fun e w' => e = .returned (.string ⟨#[45, 55]⟩) ∧ On w1 w' := fun w1 k => text_at (-7) ⟨#[45, 55]⟩ (by decide) (by decide) itoa_m7 w1 (hw.on k)
  have h4 : ∀ w1, On w w1 → Calls Tryd.prog 17 #[.int .i64 11] w1 fun e w' => e = .returned (.string ⟨#[60]⟩) ∧ w' = w1 := fun w1 k => sign11 w1 (hw.on k)
  clear hw
  go_enter Tryd.func10, Tryd.ntmps10
  go_wp2_with (first | (go_at_call 9; refine (h1 _).mono ?_; rintro e w1 ⟨rfl, rfl⟩) | (go_at_call 14; refine h2.mono ?_; rintro e w2 ⟨rfl, k2⟩) | (go_at_call 11; refine (h3 _ k2).mono ?_; rintro e w3 ⟨rfl, k3⟩) | (go_at_call 17; refine (h4 _ (k2.trans k3)).mono ?_; rintro e w4 ⟨rfl, rfl⟩))
  go_ret
  exact ⟨rfl, k2.trans k3⟩
end Go.Proofs.YtbhpldjeljlblaaDoor
