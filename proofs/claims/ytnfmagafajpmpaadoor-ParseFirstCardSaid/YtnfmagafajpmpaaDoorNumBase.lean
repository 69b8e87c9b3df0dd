/- What num.Parse and num.Text answer, in every world in which the package-level variables read as their initialisers lay them. -/
import Derived.Test.YtnfmagafajpmpaaDoorShelf
import Derived.WalkKit
import Derived.WalkSpells
import Derived.WalkLawsBesides
import Derived.WalkSmall
import Derived.Lib.AtoiErrMem
import Derived.Lib.AppendIntMem
namespace Go.Proofs.YtnfmagafajpmpaaDoor
open Go.RowKit

/-- The world has grown; nothing that was there has turned. -/
def On (w w' : World) : Prop := Below w.heap.size w w'
theorem On.refl (w : World) : On w w := Below.refl _ _
theorem On.trans {a b c : World} (h : On a b) (k : On b c) : On a c := Below.trans h (Below.mono k h.size)

def signTexts : List ByteArray := [⟨#[]⟩, ⟨#[43]⟩, ⟨#[45]⟩, ⟨#[42]⟩, ⟨#[38]⟩, ⟨#[124]⟩, ⟨#[94]⟩, ⟨#[60, 60]⟩, ⟨#[62, 62]⟩, ⟨#[61, 61]⟩, ⟨#[33, 61]⟩, ⟨#[60]⟩]

/-- The listed variables hold what their initialisers lay. -/
structure Lw (w : World) : Prop where
  tab : Lib.TabIs Tryd.prog w "internal/strconv.uint64pow10" .u64 Lib.pow10Tab
  syn : ∃ tp p, w.var? Tryd.prog "strconv.ErrSyntax" = some #[.iface tp p]
  rng : ∃ tp p, w.var? Tryd.prog "strconv.ErrRange" = some #[.iface tp p]
  sgs : w.var? Tryd.prog "jacquard/num.signs" = some (signTexts.map Value.string).toArray

theorem gTab : Tryd.prog.globalNamed "internal/strconv.uint64pow10" = some 3 := by kernel_rfl
theorem gSyn : Tryd.prog.globalNamed "strconv.ErrSyntax" = some 1 := by kernel_rfl
theorem gRng : Tryd.prog.globalNamed "strconv.ErrRange" = some 2 := by kernel_rfl
theorem gSgs : Tryd.prog.globalNamed "jacquard/num.signs" = some 0 := by kernel_rfl

theorem lt_of_var {w : World} {g : Nat} {n : String} {cs : Array Value} (hg : Tryd.prog.globalNamed n = some g) (h : w.var? Tryd.prog n = some cs) : g < w.heap.size := by
  unfold World.var? at h
  simp only [hg, Option.bind_some] at h
  rcases Nat.lt_or_ge g w.heap.size with h' | h'
  · exact h'
  · simp [Array.getElem?_eq_none h'] at h

theorem Lw.on {w w' : World} (h : Lw w) (k : On w w') : Lw w' := by
  refine ⟨var?_below k gTab (lt_of_var gTab h.tab) h.tab, ?_, ?_, var?_below k gSgs (lt_of_var gSgs h.sgs) h.sgs⟩
  · obtain ⟨tp, p, e⟩ := h.syn
    exact ⟨tp, p, var?_below k gSyn (lt_of_var gSyn e) e⟩
  · obtain ⟨tp, p, e⟩ := h.rng
    exact ⟨tp, p, var?_below k gRng (lt_of_var gRng e) e⟩

theorem Lw.lt {w : World} (h : Lw w) : 4 ≤ w.heap.size := by
  have h1 := lt_of_var gTab h.tab
  obtain ⟨_, _, e2⟩ := h.syn
  have h2 := lt_of_var gSyn e2
  obtain ⟨_, _, e3⟩ := h.rng
  have h3 := lt_of_var gRng e3
  have h4 := lt_of_var gSgs h.sgs
  omega

theorem text_any (n : Int) (h0 : -9223372036854775808 ≤ n) (h1 : n ≤ 9223372036854775807) (w : World) (hw : Lw w) :
    Calls Tryd.prog 59 #[.int .i64 n] w fun e w' => e = .returned (.string ⟨(Lib.itoa n).toArray⟩) ∧ On w w' := by
  have htab := hw.tab
  clear hw
  go_enter Tryd.func59, Tryd.ntmps59
  go_wp2_with (go_at_call 64; refine (Any.strconv_FormatInt_10 Tryd.laysM173 n h0 h1 _ htab).mono ?_; rintro e w' ⟨rfl, k, os, rfl⟩)
  go_ret
  exact ⟨rfl, Lib.below_grow _ _ (Nat.le_refl _) _ _⟩

/-- What Parse answers of these bytes. -/
def parseV (l : List UInt8) : Option Int :=
  match Lib.parseIntB 64 l with
  | .ok v => if Lib.itoa v = l then some v else none
  | _ => none

theorem parseIntB_bound {l : List UInt8} {v : Int} (h : Lib.parseIntB 64 l = .ok v) : -9223372036854775808 ≤ v ∧ v ≤ 9223372036854775807 := by
  unfold Lib.parseIntB at h
  cases l with
  | nil => simp at h
  | cons c r =>
    simp only at h
    split at h
    · cases h
    · cases h
    · rename_i u _
      split at h
      · cases h
      · split at h
        · cases h
        · simp only [Lib.NumEnd.ok.injEq] at h
          split at h <;> omega

theorem pint_ok (s : ByteArray) (hs : s.size ≤ 281474976710656) (v : Int) (h : Lib.parseIntB 64 s.data.toList = .ok v) (w : World) :
    Calls Tryd.prog 58 #[.string s, .int .i64 10, .int .i64 64] w fun e w' => e = .returned (.tuple #[.int .i64 v, .nilIface]) ∧ On w w' := by
  refine (Any.strconv_ParseInt_10_at64_ok Tryd.laysC174 s (by omega) v h w).mono ?_
  rintro e w' ⟨rfl, rfl | ⟨t, rfl⟩⟩
  · exact ⟨rfl, On.refl _⟩
  · exact ⟨rfl, Lib.bytesWorld_below _ _ _⟩

theorem pint_no (s : ByteArray) (hs : s.size ≤ 281474976710656) (h : ∀ v, Lib.parseIntB 64 s.data.toList ≠ .ok v) (w : World) (hw : Lw w) :
    Calls Tryd.prog 58 #[.string s, .int .i64 10, .int .i64 64] w fun e w' => ∃ v tp p, e = .returned (.tuple #[.int .i64 v, .iface tp p]) ∧ On w w' := by
  cases hc : Lib.parseIntB 64 s.data.toList
  case ok v => exact absurd hc (h v)
  case range =>
    obtain ⟨tp, p, hv⟩ := hw.rng
    refine (Any.strconv_ParseInt_10_at64_range_var Tryd.laysC174 s hs hc tp p w hv).mono ?_
    rintro e w' ⟨N, rfl, _, _, hb⟩
    exact ⟨_, _, _, rfl, hb⟩
  all_goals
    obtain ⟨tp, p, hv⟩ := hw.syn
    refine (Any.strconv_ParseInt_10_at64_syntax_var Tryd.laysC174 s hs hc tp p w hv).mono ?_
    rintro e w' ⟨N, rfl, _, _, hb⟩
    exact ⟨_, _, _, rfl, hb⟩

theorem text_at (n : Int) (s : ByteArray) (h0 : -9223372036854775808 ≤ n) (h1 : n ≤ 9223372036854775807) (he : Lib.itoa n = s.data.toList) (w : World) (hw : Lw w) :
    Calls Tryd.prog 59 #[.int .i64 n] w fun e w' => e = .returned (.string s) ∧ On w w' := by
  refine (text_any n h0 h1 w hw).mono ?_
  rintro e w' ⟨rfl, hb⟩
  rw [he]
  exact ⟨rfl, hb⟩

theorem text_off (n : Int) (s : ByteArray) (h0 : -9223372036854775808 ≤ n) (h1 : n ≤ 9223372036854775807) (he : Lib.itoa n ≠ s.data.toList) (w : World) (hw : Lw w) :
    Calls Tryd.prog 59 #[.int .i64 n] w fun e w' => ∃ t : ByteArray, e = .returned (.string t) ∧ (t.toList == s.toList) = false ∧ On w w' := by
  refine (text_any n h0 h1 w hw).mono ?_
  rintro e w' ⟨rfl, hb⟩
  refine ⟨_, rfl, ?_, hb⟩
  rw [ByteArray.toList_eq, ByteArray.toList_eq]
  simpa using he

set_option maxHeartbeats 400000 in
theorem parse_ok (s : ByteArray) (hs : s.size ≤ 281474976710656) (v : Int) (h : Lib.parseIntB 64 s.data.toList = .ok v) (he : Lib.itoa v = s.data.toList) (w : World) (hw : Lw w) :
    Calls Tryd.prog 43 #[.string s] w fun e w' => e = .returned (.tuple #[.int .i64 v, .bool true]) ∧ On w w' := by
  obtain ⟨h0, h1⟩ := parseIntB_bound h
  have hP := pint_ok s hs v h w
  have hT : ∀ w1, On w w1 → Calls Tryd.prog 59 #[.int .i64 v] w1 fun e w' => e = .returned (.string s) ∧ On w1 w' := fun w1 k => text_at v s h0 h1 he w1 (hw.on k)
  clear h he hs hw h0 h1
  go_enter Tryd.func43, Tryd.ntmps43
  go_wp2_with (first | (go_at_call 58; refine hP.mono ?_; rintro e w1 ⟨rfl, hW1⟩) | (go_at_call 59; refine (hT _ hW1).mono ?_; rintro e w2 ⟨rfl, hW2⟩))
  go_ret2
  exact ⟨rfl, hW1.trans hW2⟩

set_option maxHeartbeats 400000 in
theorem parse_off (s : ByteArray) (hs : s.size ≤ 281474976710656) (v : Int) (h : Lib.parseIntB 64 s.data.toList = .ok v) (he : Lib.itoa v ≠ s.data.toList) (w : World) (hw : Lw w) :
    Calls Tryd.prog 43 #[.string s] w fun e w' => e = .returned (.tuple #[.int .i64 0, .bool false]) ∧ On w w' := by
  obtain ⟨h0, h1⟩ := parseIntB_bound h
  have hP := pint_ok s hs v h w
  have hT : ∀ w1, On w w1 → Calls Tryd.prog 59 #[.int .i64 v] w1 fun e w' => ∃ t : ByteArray, e = .returned (.string t) ∧ (t.toList == s.toList) = false ∧ On w1 w' := fun w1 k => text_off v s h0 h1 he w1 (hw.on k)
  clear h he hs hw h0 h1
  go_enter Tryd.func43, Tryd.ntmps43
  go_wp2_with (first | (go_at_call 58; refine hP.mono ?_; rintro e w1 ⟨rfl, hW1⟩) | (go_at_call 59; refine (hT _ hW1).mono ?_; rintro e w2 ⟨t, rfl, hne, hW2⟩))
  go_ret2
  exact ⟨rfl, hW1.trans hW2⟩

set_option maxHeartbeats 400000 in
theorem parse_no (s : ByteArray) (hs : s.size ≤ 281474976710656) (h : ∀ v, Lib.parseIntB 64 s.data.toList ≠ .ok v) (w : World) (hw : Lw w) :
    Calls Tryd.prog 43 #[.string s] w fun e w' => e = .returned (.tuple #[.int .i64 0, .bool false]) ∧ On w w' := by
  have hP := pint_no s hs h w hw
  clear h hs hw
  go_enter Tryd.func43, Tryd.ntmps43
  go_wp2_with (go_at_call 58; refine hP.mono ?_; rintro e w1 ⟨v, tp, p, rfl, hW1⟩)
  go_ret2
  exact ⟨rfl, hW1⟩

/-- PARSE at every text that is not beyond any machine. -/
def pN (s : ByteArray) : Int := (parseV s.data.toList).getD 0
def pB (s : ByteArray) : Bool := (parseV s.data.toList).isSome
theorem parse_is (s : ByteArray) (hs : s.size ≤ 281474976710656) (w : World) (hw : Lw w) :
    Calls Tryd.prog 43 #[.string s] w fun e w' => e = .returned (.tuple #[.int .i64 (pN s), .bool (pB s)]) ∧ On w w' := by
  unfold pN pB parseV
  cases hc : Lib.parseIntB 64 s.data.toList
  case ok v =>
    by_cases he : Lib.itoa v = s.data.toList
    · simp only [he, if_true]
      exact parse_ok s hs v hc he w hw
    · simp only [he, if_false]
      exact parse_off s hs v hc he w hw
  all_goals exact parse_no s hs (fun v h => by rw [hc] at h; cases h) w hw

end Go.Proofs.YtnfmagafajpmpaaDoor
