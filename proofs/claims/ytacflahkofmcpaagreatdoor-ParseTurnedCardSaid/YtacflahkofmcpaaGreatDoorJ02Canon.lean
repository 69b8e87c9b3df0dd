/- What num.Parse and num.Text answer, in every world in which the package-level variables read as their initialisers lay them. -/
import Derived.Test.YtacflahkofmcpaaGreatDoorShelf
import Derived.WalkKit
import Derived.WalkSpells
import Derived.WalkLawsBesides
import Derived.WalkSmall
import Derived.Lib.AtoiErrMem
import Derived.Lib.AppendIntMem
import Derived.Test.YtacflahkofmcpaaGreatDoorJ00LexPure
import Derived.Deep.LoopGhost
import Derived.Laws.BitsAllLaws
import Derived.IntWalk
import Derived.Lib.ItoaNum
import Derived.Lib.ParseIntB
import Derived.Lib.Atoi
namespace Go.Proofs.YtacflahkofmcpaaGreatDoor
open Go.RowKit

/-- The world has grown; nothing that was there has turned. -/
def On (w w' : World) : Prop := Below w.heap.size w w'
theorem On.refl (w : World) : On w w := Below.refl _ _
theorem On.trans {a b c : World} (h : On a b) (k : On b c) : On a c := Below.trans h (Below.mono k h.size)

def signTexts : List ByteArray := [⟨#[]⟩, ⟨#[43]⟩, ⟨#[45]⟩, ⟨#[42]⟩, ⟨#[38]⟩, ⟨#[124]⟩, ⟨#[94]⟩, ⟨#[60, 60]⟩, ⟨#[62, 62]⟩, ⟨#[61, 61]⟩, ⟨#[33, 61]⟩, ⟨#[60]⟩]

/-- The listed variables hold what their initialisers lay. -/
structure Lw (w : World) : Prop where
  tab : Lib.TabIs Tryz.prog w "internal/strconv.uint64pow10" .u64 Lib.pow10Tab
  syn : ∃ tp p, w.var? Tryz.prog "strconv.ErrSyntax" = some #[.iface tp p]
  rng : ∃ tp p, w.var? Tryz.prog "strconv.ErrRange" = some #[.iface tp p]
  sgs : w.var? Tryz.prog "jacquard/num.signs" = some (signTexts.map Value.string).toArray

theorem gTab : Tryz.prog.globalNamed "internal/strconv.uint64pow10" = some 5 := by kernel_rfl
theorem gSyn : Tryz.prog.globalNamed "strconv.ErrSyntax" = some 3 := by kernel_rfl
theorem gRng : Tryz.prog.globalNamed "strconv.ErrRange" = some 4 := by kernel_rfl
theorem gSgs : Tryz.prog.globalNamed "jacquard/num.signs" = some 0 := by kernel_rfl

theorem lt_of_var {w : World} {g : Nat} {n : String} {cs : Array Value} (hg : Tryz.prog.globalNamed n = some g) (h : w.var? Tryz.prog n = some cs) : g < w.heap.size := by
  unfold World.var? at h
  simp only [hg, Option.bind_some] at h
  rcases Nat.lt_or_ge g w.heap.size with h' | h'
  · exact h'
  · simp [Array.getElem?_eq_none h'] at h

theorem Lw.on {w w' : World} (h : Lw w) (k : On w w') : Lw w' := by
  refine ⟨var?_below k gTab (lt_of_var gTab h.tab) h.tab, ?_, ?_, var?_below k gSgs (lt_of_var gSgs h.sgs) h.sgs⟩
  · obtain ⟨tp, p, e⟩ := h.syn
    exact ⟨tp, p, var?_below k gSyn (lt_of_var gSyn e) e⟩
  · obtain ⟨tp, p, e⟩ := h.rng
    exact ⟨tp, p, var?_below k gRng (lt_of_var gRng e) e⟩

theorem Lw.lt {w : World} (h : Lw w) : 6 ≤ w.heap.size := by
  have h1 := lt_of_var gTab h.tab
  obtain ⟨_, _, e2⟩ := h.syn
  have h2 := lt_of_var gSyn e2
  obtain ⟨_, _, e3⟩ := h.rng
  have h3 := lt_of_var gRng e3
  have h4 := lt_of_var gSgs h.sgs
  omega

theorem text_any (n : Int) (h0 : -9223372036854775808 ≤ n) (h1 : n ≤ 9223372036854775807) (w : World) (hw : Lw w) :
    Calls Tryz.prog 176 #[.int .i64 n] w fun e w' => e = .returned (.string ⟨(Lib.itoa n).toArray⟩) ∧ On w w' := by
  have htab := hw.tab
  clear hw
  go_enter Tryz.func176, Tryz.ntmps176
  go_wp2_with (go_at_call 183; refine (Any.strconv_FormatInt_10 Tryz.laysM173 n h0 h1 _ htab).mono ?_; rintro e w' ⟨rfl, k, os, rfl⟩)
  go_ret
  exact ⟨rfl, Lib.below_grow _ _ (Nat.le_refl _) _ _⟩

/-- What Parse answers of these bytes. -/
def parseV (l : List UInt8) : Option Int :=
  match Lib.parseIntB 64 l with
  | .ok v => if Lib.itoa v = l then some v else none
  | _ => none

theorem parseIntB_bound {l : List UInt8} {v : Int} (h : Lib.parseIntB 64 l = .ok v) : -9223372036854775808 ≤ v ∧ v ≤ 9223372036854775807 := by
  unfold Lib.parseIntB at h
  cases l with
  | nil => simp at h
  | cons c r =>
    simp only at h
    split at h
    · cases h
    · cases h
    · rename_i u _
      split at h
      · cases h
      · split at h
        · cases h
        · simp only [Lib.NumEnd.ok.injEq] at h
          split at h <;> omega

theorem pint_ok (s : ByteArray) (hs : s.size ≤ 281474976710656) (v : Int) (h : Lib.parseIntB 64 s.data.toList = .ok v) (w : World) :
    Calls Tryz.prog 175 #[.string s, .int .i64 10, .int .i64 64] w fun e w' => e = .returned (.tuple #[.int .i64 v, .nilIface]) ∧ On w w' := by
  refine (Any.strconv_ParseInt_10_at64_ok Tryz.laysC174 s (by omega) v h w).mono ?_
  rintro e w' ⟨rfl, rfl | ⟨t, rfl⟩⟩
  · exact ⟨rfl, On.refl _⟩
  · exact ⟨rfl, Lib.bytesWorld_below _ _ _⟩

theorem pint_no (s : ByteArray) (hs : s.size ≤ 281474976710656) (h : ∀ v, Lib.parseIntB 64 s.data.toList ≠ .ok v) (w : World) (hw : Lw w) :
    Calls Tryz.prog 175 #[.string s, .int .i64 10, .int .i64 64] w fun e w' => ∃ v tp p, e = .returned (.tuple #[.int .i64 v, .iface tp p]) ∧ On w w' := by
  cases hc : Lib.parseIntB 64 s.data.toList
  case ok v => exact absurd hc (h v)
  case range =>
    obtain ⟨tp, p, hv⟩ := hw.rng
    refine (Any.strconv_ParseInt_10_at64_range_var Tryz.laysC174 s hs hc tp p w hv).mono ?_
    rintro e w' ⟨N, rfl, _, _, hb⟩
    exact ⟨_, _, _, rfl, hb⟩
  all_goals
    obtain ⟨tp, p, hv⟩ := hw.syn
    refine (Any.strconv_ParseInt_10_at64_syntax_var Tryz.laysC174 s hs hc tp p w hv).mono ?_
    rintro e w' ⟨N, rfl, _, _, hb⟩
    exact ⟨_, _, _, rfl, hb⟩

theorem text_at (n : Int) (s : ByteArray) (h0 : -9223372036854775808 ≤ n) (h1 : n ≤ 9223372036854775807) (he : Lib.itoa n = s.data.toList) (w : World) (hw : Lw w) :
    Calls Tryz.prog 176 #[.int .i64 n] w fun e w' => e = .returned (.string s) ∧ On w w' := by
  refine (text_any n h0 h1 w hw).mono ?_
  rintro e w' ⟨rfl, hb⟩
  rw [he]
  exact ⟨rfl, hb⟩

theorem text_off (n : Int) (s : ByteArray) (h0 : -9223372036854775808 ≤ n) (h1 : n ≤ 9223372036854775807) (he : Lib.itoa n ≠ s.data.toList) (w : World) (hw : Lw w) :
    Calls Tryz.prog 176 #[.int .i64 n] w fun e w' => ∃ t : ByteArray, e = .returned (.string t) ∧ (t.toList == s.toList) = false ∧ On w w' := by
  refine (text_any n h0 h1 w hw).mono ?_
  rintro e w' ⟨rfl, hb⟩
  refine ⟨_, rfl, ?_, hb⟩
  rw [ByteArray.toList_eq, ByteArray.toList_eq]
  simpa using he

set_option maxHeartbeats 400000 in
theorem parse_ok (s : ByteArray) (hs : s.size ≤ 281474976710656) (v : Int) (h : Lib.parseIntB 64 s.data.toList = .ok v) (he : Lib.itoa v = s.data.toList) (w : World) (hw : Lw w) :
    Calls Tryz.prog 155 #[.string s] w fun e w' => e = .returned (.tuple #[.int .i64 v, .bool true]) ∧ On w w' := by
  obtain ⟨h0, h1⟩ := parseIntB_bound h
  have hP := pint_ok s hs v h w
  have hT : ∀ w1, On w w1 → Calls Tryz.prog 176 #[.int .i64 v] w1 fun e w' => e = .returned (.string s) ∧ On w1 w' := fun w1 k => text_at v s h0 h1 he w1 (hw.on k)
  clear h he hs hw h0 h1
  go_enter Tryz.func155, Tryz.ntmps155
  go_wp2_with (first | (go_at_call 175; refine hP.mono ?_; rintro e w1 ⟨rfl, hW1⟩) | (go_at_call 176; refine (hT _ hW1).mono ?_; rintro e w2 ⟨rfl, hW2⟩))
  go_ret2
  exact ⟨rfl, hW1.trans hW2⟩

set_option maxHeartbeats 400000 in
theorem parse_off (s : ByteArray) (hs : s.size ≤ 281474976710656) (v : Int) (h : Lib.parseIntB 64 s.data.toList = .ok v) (he : Lib.itoa v ≠ s.data.toList) (w : World) (hw : Lw w) :
    Calls Tryz.prog 155 #[.string s] w fun e w' => e = .returned (.tuple #[.int .i64 0, .bool false]) ∧ On w w' := by
  obtain ⟨h0, h1⟩ := parseIntB_bound h
  have hP := pint_ok s hs v h w
  have hT : ∀ w1, On w w1 → Calls Tryz.prog 176 #[.int .i64 v] w1 fun e w' => ∃ t : ByteArray, e = .returned (.string t) ∧ (t.toList == s.toList) = false ∧ On w1 w' := fun w1 k => text_off v s h0 h1 he w1 (hw.on k)
  clear h he hs hw h0 h1
  go_enter Tryz.func155, Tryz.ntmps155
  go_wp2_with (first | (go_at_call 175; refine hP.mono ?_; rintro e w1 ⟨rfl, hW1⟩) | (go_at_call 176; refine (hT _ hW1).mono ?_; rintro e w2 ⟨t, rfl, hne, hW2⟩))
  go_ret2
  exact ⟨rfl, hW1.trans hW2⟩

set_option maxHeartbeats 400000 in
theorem parse_no (s : ByteArray) (hs : s.size ≤ 281474976710656) (h : ∀ v, Lib.parseIntB 64 s.data.toList ≠ .ok v) (w : World) (hw : Lw w) :
    Calls Tryz.prog 155 #[.string s] w fun e w' => e = .returned (.tuple #[.int .i64 0, .bool false]) ∧ On w w' := by
  have hP := pint_no s hs h w hw
  clear h hs hw
  go_enter Tryz.func155, Tryz.ntmps155
  go_wp2_with (go_at_call 175; refine hP.mono ?_; rintro e w1 ⟨v, tp, p, rfl, hW1⟩)
  go_ret2
  exact ⟨rfl, hW1⟩

/-- PARSE at every text that is not beyond any machine. -/
def pN (s : ByteArray) : Int := (parseV s.data.toList).getD 0
def pB (s : ByteArray) : Bool := (parseV s.data.toList).isSome
theorem parse_is (s : ByteArray) (hs : s.size ≤ 281474976710656) (w : World) (hw : Lw w) :
    Calls Tryz.prog 155 #[.string s] w fun e w' => e = .returned (.tuple #[.int .i64 (pN s), .bool (pB s)]) ∧ On w w' := by
  unfold pN pB parseV
  cases hc : Lib.parseIntB 64 s.data.toList
  case ok v =>
    by_cases he : Lib.itoa v = s.data.toList
    · simp only [he, if_true]
      exact parse_ok s hs v hc he w hw
    · simp only [he, if_false]
      exact parse_off s hs v hc he w hw
  all_goals exact parse_no s hs (fun v h => by rw [hc] at h; cases h) w hw

end Go.Proofs.YtacflahkofmcpaaGreatDoor

namespace Go.Proofs.YtacflahkofmcpaaGreatDoor
open Go.RowKit

theorem ret_b {x y : Bool} (h : x = y) : Ending.returned (.bool x) = .returned (.bool y) := by rw [h]
theorem rletter_is (c : Nat) (w : World) : Calls Tryz.prog 110 #[.int .u8 c] w fun e w' => e = .returned (.bool (letN c)) ∧ w' = w := by
  by_cases h1 : 97 ≤ c
  · go_enter Tryz.func110, Tryz.ntmps110
    go_wp2
    go_ret
    exact ⟨ret_b (by rw [Bool.eq_iff_iff]; simp [letN]; omega), rfl⟩
  · have e : letN c = false := by simp [letN, h1]
    rw [e]
    go_enter Tryz.func110, Tryz.ntmps110
    go_wp2
    go_ret
    exact ⟨rfl, rfl⟩
theorem rdigit_is (c : Nat) (w : World) : Calls Tryz.prog 111 #[.int .u8 c] w fun e w' => e = .returned (.bool (digN c)) ∧ w' = w := by
  by_cases h1 : 48 ≤ c
  · go_enter Tryz.func111, Tryz.ntmps111
    go_wp2
    go_ret
    exact ⟨ret_b (by rw [Bool.eq_iff_iff]; simp [digN]; omega), rfl⟩
  · have e : digN c = false := by simp [digN, h1]
    rw [e]
    go_enter Tryz.func111, Tryz.ntmps111
    go_wp2
    go_ret
    exact ⟨rfl, rfl⟩

set_option maxHeartbeats 1000000 in
theorem rskip_is (s : ByteArray) (a : Nat) (hs : s.size ≤ 140737488351232) (ha : a ≤ s.size) (w : World) :
    Calls Tryz.prog 126 #[.string s, .int .i64 a] w fun e w' => e = .returned (.int .i64 (pl s a)) ∧ On w w' := by
  go_enter Tryz.func126, Tryz.ntmps126
  go_wp2
  go_loopg [1] (s.size - a) (fun k v wr => ∃ a' : Nat, v = .int .i64 a' ∧ k = s.size - a' ∧ a' ≤ s.size ∧ a' + gap false (suf s a') = pl s a ∧ On w wr)
  case atStart => exact ⟨a, rfl, rfl, ha, rfl, On.refl _⟩
  case round =>
    obtain ⟨a', rfl, hk, ha', hg, hon⟩ := hrel
    have Hg : Hid (a' + gap false (suf s a') = pl s a) := hg
    clear hg
    by_cases hlt : a' < s.size
    · have hcN := bN_lt hlt
      obtain ⟨c, hc⟩ : ∃ c, (s[a']'hlt).toNat = c := ⟨_, rfl⟩
      rw [hc] at hcN
      have HCN : Hid (bN s a' = c) := hcN
      clear hcN
      rcases (show c = 32 ∨ c = 9 ∨ c = 10 ∨ c = 35 ∨ (c ≠ 32 ∧ c ≠ 9 ∧ c ≠ 10 ∧ c ≠ 35) from by omega) with h | h | h | h | ⟨h1, h2, h3, h4⟩
      · subst h
        go_wp2
        go_roundg (s.size - (a' + 1))
        case measure => omega
        case rel => exact ⟨a' + 1, by go_num, rfl, by omega, by rw [← Hg.out, gap_blank hlt (by rw [HCN.out]; decide) (by rw [HCN.out]; decide)]; omega, hon⟩
      · subst h
        go_wp2
        go_roundg (s.size - (a' + 1))
        case measure => omega
        case rel => exact ⟨a' + 1, by go_num, rfl, by omega, by rw [← Hg.out, gap_blank hlt (by rw [HCN.out]; decide) (by rw [HCN.out]; decide)]; omega, hon⟩
      · subst h
        go_wp2
        go_roundg (s.size - (a' + 1))
        case measure => omega
        case rel => exact ⟨a' + 1, by go_num, rfl, by omega, by rw [← Hg.out, gap_blank hlt (by rw [HCN.out]; decide) (by rw [HCN.out]; decide)]; omega, hon⟩
      · subst h
        go_wp2
        go_loopg [1] (s.size - a') (fun k v wx => ∃ a2 : Nat, v = .int .i64 a2 ∧ k = s.size - a2 ∧ a' ≤ a2 ∧ a2 ≤ s.size ∧ a2 + gap true (suf s a2) = pl s a ∧ On w wx)
        case atStart => exact ⟨a', rfl, rfl, Nat.le_refl _, ha', by rw [← Hg.out, gap_hash hlt HCN.out], hon⟩
        case round =>
          obtain ⟨a2, rfl, hk2, haa, ha2, hg2, hon2⟩ := hrel
          have HG2 : Hid (a2 + gap true (suf s a2) = pl s a) := hg2
          clear hg2
          by_cases hlt2 : a2 < s.size
          · have hcN2 := bN_lt hlt2
            obtain ⟨d, hd⟩ : ∃ d, (s[a2]'hlt2).toNat = d := ⟨_, rfl⟩
            rw [hd] at hcN2
            have HD : Hid (bN s a2 = d) := hcN2
            clear hcN2
            by_cases h10 : d = 10
            · subst h10
              go_wp2
              go_roundg (s.size - a2)
              case measure => have := HCN.out; have := HD.out; have : a' ≠ a2 := (fun e => by subst e; omega); omega
              case rel => exact ⟨a2, rfl, rfl, ha2, by rw [← HG2.out, gap_line hlt2 HD.out], hon2⟩
            · have hb : ((d : Int) != 10) = true := by simp; omega
              go_wp2
              go_roundg (s.size - (a2 + 1))
              case measure => omega
              case rel => exact ⟨a2 + 1, by go_num, rfl, by omega, by omega, by rw [← HG2.out, gap_note hlt2 (by rw [HD.out]; exact h10)]; omega, hon2⟩
          · go_wp2
            go_roundg (s.size - a2)
            case measure => omega
            case rel => exact ⟨a2, rfl, rfl, ha2, by rw [← HG2.out, gap_over _ (by omega), gap_over _ (by omega)], hon2⟩
      · have e1 : ((c : Int) == 32) = false := by rw [beq_eq_false_iff_ne]; omega
        have e2 : ((c : Int) == 9) = false := by rw [beq_eq_false_iff_ne]; omega
        have e3 : ((c : Int) == 10) = false := by rw [beq_eq_false_iff_ne]; omega
        have e4 : ((c : Int) == 35) = false := by rw [beq_eq_false_iff_ne]; omega
        go_wp2
        go_ret
        have e : pl s a = a' := by
          rw [← Hg.out, gap_stop hlt (by rw [HCN.out]; exact h4) (by rw [HCN.out]; simp [blN]; omega)]
          rfl
        rw [e]
        exact ⟨rfl, hon⟩
    · go_wp2
      go_ret
      have e : pl s a = a' := by rw [← Hg.out, gap_over _ (by omega)]; rfl
      rw [e]
      exact ⟨rfl, hon⟩
end Go.Proofs.YtacflahkofmcpaaGreatDoor

namespace Go.Proofs.YtacflahkofmcpaaGreatDoor
open Go.RowKit

theorem wrap_toInt (v : BitVec 64) : IntKind.i64.wrap (v.toNat : Nat) = v.toInt := by
  rw [IntKind.wrap_i64, BitVec.toInt_eq_toNat_cond]
  have := v.isLt
  split <;> omega
theorem band_eq (a b : Int) : bits .and .i64 a b = (BitVec.ofInt 64 a &&& BitVec.ofInt 64 b).toInt := wrap_toInt _
theorem bor_eq (a b : Int) : bits .or .i64 a b = (BitVec.ofInt 64 a ||| BitVec.ofInt 64 b).toInt := wrap_toInt _
theorem bxor_eq (a b : Int) : bits .xor .i64 a b = (BitVec.ofInt 64 a ^^^ BitVec.ofInt 64 b).toInt := wrap_toInt _
theorem wrap64_eq (n : Int) : wrap64 n = (BitVec.ofInt 64 n).toInt := by
  rw [BitVec.toInt_ofInt]; unfold wrap64; rw [Int.bmod_def]; split <;> omega
theorem toInt_of {a : Int} (h0 : -9223372036854775808 ≤ a) (h1 : a ≤ 9223372036854775807) : (BitVec.ofInt 64 a).toInt = a := by
  rw [← wrap64_eq]; unfold wrap64; omega

theorem nat_and_or : ∀ n a b : Nat, a < n → (a &&& b) + (a ||| b) = a + b
  | 0, a, b, h => by omega
  | n + 1, a, b, h => by
    by_cases ha : a = 0
    · subst ha; simp
    · have ih := nat_and_or n (a / 2) (b / 2) (by omega)
      rw [← Nat.and_div_two, ← Nat.or_div_two] at ih
      have m1 : (a &&& b) % 2 = (a % 2) &&& (b % 2) := Nat.and_mod_two_pow (n := 1)
      have m2 : (a ||| b) % 2 = (a % 2) ||| (b % 2) := Nat.or_mod_two_pow (n := 1)
      have m : (a &&& b) % 2 + (a ||| b) % 2 = a % 2 + b % 2 := by
        rw [m1, m2]
        rcases Nat.mod_two_eq_zero_or_one a with e1 | e1 <;> rcases Nat.mod_two_eq_zero_or_one b with e2 | e2 <;> rw [e1, e2] <;> rfl
      omega

theorem bv_and_or (x y : BitVec 64) : (x &&& y) + (x ||| y) = x + y := by
  apply BitVec.eq_of_toNat_eq
  simp only [BitVec.toNat_add, BitVec.toNat_and, BitVec.toNat_or]
  rw [nat_and_or (x.toNat + 1) x.toNat y.toNat (by omega)]

theorem bits_back (a b : Int) (h0 : -9223372036854775808 ≤ a) (h1 : a ≤ 9223372036854775807) : bits .xor .i64 (bits .xor .i64 a b) b = a := by
  rw [bxor_eq, bxor_eq, BitVec.ofInt_toInt, BitVec.xor_assoc, BitVec.xor_self, BitVec.xor_zero, toInt_of h0 h1]
theorem bits_sum (a b : Int) : wrap64 (bits .and .i64 a b + bits .or .i64 a b) = wrap64 (a + b) := by
  rw [band_eq, bor_eq, wrap64_eq, wrap64_eq, BitVec.ofInt_add, BitVec.ofInt_add, BitVec.ofInt_toInt, BitVec.ofInt_toInt, bv_and_or]
theorem bits_or (a b : Int) : bits .or .i64 (bits .and .i64 a b) (bits .xor .i64 a b) = bits .or .i64 a b := by
  rw [bor_eq, bor_eq, band_eq, bxor_eq, BitVec.ofInt_toInt, BitVec.ofInt_toInt]
  congr 1
  apply BitVec.eq_of_getLsbD_eq
  intro i _
  simp only [BitVec.getLsbD_or, BitVec.getLsbD_and, BitVec.getLsbD_xor]
  cases (BitVec.ofInt 64 a).getLsbD i <;> cases (BitVec.ofInt 64 b).getLsbD i <;> rfl

theorem i64_and31 (n : Int) : bits .and .i64 n 31 = n % 32 := by
  have h63 : (BitVec.ofInt 64 31).toNat = 2 ^ 5 - 1 := by decide
  have key : (BitVec.ofInt 64 n &&& BitVec.ofInt 64 31).toNat = (n % ((2 ^ 64 : Nat) : Int)).toNat % 2 ^ 5 := by
    rw [BitVec.toNat_and, BitVec.toNat_ofInt, h63, Nat.and_two_pow_sub_one_eq_mod]
  show IntKind.i64.wrap ((BitVec.ofInt 64 n &&& BitVec.ofInt 64 31).toNat : Nat) = n % 32
  rw [key, IntKind.wrap_i64]
  omega
theorem i64_and1 (n : Int) : bits .and .i64 n 1 = n % 2 := by
  have h63 : (BitVec.ofInt 64 1).toNat = 2 ^ 1 - 1 := by decide
  have key : (BitVec.ofInt 64 n &&& BitVec.ofInt 64 1).toNat = (n % ((2 ^ 64 : Nat) : Int)).toNat % 2 ^ 1 := by
    rw [BitVec.toNat_and, BitVec.toNat_ofInt, h63, Nat.and_two_pow_sub_one_eq_mod]
  show IntKind.i64.wrap ((BitVec.ofInt 64 n &&& BitVec.ofInt 64 1).toNat : Nat) = n % 2
  rw [key, IntKind.wrap_i64]
  omega
theorem i64_and255 (n : Int) : bits .and .i64 n 255 = n % 256 := by
  have h63 : (BitVec.ofInt 64 255).toNat = 2 ^ 8 - 1 := by decide
  have key : (BitVec.ofInt 64 n &&& BitVec.ofInt 64 255).toNat = (n % ((2 ^ 64 : Nat) : Int)).toNat % 2 ^ 8 := by
    rw [BitVec.toNat_and, BitVec.toNat_ofInt, h63, Nat.and_two_pow_sub_one_eq_mod]
  show IntKind.i64.wrap ((BitVec.ofInt 64 n &&& BitVec.ofInt 64 255).toNat : Nat) = n % 256
  rw [key, IntKind.wrap_i64]
  omega

theorem pow_bounds (m n : Nat) (h : m ≤ n) : (1 : Int) ≤ 2 ^ m ∧ (2 : Int) ^ m ≤ 2 ^ n := by
  have a := Nat.one_le_two_pow (n := m)
  have b := Nat.pow_le_pow_right (n := 2) (by decide) h
  have c : ((2 ^ m : Nat) : Int) = 2 ^ m := by simp
  have d : ((2 ^ n : Nat) : Int) = 2 ^ n := by simp
  omega

/-- A small number times a small power of two does not wrap. -/
theorem shl_small (a : Int) (m : Nat) (h0 : -2147483648 ≤ a) (h1 : a ≤ 2147483647) (hm : m ≤ 31) : wrap64 (a * 2 ^ m) = a * 2 ^ m := by
  obtain ⟨p1, p2⟩ := pow_bounds m 31 hm
  generalize (2 : Int) ^ m = p at *
  have u := Int.mul_le_mul_of_nonneg_right (show a ≤ 2147483648 by omega) (show 0 ≤ p by omega)
  have l := Int.mul_le_mul_of_nonneg_right (show -2147483648 ≤ a by omega) (show 0 ≤ p by omega)
  generalize a * p = x at *
  unfold wrap64
  omega
theorem shr_back (a : Int) (m : Nat) : a * 2 ^ m / 2 ^ m = a := Int.mul_ediv_cancel _ (by have := (pow_bounds m m (Nat.le_refl _)).1; omega)

/-- What is shifted up wraps to a multiple. -/
theorem wrap_dvd (n : Int) (m : Nat) (hm : m ≤ 63) : wrap64 (n * 2 ^ m) / 2 ^ m * 2 ^ m = wrap64 (n * 2 ^ m) := by
  apply Int.ediv_mul_cancel
  have e64 : (18446744073709551616 : Int) = 2 ^ m * 2 ^ (64 - m) := by
    rw [← Int.pow_add, show m + (64 - m) = 64 by omega]; rfl
  have e63 : (9223372036854775808 : Int) = 2 ^ m * 2 ^ (63 - m) := by
    rw [← Int.pow_add, show m + (63 - m) = 63 by omega]; rfl
  unfold wrap64
  rw [Int.emod_def]
  refine Int.dvd_sub (Int.dvd_sub (Int.dvd_add (Int.dvd_mul_left _ _) ?_) ?_) ?_
  · rw [e63]; exact Int.dvd_mul_right _ _
  · rw [e64, Int.mul_assoc]; exact Int.dvd_mul_right _ _
  · rw [e63]; exact Int.dvd_mul_right _ _
theorem wrap_wrap (n : Int) : wrap64 (wrap64 n) = wrap64 n := by unfold wrap64; omega
end Go.Proofs.YtacflahkofmcpaaGreatDoor

namespace Go.Proofs.YtacflahkofmcpaaGreatDoor

theorem nDigits_le : ∀ (k u : Nat), u < 10 ^ (k + 1) → Lib.nDigits u ≤ k + 1
  | 0, u, h => by rw [Lib.nDigits_small (by simpa using h)]; exact Nat.le_refl _
  | k + 1, u, h => by
    by_cases hs : u < 10
    · rw [Lib.nDigits_small hs]; omega
    · rw [Lib.nDigits_big hs]
      have := nDigits_le k (u / 10) (by rw [Nat.pow_succ] at h; omega)
      omega

theorem digits_head (u : Nat) : ∃ d r, Lib.decDigits u = d :: r ∧ 48 ≤ d.toNat ∧ d.toNat ≤ 57 ∧ (10 ≤ u → r ≠ []) := by
  induction u using Nat.strongRecOn with
  | _ u ih =>
    by_cases h : u < 10
    · refine ⟨_, [], Lib.decDigits_one h, ?_, ?_, fun h' => by omega⟩
      · rw [UInt8.toNat_ofNat']; omega
      · rw [UInt8.toNat_ofNat']; omega
    · obtain ⟨d, r, e, h1, h2, _⟩ := ih (u / 10) (by omega)
      refine ⟨d, r ++ [UInt8.ofNat (48 + u % 10)], ?_, h1, h2, fun _ => by simp⟩
      rw [Lib.decDigits, dif_neg h, e]; rfl

/-- What NumLess asks of a number's text. -/
theorem itoa_shape (a : Int) (h0 : -9223372036854775808 ≤ a) (h1 : a ≤ 9223372036854775807) :
    1 ≤ (Lib.itoa a).length ∧ (Lib.itoa a).length ≤ 20 ∧ (a < 0 → (Lib.itoa a).head? = some 45 ∧ (Lib.itoa a).length ≠ 1)
      ∧ (0 ≤ a → ∃ d, (Lib.itoa a).head? = some d ∧ 48 ≤ d.toNat ∧ d.toNat ≤ 57) ∧ (0 ≤ a → a < 10 → (Lib.itoa a).length = 1) ∧ (10 ≤ a → (Lib.itoa a).length ≠ 1) ∧ (a = 0 → Lib.itoa a = [48]) := by
  by_cases hn : a < 0
  · have e : Lib.itoa a = 45 :: Lib.decDigits a.natAbs := by unfold Lib.itoa; rw [if_pos hn]
    have hl := Lib.decDigits_length a.natAbs
    have hp := Lib.nDigits_pos a.natAbs
    have hle := nDigits_le 18 a.natAbs (by omega)
    rw [e]
    refine ⟨by simp, by rw [List.length_cons]; omega, fun _ => ⟨rfl, by rw [List.length_cons]; omega⟩, by omega, by omega, by omega, by omega⟩
  · have e : Lib.itoa a = Lib.decDigits a.toNat := by unfold Lib.itoa; rw [if_neg hn]
    have hl := Lib.decDigits_length a.toNat
    have hp := Lib.nDigits_pos a.toNat
    have hle := nDigits_le 18 a.toNat (by omega)
    obtain ⟨d, r, ed, b1, b2, _⟩ := digits_head a.toNat
    rw [e]
    refine ⟨by omega, by omega, by omega, fun _ => ⟨d, by rw [ed]; rfl, b1, b2⟩, fun _ h => ?_, fun h => ?_, fun h => ?_⟩
    · rw [hl, Lib.nDigits_small (by omega)]
    · rw [hl, Lib.nDigits_big (by omega)]
      have := Lib.nDigits_pos (a.toNat / 10)
      omega
    · subst h; simp [Lib.decDigits]
end Go.Proofs.YtacflahkofmcpaaGreatDoor

namespace Go.Proofs.YtacflahkofmcpaaGreatDoor

theorem dig_toNat (u : Nat) (h : u < 10) : (UInt8.ofNat (48 + u)).toNat = 48 + u := by rw [UInt8.toNat_ofNat']; omega
theorem dig_of {c : UInt8} (h1 : 48 ≤ c.toNat) (h2 : c.toNat ≤ 57) : UInt8.ofNat (48 + (c.toNat - 48)) = c := by
  apply UInt8.toNat_inj.1
  rw [dig_toNat _ (by omega)]
  omega
theorem digitVal_dig (u : Nat) (h : u < 10) : Lib.digitVal (UInt8.ofNat (48 + u)) = some u := by
  unfold Lib.digitVal
  rw [dig_toNat u h, if_pos (by omega)]
  congr 1
  omega

theorem decFrom_snoc (l : List UInt8) (c : UInt8) : ∀ acc, Lib.decFrom acc (l ++ [c]) = (Lib.decFrom acc l).bind fun n => (Lib.digitVal c).map fun d => n * 10 + d := by
  induction l with
  | nil =>
    intro acc
    simp only [List.nil_append, Lib.decFrom, Option.bind_some]
    cases Lib.digitVal c <;> rfl
  | cons a r ih =>
    intro acc
    simp only [List.cons_append, Lib.decFrom]
    cases Lib.digitVal a with
    | none => rfl
    | some d => exact ih _

theorem parseUintM_snoc (M : Nat) (l : List UInt8) (c : UInt8) : ∀ acc, Lib.parseUintM M acc (l ++ [c]) = match Lib.parseUintM M acc l with
    | .ok a => Lib.parseUintM M a [c]
    | e => e := by
  induction l with
  | nil => intro acc; simp only [List.nil_append, Lib.parseUintM]
  | cons a r ih =>
    intro acc
    simp only [List.cons_append]
    rw [Lib.parseUintM, Lib.parseUintM]
    by_cases h1 : 48 ≤ a.toNat ∧ a.toNat ≤ 57
    · simp only [h1, and_self, if_true]
      by_cases h2 : 1844674407370955162 ≤ acc
      · simp only [h2, if_true]
      · simp only [h2, if_false]
        by_cases h3 : M < acc * 10 + (a.toNat - 48)
        · simp only [h3, if_true]
        · simp only [h3, if_false]
          exact ih _
    · simp only [h1, if_false]

/-- A number's digits spell it. -/
theorem decFrom_digits (u : Nat) : Lib.decFrom 0 (Lib.decDigits u) = some u := by
  induction u using Nat.strongRecOn with
  | _ u ih =>
    by_cases h : u < 10
    · rw [Lib.decDigits_one h]
      simp only [Lib.decFrom, digitVal_dig u h, Nat.zero_mul, Nat.zero_add]
    · rw [Lib.decDigits, dif_neg h, decFrom_snoc, ih (u / 10) (by omega), digitVal_dig _ (by omega)]
      simp only [Option.map_some, Option.bind_some, Option.some.injEq]
      omega

theorem parseUintM_digits (M : Nat) (hM : M < 18446744073709551616) (u : Nat) (hu : u ≤ M) : Lib.parseUintM M 0 (Lib.decDigits u) = .ok u := by
  induction u using Nat.strongRecOn with
  | _ u ih =>
    by_cases h : u < 10
    · rw [Lib.decDigits_one h, Lib.parseUintM, dig_toNat u h]
      simp only [Lib.parseUintM]
      rw [if_pos (by omega), if_neg (by omega), if_neg (by omega)]
      congr 1
      omega
    · rw [Lib.decDigits, dif_neg h, parseUintM_snoc, ih (u / 10) (by omega) (by omega)]
      simp only [Lib.parseUintM]
      rw [dig_toNat _ (by omega), if_pos (by omega), if_neg (by omega), if_neg (by omega)]
      congr 1
      omega

/-- A number's numeral is read back. -/
theorem parse_itoa (v : Int) (h0 : -9223372036854775808 ≤ v) (h1 : v ≤ 9223372036854775807) : Lib.parseIntB 64 (Lib.itoa v) = .ok v := by
  by_cases hn : v < 0
  · have e : Lib.itoa v = 45 :: Lib.decDigits v.natAbs := by unfold Lib.itoa; rw [if_pos hn]
    obtain ⟨d, r, ed, _⟩ := digits_head v.natAbs
    have hp := parseUintM_digits 18446744073709551615 (by omega) v.natAbs (by omega)
    have hB : Lib.parseUintB 64 (Lib.decDigits v.natAbs) = .ok v.natAbs := by
      unfold Lib.parseUintB
      rw [if_neg (by rw [ed]; simp)]
      exact hp
    rw [e]
    unfold Lib.parseIntB
    simp only [show ((45 : UInt8).toNat = 45) = True from by decide, or_true, if_true, hB, not_true, false_and, if_false, true_and]
    rw [if_neg (by omega)]
    congr 1
    omega
  · have e : Lib.itoa v = Lib.decDigits v.toNat := by unfold Lib.itoa; rw [if_neg hn]
    obtain ⟨d, r, ed, b1, b2, _⟩ := digits_head v.toNat
    have hp := parseUintM_digits 18446744073709551615 (by omega) v.toNat (by omega)
    have hB : Lib.parseUintB 64 (d :: r) = .ok v.toNat := by
      unfold Lib.parseUintB
      rw [if_neg (by simp), ← ed]
      exact hp
    rw [e, ed]
    unfold Lib.parseIntB
    have g1 : ¬ d.toNat = 43 := by omega
    have g2 : ¬ d.toNat = 45 := by omega
    simp only [g1, g2, or_self, if_false, hB, not_false_eq_true, true_and, false_and]
    rw [if_neg (by omega)]
    congr 1
    omega

/-- The leading digit of a number that is not nought is not nought. -/
theorem digits_lead (u : Nat) (h : 1 ≤ u) : ∃ d r, Lib.decDigits u = d :: r ∧ 49 ≤ d.toNat ∧ d.toNat ≤ 57 := by
  induction u using Nat.strongRecOn with
  | _ u ih =>
    by_cases hs : u < 10
    · exact ⟨_, [], Lib.decDigits_one hs, by rw [dig_toNat u hs]; omega, by rw [dig_toNat u hs]; omega⟩
    · obtain ⟨d, r, e, b1, b2⟩ := ih (u / 10) (by omega) (by omega)
      exact ⟨d, r ++ [UInt8.ofNat (48 + u % 10)], by rw [Lib.decDigits, dif_neg hs, e]; rfl, b1, b2⟩

/-- Digits without a nought ahead are their number's numeral, and it is not nought. -/
theorem digits_of (n : Nat) : ∀ (l : List UInt8) (u : Nat), l.length = n + 1 → Lib.decFrom 0 l = some u → (∀ c r, l = c :: r → c.toNat ≠ 48) → Lib.decDigits u = l ∧ 1 ≤ u := by
  induction n with
  | zero =>
    intro l u hl h hc
    match l, hl with
    | [c], _ =>
      have h48 := hc c [] rfl
      simp only [Lib.decFrom] at h
      cases hd : Lib.digitVal c with
      | none => rw [hd] at h; cases h
      | some d =>
        rw [hd] at h
        simp only [Option.some.injEq, Nat.zero_mul, Nat.zero_add] at h
        unfold Lib.digitVal at hd
        split at hd
        · rename_i hb
          obtain rfl := Option.some.inj hd
          subst h
          refine ⟨?_, by omega⟩
          rw [Lib.decDigits_one (by omega), dig_of hb.1 hb.2]
        · cases hd
  | succ n ih =>
    intro l u hl h hc
    obtain ⟨l', c, rfl⟩ : ∃ l' c, l = l' ++ [c] := ⟨l.dropLast, l.getLast (by intro e; simp [e] at hl), (List.dropLast_concat_getLast _).symm⟩
    have hl' : l'.length = n + 1 := by simpa using hl
    rw [decFrom_snoc] at h
    cases h' : Lib.decFrom 0 l' with
    | none => rw [h'] at h; cases h
    | some m =>
      rw [h'] at h
      simp only [Option.bind_some] at h
      obtain ⟨e, hm⟩ := ih l' m hl' h' (fun a r hh => hc a (r ++ [c]) (by rw [hh]; rfl))
      cases hd : Lib.digitVal c with
      | none => rw [hd] at h; cases h
      | some d =>
        rw [hd] at h
        simp only [Option.map_some, Option.some.injEq] at h
        unfold Lib.digitVal at hd
        split at hd
        · rename_i hb
          obtain rfl := Option.some.inj hd
          subst h
          refine ⟨?_, by omega⟩
          rw [Lib.decDigits, dif_neg (by omega), show (m * 10 + (c.toNat - 48)) / 10 = m by omega, show (m * 10 + (c.toNat - 48)) % 10 = c.toNat - 48 by omega, e, dig_of hb.1 hb.2]
        · cases hd

/-- No numeral has a nought ahead. -/
theorem itoa_lead (v : Int) (r : List UInt8) (h : Lib.itoa v = 48 :: r) : r = [] := by
  by_cases hn : v < 0
  · unfold Lib.itoa at h
    rw [if_pos hn] at h
    simp at h
  · unfold Lib.itoa at h
    rw [if_neg hn] at h
    by_cases h0 : v.toNat = 0
    · rw [h0, Lib.decDigits_one (by omega)] at h
      simpa using h.symm
    · obtain ⟨d, r', e, b1, _⟩ := digits_lead v.toNat (by omega)
      rw [e] at h
      obtain ⟨rfl, _⟩ := List.cons.inj h
      simp at b1
theorem itoa_minus (v : Int) (r : List UInt8) : Lib.itoa v ≠ 45 :: 48 :: r := by
  intro h
  by_cases hn : v < 0
  · unfold Lib.itoa at h
    rw [if_pos hn] at h
    obtain ⟨d, r', e, b1, _⟩ := digits_lead v.natAbs (by omega)
    rw [e] at h
    simp only [List.cons.injEq, true_and] at h
    rw [h.1] at b1
    simp at b1
  · unfold Lib.itoa at h
    rw [if_neg hn] at h
    obtain ⟨d, r', e, b1, b2, _⟩ := digits_head v.toNat
    rw [e] at h
    obtain ⟨rfl, _⟩ := List.cons.inj h
    simp at b1
end Go.Proofs.YtacflahkofmcpaaGreatDoor
