/- Proved: for every string the law ParseWords of layer 3 returns true and leaves its argument as it was; the condition is that the listed package-level variables hold what the program's text lays, to which the card ties them. -/
import Derived.Test.YtoaepdjjjcaafaaGreatDoorRefTreeW
import Derived.Test.YtoaepdjjjcaafaaGreatDoorParseAwake
import Derived.Test.YtoaepdjjjcaafaaGreatDoorLift2
import Derived.BigQuiet
namespace Go.Proofs.YtoaepdjjjcaafaaGreatDoor
open Go.ChangeShapes Go.WideShapes Go.ChangeAt Go.WideMaps Go.WideElems Go.RowKit
open Go.ChangeMaps (open_string shut_string)

theorem parse_open (s : ByteArray) (hs : s.size ≤ 140737488351232) {T : TestT} {c p : Nat} (h : parseP s = (T, c, p)) (w : World) (hw : Lw w) :
    Calls Tryz.prog 8 #[.string s] w fun e w' => ∃ a1 m1 c1 a2 c2 a3 m3 c3, e = .returned (.tuple #[.agg #[.string T.name, .slice a1 m1 c1, .slice a2 T.thr.length c2, .int .i64 T.cond.k, .slice a3 m3 c3], .agg #[.int .i64 c, .int .i64 p]]) ∧ TestAt w' w.heap.size (.agg #[.string T.name, .slice a1 m1 c1, .slice a2 T.thr.length c2, .int .i64 T.cond.k, .slice a3 m3 c3]) T ∧ On w w' := by
  refine (parseGo_is s hs w hw).mono ?_
  rw [h]
  rintro e w' ⟨v, rfl, ht, k⟩
  obtain ⟨a1, m1, c1, a2, m2, c2, a3, m3, c3, rfl, _, h2, _⟩ := id ht
  obtain ⟨rfl, _⟩ := h2.len
  exact ⟨a1, m1, c1, a2, c2, a3, m3, c3, rfl, ht, k⟩
theorem tree_open (s : ByteArray) (hs : s.size ≤ 140737488351232) {T : TestT} {c p : Nat} (h : parseP s = (T, c, p)) (w : World) :
    Calls Tryz.prog 9 #[.string s] w fun e w' => ∃ n a1 m1 c1 a2 m2 c2 k a3 m3 c3, e = .returned (.tuple #[.agg #[.string n, .slice a1 m1 c1, .slice a2 m2 c2, .int .i64 k, .slice a3 m3 c3], .agg #[.int .i64 c, .int .i64 p]]) ∧ TestAt w' w.heap.size (.agg #[.string n, .slice a1 m1 c1, .slice a2 m2 c2, .int .i64 k, .slice a3 m3 c3]) T ∧ On w w' := by
  refine (rtree_is w s hs).mono ?_
  rw [h]
  rintro e w' ⟨v, rfl, ht, k⟩
  obtain ⟨a1, m1, c1, a2, m2, c2, a3, m3, c3, rfl, _⟩ := id ht
  exact ⟨_, a1, m1, c1, a2, m2, c2, _, a3, m3, c3, rfl, ht, k⟩

def theWords : List ByteArray := [⟨#[116, 101, 115, 116]⟩, ⟨#[116, 104, 114, 101, 97, 100]⟩, ⟨#[115, 116, 111, 114, 101]⟩, ⟨#[101, 120, 105, 115, 116, 115]⟩, ⟨#[120]⟩, ⟨#[114, 48]⟩]
abbrev wTail : ByteArray := ⟨#[32, 123, 32, 116, 104, 114, 101, 97, 100, 32, 123, 32, 125, 32, 125]⟩
abbrev wHead : ByteArray := ⟨#[116, 101, 115, 116, 32]⟩
theorem word0 : parseP (wHead ++ ⟨#[116, 101, 115, 116]⟩ ++ wTail) = (⟨⟨#[116, 101, 115, 116]⟩, [], [[]], ⟨0, []⟩⟩, 0, 0) := by kernel_rfl
theorem word1 : parseP (wHead ++ ⟨#[116, 104, 114, 101, 97, 100]⟩ ++ wTail) = (⟨⟨#[116, 104, 114, 101, 97, 100]⟩, [], [[]], ⟨0, []⟩⟩, 0, 0) := by kernel_rfl
theorem word2 : parseP (wHead ++ ⟨#[115, 116, 111, 114, 101]⟩ ++ wTail) = (⟨⟨#[115, 116, 111, 114, 101]⟩, [], [[]], ⟨0, []⟩⟩, 0, 0) := by kernel_rfl
theorem word3 : parseP (wHead ++ ⟨#[101, 120, 105, 115, 116, 115]⟩ ++ wTail) = (⟨⟨#[101, 120, 105, 115, 116, 115]⟩, [], [[]], ⟨0, []⟩⟩, 0, 0) := by kernel_rfl
theorem word4 : parseP (wHead ++ ⟨#[120]⟩ ++ wTail) = (⟨⟨#[120]⟩, [], [[]], ⟨0, []⟩⟩, 0, 0) := by kernel_rfl
theorem word5 : parseP (wHead ++ ⟨#[114, 48]⟩ ++ wTail) = (⟨⟨#[114, 48]⟩, [], [[]], ⟨0, []⟩⟩, 0, 0) := by kernel_rfl
set_option maxHeartbeats 1000000 in
set_option maxRecDepth 8000 in
theorem words_long (s : ByteArray) (hl : (200 : Int) < (s.size : Int)) (w : World) (hw : Lw w) :
    Calls Tryz.prog 3 #[.string s] w fun e w' => e = .returned (.bool true) ∧ On w w' := by
  go_enter Tryz.func3, Tryz.ntmps3
  go_wp2_with fail
  refine (awake_any _ hw).mono ?_
  rintro e w1 ⟨rfl, k1⟩
  go_wp2
  all_goals (try go_ret)
  all_goals exact ⟨rfl, k1⟩

set_option maxHeartbeats 4000000 in
set_option maxRecDepth 8000 in
theorem words_short (s : ByteArray) (hl : (s.size : Int) ≤ 200) (w : World) (hw : Lw w) :
    Calls Tryz.prog 3 #[.string s] w fun e w' => e = .returned (.bool true) ∧ On w w' := by
  obtain ⟨T, c, p, hR⟩ : ∃ T c p, parseP (wHead ++ s ++ wTail) = (T, c, p) := ⟨_, _, _, rfl⟩
  have hz : (wHead ++ s ++ wTail).size ≤ 140737488351232 := by
    rw [ByteArray.size_append, ByteArray.size_append]
    show 5 + s.size + 15 ≤ _
    omega
  have hP := fun W (h : Lw W) => parse_open (wHead ++ s ++ wTail) hz hR W h
  have hQ := fun W => tree_open (wHead ++ s ++ wTail) hz hR W
  have hcc : ((c : Int) == c) = true := by simp
  have hpp : ((p : Int) == p) = true := by simp
  have hlw : ∀ w', On w w' → Lw w' := fun w' k => hw.on k
  clear hR hz
  go_enter Tryz.func3, Tryz.ntmps3
  go_wp2_with fail
  refine (hP _ hw).mono ?_
  rintro e w1 ⟨a1, m1, c1, a2, c2, a3, m3, c3, rfl, t1, k1⟩
  have W1 : Hid (On w w1) := k1
  have H1 : Hid (TestAt w1 w.heap.size (.agg #[.string T.name, .slice a1 m1 c1, .slice a2 T.thr.length c2, .int .i64 T.cond.k, .slice a3 m3 c3]) T) := t1
  clear k1 t1 hP hw
  go_wp2_with fail
  refine (hQ _).mono ?_
  rintro e w2 ⟨n', x1, y1, z1, x2, y2, z2, k', x3, y3, z3, rfl, t2, k2⟩
  have W2 : Hid (On w w2) := ((W1.out.alloc _).alloc _).trans k2
  have H2 := H1.out.on (((On.refl w1).alloc _).alloc _ |>.trans k2)
  have B1 := ((Bk.new w1 #[.string T.name, .slice a1 m1 c1, .slice a2 T.thr.length c2, .int .i64 T.cond.k, .slice a3 m3 c3] 29).alloc (.cells #[.int .i64 c, .int .i64 p] 32)).on k2
  have B2 := (Bk.new2 w1 (.cells #[.string T.name, .slice a1 m1 c1, .slice a2 T.thr.length c2, .int .i64 T.cond.k, .slice a3 m3 c3] 29) #[.int .i64 c, .int .i64 p] 32).on k2
  clear k2 hQ H1 W1
  go_wp2
  obtain ⟨W0, hW0⟩ : ∃ W0, W0 = ((w2.alloc (.cells #[.string n', .slice x1 y1 z1, .slice x2 y2 z2, .int .i64 k', .slice x3 y3 z3] 29)).alloc (.cells #[.int .i64 c, .int .i64 p] 32)).alloc (.cells #[.string ⟨#[116, 101, 115, 116]⟩, .string ⟨#[116, 104, 114, 101, 97, 100]⟩, .string ⟨#[115, 116, 111, 114, 101]⟩, .string ⟨#[101, 120, 105, 115, 116, 115]⟩, .string ⟨#[120]⟩, .string ⟨#[114, 48]⟩] 9) := ⟨_, rfl⟩
  have k0 : On w2 W0 := by rw [hW0]; exact (((On.refl w2).alloc _).alloc _).alloc _
  have C1 : Bk W0 w2.heap.size #[.string n', .slice x1 y1 z1, .slice x2 y2 z2, .int .i64 k', .slice x3 y3 z3] := by rw [hW0]; exact ((Bk.new w2 _ _).alloc _).alloc _
  have C2 : Bk W0 (w2.heap.size + 1) #[.int .i64 c, .int .i64 p] := by rw [hW0]; exact (Bk.new2 w2 _ _ _).alloc _
  have C3 : Bk W0 (w2.heap.size + 1 + 1) #[.string ⟨#[116, 101, 115, 116]⟩, .string ⟨#[116, 104, 114, 101, 97, 100]⟩, .string ⟨#[115, 116, 111, 114, 101]⟩, .string ⟨#[101, 120, 105, 115, 116, 115]⟩, .string ⟨#[120]⟩, .string ⟨#[114, 48]⟩] := by
    rw [hW0]
    have h := Bk.new2 (w2.alloc (.cells #[.string n', .slice x1 y1 z1, .slice x2 y2 z2, .int .i64 k', .slice x3 y3 z3] 29)) (.cells #[.int .i64 c, .int .i64 p] 32) #[.string ⟨#[116, 101, 115, 116]⟩, .string ⟨#[116, 104, 114, 101, 97, 100]⟩, .string ⟨#[115, 116, 111, 114, 101]⟩, .string ⟨#[101, 120, 105, 115, 116, 115]⟩, .string ⟨#[120]⟩, .string ⟨#[114, 48]⟩] 9
    rw [World.size_alloc] at h
    exact h
  rw [← hW0]
  have HB1 : Hid (Bk W0 w1.heap.size #[.string T.name, .slice a1 m1 c1, .slice a2 T.thr.length c2, .int .i64 T.cond.k, .slice a3 m3 c3]) := B1.on k0
  have HB2 : Hid (Bk W0 (w1.heap.size + 1) #[.int .i64 c, .int .i64 p]) := B2.on k0
  have HC1 : Hid (Bk W0 w2.heap.size #[.string n', .slice x1 y1 z1, .slice x2 y2 z2, .int .i64 k', .slice x3 y3 z3]) := C1
  have HC2 : Hid (Bk W0 (w2.heap.size + 1) #[.int .i64 c, .int .i64 p]) := C2
  have HC3 : Hid (Bk W0 (w2.heap.size + 1 + 1) #[.string ⟨#[116, 101, 115, 116]⟩, .string ⟨#[116, 104, 114, 101, 97, 100]⟩, .string ⟨#[115, 116, 111, 114, 101]⟩, .string ⟨#[101, 120, 105, 115, 116, 115]⟩, .string ⟨#[120]⟩, .string ⟨#[114, 48]⟩]) := C3
  have HT1 : Hid (TestAt W0 w.heap.size (.agg #[.string T.name, .slice a1 m1 c1, .slice a2 T.thr.length c2, .int .i64 T.cond.k, .slice a3 m3 c3]) T) := H2.on k0
  obtain ⟨bb, HT2⟩ : ∃ b, Hid (TestAt W0 b (.agg #[.string n', .slice x1 y1 z1, .slice x2 y2 z2, .int .i64 k', .slice x3 y3 z3]) T) := ⟨_, t2.on k0⟩
  have HON : Hid (On w W0) := W2.out.trans k0
  clear hW0 k0 C1 C2 C3 B1 B2 H2 t2 W2
  go_loopg [31] 6 (fun k i wr => ∃ n : Nat, n ≤ 6 ∧ k = 6 - n ∧ i = .int .i64 n ∧ On W0 wr)
  case atStart => exact ⟨0, by omega, rfl, rfl, On.refl _⟩
  case round =>
    obtain ⟨n, hn, hk, rfl, hon⟩ := hrel
    have hLw : Lw wr := hlw _ (HON.out.trans hon)
    have c3' := HC3.out.on hon
    have hl3 := c3'.lt

    have hcase : n = 0 ∨ n = 1 ∨ n = 2 ∨ n = 3 ∨ n = 4 ∨ n = 5 ∨ n = 6 := by omega
    rcases hcase with rfl | rfl | rfl | rfl | rfl | rfl | rfl
    · have q0 : wr.cell? ⟨w2.heap.size + 1 + 1, 0, none⟩ = some (.string ⟨#[116, 101, 115, 116]⟩) := c3'.at rfl
      have hself := bytes_self ⟨#[116, 101, 115, 116]⟩
      have hP := parse_open (wHead ++ ⟨#[116, 101, 115, 116]⟩ ++ wTail) (by decide +kernel) word0 wr hLw
      have HO : Hid (On W0 wr) := hon
      clear c3' hon hLw
      go_wp2_with fail
      refine hP.mono ?_
      rintro e w5 ⟨b1, d1, e1, b2, e2, b3, d3, e3, rfl, _, k5⟩
      have HO5 : Hid (On W0 w5) := HO.out.trans k5
      clear k5 hP
      go_wp2
      go_roundg (6 - (0 + 1))
      case measure => omega
      case rel => exact ⟨0 + 1, by omega, rfl, by go_num, (HO5.out.alloc _).alloc _⟩
    · have q0 : wr.cell? ⟨w2.heap.size + 1 + 1, 1, none⟩ = some (.string ⟨#[116, 104, 114, 101, 97, 100]⟩) := c3'.at rfl
      have hself := bytes_self ⟨#[116, 104, 114, 101, 97, 100]⟩
      have hP := parse_open (wHead ++ ⟨#[116, 104, 114, 101, 97, 100]⟩ ++ wTail) (by decide +kernel) word1 wr hLw
      have HO : Hid (On W0 wr) := hon
      clear c3' hon hLw
      go_wp2_with fail
      refine hP.mono ?_
      rintro e w5 ⟨b1, d1, e1, b2, e2, b3, d3, e3, rfl, _, k5⟩
      have HO5 : Hid (On W0 w5) := HO.out.trans k5
      clear k5 hP
      go_wp2
      go_roundg (6 - (1 + 1))
      case measure => omega
      case rel => exact ⟨1 + 1, by omega, rfl, by go_num, (HO5.out.alloc _).alloc _⟩
    · have q0 : wr.cell? ⟨w2.heap.size + 1 + 1, 2, none⟩ = some (.string ⟨#[115, 116, 111, 114, 101]⟩) := c3'.at rfl
      have hself := bytes_self ⟨#[115, 116, 111, 114, 101]⟩
      have hP := parse_open (wHead ++ ⟨#[115, 116, 111, 114, 101]⟩ ++ wTail) (by decide +kernel) word2 wr hLw
      have HO : Hid (On W0 wr) := hon
      clear c3' hon hLw
      go_wp2_with fail
      refine hP.mono ?_
      rintro e w5 ⟨b1, d1, e1, b2, e2, b3, d3, e3, rfl, _, k5⟩
      have HO5 : Hid (On W0 w5) := HO.out.trans k5
      clear k5 hP
      go_wp2
      go_roundg (6 - (2 + 1))
      case measure => omega
      case rel => exact ⟨2 + 1, by omega, rfl, by go_num, (HO5.out.alloc _).alloc _⟩
    · have q0 : wr.cell? ⟨w2.heap.size + 1 + 1, 3, none⟩ = some (.string ⟨#[101, 120, 105, 115, 116, 115]⟩) := c3'.at rfl
      have hself := bytes_self ⟨#[101, 120, 105, 115, 116, 115]⟩
      have hP := parse_open (wHead ++ ⟨#[101, 120, 105, 115, 116, 115]⟩ ++ wTail) (by decide +kernel) word3 wr hLw
      have HO : Hid (On W0 wr) := hon
      clear c3' hon hLw
      go_wp2_with fail
      refine hP.mono ?_
      rintro e w5 ⟨b1, d1, e1, b2, e2, b3, d3, e3, rfl, _, k5⟩
      have HO5 : Hid (On W0 w5) := HO.out.trans k5
      clear k5 hP
      go_wp2
      go_roundg (6 - (3 + 1))
      case measure => omega
      case rel => exact ⟨3 + 1, by omega, rfl, by go_num, (HO5.out.alloc _).alloc _⟩
    · have q0 : wr.cell? ⟨w2.heap.size + 1 + 1, 4, none⟩ = some (.string ⟨#[120]⟩) := c3'.at rfl
      have hself := bytes_self ⟨#[120]⟩
      have hP := parse_open (wHead ++ ⟨#[120]⟩ ++ wTail) (by decide +kernel) word4 wr hLw
      have HO : Hid (On W0 wr) := hon
      clear c3' hon hLw
      go_wp2_with fail
      refine hP.mono ?_
      rintro e w5 ⟨b1, d1, e1, b2, e2, b3, d3, e3, rfl, _, k5⟩
      have HO5 : Hid (On W0 w5) := HO.out.trans k5
      clear k5 hP
      go_wp2
      go_roundg (6 - (4 + 1))
      case measure => omega
      case rel => exact ⟨4 + 1, by omega, rfl, by go_num, (HO5.out.alloc _).alloc _⟩
    · have q0 : wr.cell? ⟨w2.heap.size + 1 + 1, 5, none⟩ = some (.string ⟨#[114, 48]⟩) := c3'.at rfl
      have hself := bytes_self ⟨#[114, 48]⟩
      have hP := parse_open (wHead ++ ⟨#[114, 48]⟩ ++ wTail) (by decide +kernel) word5 wr hLw
      have HO : Hid (On W0 wr) := hon
      clear c3' hon hLw
      go_wp2_with fail
      refine hP.mono ?_
      rintro e w5 ⟨b1, d1, e1, b2, e2, b3, d3, e3, rfl, _, k5⟩
      have HO5 : Hid (On W0 w5) := HO.out.trans k5
      clear k5 hP
      go_wp2
      go_roundg (6 - (5 + 1))
      case measure => omega
      case rel => exact ⟨5 + 1, by omega, rfl, by go_num, (HO5.out.alloc _).alloc _⟩
    · have D1 := HB1.out.on hon
      have D2 := HB2.out.on hon
      have D3 := HC1.out.on hon
      have D4 := HC2.out.on hon
      have f0 : wr.cell? ⟨w1.heap.size, 0, none⟩ = _ := D1.at rfl
      have f1 : wr.cell? ⟨w1.heap.size, 1, none⟩ = _ := D1.at rfl
      have f2 : wr.cell? ⟨w1.heap.size, 2, none⟩ = _ := D1.at rfl
      have f3 : wr.cell? ⟨w1.heap.size, 3, none⟩ = _ := D1.at rfl
      have f4 : wr.cell? ⟨w1.heap.size, 4, none⟩ = _ := D1.at rfl
      have fl := D1.lt
      have g0 : wr.cell? ⟨w1.heap.size + 1, 0, none⟩ = _ := D2.at rfl
      have g1 : wr.cell? ⟨w1.heap.size + 1, 1, none⟩ = _ := D2.at rfl
      have gl := D2.lt
      have h0 : wr.cell? ⟨w2.heap.size, 0, none⟩ = _ := D3.at rfl
      have h1 : wr.cell? ⟨w2.heap.size, 1, none⟩ = _ := D3.at rfl
      have h2 : wr.cell? ⟨w2.heap.size, 2, none⟩ = _ := D3.at rfl
      have h3 : wr.cell? ⟨w2.heap.size, 3, none⟩ = _ := D3.at rfl
      have h4 : wr.cell? ⟨w2.heap.size, 4, none⟩ = _ := D3.at rfl
      have hl := D3.lt
      have j0 : wr.cell? ⟨w2.heap.size + 1, 0, none⟩ = _ := D4.at rfl
      have j1 : wr.cell? ⟨w2.heap.size + 1, 1, none⟩ = _ := D4.at rfl
      have jl := D4.lt
      have HO : Hid (On w wr) := HON.out.trans hon
      have HS1 := HT1.out.on hon
      have HS2 := HT2.out.on hon
      clear D1 D2 D3 D4 c3' hon
      go_wp2_with fail
      refine (same_is _ T _ _ _ _ HS1 HS2).mono ?_
      rintro e w6 ⟨rfl, k6⟩
      have HO6 : Hid (On w w6) := HO.out.trans k6
      clear k6 HS1 HS2
      go_wp2_with fail
      refine (awake_any _ (hlw _ HO6.out)).mono ?_
      rintro e w7 ⟨rfl, k7⟩
      have HO7 : Hid (On w w7) := HO6.out.trans k7
      clear k7
      go_wp2
      all_goals (try go_ret)
      all_goals exact ⟨rfl, HO7.out⟩

theorem parseWords_walk (s : ByteArray) (_ : s.size ≤ reachBytes) (w : World) (hw : Lw w) :
    Calls Tryz.prog 3 #[.string s] w fun e w' => e = .returned (.bool true) ∧ On w w' := by
  by_cases h : (200 : Int) < (s.size : Int)
  · exact words_long s h w hw
  · exact words_short s (by omega) w hw

set_option maxRecDepth 100000 in
theorem parseWords_lifted (os : Os) (started : os.Started) (H : Type) (enc : TypeId × Value → H) :
    ReturnsInHanded {} Tryz.checked os 3 .any (fun w args => (Rows.parseWordsSpec.pre enc Tryz.prog Tryz.f3 [] false w args ∧ laidMetH Tryz.prog laidL w) ∧ sizedMet enc Tryz.prog Tryz.f3 (OpenSpec.ofChange Rows.parseWordsSpec) false w args)
      (Rows.parseWordsSpec.post enc Tryz.prog Tryz.f3 false true false false) := by
  refine returnsInHanded_of_change_and (C := Tryz.checked) (X := fun w _ => laidMetH Tryz.prog laidL w) (fun _ _ _ hh h => h.of_heap hh) own started (by kernel_rfl) Tryz.func3
    (ChangeSpec.witness_shaped (enc := enc) (C := Tryz.checked) (os := os) (X := fun w _ => laidMetH Tryz.prog laidL w) false (World.doorLaid Tryz.prog 400 os) #[.string ⟨#[]⟩] 8 rfl (World.shaped_of_RefB (by kernel_rfl) (by kernel_rfl)) (by kernel_rfl) (by kernel_rfl) (by kernel_rfl) (door_met os _)) ?_
  intro W base args ds gs before hval0 hW _ hsz hL _
  have hval : ∀ (j : Nat) t v, Tryz.f3.params[j]? = some t → args[j]? = some v → Value.okWide Tryz.prog W .any base t v := hval0
  have hW' := hW
  obtain ⟨p, q, hA0, hV, rfl, hfz, hnd⟩ := hW
  have hA : DataW.TrodAll enc Tryz.prog W 0 (fun _ => true) true Tryz.f3.params.toList args.toList ds p := hA0
  rw [Tryz.params3] at hA hval
  obtain ⟨v0, d0, rfl, rfl, h0⟩ := trodAll_one hA
  obtain ⟨rfl, rfl⟩ := trodVars_none hV
  obtain ⟨s, rfl, rfl, rfl, ws⟩ := open_string Tryz.underlying9 (hval 0 9 v0 rfl rfl) h0
  have rs := sized_string hsz (j := 0) (t := 9) rfl rfl
  clear hA0 hval0
  simp only [List.append_nil] at hW'
  refine (parseWords_walk s rs W (of_laid hL)).mono fun e W' ⟨he, hw⟩ => ?_
  subst he
  refine ⟨_, rfl, _, _, _, [], [], [], hW', ?_, ?_, rfl, Below.frame hw _, fun h => by cases h⟩
  · exact trodAll_mk1 (shut_bool Tryz.underlying4 _)
  · exact trodAll_mk1 (shut_string Tryz.underlying9 ws)

theorem parseWords_said : Rows.ParseWordsSaid :=
  OpenClaim.holds_of_wide 3 Tryz.f3 rfl rfl rfl rfl rfl rfl rfl ⟨rfl, rfl, rfl, rfl, rfl⟩ rfl rfl rfl rfl rfl (by kernel_rfl) Tryz.func3 (by kernel_rfl)
    (of_decide_eq_true (by kernel_rfl)) (by unfold Func.isWrapper; first | (rw [if_pos (by decide +kernel)]; kernel_rfl) | (rw [if_neg (by decide +kernel)]; exact ⟨rfl, rfl⟩))
    (fun os started H enc _ => parseWords_lifted os started H enc)

theorem parseWords_card : Rows.ParseWordsCardSaid :=
  Claim7.holds_tied_plain_at .later [] [.data, .data, .data, .sentinel, .sentinel, .data] true (true, "fed6bbc9ddcd2524c91830ed1f8721a80336d6fec55a5b8dcdff097e5eeb25a8") true
    parseWords_said (fun _ h => by cases h) (by kernel_rfl) (fun _ h => by cases h) parseWords_row_tie rfl ⟨rfl, rfl⟩ (by kernel_rfl) rfl
    (fun f fn hf hfn => by
      obtain rfl : f = 3 := Option.some.inj ((show Tryz.prog.funcNamed "jacquard/jacquardlaw3.ParseWords" = some 3 by kernel_rfl).symm.trans hf) |>.symm
      obtain rfl : fn = Tryz.f3 := (Option.some.inj (Tryz.func3.symm.trans hfn)).symm
      exact ⟨by kernel_rfl, fun j t ht => by
        rw [Tryz.params3] at ht
        have hm : t ∈ [9] := by simpa using Array.mem_of_getElem? ht
        have hall : ([9].all fun u => !Tryz.prog.wantsStandIn u) = true := by kernel_rfl
        exact (show Tryz.prog.wantsStandIn t = false by simpa using List.all_eq_true.1 hall t hm)⟩)
    (by kernel_rfl)
#print axioms parseWords_card

end Go.Proofs.YtoaepdjjjcaafaaGreatDoor
