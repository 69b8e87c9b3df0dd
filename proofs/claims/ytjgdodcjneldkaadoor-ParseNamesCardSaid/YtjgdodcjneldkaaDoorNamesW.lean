/- The walk of the law ParseNames, case by case. -/
import Derived.Test.YtjgdodcjneldkaaDoorParseWordsP
import Derived.Test.YtjgdodcjneldkaaDoorMath

namespace Go.Proofs.YtjgdodcjneldkaaDoor
open Go.RowKit


theorem i64_and15 (n : Int) : bits .and .i64 n 15 = n % 16 := by
  have h63 : (BitVec.ofInt 64 15).toNat = 2 ^ 4 - 1 := by decide
  have key : (BitVec.ofInt 64 n &&& BitVec.ofInt 64 15).toNat = (n % ((2 ^ 64 : Nat) : Int)).toNat % 2 ^ 4 := by
    rw [BitVec.toNat_and, BitVec.toNat_ofInt, h63, Nat.and_two_pow_sub_one_eq_mod]
  show IntKind.i64.wrap ((BitVec.ofInt 64 n &&& BitVec.ofInt 64 15).toNat : Nat) = n % 16
  rw [key, IntKind.wrap_i64]
  omega
theorem i64_and3 (n : Int) : bits .and .i64 n 3 = n % 4 := by
  have h63 : (BitVec.ofInt 64 3).toNat = 2 ^ 2 - 1 := by decide
  have key : (BitVec.ofInt 64 n &&& BitVec.ofInt 64 3).toNat = (n % ((2 ^ 64 : Nat) : Int)).toNat % 2 ^ 2 := by
    rw [BitVec.toNat_and, BitVec.toNat_ofInt, h63, Nat.and_two_pow_sub_one_eq_mod]
  show IntKind.i64.wrap ((BitVec.ofInt 64 n &&& BitVec.ofInt 64 3).toNat : Nat) = n % 4
  rw [key, IntKind.wrap_i64]
  omega
theorem i64_and7 (n : Int) : bits .and .i64 n 7 = n % 8 := by
  have h63 : (BitVec.ofInt 64 7).toNat = 2 ^ 3 - 1 := by decide
  have key : (BitVec.ofInt 64 n &&& BitVec.ofInt 64 7).toNat = (n % ((2 ^ 64 : Nat) : Int)).toNat % 2 ^ 3 := by
    rw [BitVec.toNat_and, BitVec.toNat_ofInt, h63, Nat.and_two_pow_sub_one_eq_mod]
  show IntKind.i64.wrap ((BitVec.ofInt 64 n &&& BitVec.ofInt 64 7).toNat : Nat) = n % 8
  rw [key, IntKind.wrap_i64]
  omega

abbrev lettersX : ByteArray := ⟨#[97, 98, 99, 114, 115, 116, 120, 121, 122, 48, 49, 50, 51, 52, 53, 57]⟩
def L16 : List UInt8 := [97, 98, 99, 114, 115, 116, 120, 121, 122, 48, 49, 50, 51, 52, 53, 57]
theorem lt_list : ∀ i : Fin 16, (lettersX.extract i.val (i.val + 1)).data.toList = [L16.getD i.val 0] := by decide +kernel
theorem lt_let : ∀ i : Fin 8, letN (L16.getD i.val 0).toNat = true := by decide +kernel
theorem lt_word : ∀ i : Fin 16, wordN (L16.getD i.val 0).toNat = true := by decide +kernel

/-- A text as Parse is asked it: around a word. -/
abbrev aA (x : ByteArray) : ByteArray := ⟨#[116, 101, 115, 116, 32, 97, 32, 123, 32, 116, 104, 114, 101, 97, 100, 32, 123, 32, 115, 116, 111, 114, 101, 32, 120, 32]⟩ ++ x ++ ⟨#[32, 59, 32, 125, 32, 125]⟩
abbrev aB (x : ByteArray) : ByteArray := ⟨#[116, 101, 115, 116, 32, 97, 32, 123, 32, 116, 104, 114, 101, 97, 100, 32, 123, 32, 114, 48, 32, 61, 32, 108, 111, 97, 100, 32]⟩ ++ x ++ ⟨#[32, 59, 32, 125, 32, 125]⟩
theorem aA_is (x : ByteArray) : aA x = txA x.data.toList [59, 32, 125, 32, 125] := by
  apply bytes_ext
  rw [list_append, list_append]
  simp [txA]
theorem aB_is (x : ByteArray) : aB x = txB x.data.toList [59, 32, 125, 32, 125] := by
  apply bytes_ext
  rw [list_append, list_append]
  simp [txB]
theorem good_reg : ∀ d : Fin 4, (parseP (txA [114, 48 + UInt8.ofNat d.val] [59, 32, 125, 32, 125])).2 = (0, 0) := by decide +kernel
theorem good_loc : ∀ i : Fin 8, (parseP (txB [L16.getD i.val 0] [59, 32, 125, 32, 125])).2 = (0, 0) := by decide +kernel
theorem bytes_eta (x : ByteArray) : (⟨x.data.toList.toArray⟩ : ByteArray) = x := by apply bytes_ext; simp

theorem size_aA (x : ByteArray) (h : x.size ≤ 3) : (aA x).size ≤ 4000 := by
  have e := size_list x
  rw [size_list, list_append, list_append]
  simp; omega
theorem size_aB (x : ByteArray) (h : x.size ≤ 3) : (aB x).size ≤ 4000 := by
  have e := size_list x
  rw [size_list, list_append, list_append]
  simp; omega

theorem noreg_code {x : ByteArray} (hx : Wd x.data.toList) (hz : x.size ≤ 3) (hr : regB x = false) : (parseP (aA x)).2 = (7, 26) := by
  have h := size_aA x hz
  rw [aA_is] at h ⊢
  rw [bad_reg hx h (by rw [bytes_eta]; exact hr)]
theorem reg_code {x : ByteArray} (h2 : x.size = 2) (h0 : bN x 0 = 114) (h1 : 48 ≤ bN x 1 ∧ bN x 1 ≤ 51) : (parseP (aA x)).2 = (0, 0) := by
  rw [aA_is]
  rw [size_list] at h2
  unfold bN suf hd at h0 h1
  match hl : x.data.toList, h2 with
  | [c, d], _ =>
    rw [hl] at h0 h1
    simp only [List.drop_zero, List.headD_cons, List.drop_succ_cons] at h0 h1
    have hc : c = 114 := UInt8.toNat_inj.1 h0
    obtain ⟨k, hk⟩ : ∃ k : Fin 4, d = 48 + UInt8.ofNat k.val := by
      refine ⟨⟨d.toNat - 48, by omega⟩, ?_⟩
      apply UInt8.toNat_inj.1
      rw [UInt8.toNat_add, UInt8.toNat_ofNat']
      show d.toNat = (48 + (d.toNat - 48) % 2 ^ 8) % 2 ^ 8
      omega
    rw [hc, hk]
    exact good_reg k
theorem noloc_code {x : ByteArray} (hx : Wd x.data.toList) (hz : x.size ≤ 3) (h1 : x.size ≠ 1) : (parseP (aB x)).2 = (7, 28) := by
  have h := size_aB x hz
  rw [aB_is] at h ⊢
  rw [bad_loc hx h (by rw [bytes_eta]; unfold locB; simp [h1])]

theorem parse_at (s : ByteArray) (hs : s.size ≤ 4000) {c q : Nat} (h : (parseP s).2 = (c, q)) (w : World) (hw : Lw w) :
    Calls Tryd.prog 5 #[.string s] w fun e w' => ∃ n a1 m1 c1 a2 m2 c2 k a3 m3 c3, e = .returned (.tuple #[.agg #[.string n, .slice a1 m1 c1, .slice a2 m2 c2, .int .i64 k, .slice a3 m3 c3], .agg #[.int .i64 c, .int .i64 q]]) ∧ On w w' := by
  refine (parseGo_is s (by omega) w hw).mono ?_
  rintro e w' ⟨v, rfl, ⟨a1, m1, c1, a2, m2, c2, a3, m3, c3, rfl, _, _, _⟩, k⟩
  rw [h]
  exact ⟨_, a1, m1, c1, a2, m2, c2, _, a3, m3, c3, rfl, k⟩


set_option maxHeartbeats 1000000 in
set_option maxRecDepth 40000 in
theorem names_one (a b c : Int) (i : Nat) (X1 X : ByteArray) (hi : bits .and .i64 a 7 = (i : Int)) (hi1 : i < 8)
    (hb : (bits .and .i64 b 1 == 1) = false) (hc : (bits .and .i64 c 3 == 3) = false) (e1 : lettersX.extract i (i + 1) = X1) (z1 : X1.size = 1) (hz : X.size ≤ 3)  (hJ : X1 = X) (h1 : ((X.size : Int) == 2) = false) (h5 : ((X.size : Int) == 1) = true)
    (hA : (parseP (aA X)).2 = (7, 26)) (hB : (parseP (aB X)).2 = (0, 0)) (w : World) (hw : Lw w) :
    Calls Tryd.prog 3 #[.int .i64 a, .int .i64 b, .int .i64 c] w fun e w' => e = .returned (.bool true) ∧ On w w' := by
  have hPA := fun W (h : Lw W) => parse_at (aA X) (size_aA X hz) hA W h
  have hPB := fun W (h : Lw W) => parse_at (aB X) (size_aB X hz) hB W h
  clear hA hB
  subst hJ
  go_enter Tryd.func3, Tryd.ntmps3
  go_wp2_with fail
  refine (hPA _ hw).mono ?_
  rintro e w1 ⟨n, a1, m1, c1, a2, m2, c2, q, a3, m3, c3, rfl, k1⟩
  have W1 : Hid (On w w1) := k1
  clear k1
  go_wp2_with fail
  refine (hPB _ (hw.on ((W1.out.alloc _).alloc _))).mono ?_
  rintro e w2 ⟨n', a1', m1', c1', a2', m2', c2', q', a3', m3', c3', rfl, k2⟩
  have W2 : Hid (On w w2) := ((W1.out.alloc _).alloc _).trans k2
  obtain ⟨T, hb2⟩ := (Bk.new2 w1 (.cells #[.string n, .slice a1 m1 c1, .slice a2 m2 c2, .int .i64 q, .slice a3 m3 c3] 29) #[.int .i64 7, .int .i64 26] 32).on k2
  have g0 : w2.cell? ⟨w1.heap.size + 1, 0, none⟩ = some (.int .i64 7) := by simp [World.cell?, hb2]
  have g1 : w2.cell? ⟨w1.heap.size + 1, 1, none⟩ = some (.int .i64 26) := by simp [World.cell?, hb2]
  have gl := lt_of_block hb2
  have gl1 := Nat.lt_succ_of_lt gl
  have gl0 := Nat.lt_of_succ_lt gl
  have gl2 := Nat.lt_succ_of_lt gl0
  clear k2 hb2 W1
  go_wp2_with fail
  refine (awake_any _ (hw.on ((W2.out.alloc _).alloc _))).mono ?_
  rintro e w3 ⟨rfl, k3⟩
  have W3 : Hid (On w w3) := ((W2.out.alloc _).alloc _).trans k3
  clear k3 W2
  (try clear h4); (try clear h3); (try clear h2); (try clear h1 h5)
  go_wp2
  all_goals (try go_ret)
  all_goals exact ⟨rfl, W3.out⟩

set_option maxHeartbeats 1000000 in
set_option maxRecDepth 40000 in
theorem names_second_n0 (a b c : Int) (i j : Nat) (X1 X2 X : ByteArray) (hi : bits .and .i64 a 7 = (i : Int)) (hi1 : i < 8) (hj : bits .and .i64 (b / 2) 15 = (j : Int)) (hj1 : j < 16)
    (hb : (bits .and .i64 b 1 == 1) = true) (hc : (bits .and .i64 c 3 == 3) = false) (e1 : lettersX.extract i (i + 1) = X1) (z1 : X1.size = 1) (e2 : lettersX.extract j (j + 1) = X2) (z2 : X2.size = 1) (hz : X.size ≤ 3) (l0 : 0 < X.size) (l1 : 1 < X.size) (hJ : X1 ++ X2 = X) (h1 : ((X.size : Int) == 2) = true) (h5 : ((X.size : Int) == 1) = false) (h2 : (((X[0]).toNat : Int) == 114) = false)
    (hA : (parseP (aA X)).2 = (7, 26)) (hB : (parseP (aB X)).2 = (7, 28)) (w : World) (hw : Lw w) :
    Calls Tryd.prog 3 #[.int .i64 a, .int .i64 b, .int .i64 c] w fun e w' => e = .returned (.bool true) ∧ On w w' := by
  have hPA := fun W (h : Lw W) => parse_at (aA X) (size_aA X hz) hA W h
  have hPB := fun W (h : Lw W) => parse_at (aB X) (size_aB X hz) hB W h
  clear hA hB
  skip
  go_enter Tryd.func3, Tryd.ntmps3
  go_wp2_with fail
  refine (hPA _ hw).mono ?_
  rintro e w1 ⟨n, a1, m1, c1, a2, m2, c2, q, a3, m3, c3, rfl, k1⟩
  have W1 : Hid (On w w1) := k1
  clear k1
  go_wp2_with fail
  refine (hPB _ (hw.on ((W1.out.alloc _).alloc _))).mono ?_
  rintro e w2 ⟨n', a1', m1', c1', a2', m2', c2', q', a3', m3', c3', rfl, k2⟩
  have W2 : Hid (On w w2) := ((W1.out.alloc _).alloc _).trans k2
  obtain ⟨T, hb2⟩ := (Bk.new2 w1 (.cells #[.string n, .slice a1 m1 c1, .slice a2 m2 c2, .int .i64 q, .slice a3 m3 c3] 29) #[.int .i64 7, .int .i64 26] 32).on k2
  have g0 : w2.cell? ⟨w1.heap.size + 1, 0, none⟩ = some (.int .i64 7) := by simp [World.cell?, hb2]
  have g1 : w2.cell? ⟨w1.heap.size + 1, 1, none⟩ = some (.int .i64 26) := by simp [World.cell?, hb2]
  have gl := lt_of_block hb2
  have gl1 := Nat.lt_succ_of_lt gl
  have gl0 := Nat.lt_of_succ_lt gl
  have gl2 := Nat.lt_succ_of_lt gl0
  clear k2 hb2 W1
  go_wp2_with fail
  refine (awake_any _ (hw.on ((W2.out.alloc _).alloc _))).mono ?_
  rintro e w3 ⟨rfl, k3⟩
  have W3 : Hid (On w w3) := ((W2.out.alloc _).alloc _).trans k3
  clear k3 W2
  (try clear h4); (try clear h3); (try clear h2); (try clear h1 h5)
  go_wp2
  all_goals (try go_ret)
  all_goals exact ⟨rfl, W3.out⟩

set_option maxHeartbeats 1000000 in
set_option maxRecDepth 40000 in
theorem names_third_n0 (a b c : Int) (i k : Nat) (X1 X3 X : ByteArray) (hi : bits .and .i64 a 7 = (i : Int)) (hi1 : i < 8) (hk : bits .and .i64 (c / 4) 15 = (k : Int)) (hk1 : k < 16)
    (hb : (bits .and .i64 b 1 == 1) = false) (hc : (bits .and .i64 c 3 == 3) = true) (e1 : lettersX.extract i (i + 1) = X1) (z1 : X1.size = 1) (e3 : lettersX.extract k (k + 1) = X3) (z3 : X3.size = 1) (hz : X.size ≤ 3) (l0 : 0 < X.size) (l1 : 1 < X.size) (hJ : X1 ++ X3 = X) (h1 : ((X.size : Int) == 2) = true) (h5 : ((X.size : Int) == 1) = false) (h2 : (((X[0]).toNat : Int) == 114) = false)
    (hA : (parseP (aA X)).2 = (7, 26)) (hB : (parseP (aB X)).2 = (7, 28)) (w : World) (hw : Lw w) :
    Calls Tryd.prog 3 #[.int .i64 a, .int .i64 b, .int .i64 c] w fun e w' => e = .returned (.bool true) ∧ On w w' := by
  have hPA := fun W (h : Lw W) => parse_at (aA X) (size_aA X hz) hA W h
  have hPB := fun W (h : Lw W) => parse_at (aB X) (size_aB X hz) hB W h
  clear hA hB
  skip
  go_enter Tryd.func3, Tryd.ntmps3
  go_wp2_with fail
  refine (hPA _ hw).mono ?_
  rintro e w1 ⟨n, a1, m1, c1, a2, m2, c2, q, a3, m3, c3, rfl, k1⟩
  have W1 : Hid (On w w1) := k1
  clear k1
  go_wp2_with fail
  refine (hPB _ (hw.on ((W1.out.alloc _).alloc _))).mono ?_
  rintro e w2 ⟨n', a1', m1', c1', a2', m2', c2', q', a3', m3', c3', rfl, k2⟩
  have W2 : Hid (On w w2) := ((W1.out.alloc _).alloc _).trans k2
  obtain ⟨T, hb2⟩ := (Bk.new2 w1 (.cells #[.string n, .slice a1 m1 c1, .slice a2 m2 c2, .int .i64 q, .slice a3 m3 c3] 29) #[.int .i64 7, .int .i64 26] 32).on k2
  have g0 : w2.cell? ⟨w1.heap.size + 1, 0, none⟩ = some (.int .i64 7) := by simp [World.cell?, hb2]
  have g1 : w2.cell? ⟨w1.heap.size + 1, 1, none⟩ = some (.int .i64 26) := by simp [World.cell?, hb2]
  have gl := lt_of_block hb2
  have gl1 := Nat.lt_succ_of_lt gl
  have gl0 := Nat.lt_of_succ_lt gl
  have gl2 := Nat.lt_succ_of_lt gl0
  clear k2 hb2 W1
  go_wp2_with fail
  refine (awake_any _ (hw.on ((W2.out.alloc _).alloc _))).mono ?_
  rintro e w3 ⟨rfl, k3⟩
  have W3 : Hid (On w w3) := ((W2.out.alloc _).alloc _).trans k3
  clear k3 W2
  (try clear h4); (try clear h3); (try clear h2); (try clear h1 h5)
  go_wp2
  all_goals (try go_ret)
  all_goals exact ⟨rfl, W3.out⟩

set_option maxHeartbeats 1000000 in
set_option maxRecDepth 40000 in
theorem names_second_n1 (a b c : Int) (i j : Nat) (X1 X2 X : ByteArray) (hi : bits .and .i64 a 7 = (i : Int)) (hi1 : i < 8) (hj : bits .and .i64 (b / 2) 15 = (j : Int)) (hj1 : j < 16)
    (hb : (bits .and .i64 b 1 == 1) = true) (hc : (bits .and .i64 c 3 == 3) = false) (e1 : lettersX.extract i (i + 1) = X1) (z1 : X1.size = 1) (e2 : lettersX.extract j (j + 1) = X2) (z2 : X2.size = 1) (hz : X.size ≤ 3) (l0 : 0 < X.size) (l1 : 1 < X.size) (hJ : X1 ++ X2 = X) (h1 : ((X.size : Int) == 2) = true) (h5 : ((X.size : Int) == 1) = false) (h2 : ((X[0]).toNat : Int) = 114) (h3 : ((X[1]).toNat : Int) < 48)
    (hA : (parseP (aA X)).2 = (7, 26)) (hB : (parseP (aB X)).2 = (7, 28)) (w : World) (hw : Lw w) :
    Calls Tryd.prog 3 #[.int .i64 a, .int .i64 b, .int .i64 c] w fun e w' => e = .returned (.bool true) ∧ On w w' := by
  have hPA := fun W (h : Lw W) => parse_at (aA X) (size_aA X hz) hA W h
  have hPB := fun W (h : Lw W) => parse_at (aB X) (size_aB X hz) hB W h
  clear hA hB
  skip
  go_enter Tryd.func3, Tryd.ntmps3
  go_wp2_with fail
  refine (hPA _ hw).mono ?_
  rintro e w1 ⟨n, a1, m1, c1, a2, m2, c2, q, a3, m3, c3, rfl, k1⟩
  have W1 : Hid (On w w1) := k1
  clear k1
  go_wp2_with fail
  refine (hPB _ (hw.on ((W1.out.alloc _).alloc _))).mono ?_
  rintro e w2 ⟨n', a1', m1', c1', a2', m2', c2', q', a3', m3', c3', rfl, k2⟩
  have W2 : Hid (On w w2) := ((W1.out.alloc _).alloc _).trans k2
  obtain ⟨T, hb2⟩ := (Bk.new2 w1 (.cells #[.string n, .slice a1 m1 c1, .slice a2 m2 c2, .int .i64 q, .slice a3 m3 c3] 29) #[.int .i64 7, .int .i64 26] 32).on k2
  have g0 : w2.cell? ⟨w1.heap.size + 1, 0, none⟩ = some (.int .i64 7) := by simp [World.cell?, hb2]
  have g1 : w2.cell? ⟨w1.heap.size + 1, 1, none⟩ = some (.int .i64 26) := by simp [World.cell?, hb2]
  have gl := lt_of_block hb2
  have gl1 := Nat.lt_succ_of_lt gl
  have gl0 := Nat.lt_of_succ_lt gl
  have gl2 := Nat.lt_succ_of_lt gl0
  clear k2 hb2 W1
  go_wp2_with fail
  refine (awake_any _ (hw.on ((W2.out.alloc _).alloc _))).mono ?_
  rintro e w3 ⟨rfl, k3⟩
  have W3 : Hid (On w w3) := ((W2.out.alloc _).alloc _).trans k3
  clear k3 W2
  (try clear h4); (try clear h3); (try clear h2); (try clear h1 h5)
  go_wp2
  all_goals (try go_ret)
  all_goals exact ⟨rfl, W3.out⟩

set_option maxHeartbeats 1000000 in
set_option maxRecDepth 40000 in
theorem names_third_n1 (a b c : Int) (i k : Nat) (X1 X3 X : ByteArray) (hi : bits .and .i64 a 7 = (i : Int)) (hi1 : i < 8) (hk : bits .and .i64 (c / 4) 15 = (k : Int)) (hk1 : k < 16)
    (hb : (bits .and .i64 b 1 == 1) = false) (hc : (bits .and .i64 c 3 == 3) = true) (e1 : lettersX.extract i (i + 1) = X1) (z1 : X1.size = 1) (e3 : lettersX.extract k (k + 1) = X3) (z3 : X3.size = 1) (hz : X.size ≤ 3) (l0 : 0 < X.size) (l1 : 1 < X.size) (hJ : X1 ++ X3 = X) (h1 : ((X.size : Int) == 2) = true) (h5 : ((X.size : Int) == 1) = false) (h2 : ((X[0]).toNat : Int) = 114) (h3 : ((X[1]).toNat : Int) < 48)
    (hA : (parseP (aA X)).2 = (7, 26)) (hB : (parseP (aB X)).2 = (7, 28)) (w : World) (hw : Lw w) :
    Calls Tryd.prog 3 #[.int .i64 a, .int .i64 b, .int .i64 c] w fun e w' => e = .returned (.bool true) ∧ On w w' := by
  have hPA := fun W (h : Lw W) => parse_at (aA X) (size_aA X hz) hA W h
  have hPB := fun W (h : Lw W) => parse_at (aB X) (size_aB X hz) hB W h
  clear hA hB
  skip
  go_enter Tryd.func3, Tryd.ntmps3
  go_wp2_with fail
  refine (hPA _ hw).mono ?_
  rintro e w1 ⟨n, a1, m1, c1, a2, m2, c2, q, a3, m3, c3, rfl, k1⟩
  have W1 : Hid (On w w1) := k1
  clear k1
  go_wp2_with fail
  refine (hPB _ (hw.on ((W1.out.alloc _).alloc _))).mono ?_
  rintro e w2 ⟨n', a1', m1', c1', a2', m2', c2', q', a3', m3', c3', rfl, k2⟩
  have W2 : Hid (On w w2) := ((W1.out.alloc _).alloc _).trans k2
  obtain ⟨T, hb2⟩ := (Bk.new2 w1 (.cells #[.string n, .slice a1 m1 c1, .slice a2 m2 c2, .int .i64 q, .slice a3 m3 c3] 29) #[.int .i64 7, .int .i64 26] 32).on k2
  have g0 : w2.cell? ⟨w1.heap.size + 1, 0, none⟩ = some (.int .i64 7) := by simp [World.cell?, hb2]
  have g1 : w2.cell? ⟨w1.heap.size + 1, 1, none⟩ = some (.int .i64 26) := by simp [World.cell?, hb2]
  have gl := lt_of_block hb2
  have gl1 := Nat.lt_succ_of_lt gl
  have gl0 := Nat.lt_of_succ_lt gl
  have gl2 := Nat.lt_succ_of_lt gl0
  clear k2 hb2 W1
  go_wp2_with fail
  refine (awake_any _ (hw.on ((W2.out.alloc _).alloc _))).mono ?_
  rintro e w3 ⟨rfl, k3⟩
  have W3 : Hid (On w w3) := ((W2.out.alloc _).alloc _).trans k3
  clear k3 W2
  (try clear h4); (try clear h3); (try clear h2); (try clear h1 h5)
  go_wp2
  all_goals (try go_ret)
  all_goals exact ⟨rfl, W3.out⟩

set_option maxHeartbeats 1000000 in
set_option maxRecDepth 40000 in
theorem names_second_n2 (a b c : Int) (i j : Nat) (X1 X2 X : ByteArray) (hi : bits .and .i64 a 7 = (i : Int)) (hi1 : i < 8) (hj : bits .and .i64 (b / 2) 15 = (j : Int)) (hj1 : j < 16)
    (hb : (bits .and .i64 b 1 == 1) = true) (hc : (bits .and .i64 c 3 == 3) = false) (e1 : lettersX.extract i (i + 1) = X1) (z1 : X1.size = 1) (e2 : lettersX.extract j (j + 1) = X2) (z2 : X2.size = 1) (hz : X.size ≤ 3) (l0 : 0 < X.size) (l1 : 1 < X.size) (hJ : X1 ++ X2 = X) (h1 : ((X.size : Int) == 2) = true) (h5 : ((X.size : Int) == 1) = false) (h2 : ((X[0]).toNat : Int) = 114) (h3 : 48 ≤ ((X[1]).toNat : Int)) (h4 : 51 < ((X[1]).toNat : Int))
    (hA : (parseP (aA X)).2 = (7, 26)) (hB : (parseP (aB X)).2 = (7, 28)) (w : World) (hw : Lw w) :
    Calls Tryd.prog 3 #[.int .i64 a, .int .i64 b, .int .i64 c] w fun e w' => e = .returned (.bool true) ∧ On w w' := by
  have hPA := fun W (h : Lw W) => parse_at (aA X) (size_aA X hz) hA W h
  have hPB := fun W (h : Lw W) => parse_at (aB X) (size_aB X hz) hB W h
  clear hA hB
  skip
  go_enter Tryd.func3, Tryd.ntmps3
  go_wp2_with fail
  refine (hPA _ hw).mono ?_
  rintro e w1 ⟨n, a1, m1, c1, a2, m2, c2, q, a3, m3, c3, rfl, k1⟩
  have W1 : Hid (On w w1) := k1
  clear k1
  go_wp2_with fail
  refine (hPB _ (hw.on ((W1.out.alloc _).alloc _))).mono ?_
  rintro e w2 ⟨n', a1', m1', c1', a2', m2', c2', q', a3', m3', c3', rfl, k2⟩
  have W2 : Hid (On w w2) := ((W1.out.alloc _).alloc _).trans k2
  obtain ⟨T, hb2⟩ := (Bk.new2 w1 (.cells #[.string n, .slice a1 m1 c1, .slice a2 m2 c2, .int .i64 q, .slice a3 m3 c3] 29) #[.int .i64 7, .int .i64 26] 32).on k2
  have g0 : w2.cell? ⟨w1.heap.size + 1, 0, none⟩ = some (.int .i64 7) := by simp [World.cell?, hb2]
  have g1 : w2.cell? ⟨w1.heap.size + 1, 1, none⟩ = some (.int .i64 26) := by simp [World.cell?, hb2]
  have gl := lt_of_block hb2
  have gl1 := Nat.lt_succ_of_lt gl
  have gl0 := Nat.lt_of_succ_lt gl
  have gl2 := Nat.lt_succ_of_lt gl0
  clear k2 hb2 W1
  go_wp2_with fail
  refine (awake_any _ (hw.on ((W2.out.alloc _).alloc _))).mono ?_
  rintro e w3 ⟨rfl, k3⟩
  have W3 : Hid (On w w3) := ((W2.out.alloc _).alloc _).trans k3
  clear k3 W2
  (try clear h4); (try clear h3); (try clear h2); (try clear h1 h5)
  go_wp2
  all_goals (try go_ret)
  all_goals exact ⟨rfl, W3.out⟩

set_option maxHeartbeats 1000000 in
set_option maxRecDepth 40000 in
theorem names_third_n2 (a b c : Int) (i k : Nat) (X1 X3 X : ByteArray) (hi : bits .and .i64 a 7 = (i : Int)) (hi1 : i < 8) (hk : bits .and .i64 (c / 4) 15 = (k : Int)) (hk1 : k < 16)
    (hb : (bits .and .i64 b 1 == 1) = false) (hc : (bits .and .i64 c 3 == 3) = true) (e1 : lettersX.extract i (i + 1) = X1) (z1 : X1.size = 1) (e3 : lettersX.extract k (k + 1) = X3) (z3 : X3.size = 1) (hz : X.size ≤ 3) (l0 : 0 < X.size) (l1 : 1 < X.size) (hJ : X1 ++ X3 = X) (h1 : ((X.size : Int) == 2) = true) (h5 : ((X.size : Int) == 1) = false) (h2 : ((X[0]).toNat : Int) = 114) (h3 : 48 ≤ ((X[1]).toNat : Int)) (h4 : 51 < ((X[1]).toNat : Int))
    (hA : (parseP (aA X)).2 = (7, 26)) (hB : (parseP (aB X)).2 = (7, 28)) (w : World) (hw : Lw w) :
    Calls Tryd.prog 3 #[.int .i64 a, .int .i64 b, .int .i64 c] w fun e w' => e = .returned (.bool true) ∧ On w w' := by
  have hPA := fun W (h : Lw W) => parse_at (aA X) (size_aA X hz) hA W h
  have hPB := fun W (h : Lw W) => parse_at (aB X) (size_aB X hz) hB W h
  clear hA hB
  skip
  go_enter Tryd.func3, Tryd.ntmps3
  go_wp2_with fail
  refine (hPA _ hw).mono ?_
  rintro e w1 ⟨n, a1, m1, c1, a2, m2, c2, q, a3, m3, c3, rfl, k1⟩
  have W1 : Hid (On w w1) := k1
  clear k1
  go_wp2_with fail
  refine (hPB _ (hw.on ((W1.out.alloc _).alloc _))).mono ?_
  rintro e w2 ⟨n', a1', m1', c1', a2', m2', c2', q', a3', m3', c3', rfl, k2⟩
  have W2 : Hid (On w w2) := ((W1.out.alloc _).alloc _).trans k2
  obtain ⟨T, hb2⟩ := (Bk.new2 w1 (.cells #[.string n, .slice a1 m1 c1, .slice a2 m2 c2, .int .i64 q, .slice a3 m3 c3] 29) #[.int .i64 7, .int .i64 26] 32).on k2
  have g0 : w2.cell? ⟨w1.heap.size + 1, 0, none⟩ = some (.int .i64 7) := by simp [World.cell?, hb2]
  have g1 : w2.cell? ⟨w1.heap.size + 1, 1, none⟩ = some (.int .i64 26) := by simp [World.cell?, hb2]
  have gl := lt_of_block hb2
  have gl1 := Nat.lt_succ_of_lt gl
  have gl0 := Nat.lt_of_succ_lt gl
  have gl2 := Nat.lt_succ_of_lt gl0
  clear k2 hb2 W1
  go_wp2_with fail
  refine (awake_any _ (hw.on ((W2.out.alloc _).alloc _))).mono ?_
  rintro e w3 ⟨rfl, k3⟩
  have W3 : Hid (On w w3) := ((W2.out.alloc _).alloc _).trans k3
  clear k3 W2
  (try clear h4); (try clear h3); (try clear h2); (try clear h1 h5)
  go_wp2
  all_goals (try go_ret)
  all_goals exact ⟨rfl, W3.out⟩

set_option maxHeartbeats 1000000 in
set_option maxRecDepth 40000 in
theorem names_second_reg (a b c : Int) (i j : Nat) (X1 X2 X : ByteArray) (hi : bits .and .i64 a 7 = (i : Int)) (hi1 : i < 8) (hj : bits .and .i64 (b / 2) 15 = (j : Int)) (hj1 : j < 16)
    (hb : (bits .and .i64 b 1 == 1) = true) (hc : (bits .and .i64 c 3 == 3) = false) (e1 : lettersX.extract i (i + 1) = X1) (z1 : X1.size = 1) (e2 : lettersX.extract j (j + 1) = X2) (z2 : X2.size = 1) (hz : X.size ≤ 3) (l0 : 0 < X.size) (l1 : 1 < X.size) (hJ : X1 ++ X2 = X) (h1 : ((X.size : Int) == 2) = true) (h5 : ((X.size : Int) == 1) = false) (h2 : ((X[0]).toNat : Int) = 114) (h3 : 48 ≤ ((X[1]).toNat : Int)) (h4 : ((X[1]).toNat : Int) ≤ 51)
    (hA : (parseP (aA X)).2 = (0, 0)) (hB : (parseP (aB X)).2 = (7, 28)) (w : World) (hw : Lw w) :
    Calls Tryd.prog 3 #[.int .i64 a, .int .i64 b, .int .i64 c] w fun e w' => e = .returned (.bool true) ∧ On w w' := by
  have hPA := fun W (h : Lw W) => parse_at (aA X) (size_aA X hz) hA W h
  have hPB := fun W (h : Lw W) => parse_at (aB X) (size_aB X hz) hB W h
  clear hA hB
  skip
  go_enter Tryd.func3, Tryd.ntmps3
  go_wp2_with fail
  refine (hPA _ hw).mono ?_
  rintro e w1 ⟨n, a1, m1, c1, a2, m2, c2, q, a3, m3, c3, rfl, k1⟩
  have W1 : Hid (On w w1) := k1
  clear k1
  go_wp2_with fail
  refine (hPB _ (hw.on ((W1.out.alloc _).alloc _))).mono ?_
  rintro e w2 ⟨n', a1', m1', c1', a2', m2', c2', q', a3', m3', c3', rfl, k2⟩
  have W2 : Hid (On w w2) := ((W1.out.alloc _).alloc _).trans k2
  obtain ⟨T, hb2⟩ := (Bk.new2 w1 (.cells #[.string n, .slice a1 m1 c1, .slice a2 m2 c2, .int .i64 q, .slice a3 m3 c3] 29) #[.int .i64 0, .int .i64 0] 32).on k2
  have g0 : w2.cell? ⟨w1.heap.size + 1, 0, none⟩ = some (.int .i64 0) := by simp [World.cell?, hb2]
  have g1 : w2.cell? ⟨w1.heap.size + 1, 1, none⟩ = some (.int .i64 0) := by simp [World.cell?, hb2]
  have gl := lt_of_block hb2
  have gl1 := Nat.lt_succ_of_lt gl
  have gl0 := Nat.lt_of_succ_lt gl
  have gl2 := Nat.lt_succ_of_lt gl0
  clear k2 hb2 W1
  go_wp2_with fail
  refine (awake_any _ (hw.on ((W2.out.alloc _).alloc _))).mono ?_
  rintro e w3 ⟨rfl, k3⟩
  have W3 : Hid (On w w3) := ((W2.out.alloc _).alloc _).trans k3
  clear k3 W2
  (try clear h4); (try clear h3); (try clear h2); (try clear h1 h5)
  go_wp2
  all_goals (try go_ret)
  all_goals exact ⟨rfl, W3.out⟩

set_option maxHeartbeats 1000000 in
set_option maxRecDepth 40000 in
theorem names_third_reg (a b c : Int) (i k : Nat) (X1 X3 X : ByteArray) (hi : bits .and .i64 a 7 = (i : Int)) (hi1 : i < 8) (hk : bits .and .i64 (c / 4) 15 = (k : Int)) (hk1 : k < 16)
    (hb : (bits .and .i64 b 1 == 1) = false) (hc : (bits .and .i64 c 3 == 3) = true) (e1 : lettersX.extract i (i + 1) = X1) (z1 : X1.size = 1) (e3 : lettersX.extract k (k + 1) = X3) (z3 : X3.size = 1) (hz : X.size ≤ 3) (l0 : 0 < X.size) (l1 : 1 < X.size) (hJ : X1 ++ X3 = X) (h1 : ((X.size : Int) == 2) = true) (h5 : ((X.size : Int) == 1) = false) (h2 : ((X[0]).toNat : Int) = 114) (h3 : 48 ≤ ((X[1]).toNat : Int)) (h4 : ((X[1]).toNat : Int) ≤ 51)
    (hA : (parseP (aA X)).2 = (0, 0)) (hB : (parseP (aB X)).2 = (7, 28)) (w : World) (hw : Lw w) :
    Calls Tryd.prog 3 #[.int .i64 a, .int .i64 b, .int .i64 c] w fun e w' => e = .returned (.bool true) ∧ On w w' := by
  have hPA := fun W (h : Lw W) => parse_at (aA X) (size_aA X hz) hA W h
  have hPB := fun W (h : Lw W) => parse_at (aB X) (size_aB X hz) hB W h
  clear hA hB
  skip
  go_enter Tryd.func3, Tryd.ntmps3
  go_wp2_with fail
  refine (hPA _ hw).mono ?_
  rintro e w1 ⟨n, a1, m1, c1, a2, m2, c2, q, a3, m3, c3, rfl, k1⟩
  have W1 : Hid (On w w1) := k1
  clear k1
  go_wp2_with fail
  refine (hPB _ (hw.on ((W1.out.alloc _).alloc _))).mono ?_
  rintro e w2 ⟨n', a1', m1', c1', a2', m2', c2', q', a3', m3', c3', rfl, k2⟩
  have W2 : Hid (On w w2) := ((W1.out.alloc _).alloc _).trans k2
  obtain ⟨T, hb2⟩ := (Bk.new2 w1 (.cells #[.string n, .slice a1 m1 c1, .slice a2 m2 c2, .int .i64 q, .slice a3 m3 c3] 29) #[.int .i64 0, .int .i64 0] 32).on k2
  have g0 : w2.cell? ⟨w1.heap.size + 1, 0, none⟩ = some (.int .i64 0) := by simp [World.cell?, hb2]
  have g1 : w2.cell? ⟨w1.heap.size + 1, 1, none⟩ = some (.int .i64 0) := by simp [World.cell?, hb2]
  have gl := lt_of_block hb2
  have gl1 := Nat.lt_succ_of_lt gl
  have gl0 := Nat.lt_of_succ_lt gl
  have gl2 := Nat.lt_succ_of_lt gl0
  clear k2 hb2 W1
  go_wp2_with fail
  refine (awake_any _ (hw.on ((W2.out.alloc _).alloc _))).mono ?_
  rintro e w3 ⟨rfl, k3⟩
  have W3 : Hid (On w w3) := ((W2.out.alloc _).alloc _).trans k3
  clear k3 W2
  (try clear h4); (try clear h3); (try clear h2); (try clear h1 h5)
  go_wp2
  all_goals (try go_ret)
  all_goals exact ⟨rfl, W3.out⟩

set_option maxHeartbeats 1000000 in
set_option maxRecDepth 40000 in
theorem names_three (a b c : Int) (i j k : Nat) (X1 X2 X3 X12 X : ByteArray) (hi : bits .and .i64 a 7 = (i : Int)) (hi1 : i < 8) (hj : bits .and .i64 (b / 2) 15 = (j : Int)) (hj1 : j < 16) (hk : bits .and .i64 (c / 4) 15 = (k : Int)) (hk1 : k < 16)
    (hb : (bits .and .i64 b 1 == 1) = true) (hc : (bits .and .i64 c 3 == 3) = true) (e1 : lettersX.extract i (i + 1) = X1) (z1 : X1.size = 1) (e2 : lettersX.extract j (j + 1) = X2) (z2 : X2.size = 1) (e3 : lettersX.extract k (k + 1) = X3) (z3 : X3.size = 1) (hz : X.size ≤ 3)  (hJ0 : X1 ++ X2 = X12) (z12 : X12.size = 2) (hJ : X12 ++ X3 = X) (h1 : ((X.size : Int) == 2) = false) (h5 : ((X.size : Int) == 1) = false)
    (hA : (parseP (aA X)).2 = (7, 26)) (hB : (parseP (aB X)).2 = (7, 28)) (w : World) (hw : Lw w) :
    Calls Tryd.prog 3 #[.int .i64 a, .int .i64 b, .int .i64 c] w fun e w' => e = .returned (.bool true) ∧ On w w' := by
  have hPA := fun W (h : Lw W) => parse_at (aA X) (size_aA X hz) hA W h
  have hPB := fun W (h : Lw W) => parse_at (aB X) (size_aB X hz) hB W h
  clear hA hB
  skip
  go_enter Tryd.func3, Tryd.ntmps3
  go_wp2_with fail
  refine (hPA _ hw).mono ?_
  rintro e w1 ⟨n, a1, m1, c1, a2, m2, c2, q, a3, m3, c3, rfl, k1⟩
  have W1 : Hid (On w w1) := k1
  clear k1
  go_wp2_with fail
  refine (hPB _ (hw.on ((W1.out.alloc _).alloc _))).mono ?_
  rintro e w2 ⟨n', a1', m1', c1', a2', m2', c2', q', a3', m3', c3', rfl, k2⟩
  have W2 : Hid (On w w2) := ((W1.out.alloc _).alloc _).trans k2
  obtain ⟨T, hb2⟩ := (Bk.new2 w1 (.cells #[.string n, .slice a1 m1 c1, .slice a2 m2 c2, .int .i64 q, .slice a3 m3 c3] 29) #[.int .i64 7, .int .i64 26] 32).on k2
  have g0 : w2.cell? ⟨w1.heap.size + 1, 0, none⟩ = some (.int .i64 7) := by simp [World.cell?, hb2]
  have g1 : w2.cell? ⟨w1.heap.size + 1, 1, none⟩ = some (.int .i64 26) := by simp [World.cell?, hb2]
  have gl := lt_of_block hb2
  have gl1 := Nat.lt_succ_of_lt gl
  have gl0 := Nat.lt_of_succ_lt gl
  have gl2 := Nat.lt_succ_of_lt gl0
  clear k2 hb2 W1
  go_wp2_with fail
  refine (awake_any _ (hw.on ((W2.out.alloc _).alloc _))).mono ?_
  rintro e w3 ⟨rfl, k3⟩
  have W3 : Hid (On w w3) := ((W2.out.alloc _).alloc _).trans k3
  clear k3 W2
  (try clear h4); (try clear h3); (try clear h2); (try clear h1 h5)
  go_wp2
  all_goals (try go_ret)
  all_goals exact ⟨rfl, W3.out⟩
end Go.Proofs.YtjgdodcjneldkaaDoor
