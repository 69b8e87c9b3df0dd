/- Proved: for every slice of ints the law LexLongest of layer 2 returns true and leaves its argument as it was; the condition is that the listed package-level variables hold what the program's text lays, to which the card ties them. -/
import Derived.Test.YtoipapbdepobjaaDoorLexLongestP
import Derived.Test.YtoipapbdepobjaaDoorLexAwake
import Derived.Test.YtoipapbdepobjaaDoorLift2
import Derived.BigQuiet
import Derived.Carry
namespace Go.Proofs.YtoipapbdepobjaaDoor
open Go.ChangeShapes Go.WideShapes Go.ChangeAt Go.WideMaps Go.WideElems Go.RowKit
open Go.ChangeMaps (open_string shut_string)

theorem i64_and3 (n : Int) : bits .and .i64 n 3 = n % 4 := by
  have h63 : (BitVec.ofInt 64 3).toNat = 2 ^ 2 - 1 := by decide
  have key : (BitVec.ofInt 64 n &&& BitVec.ofInt 64 3).toNat = (n % ((2 ^ 64 : Nat) : Int)).toNat % 2 ^ 2 := by
    rw [BitVec.toNat_and, BitVec.toNat_ofInt, h63, Nat.and_two_pow_sub_one_eq_mod]
  show IntKind.i64.wrap ((BitVec.ofInt 64 n &&& BitVec.ofInt 64 3).toNat : Nat) = n % 4
  rw [key, IntKind.wrap_i64]
  omega

set_option maxHeartbeats 2000000 in
set_option maxRecDepth 8000 in
theorem lexLongest_walk (ao : Option Addr) (len cap b off : Nat) (zs : List Int) (w : World) (hlen : len * 8 ≤ 140737488351232) (hc : 0 < len → ao = some ⟨b, off, none⟩ ∧ b < w.heap.size ∧ ∀ j, j < len → w.cell? ⟨b, off + j, none⟩ = some (.int .i64 (zs.getD j 0))) (hw : Lw w) :
    Calls Tryd.prog 4 #[.slice ao len cap] w fun e w' => e = .returned (.bool true) ∧ On w w' := by
  go_enter Tryd.func4, Tryd.ntmps4
  go_wp2
  go_loopg [3, 4] 30 (fun k v i wr => ∃ (n : Nat) (S : ByteArray), v = .string S ∧ i = .int .i64 n ∧ k = 30 - n ∧ n ≤ len ∧ n ≤ 30 ∧ S.size = n ∧ SgB S ∧ On w wr)
  case atStart => exact ⟨0, ⟨#[]⟩, rfl, rfl, rfl, Nat.zero_le _, Nat.zero_le _, rfl, fun c hc => by simp at hc, On.refl _⟩
  case round =>
    obtain ⟨n, S, rfl, rfl, hk, hn1, hn2, hS, hSg, hon⟩ := hrel
    have hW : Lw wr := hw.on hon
    rcases Nat.lt_or_ge n len with hlt | hge
    · rcases Nat.lt_or_ge n 30 with h30 | h30
      · obtain ⟨rfl, hb, hcell⟩ := hc (by omega)
        have c0 := (hon.cell (p := ⟨b, off + n, none⟩) hb).trans (hcell n hlt)
        have hbr : b < wr.heap.size := Nat.lt_of_lt_of_le hb hon.size
        obtain ⟨m, hm, hm4⟩ : ∃ m : Nat, bits .and .i64 (zs.getD n 0) 3 = (m : Int) ∧ m < 4 := ⟨(zs.getD n 0 % 4).toNat, by rw [i64_and3]; omega, by omega⟩
        generalize zs.getD n 0 = z at *
        have HS : Hid (SgB S) := hSg
        have HO : Hid (On w wr) := hon
        clear hc hcell hSg hon hW
        have hm' : m = 0 ∨ m = 1 ∨ m = 2 ∨ m = 3 := by omega
        rcases hm' with rfl | rfl | rfl | rfl
        all_goals
          go_wp2
          go_roundg (30 - (n + 1))
        all_goals (try omega)
        all_goals
          refine ⟨n + 1, _, rfl, rfl, rfl, by omega, by omega, by rw [size_snoc, hS], HS.out.snoc ?_, HO.out.alloc _⟩
        · exact Or.inl rfl
        · exact Or.inr (Or.inl rfl)
        · exact Or.inr (Or.inr (Or.inl rfl))
        · exact Or.inr (Or.inr (Or.inr rfl))
      · clear hlen
        have hs30 : S.size ≤ 30 := by omega
        obtain ⟨hec, hep, hal⟩ := sg_ok hSg (by omega)
        obtain ⟨ts, hts⟩ : ∃ ts, tsA S = ts := ⟨_, rfl⟩
        have hne := (al_ne (Nat.zero_le _) hal).1
        have hA : Calls Tryd.prog 9 #[.string S] wr fun e w' => ∃ g cap : Nat, e = .returned (.tuple #[.slice (some ⟨g, 0, none⟩) ts.length cap, .agg #[.int .i64 0, .int .i64 0]]) ∧ g < w'.heap.size ∧ ts.length ≤ cap ∧ (∀ i u, (tksC ts)[i]? = some u → w'.cell? ⟨g, i, none⟩ = some u) ∧ On wr w' := by
          refine (all_is S (by omega) wr hW).mono ?_
          rintro e w' ⟨v, rfl, hT, hO⟩
          rw [hec, hep]
          obtain ⟨g, cap, rfl, h1, h2, h3⟩ := hT.some hne
          rw [hts] at h1 h3 ⊢
          exact ⟨g, cap, rfl, h2, h1, h3, hO⟩
        rw [hts] at hal hne
        have hpos : 0 < ts.length := by
          rcases Nat.eq_zero_or_pos ts.length with h0 | h0
          · exact absurd (List.eq_nil_of_length_eq_zero h0) hne
          · exact h0
        have HAL : Hid (al pB S 0 = (ts, 0, 0)) := hal
        have htl : ts.length ≤ 31 := by have := sg_len hSg S.size 0 (by omega) (Nat.zero_le _); rw [hal] at this; simp only at this; omega
        have HSG : Hid (SgB S) := hSg
        have HO : Hid (On w wr) := hon
        have hlw : ∀ w', On w w' → Lw w' := fun w' k => hw.on k
        clear hal hSg hon hc hW hec hep hne hw
        go_wp2_with fail
        refine hA.mono ?_
        rintro e w1 ⟨g, cap1, rfl, hg, hcap, hcell, hO1⟩
        have HO1 : Hid (On w w1) := HO.out.trans hO1
        clear hO1 hA HO
        go_wp2
        go_loopg [7, 8] ts.length (fun k at' i wq => ∃ (j a : Nat), at' = .int .i64 a ∧ i = .int .i64 j ∧ k = ts.length - j ∧ j < ts.length ∧ a ≤ S.size ∧ al pB S a = (ts.drop j, 0, 0) ∧ On w1 wq ∧ On w wq)
        case atStart => exact ⟨0, 0, rfl, rfl, rfl, hpos, Nat.zero_le _, HAL.out, (On.refl _).alloc _, HO1.out.alloc _⟩
        case round =>
          obtain ⟨j, a, rfl, rfl, hkk, hj, ha, hal, hon1, hon2⟩ := hrel
          obtain ⟨he, hget, hk4, hnext, hto⟩ := walk_step hj ha hal
          rcases Nat.lt_or_ge (j + 1) ts.length with hj1 | hj1
          · have hlt : a < S.size := by
              rcases Nat.lt_or_ge a S.size with h | h
              · exact h
              · exfalso
                obtain rfl : a = S.size := by omega
                have := hk4.1 (sg_end (s := S)).2.1
                omega
            obtain ⟨hp, hkd, hz, _⟩ := sg_pl HSG.out hlt
            obtain ⟨d0, d1, d2⟩ := cells_at hcell hg hon1 hget
            simp only [tk] at d0 d1 d2
            rw [hkd] at d0
            rw [hp] at d2
            have htx : tx S a = S.extract a (a + sz S a) := by unfold tx; rw [hp]
            have htoe : to S a = a + sz S a := by unfold to; rw [hp]
            have hjj : (j : Int) + 1 < ts.length := by omega
            have HN := hnext hj1
            have HNX : Hid (al pB S (to S a) = (ts.drop (j + 1), 0, 0)) := HN
            have HO2 : Hid (On w1 wr ∧ On w wr) := ⟨hon1, hon2⟩
            have hTo := to_le ha
            clear hal hnext hto hk4 hget HN hcell hkd hp HAL hon1 hon2 he ha
            rcases Nat.lt_or_ge (a + 1) S.size with ha1 | ha1
            · have hl := two_list ha1
              have hpr := sg_pair (sg_at HSG.out hlt) (sg_at HSG.out ha1)
              rw [bN_lt hlt, bN_lt ha1, hpr] at hz
              obtain ⟨Y, hY⟩ : ∃ Y, S.extract a (a + 2) = Y := ⟨_, rfl⟩
              have hYl : Y.data.toList = [S[a], S[a + 1]] := by rw [← hY]; exact hl
              have hYz : Y.size = 2 := by rw [size_list, hYl]; rfl
              rw [← hYl] at hz
              cases q1 : (Y.data.toList == [60, 60]) with
              | true =>
                rw [q1] at hz
                simp only [Bool.true_or, if_true] at hz
                rw [hz] at htx htoe
                have hTe : to S a = a + 2 := htoe
                rw [hY] at htx
                rw [htx] at d1
                have e1 : (Y.toList == ([60, 60] : List UInt8)) = true := by rw [ByteArray.toList_eq]; exact q1
                have e1' : (Y.toList == (⟨#[60, 60]⟩ : ByteArray).toList) = true := by rw [ByteArray.toList_eq, ByteArray.toList_eq]; exact q1
                clear q1 hl hpr hYl htx hz
                go_wp2
                go_roundg (ts.length - (j + 1))
                case measure => omega
                case rel => exact ⟨j + 1, to S a, by rw [hTe]; exact congrArg (Value.int .i64) (by omega), rfl, rfl, hj1, hTo, HNX.out, HO2.out.1, HO2.out.2⟩
              | false =>
                have e1 : (Y.toList == ([60, 60] : List UInt8)) = false := by rw [ByteArray.toList_eq]; exact q1
                have e1' : (Y.toList == (⟨#[60, 60]⟩ : ByteArray).toList) = false := by rw [ByteArray.toList_eq, ByteArray.toList_eq]; exact q1
                cases q2 : (Y.data.toList == [61, 61]) with
                | true =>
                  rw [q1, q2] at hz
                  simp only [Bool.or_true, if_true] at hz
                  rw [hz] at htx htoe
                  have hTe : to S a = a + 2 := htoe
                  rw [hY] at htx
                  rw [htx] at d1
                  have e2 : (Y.toList == ([61, 61] : List UInt8)) = true := by rw [ByteArray.toList_eq]; exact q2
                  have e2' : (Y.toList == (⟨#[61, 61]⟩ : ByteArray).toList) = true := by rw [ByteArray.toList_eq, ByteArray.toList_eq]; exact q2
                  clear q1 q2 hl hpr hYl htx hz
                  go_wp2
                  go_roundg (ts.length - (j + 1))
                  case measure => omega
                  case rel => exact ⟨j + 1, to S a, by rw [hTe]; exact congrArg (Value.int .i64) (by omega), rfl, rfl, hj1, hTo, HNX.out, HO2.out.1, HO2.out.2⟩
                | false =>
                  rw [q1, q2] at hz
                  simp only [Bool.or_false, Bool.false_eq_true, if_false] at hz
                  rw [hz] at htx htoe
                  have hTe : to S a = a + 1 := htoe
                  rw [htx] at d1
                  have e2 : (Y.toList == ([61, 61] : List UInt8)) = false := by rw [ByteArray.toList_eq]; exact q2
                  have e2' : (Y.toList == (⟨#[61, 61]⟩ : ByteArray).toList) = false := by rw [ByteArray.toList_eq, ByteArray.toList_eq]; exact q2
                  clear q1 q2 hl hpr hYl htx hz
                  go_wp2
                  go_roundg (ts.length - (j + 1))
                  case measure => omega
                  case rel => exact ⟨j + 1, to S a, by rw [hTe]; exact congrArg (Value.int .i64) (by omega), rfl, rfl, hj1, hTo, HNX.out, HO2.out.1, HO2.out.2⟩
            · have hpz : pairN (bN S a) (bN S (a + 1)) = false := by rw [bN_ge ha1]; simp [pairN]
              rw [hpz] at hz
              simp only [Bool.false_eq_true, if_false] at hz
              rw [hz] at htx htoe
              have hTe : to S a = a + 1 := htoe
              rw [htx] at d1
              have hna : ¬ ((a : Int) + 1 < S.size) := by omega
              clear hpz htx hz
              go_wp2
              go_roundg (ts.length - (j + 1))
              case measure => omega
              case rel => exact ⟨j + 1, to S a, by rw [hTe]; exact congrArg (Value.int .i64) (by omega), rfl, rfl, hj1, hTo, HNX.out, HO2.out.1, HO2.out.2⟩
          · have haS : a = S.size := by
              rcases Nat.lt_or_ge a S.size with h | h
              · exfalso
                have h3 := (sg_pl HSG.out h).2.1
                have h4 := hk4.2 (by omega)
                omega
              · omega
            have hjj : ¬ ((j : Int) + 1 < ts.length) := by omega
            have hAw := awake_any wr (hlw wr hon2)
            have HO2 : Hid (On w wr) := hon2
            clear hal hnext hto hk4 hget hcell HAL hon1 hon2 he
            subst haS
            go_wp2_with (go_at_call 11; refine hAw.mono ?_; rintro e w2 ⟨rfl, hw2⟩)
            all_goals (try go_ret)
            all_goals exact ⟨rfl, HO2.out.trans hw2⟩
    · clear hlen
      have hs30 : S.size ≤ 30 := by omega
      obtain ⟨hec, hep, hal⟩ := sg_ok hSg (by omega)
      obtain ⟨ts, hts⟩ : ∃ ts, tsA S = ts := ⟨_, rfl⟩
      have hne := (al_ne (Nat.zero_le _) hal).1
      have hA : Calls Tryd.prog 9 #[.string S] wr fun e w' => ∃ g cap : Nat, e = .returned (.tuple #[.slice (some ⟨g, 0, none⟩) ts.length cap, .agg #[.int .i64 0, .int .i64 0]]) ∧ g < w'.heap.size ∧ ts.length ≤ cap ∧ (∀ i u, (tksC ts)[i]? = some u → w'.cell? ⟨g, i, none⟩ = some u) ∧ On wr w' := by
        refine (all_is S (by omega) wr hW).mono ?_
        rintro e w' ⟨v, rfl, hT, hO⟩
        rw [hec, hep]
        obtain ⟨g, cap, rfl, h1, h2, h3⟩ := hT.some hne
        rw [hts] at h1 h3 ⊢
        exact ⟨g, cap, rfl, h2, h1, h3, hO⟩
      rw [hts] at hal hne
      have hpos : 0 < ts.length := by
        rcases Nat.eq_zero_or_pos ts.length with h0 | h0
        · exact absurd (List.eq_nil_of_length_eq_zero h0) hne
        · exact h0
      have HAL : Hid (al pB S 0 = (ts, 0, 0)) := hal
      have htl : ts.length ≤ 31 := by have := sg_len hSg S.size 0 (by omega) (Nat.zero_le _); rw [hal] at this; simp only at this; omega
      have HSG : Hid (SgB S) := hSg
      have HO : Hid (On w wr) := hon
      have hlw : ∀ w', On w w' → Lw w' := fun w' k => hw.on k
      clear hal hSg hon hc hW hec hep hne hw
      go_wp2_with fail
      refine hA.mono ?_
      rintro e w1 ⟨g, cap1, rfl, hg, hcap, hcell, hO1⟩
      have HO1 : Hid (On w w1) := HO.out.trans hO1
      clear hO1 hA HO
      go_wp2
      go_loopg [7, 8] ts.length (fun k at' i wq => ∃ (j a : Nat), at' = .int .i64 a ∧ i = .int .i64 j ∧ k = ts.length - j ∧ j < ts.length ∧ a ≤ S.size ∧ al pB S a = (ts.drop j, 0, 0) ∧ On w1 wq ∧ On w wq)
      case atStart => exact ⟨0, 0, rfl, rfl, rfl, hpos, Nat.zero_le _, HAL.out, (On.refl _).alloc _, HO1.out.alloc _⟩
      case round =>
        obtain ⟨j, a, rfl, rfl, hkk, hj, ha, hal, hon1, hon2⟩ := hrel
        obtain ⟨he, hget, hk4, hnext, hto⟩ := walk_step hj ha hal
        rcases Nat.lt_or_ge (j + 1) ts.length with hj1 | hj1
        · have hlt : a < S.size := by
            rcases Nat.lt_or_ge a S.size with h | h
            · exact h
            · exfalso
              obtain rfl : a = S.size := by omega
              have := hk4.1 (sg_end (s := S)).2.1
              omega
          obtain ⟨hp, hkd, hz, _⟩ := sg_pl HSG.out hlt
          obtain ⟨d0, d1, d2⟩ := cells_at hcell hg hon1 hget
          simp only [tk] at d0 d1 d2
          rw [hkd] at d0
          rw [hp] at d2
          have htx : tx S a = S.extract a (a + sz S a) := by unfold tx; rw [hp]
          have htoe : to S a = a + sz S a := by unfold to; rw [hp]
          have hjj : (j : Int) + 1 < ts.length := by omega
          have HN := hnext hj1
          have HNX : Hid (al pB S (to S a) = (ts.drop (j + 1), 0, 0)) := HN
          have HO2 : Hid (On w1 wr ∧ On w wr) := ⟨hon1, hon2⟩
          have hTo := to_le ha
          clear hal hnext hto hk4 hget HN hcell hkd hp HAL hon1 hon2 he ha
          rcases Nat.lt_or_ge (a + 1) S.size with ha1 | ha1
          · have hl := two_list ha1
            have hpr := sg_pair (sg_at HSG.out hlt) (sg_at HSG.out ha1)
            rw [bN_lt hlt, bN_lt ha1, hpr] at hz
            obtain ⟨Y, hY⟩ : ∃ Y, S.extract a (a + 2) = Y := ⟨_, rfl⟩
            have hYl : Y.data.toList = [S[a], S[a + 1]] := by rw [← hY]; exact hl
            have hYz : Y.size = 2 := by rw [size_list, hYl]; rfl
            rw [← hYl] at hz
            cases q1 : (Y.data.toList == [60, 60]) with
            | true =>
              rw [q1] at hz
              simp only [Bool.true_or, if_true] at hz
              rw [hz] at htx htoe
              have hTe : to S a = a + 2 := htoe
              rw [hY] at htx
              rw [htx] at d1
              have e1 : (Y.toList == ([60, 60] : List UInt8)) = true := by rw [ByteArray.toList_eq]; exact q1
              have e1' : (Y.toList == (⟨#[60, 60]⟩ : ByteArray).toList) = true := by rw [ByteArray.toList_eq, ByteArray.toList_eq]; exact q1
              clear q1 hl hpr hYl htx hz
              go_wp2
              go_roundg (ts.length - (j + 1))
              case measure => omega
              case rel => exact ⟨j + 1, to S a, by rw [hTe]; exact congrArg (Value.int .i64) (by omega), rfl, rfl, hj1, hTo, HNX.out, HO2.out.1, HO2.out.2⟩
            | false =>
              have e1 : (Y.toList == ([60, 60] : List UInt8)) = false := by rw [ByteArray.toList_eq]; exact q1
              have e1' : (Y.toList == (⟨#[60, 60]⟩ : ByteArray).toList) = false := by rw [ByteArray.toList_eq, ByteArray.toList_eq]; exact q1
              cases q2 : (Y.data.toList == [61, 61]) with
              | true =>
                rw [q1, q2] at hz
                simp only [Bool.or_true, if_true] at hz
                rw [hz] at htx htoe
                have hTe : to S a = a + 2 := htoe
                rw [hY] at htx
                rw [htx] at d1
                have e2 : (Y.toList == ([61, 61] : List UInt8)) = true := by rw [ByteArray.toList_eq]; exact q2
                have e2' : (Y.toList == (⟨#[61, 61]⟩ : ByteArray).toList) = true := by rw [ByteArray.toList_eq, ByteArray.toList_eq]; exact q2
                clear q1 q2 hl hpr hYl htx hz
                go_wp2
                go_roundg (ts.length - (j + 1))
                case measure => omega
                case rel => exact ⟨j + 1, to S a, by rw [hTe]; exact congrArg (Value.int .i64) (by omega), rfl, rfl, hj1, hTo, HNX.out, HO2.out.1, HO2.out.2⟩
              | false =>
                rw [q1, q2] at hz
                simp only [Bool.or_false, Bool.false_eq_true, if_false] at hz
                rw [hz] at htx htoe
                have hTe : to S a = a + 1 := htoe
                rw [htx] at d1
                have e2 : (Y.toList == ([61, 61] : List UInt8)) = false := by rw [ByteArray.toList_eq]; exact q2
                have e2' : (Y.toList == (⟨#[61, 61]⟩ : ByteArray).toList) = false := by rw [ByteArray.toList_eq, ByteArray.toList_eq]; exact q2
                clear q1 q2 hl hpr hYl htx hz
                go_wp2
                go_roundg (ts.length - (j + 1))
                case measure => omega
                case rel => exact ⟨j + 1, to S a, by rw [hTe]; exact congrArg (Value.int .i64) (by omega), rfl, rfl, hj1, hTo, HNX.out, HO2.out.1, HO2.out.2⟩
          · have hpz : pairN (bN S a) (bN S (a + 1)) = false := by rw [bN_ge ha1]; simp [pairN]
            rw [hpz] at hz
            simp only [Bool.false_eq_true, if_false] at hz
            rw [hz] at htx htoe
            have hTe : to S a = a + 1 := htoe
            rw [htx] at d1
            have hna : ¬ ((a : Int) + 1 < S.size) := by omega
            clear hpz htx hz
            go_wp2
            go_roundg (ts.length - (j + 1))
            case measure => omega
            case rel => exact ⟨j + 1, to S a, by rw [hTe]; exact congrArg (Value.int .i64) (by omega), rfl, rfl, hj1, hTo, HNX.out, HO2.out.1, HO2.out.2⟩
        · have haS : a = S.size := by
            rcases Nat.lt_or_ge a S.size with h | h
            · exfalso
              have h3 := (sg_pl HSG.out h).2.1
              have h4 := hk4.2 (by omega)
              omega
            · omega
          have hjj : ¬ ((j : Int) + 1 < ts.length) := by omega
          have hAw := awake_any wr (hlw wr hon2)
          have HO2 : Hid (On w wr) := hon2
          clear hal hnext hto hk4 hget hcell HAL hon1 hon2 he
          subst haS
          go_wp2_with (go_at_call 11; refine hAw.mono ?_; rintro e w2 ⟨rfl, hw2⟩)
          all_goals (try go_ret)
          all_goals exact ⟨rfl, HO2.out.trans hw2⟩

theorem cInt : Tryd.prog.cellsOf 3 = 1 := by kernel_rfl
theorem bInt : Tryd.prog.bytesOf 3 = 8 := by kernel_rfl
theorem laidOutT : laidOutB Tryd.prog = true := by kernel_rfl
set_option maxRecDepth 100000 in
theorem lexLongest_lifted (os : Os) (started : os.Started) (H : Type) (enc : TypeId × Value → H) :
    ReturnsInHanded {} Tryd.checked os 4 .any (fun w args => (Rows.lexLongestSpec.pre enc Tryd.prog Tryd.f4 [] false w args ∧ laidMetH Tryd.prog laidL w) ∧ sizedMet enc Tryd.prog Tryd.f4 (OpenSpec.ofChange Rows.lexLongestSpec) false w args)
      (Rows.lexLongestSpec.post enc Tryd.prog Tryd.f4 false true false false) := by
  refine returnsInHanded_of_change_and (C := Tryd.checked) (X := fun w _ => laidMetH Tryd.prog laidL w) (fun _ _ _ hh h => h.of_heap hh) own started (by kernel_rfl) Tryd.func4
    (ChangeSpec.witness_shaped (enc := enc) (C := Tryd.checked) (os := os) (X := fun w _ => laidMetH Tryd.prog laidL w) false (World.doorLaid Tryd.prog 400 os) #[.slice none 0 0] 8 rfl (World.shaped_of_RefB (by kernel_rfl) (by kernel_rfl)) (by kernel_rfl) (by kernel_rfl) (by kernel_rfl) (door_met os _)) ?_
  intro W base args ds gs before hval0 hW _ hsz hL _
  have hval : ∀ (j : Nat) t v, Tryd.f4.params[j]? = some t → args[j]? = some v → Value.okWide Tryd.prog W .any base t v := hval0
  have hW' := hW
  obtain ⟨p, q, hA0, hV, rfl, hfz, hnd⟩ := hW
  have hA : DataW.TrodAll enc Tryd.prog W 0 (fun _ => true) true Tryd.f4.params.toList args.toList ds p := hA0
  rw [Tryd.params4] at hA hval hsz
  obtain ⟨v0, d0, rfl, rfl, h0⟩ := trodAll_one hA
  obtain ⟨rfl, rfl⟩ := trodVars_none hV
  obtain ⟨a0, len, cap, rfl⟩ := okWide_slice Tryd.underlying31 (hval 0 31 v0 rfl rfl)
  have h0k := h0
  obtain ⟨fuel, hf⟩ := h0
  clear hA0 hval0
  simp only [List.append_nil] at hW'
  have hlt : ∀ x ∈ p, x.block < W.heap.size := fun x hx => by simpa using hW'.lt x hx
  have hargs : ∀ (W' : World), Below W.heap.size W W' → DataW.Trod enc Tryd.prog W' 0 (fun b => decide (b < W.heap.size)) true 31 (.slice a0 len cap) d0 p :=
    fun W' hn => Below.trod laidOutT (by kernel_rfl) (of_decide_eq_true (by kernel_rfl)) h0k hn hlt
  obtain ⟨b, off, zs, hr, hc⟩ : ∃ (b off : Nat) (zs : List Int), len * 8 ≤ 140737488351232 ∧ (0 < len → a0 = some ⟨b, off, none⟩ ∧ b < W.heap.size ∧ ∀ j, j < len → W.cell? ⟨b, off + j, none⟩ = some (.int .i64 (zs.getD j 0))) := by
    rcases open_ints Tryd.underlying31 Tryd.underlying3 cInt hf with ⟨hcs, hx⟩ | ⟨a, len', cap', zs, hcs, _, hl, hm, hz, hx, hcell, hwz⟩
    · simp [Value.cells] at hcs
      obtain ⟨rfl, rfl, rfl⟩ := hcs
      exact ⟨0, 0, [], by decide, fun h => absurd h (Nat.lt_irrefl 0)⟩
    · simp [Value.cells] at hcs
      obtain ⟨rfl, rfl, rfl⟩ := hcs
      simp only [Prod.mk.injEq] at hx
      obtain ⟨rfl, rfl⟩ := hx
      simp only [if_true] at hz
      have hreach : len * 8 ≤ 140737488351232 := by
        have := sized_slice hsz (j := 0) (t := 31) (e := 3) rfl rfl Tryd.underlying31
        rw [show Tryd.checked.prog.bytesOf 3 = 8 from bInt] at this
        simp only [lits, List.length_map, List.length_take, List.length_drop, reachBytes] at this
        omega
      obtain ⟨b, off, spot⟩ := a
      refine ⟨b, off, zs, hreach, fun h => ?_⟩
      have hspot : spot = none := by simpa [Addr.add] using World.cell?_spot (hcell 0 (by omega))
      subst hspot
      exact ⟨rfl, hlt (.cell b off) (MemPlace.mem_row.2 ⟨0, by omega, by simp⟩), fun j hj => by rw [← add_plain]; exact hcell j (by omega)⟩
  refine (lexLongest_walk a0 len cap b off zs W hr hc (of_laid hL)).mono fun e W' ⟨he, hw⟩ => ?_
  subst he
  refine ⟨_, rfl, _, _, _, [], p, [], hW', ?_, ?_, rfl, Below.frame hw _, fun h => by cases h⟩
  · exact trodAll_mk1 (shut_bool Tryd.underlying4 _)
  · exact trodAll_mk1 (hargs _ hw)

theorem lexLongest_said : Rows.LexLongestSaid :=
  OpenClaim.holds_of_wide 4 Tryd.f4 rfl rfl rfl rfl rfl rfl rfl ⟨rfl, rfl, rfl, rfl, rfl⟩ rfl rfl rfl rfl rfl (by kernel_rfl) Tryd.func4 (by kernel_rfl)
    (of_decide_eq_true (by kernel_rfl)) (by unfold Func.isWrapper; first | (rw [if_pos (by decide +kernel)]; kernel_rfl) | (rw [if_neg (by decide +kernel)]; exact ⟨rfl, rfl⟩))
    (fun os started H enc _ => lexLongest_lifted os started H enc)

theorem lexLongest_card : Rows.LexLongestCardSaid :=
  Claim7.holds_tied_plain_at .later [] [.data, .data, .data, .sentinel, .sentinel] true (true, "e778a03b216b4ff87b621aaa108ee97d2984d4c2323c08988875fd2d4addd431") true
    lexLongest_said (fun _ h => by cases h) (by kernel_rfl) (fun _ h => by cases h) lexLongest_row_tie rfl ⟨rfl, rfl⟩ (by kernel_rfl) rfl
    (fun f fn hf hfn => by
      obtain rfl : f = 4 := Option.some.inj ((show Tryd.prog.funcNamed "jacquard/jacquardlaw2.LexLongest" = some 4 by kernel_rfl).symm.trans hf) |>.symm
      obtain rfl : fn = Tryd.f4 := (Option.some.inj (Tryd.func4.symm.trans hfn)).symm
      exact ⟨by kernel_rfl, fun j t ht => by
        rw [Tryd.params4] at ht
        have hm : t ∈ [31] := by simpa using Array.mem_of_getElem? ht
        have hall : ([31].all fun u => !Tryd.prog.wantsStandIn u) = true := by kernel_rfl
        exact (show Tryd.prog.wantsStandIn t = false by simpa using List.all_eq_true.1 hall t hm)⟩)
    (by kernel_rfl)
#print axioms lexLongest_card

end Go.Proofs.YtoipapbdepobjaaDoor
