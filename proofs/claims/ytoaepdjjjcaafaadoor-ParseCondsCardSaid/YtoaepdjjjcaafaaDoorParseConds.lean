/- Proved: for every slice of ints the law ParseConds of layer 3 returns true and leaves its argument as it was; the condition is that the listed package-level variables hold what the program's text lays, to which the card ties them. -/
import Derived.Test.YtoaepdjjjcaafaaDoorCondsW
import Derived.Test.YtoaepdjjjcaafaaDoorLift2
import Derived.BigQuiet
import Derived.Carry
namespace Go.Proofs.YtoaepdjjjcaafaaDoor
open Go.ChangeShapes Go.WideShapes Go.ChangeAt Go.WideMaps Go.WideElems Go.RowKit
open Go.ChangeMaps (open_string shut_string)

theorem i64_and3 (n : Int) : bits .and .i64 n 3 = n % 4 := by
  have h63 : (BitVec.ofInt 64 3).toNat = 2 ^ 2 - 1 := by decide
  have key : (BitVec.ofInt 64 n &&& BitVec.ofInt 64 3).toNat = (n % ((2 ^ 64 : Nat) : Int)).toNat % 2 ^ 2 := by
    rw [BitVec.toNat_and, BitVec.toNat_ofInt, h63, Nat.and_two_pow_sub_one_eq_mod]
  show IntKind.i64.wrap ((BitVec.ofInt 64 n &&& BitVec.ofInt 64 3).toNat : Nat) = n % 4
  rw [key, IntKind.wrap_i64]
  omega
theorem i64_and7 (n : Int) : bits .and .i64 n 7 = n % 8 := by
  have h63 : (BitVec.ofInt 64 7).toNat = 2 ^ 3 - 1 := by decide
  have key : (BitVec.ofInt 64 n &&& BitVec.ofInt 64 7).toNat = (n % ((2 ^ 64 : Nat) : Int)).toNat % 2 ^ 3 := by
    rw [BitVec.toNat_and, BitVec.toNat_ofInt, h63, Nat.and_two_pow_sub_one_eq_mod]
  show IntKind.i64.wrap ((BitVec.ofInt 64 n &&& BitVec.ofInt 64 7).toNat : Nat) = n % 8
  rw [key, IntKind.wrap_i64]
  omega
theorem infoAtom' : (Tryd.prog.info? 27).map (fun i => (i.zero, i.size, i.bytes)) = some (some (.agg #[.int .i64 0, .int .i64 0, .int .i64 0, .int .i64 0]), 4, 32) := by kernel_rfl

set_option linter.unusedSimpArgs false in
set_option maxHeartbeats 4000000 in
set_option maxRecDepth 8000 in
theorem parseConds_walk (ao : Option Addr) (len cap b off : Nat) (zs : List Int) (w : World) (hlen : len * 8 ≤ 140737488351232) (hc : 0 < len → ao = some ⟨b, off, none⟩ ∧ b < w.heap.size ∧ ∀ j, j < len → w.cell? ⟨b, off + j, none⟩ = some (.int .i64 (zs.getD j 0))) (hw : Lw w) :
    Calls Tryd.prog 3 #[.slice ao len cap] w fun e w' => e = .returned (.bool true) ∧ On w w' := by
  rcases Nat.eq_zero_or_pos len with rfl | hpos
  · go_enter Tryd.func3, Tryd.ntmps3
    go_wp2_with fail
    refine (awake_any _ hw).mono ?_
    rintro e w1 ⟨rfl, k1⟩
    go_wp2
    all_goals (try go_ret)
    all_goals exact ⟨rfl, k1⟩
  · obtain ⟨i0, hi, hz0, hz1, hz2⟩ := info_parts infoRow
    obtain ⟨i1, hj, hy0, hy1, hy2⟩ := info_parts infoAtom'
    obtain ⟨rfl, hb, hcell⟩ := hc hpos
    have hl0 : ((len : Int) == 0) = false := by rw [beq_eq_false_iff_ne]; omega
    clear hc
    go_enter Tryd.func3, Tryd.ntmps3
    go_wp2
    go_loopg [3, 4, 5] 10 (fun k vs vw vi wr => ∃ (n : Nat) (S : ByteArray) (D : List (List AtomT)) (c : List AtomT), vs = .string S ∧ vi = .int .i64 n ∧ k = 10 - n ∧ n ≤ len ∧ n ≤ 10 ∧ S.size ≤ 26 + 20 * n ∧ D.length ≤ n ∧ c.length ≤ n ∧ Told n S D c ∧ Wt wr w.heap.size vw D c ∧ On w wr)
    case atStart => exact ⟨0, _, [], [], rfl, rfl, rfl, Nat.zero_le _, Nat.zero_le _, by decide, Nat.le_refl _, Nat.le_refl _, Told.zero rfl, Wt.first w _ (Nat.le_refl _), (On.refl w).alloc _⟩
    case round =>
      obtain ⟨n, S, D, c, rfl, rfl, hk, hn1, hn2, hS, hDn, hcn, hT, hW, hon⟩ := hrel
      have hLw : Lw wr := hw.on hon
      obtain ⟨av, mv, cv, rfl⟩ := own_slice (show wr.ownsRow w.heap.size _ _ _ _ _ from hW.choose_spec.choose_spec.choose_spec.2.1)
      by_cases hgo : n < len ∧ n < 10
      · obtain ⟨hlt, h10⟩ := hgo
        have c0 := (hon.cell (p := ⟨b, off + n, none⟩) hb).trans (hcell n hlt)
        have hbr : b < wr.heap.size := Nat.lt_of_lt_of_le hb hon.size
        generalize zs.getD n 0 = z at c0
        obtain ⟨m, hm, hm8⟩ : ∃ m : Nat, bits .and .i64 (z / 2) 7 = (m : Int) ∧ m < 8 := ⟨(z / 2 % 8).toNat, by rw [i64_and7]; omega, by omega⟩
        obtain ⟨q, hq, hq4⟩ : ∃ q : Nat, bits .and .i64 (z / 32) 3 = (q : Int) ∧ q < 4 := ⟨(z / 32 % 4).toNat, by rw [i64_and3]; omega, by omega⟩
        obtain ⟨XD, eD⟩ : ∃ X : ByteArray, X = ⟨(digB m).toArray⟩ := ⟨_, rfl⟩
        obtain ⟨XR, eR⟩ : ∃ X : ByteArray, X = ⟨(digB q).toArray⟩ := ⟨_, rfl⟩
        obtain ⟨XN, eN⟩ : ∃ X : ByteArray, X = ⟨(negB m).toArray⟩ := ⟨_, rfl⟩
        have lD : XD.data.toList = digB m := by rw [eD]
        have lR : XR.data.toList = digB q := by rw [eR]
        have lN : XN.data.toList = negB m := by rw [eN]
        have zD : XD.size = 1 := by rw [size_list, lD]; rfl
        have zR : XR.size = 1 := by rw [size_list, lR]; rfl
        have zN : XN.size ≤ 2 := by rw [size_list, lN]; exact negB_len m
        have hTd : ∀ W, Calls Tryd.prog 6 #[.int .i64 (m : Int)] W fun e w' => e = .returned (.string XD) ∧ w' = W := fun W => by
          have h := rtext_is (m : Int) (by omega) (by omega) W
          rw [itoa_dig ⟨m, hm8⟩, ← eD] at h
          exact h
        have hTr : ∀ W, Calls Tryd.prog 6 #[.int .i64 (q : Int)] W fun e w' => e = .returned (.string XR) ∧ w' = W := fun W => by
          have h := rtext_is (q : Int) (by omega) (by omega) W
          rw [itoa_dig ⟨q, by omega⟩, ← eR] at h
          exact h
        have hTn : ∀ W, Calls Tryd.prog 6 #[.int .i64 (-(m : Int))] W fun e w' => e = .returned (.string XN) ∧ w' = W := fun W => by
          have h := rtext_is (-(m : Int)) (by omega) (by omega) W
          rw [itoa_neg ⟨m, hm8⟩, ← eN] at h
          exact h
        clear eD eR eN hcell
        obtain ⟨ds, u, bc, h1, h2, h3, h4, h5, h6⟩ := hW
        obtain ⟨ua, um, uc, rfl⟩ := own_slice h6
        obtain rfl := own_len h6
        obtain ⟨go, cap', hv, hcap, hbo, hgl, hcells⟩ := own_cells h2 (Nat.succ_pos _)
        simp only [Value.slice.injEq] at hv
        obtain ⟨rfl, rfl, rfl⟩ := hv
        have v0 : wr.cell? ⟨go, D.length, none⟩ = some (.slice ua c.length uc) := hcells _ _ (by rw [← h1]; simp)
        have hD10 : D.length ≤ 10 := by omega
        have hc10 : c.length ≤ 10 := by omega
        have hwp : IntKind.i64.wrap (D.length : Int) = (D.length : Int) := by rw [IntKind.wrap_i64]; omega
        have hwl : (D.length : Int) < (D.length : Int) + 1 := by omega
        have s1 : Hid (c.length + 1 ≤ maxLen) := by show _ ≤ _; unfold maxLen; omega
        have s2 : Hid ((c.length + 1) * 32 ≤ 140737488355328) := by show _ ≤ _; omega
        have hS300 : S.size ≤ 300 := by omega
        rcases Nat.eq_zero_or_pos n with rfl | hpn
        · have c0' : wr.cell? ⟨b, off, none⟩ = some (.int .i64 z) := c0
          cases hw1 : (bits .and .i64 (z / 16) 1 == 1) with
          | true =>
            have HON : Hid (On w wr) := hon
            clear hon
            go_wp2
            obtain ⟨S0, hS0⟩ : ∃ S0, S0 = S := ⟨_, rfl⟩
            rw [← hS0]
            have z0 : S0.size ≤ 310 := by rw [hS0]; first | omega | (rw [ByteArray.size_append]; show S.size + 2 ≤ _; omega)
            have y0 : ¬ 9223372036854775807 < S0.size + 1 := by omega
            have y1 : ¬ 9223372036854775807 < S0.size + 1 + XD.size := by omega
            have y2 : ¬ 9223372036854775807 < S0.size + 1 + XD.size + 4 := by omega
            have y3 : ¬ 9223372036854775807 < S0.size + 1 + XD.size + 4 + XR.size := by omega
            have y4 : ¬ 9223372036854775807 < S0.size + 1 + XD.size + 4 + XR.size + 3 := by omega
            have y5 : ¬ 9223372036854775807 < S0.size + 1 + XD.size + 4 + XR.size + 3 + XN.size := by omega
            have Z : Hid (S0.size = S.size + 0 ∧ XD.size = 1 ∧ XR.size = 1 ∧ XN.size ≤ 2) := ⟨by rw [hS0]; first | rfl | exact ByteArray.size_append, zD, zR, zN⟩
            have HS0 : Hid (S0 = S) := hS0
            clear zD zR zN z0 hS0
            go_quiet (first | (go_at_call_of 6 (Value.int .i64 (m : Int)); exact Calls.quiet_of_same (hTd _)) | (go_at_call_of 6 (Value.int .i64 (q : Int)); exact Calls.quiet_of_same (hTr _)) | (go_at_call_of 6 (Value.int .i64 (-(m : Int))); exact Calls.quiet_of_same (hTn _)))
            go_wp2
            obtain ⟨W, hWW⟩ : ∃ W, W = (wr.alloc (.cells #[.int .i64 (m : Int), .int .i64 (q : Int), .int .i64 0, .int .i64 (-(m : Int))] 27)).drewN nq := ⟨_, rfl⟩
            have kW : On wr W := by rw [hWW]; exact ((On.refl wr).alloc _).drewN _
            have kB : Bk W wr.heap.size #[.int .i64 (m : Int), .int .i64 (q : Int), .int .i64 0, .int .i64 (-(m : Int))] := by rw [hWW]; exact Bk.new _ _ _
            rw [← hWW]
            clear hWW
            have w0 : W.cell? ⟨go, D.length, none⟩ = some (.slice ua c.length uc) := (kW.cell (p := ⟨go, D.length, none⟩) hgl).trans v0
            have wl : go < W.heap.size := Nat.lt_of_lt_of_le hgl kW.size
            have b0 : W.cell? ⟨wr.heap.size, 0, none⟩ = some (.int .i64 (m : Int)) := kB.at rfl
            have b1 : W.cell? ⟨wr.heap.size, 1, none⟩ = some (.int .i64 (q : Int)) := kB.at rfl
            have b2 : W.cell? ⟨wr.heap.size, 2, none⟩ = some (.int .i64 0) := kB.at rfl
            have b3 : W.cell? ⟨wr.heap.size, 3, none⟩ = some (.int .i64 (-(m : Int))) := kB.at rfl
            have bl : wr.heap.size < W.heap.size := kB.lt
            have wl' : go < W.heap.size + 1 := Nat.lt_succ_of_lt wl
            have gn : ∀ (j : Nat) (u : Value), (atomC (atomT ⟨true, ⟨m, hm8⟩, ⟨q, hq4⟩⟩))[j]? = some u → ((W.alloc (.cells #[.int .i64 (m : Int), .int .i64 (q : Int), .int .i64 0, .int .i64 (-(m : Int))] 27)).drew).cell? ((⟨W.heap.size, 0, none⟩ : Addr).add j) = some u := by
              intro j u hu
              show (W.alloc _).cell? _ = _
              rw [new_cell]
              exact hu
            have g1 : ∀ u ∈ atomC (atomT ⟨true, ⟨m, hm8⟩, ⟨q, hq4⟩⟩), u.oneCell' = true := by
              intro u hu
              simp only [atomC, List.mem_cons, List.not_mem_nil, or_false] at hu
              rcases hu with rfl | rfl | rfl | rfl <;> rfl
            go_region_law (first | (refine step_append_own rfl (.tmp 94) (.tmp 96) 29 rfl bc 27 i1 (.agg #[.int .i64 0, .int .i64 0, .int .i64 0, .int .i64 0]) 4 32 Tryd.underlying29 hj hy0 hy1 hy2 rfl (by decide) (.slice ua c.length uc) c.length (c.flatMap atomC) (by simp [Act.eval]) (own_on h6 (kW.alloc _).drew) ⟨W.heap.size, 0, none⟩ 1 1 (atomC (atomT ⟨true, ⟨m, hm8⟩, ⟨q, hq4⟩⟩)) (by simp [Act.eval]) rfl gn g1 s1.out s2.out (Nat.le_trans h5 (kW.alloc _).size) ?_; intro v' w5 hown5 hg5; obtain ⟨a5, m5, c5, rfl⟩ := own_slice hown5; obtain ⟨e1, e2, e3⟩ := own_last (own_far (own_on h2 (kW.alloc _).drew) (own_on h6 (kW.alloc _).drew) eo_ne.symm hg5) h1))
            all_goals
              go_wp2
              go_roundg (10 - (0 + 1))
            all_goals (try omega)
            all_goals
              refine ⟨0 + 1, _, D, c ++ [atomT ⟨true, ⟨m, hm8⟩, ⟨q, hq4⟩⟩], rfl, by go_num, rfl, by omega, by omega, ?_, by omega, by rw [List.length_append]; show c.length + 1 ≤ _; omega, (hT.one ⟨true, ⟨m, hm8⟩, ⟨q, hq4⟩⟩ ?_).2.2, Wt.put h1 (own_on h2 (kW.alloc _).drew) (fun i u' L a b => ⟨own_on (h3 i u' L a b).1 (kW.alloc _).drew, (h3 i u' L a b).2⟩) h4 (Nat.le_trans h5 (kW.alloc _).size) (own_on h6 (kW.alloc _).drew) hg5 hown5, ((HON.out.trans (kW.alloc _).drew).grown hg5 (fun g e => Nat.le_trans h4 (own_block h6 e).1)).setNew hbo _⟩
              · obtain ⟨zS, zD, zR, zN⟩ := Z.out
                rw [ByteArray.size_append, ByteArray.size_append, ByteArray.size_append, ByteArray.size_append, ByteArray.size_append, ByteArray.size_append, zS, zD, zR]
                show S.size + 0 + 1 + 1 + 4 + 1 + 3 + XN.size ≤ _
                omega
              · rw [HS0.out]
                rw [list_append, list_append, list_append, list_append, list_append, list_append, lD, lR, lN]
                simp [itemB, sgnB, atomB, regT, digB]
          | false =>
            have HON : Hid (On w wr) := hon
            clear hon
            go_wp2_with (go_at_call 6; refine (hTd _).mono ?_; rintro e w2 ⟨rfl, rfl⟩)
            obtain ⟨W, hWW⟩ : ∃ W, W = wr.alloc (.cells #[.int .i64 (-1), .int .i64 0, .int .i64 120, .int .i64 (m : Int)] 27) := ⟨_, rfl⟩
            have kW : On wr W := by rw [hWW]; exact (On.refl wr).alloc _
            have kB : Bk W wr.heap.size #[.int .i64 (-1), .int .i64 0, .int .i64 120, .int .i64 (m : Int)] := by rw [hWW]; exact Bk.new _ _ _
            rw [← hWW]
            clear hWW
            have w0 : W.cell? ⟨go, D.length, none⟩ = some (.slice ua c.length uc) := (kW.cell (p := ⟨go, D.length, none⟩) hgl).trans v0
            have wl : go < W.heap.size := Nat.lt_of_lt_of_le hgl kW.size
            have b0 : W.cell? ⟨wr.heap.size, 0, none⟩ = some (.int .i64 (-1)) := kB.at rfl
            have b1 : W.cell? ⟨wr.heap.size, 1, none⟩ = some (.int .i64 0) := kB.at rfl
            have b2 : W.cell? ⟨wr.heap.size, 2, none⟩ = some (.int .i64 120) := kB.at rfl
            have b3 : W.cell? ⟨wr.heap.size, 3, none⟩ = some (.int .i64 (m : Int)) := kB.at rfl
            have bl : wr.heap.size < W.heap.size := kB.lt
            have wl' : go < W.heap.size + 1 := Nat.lt_succ_of_lt wl
            have gn : ∀ (j : Nat) (u : Value), (atomC (atomT ⟨false, ⟨m, hm8⟩, ⟨q, hq4⟩⟩))[j]? = some u → ((W.alloc (.cells #[.int .i64 (-1), .int .i64 0, .int .i64 120, .int .i64 (m : Int)] 27)).drew).cell? ((⟨W.heap.size, 0, none⟩ : Addr).add j) = some u := by
              intro j u hu
              show (W.alloc _).cell? _ = _
              rw [new_cell]
              exact hu
            have g1 : ∀ u ∈ atomC (atomT ⟨false, ⟨m, hm8⟩, ⟨q, hq4⟩⟩), u.oneCell' = true := by
              intro u hu
              simp only [atomC, List.mem_cons, List.not_mem_nil, or_false] at hu
              rcases hu with rfl | rfl | rfl | rfl <;> rfl
            go_region_law (first | (refine step_append_own rfl (.tmp 94) (.tmp 96) 29 rfl bc 27 i1 (.agg #[.int .i64 0, .int .i64 0, .int .i64 0, .int .i64 0]) 4 32 Tryd.underlying29 hj hy0 hy1 hy2 rfl (by decide) (.slice ua c.length uc) c.length (c.flatMap atomC) (by simp [Act.eval]) (own_on h6 (kW.alloc _).drew) ⟨W.heap.size, 0, none⟩ 1 1 (atomC (atomT ⟨false, ⟨m, hm8⟩, ⟨q, hq4⟩⟩)) (by simp [Act.eval]) rfl gn g1 s1.out s2.out (Nat.le_trans h5 (kW.alloc _).size) ?_; intro v' w5 hown5 hg5; obtain ⟨a5, m5, c5, rfl⟩ := own_slice hown5; obtain ⟨e1, e2, e3⟩ := own_last (own_far (own_on h2 (kW.alloc _).drew) (own_on h6 (kW.alloc _).drew) eo_ne.symm hg5) h1))
            all_goals
              go_wp2
              go_roundg (10 - (0 + 1))
            all_goals (try omega)
            all_goals
              refine ⟨0 + 1, _, D, c ++ [atomT ⟨false, ⟨m, hm8⟩, ⟨q, hq4⟩⟩], rfl, by go_num, rfl, by omega, by omega, ?_, by omega, by rw [List.length_append]; show c.length + 1 ≤ _; omega, (hT.one ⟨false, ⟨m, hm8⟩, ⟨q, hq4⟩⟩ ?_).2.2, Wt.put h1 (own_on h2 (kW.alloc _).drew) (fun i u' L a b => ⟨own_on (h3 i u' L a b).1 (kW.alloc _).drew, (h3 i u' L a b).2⟩) h4 (Nat.le_trans h5 (kW.alloc _).size) (own_on h6 (kW.alloc _).drew) hg5 hown5, ((HON.out.trans (kW.alloc _).drew).grown hg5 (fun g e => Nat.le_trans h4 (own_block h6 e).1)).setNew hbo _⟩
              · rw [ByteArray.size_append, ByteArray.size_append, zD]
                show S.size + 5 + 1 ≤ _
                omega
              · rw [list_append, list_append, lD]
                simp [itemB, sgnB, atomB, regT, digB]
        · cases ho : (bits .and .i64 z 1 == 1) with
          | true =>
            have hltO : ∀ g, (Value.slice (some ⟨go, 0, none⟩) (D.length + 1) cv).ownBlock = some g → w.heap.size ≤ g := fun g e => (own_block h2 e).1
            have HON0 : Hid (On w wr) := hon
            cases hw1 : (bits .and .i64 (z / 16) 1 == 1) with
            | true =>
              clear hon
              go_wp2_with (at_builtin; refine wpList_append_own _ rfl _ _ 24 rfl w.heap.size 29 i0 (.slice none 0 0) 1 24 Tryd.underlying24 hi hz0 hz1 hz2 rfl (by decide) _ _ _ rfl (h2.alloc _) ⟨wr.heap.size, 0, none⟩ 1 1 [.slice none 0 0] rfl rfl ?c1 ?c2 ?c3 ?c4 ?c5 ?_)
              case c1 => exact new_news wr (.slice none 0 0) 29
              case c2 => exact one_news none 0 0
              case c3 => unfold maxLen; omega
              case c4 => omega
              case c5 => simp; omega
              intro v4 w4 hown4 hg4 _
              have hb4 : b < w4.heap.size := Nat.lt_of_lt_of_le (by simp; omega) hg4.size
              have ON4 : On w w4 := (HON0.out.alloc _).grown hg4 hltO
              have c4 : w4.cell? ⟨b, off + n, none⟩ = some (.int .i64 z) := (ON4.cell (p := ⟨b, off + n, none⟩) hb).trans ((HON0.out.cell (p := ⟨b, off + n, none⟩) hb).symm.trans c0)
              have hWt : Wt w4 w.heap.size v4 (D ++ [c]) [] := Wt.next h1 (h2.alloc _) (fun i u' L a b => ⟨(h3 i u' L a b).1.alloc _, (h3 i u' L a b).2⟩) h4 (h6.alloc _) hg4 (by rw [List.append_assoc]; exact hown4)
              have hL2 : (D ++ [c]).length ≤ n + 1 := by simp; omega
              have hT2 := fun (S' : ByteArray) (d : AtomD) (h : S'.data.toList = S.data.toList ++ itemB true d []) => hT.or hpn d h
              obtain ⟨D2, eD2⟩ : ∃ D2, D2 = D ++ [c] := ⟨_, rfl⟩
              obtain ⟨c2, ec2⟩ : ∃ c2 : List AtomT, c2 = [] := ⟨_, rfl⟩
              rw [← eD2, ← ec2] at hWt
              rw [← eD2] at hL2
              have hT3 : ∀ (S' : ByteArray) (d : AtomD), S'.data.toList = S.data.toList ++ itemB true d [] → Told (n + 1) S' D2 (c2 ++ [atomT d]) := by
                rw [eD2, ec2]
                exact hT2
              have hc210 : c2.length ≤ 10 := by rw [ec2]; exact Nat.zero_le _
              have hc2n : c2.length ≤ n := by rw [ec2]; exact Nat.zero_le _
              clear eD2 ec2 hT2 hD10 hwp hwl v0 hcells c0 hbr
              obtain ⟨ds2, u2, bc2, h12, h22, h32, h42, h52, h62⟩ := hWt
              obtain ⟨ua2, um2, uc2, rfl⟩ := own_slice h62
              obtain rfl := own_len h62
              obtain ⟨go2, cap2, hv2, hcap2, hbo2, hgl2, hcells2⟩ := own_cells h22 (Nat.succ_pos _)
              obtain ⟨av2, mv2, cv2, rfl⟩ := own_slice hown4
              simp only [Value.slice.injEq] at hv2
              obtain ⟨rfl, rfl, rfl⟩ := hv2
              have v02 : w4.cell? ⟨go2, D2.length, none⟩ = some (.slice ua2 c2.length uc2) := hcells2 _ _ (by rw [← h12]; simp)
              have hD10 : D2.length ≤ 10 := by omega
              have hwp : IntKind.i64.wrap (D2.length : Int) = (D2.length : Int) := by rw [IntKind.wrap_i64]; omega
              have hwl : (D2.length : Int) < (D2.length : Int) + 1 := by omega
              have s12 : Hid (c2.length + 1 ≤ maxLen) := by show _ ≤ _; unfold maxLen; omega
              have s22 : Hid ((c2.length + 1) * 32 ≤ 140737488355328) := by show _ ≤ _; omega
              have HON : Hid (On w w4) := ON4
              clear ON4
              go_wp2
              obtain ⟨S0, hS0⟩ : ∃ S0, S0 = (S ++ ⟨#[32, 124]⟩) := ⟨_, rfl⟩
              rw [← hS0]
              have z0 : S0.size ≤ 310 := by rw [hS0]; first | omega | (rw [ByteArray.size_append]; show S.size + 2 ≤ _; omega)
              have y0 : ¬ 9223372036854775807 < S0.size + 1 := by omega
              have y1 : ¬ 9223372036854775807 < S0.size + 1 + XD.size := by omega
              have y2 : ¬ 9223372036854775807 < S0.size + 1 + XD.size + 4 := by omega
              have y3 : ¬ 9223372036854775807 < S0.size + 1 + XD.size + 4 + XR.size := by omega
              have y4 : ¬ 9223372036854775807 < S0.size + 1 + XD.size + 4 + XR.size + 3 := by omega
              have y5 : ¬ 9223372036854775807 < S0.size + 1 + XD.size + 4 + XR.size + 3 + XN.size := by omega
              have Z : Hid (S0.size = S.size + 2 ∧ XD.size = 1 ∧ XR.size = 1 ∧ XN.size ≤ 2) := ⟨by rw [hS0]; first | rfl | exact ByteArray.size_append, zD, zR, zN⟩
              have HS0 : Hid (S0 = (S ++ ⟨#[32, 124]⟩)) := hS0
              clear zD zR zN z0 hS0
              go_quiet (first | (go_at_call_of 6 (Value.int .i64 (m : Int)); exact Calls.quiet_of_same (hTd _)) | (go_at_call_of 6 (Value.int .i64 (q : Int)); exact Calls.quiet_of_same (hTr _)) | (go_at_call_of 6 (Value.int .i64 (-(m : Int))); exact Calls.quiet_of_same (hTn _)))
              go_wp2
              obtain ⟨W, hWW⟩ : ∃ W, W = (w4.alloc (.cells #[.int .i64 (m : Int), .int .i64 (q : Int), .int .i64 0, .int .i64 (-(m : Int))] 27)).drewN nq := ⟨_, rfl⟩
              have kW : On w4 W := by rw [hWW]; exact ((On.refl w4).alloc _).drewN _
              have kB : Bk W w4.heap.size #[.int .i64 (m : Int), .int .i64 (q : Int), .int .i64 0, .int .i64 (-(m : Int))] := by rw [hWW]; exact Bk.new _ _ _
              rw [← hWW]
              clear hWW
              have w0 : W.cell? ⟨go2, D2.length, none⟩ = some (.slice ua2 c2.length uc2) := (kW.cell (p := ⟨go2, D2.length, none⟩) hgl2).trans v02
              have wl : go2 < W.heap.size := Nat.lt_of_lt_of_le hgl2 kW.size
              have b0 : W.cell? ⟨w4.heap.size, 0, none⟩ = some (.int .i64 (m : Int)) := kB.at rfl
              have b1 : W.cell? ⟨w4.heap.size, 1, none⟩ = some (.int .i64 (q : Int)) := kB.at rfl
              have b2 : W.cell? ⟨w4.heap.size, 2, none⟩ = some (.int .i64 0) := kB.at rfl
              have b3 : W.cell? ⟨w4.heap.size, 3, none⟩ = some (.int .i64 (-(m : Int))) := kB.at rfl
              have bl : w4.heap.size < W.heap.size := kB.lt
              have wl' : go2 < W.heap.size + 1 := Nat.lt_succ_of_lt wl
              have gn : ∀ (j : Nat) (u : Value), (atomC (atomT ⟨true, ⟨m, hm8⟩, ⟨q, hq4⟩⟩))[j]? = some u → ((W.alloc (.cells #[.int .i64 (m : Int), .int .i64 (q : Int), .int .i64 0, .int .i64 (-(m : Int))] 27)).drew).cell? ((⟨W.heap.size, 0, none⟩ : Addr).add j) = some u := by
                intro j u hu
                show (W.alloc _).cell? _ = _
                rw [new_cell]
                exact hu
              have g1 : ∀ u ∈ atomC (atomT ⟨true, ⟨m, hm8⟩, ⟨q, hq4⟩⟩), u.oneCell' = true := by
                intro u hu
                simp only [atomC, List.mem_cons, List.not_mem_nil, or_false] at hu
                rcases hu with rfl | rfl | rfl | rfl <;> rfl
              go_region_law (first | (refine step_append_own rfl (.tmp 94) (.tmp 96) 29 rfl bc2 27 i1 (.agg #[.int .i64 0, .int .i64 0, .int .i64 0, .int .i64 0]) 4 32 Tryd.underlying29 hj hy0 hy1 hy2 rfl (by decide) (.slice ua2 c2.length uc2) c2.length (c2.flatMap atomC) (by simp [Act.eval]) (own_on h62 (kW.alloc _).drew) ⟨W.heap.size, 0, none⟩ 1 1 (atomC (atomT ⟨true, ⟨m, hm8⟩, ⟨q, hq4⟩⟩)) (by simp [Act.eval]) rfl gn g1 s12.out s22.out (Nat.le_trans h52 (kW.alloc _).size) ?_; intro v' w5 hown5 hg5; obtain ⟨a5, m5, c5, rfl⟩ := own_slice hown5; obtain ⟨e1, e2, e3⟩ := own_last (own_far (own_on h22 (kW.alloc _).drew) (own_on h62 (kW.alloc _).drew) eo_ne.symm hg5) h12))
              all_goals
                go_wp2
                go_roundg (10 - (n + 1))
              all_goals (try omega)
              all_goals
                refine ⟨n + 1, _, D2, c2 ++ [atomT ⟨true, ⟨m, hm8⟩, ⟨q, hq4⟩⟩], rfl, by go_num, rfl, by omega, by omega, ?_, by omega, by rw [List.length_append]; show c2.length + 1 ≤ _; omega, hT3 _ ⟨true, ⟨m, hm8⟩, ⟨q, hq4⟩⟩ ?_, Wt.put h12 (own_on h22 (kW.alloc _).drew) (fun i u' L a b => ⟨own_on (h32 i u' L a b).1 (kW.alloc _).drew, (h32 i u' L a b).2⟩) h42 (Nat.le_trans h52 (kW.alloc _).size) (own_on h62 (kW.alloc _).drew) hg5 hown5, ((HON.out.trans (kW.alloc _).drew).grown hg5 (fun g e => Nat.le_trans h42 (own_block h62 e).1)).setNew hbo2 _⟩
                · obtain ⟨zS, zD, zR, zN⟩ := Z.out
                  rw [ByteArray.size_append, ByteArray.size_append, ByteArray.size_append, ByteArray.size_append, ByteArray.size_append, ByteArray.size_append, zS, zD, zR]
                  show S.size + 2 + 1 + 1 + 4 + 1 + 3 + XN.size ≤ _
                  omega
                · rw [HS0.out]
                  rw [list_append, list_append, list_append, list_append, list_append, list_append, list_append, lD, lR, lN]
                  simp [itemB, sgnB, atomB, regT, digB]
            | false =>
              clear hon
              go_wp2_with (at_builtin; refine wpList_append_own _ rfl _ _ 24 rfl w.heap.size 29 i0 (.slice none 0 0) 1 24 Tryd.underlying24 hi hz0 hz1 hz2 rfl (by decide) _ _ _ rfl (h2.alloc _) ⟨wr.heap.size, 0, none⟩ 1 1 [.slice none 0 0] rfl rfl ?c1 ?c2 ?c3 ?c4 ?c5 ?_)
              case c1 => exact new_news wr (.slice none 0 0) 29
              case c2 => exact one_news none 0 0
              case c3 => unfold maxLen; omega
              case c4 => omega
              case c5 => simp; omega
              intro v4 w4 hown4 hg4 _
              have hb4 : b < w4.heap.size := Nat.lt_of_lt_of_le (by simp; omega) hg4.size
              have ON4 : On w w4 := (HON0.out.alloc _).grown hg4 hltO
              have c4 : w4.cell? ⟨b, off + n, none⟩ = some (.int .i64 z) := (ON4.cell (p := ⟨b, off + n, none⟩) hb).trans ((HON0.out.cell (p := ⟨b, off + n, none⟩) hb).symm.trans c0)
              have hWt : Wt w4 w.heap.size v4 (D ++ [c]) [] := Wt.next h1 (h2.alloc _) (fun i u' L a b => ⟨(h3 i u' L a b).1.alloc _, (h3 i u' L a b).2⟩) h4 (h6.alloc _) hg4 (by rw [List.append_assoc]; exact hown4)
              have hL2 : (D ++ [c]).length ≤ n + 1 := by simp; omega
              have hT2 := fun (S' : ByteArray) (d : AtomD) (h : S'.data.toList = S.data.toList ++ itemB true d []) => hT.or hpn d h
              obtain ⟨D2, eD2⟩ : ∃ D2, D2 = D ++ [c] := ⟨_, rfl⟩
              obtain ⟨c2, ec2⟩ : ∃ c2 : List AtomT, c2 = [] := ⟨_, rfl⟩
              rw [← eD2, ← ec2] at hWt
              rw [← eD2] at hL2
              have hT3 : ∀ (S' : ByteArray) (d : AtomD), S'.data.toList = S.data.toList ++ itemB true d [] → Told (n + 1) S' D2 (c2 ++ [atomT d]) := by
                rw [eD2, ec2]
                exact hT2
              have hc210 : c2.length ≤ 10 := by rw [ec2]; exact Nat.zero_le _
              have hc2n : c2.length ≤ n := by rw [ec2]; exact Nat.zero_le _
              clear eD2 ec2 hT2 hD10 hwp hwl v0 hcells c0 hbr
              obtain ⟨ds2, u2, bc2, h12, h22, h32, h42, h52, h62⟩ := hWt
              obtain ⟨ua2, um2, uc2, rfl⟩ := own_slice h62
              obtain rfl := own_len h62
              obtain ⟨go2, cap2, hv2, hcap2, hbo2, hgl2, hcells2⟩ := own_cells h22 (Nat.succ_pos _)
              obtain ⟨av2, mv2, cv2, rfl⟩ := own_slice hown4
              simp only [Value.slice.injEq] at hv2
              obtain ⟨rfl, rfl, rfl⟩ := hv2
              have v02 : w4.cell? ⟨go2, D2.length, none⟩ = some (.slice ua2 c2.length uc2) := hcells2 _ _ (by rw [← h12]; simp)
              have hD10 : D2.length ≤ 10 := by omega
              have hwp : IntKind.i64.wrap (D2.length : Int) = (D2.length : Int) := by rw [IntKind.wrap_i64]; omega
              have hwl : (D2.length : Int) < (D2.length : Int) + 1 := by omega
              have s12 : Hid (c2.length + 1 ≤ maxLen) := by show _ ≤ _; unfold maxLen; omega
              have s22 : Hid ((c2.length + 1) * 32 ≤ 140737488355328) := by show _ ≤ _; omega
              have HON : Hid (On w w4) := ON4
              clear ON4
              go_wp2_with (go_at_call 6; refine (hTd _).mono ?_; rintro e w2 ⟨rfl, rfl⟩)
              obtain ⟨W, hWW⟩ : ∃ W, W = w4.alloc (.cells #[.int .i64 (-1), .int .i64 0, .int .i64 120, .int .i64 (m : Int)] 27) := ⟨_, rfl⟩
              have kW : On w4 W := by rw [hWW]; exact (On.refl w4).alloc _
              have kB : Bk W w4.heap.size #[.int .i64 (-1), .int .i64 0, .int .i64 120, .int .i64 (m : Int)] := by rw [hWW]; exact Bk.new _ _ _
              rw [← hWW]
              clear hWW
              have w0 : W.cell? ⟨go2, D2.length, none⟩ = some (.slice ua2 c2.length uc2) := (kW.cell (p := ⟨go2, D2.length, none⟩) hgl2).trans v02
              have wl : go2 < W.heap.size := Nat.lt_of_lt_of_le hgl2 kW.size
              have b0 : W.cell? ⟨w4.heap.size, 0, none⟩ = some (.int .i64 (-1)) := kB.at rfl
              have b1 : W.cell? ⟨w4.heap.size, 1, none⟩ = some (.int .i64 0) := kB.at rfl
              have b2 : W.cell? ⟨w4.heap.size, 2, none⟩ = some (.int .i64 120) := kB.at rfl
              have b3 : W.cell? ⟨w4.heap.size, 3, none⟩ = some (.int .i64 (m : Int)) := kB.at rfl
              have bl : w4.heap.size < W.heap.size := kB.lt
              have wl' : go2 < W.heap.size + 1 := Nat.lt_succ_of_lt wl
              have gn : ∀ (j : Nat) (u : Value), (atomC (atomT ⟨false, ⟨m, hm8⟩, ⟨q, hq4⟩⟩))[j]? = some u → ((W.alloc (.cells #[.int .i64 (-1), .int .i64 0, .int .i64 120, .int .i64 (m : Int)] 27)).drew).cell? ((⟨W.heap.size, 0, none⟩ : Addr).add j) = some u := by
                intro j u hu
                show (W.alloc _).cell? _ = _
                rw [new_cell]
                exact hu
              have g1 : ∀ u ∈ atomC (atomT ⟨false, ⟨m, hm8⟩, ⟨q, hq4⟩⟩), u.oneCell' = true := by
                intro u hu
                simp only [atomC, List.mem_cons, List.not_mem_nil, or_false] at hu
                rcases hu with rfl | rfl | rfl | rfl <;> rfl
              go_region_law (first | (refine step_append_own rfl (.tmp 94) (.tmp 96) 29 rfl bc2 27 i1 (.agg #[.int .i64 0, .int .i64 0, .int .i64 0, .int .i64 0]) 4 32 Tryd.underlying29 hj hy0 hy1 hy2 rfl (by decide) (.slice ua2 c2.length uc2) c2.length (c2.flatMap atomC) (by simp [Act.eval]) (own_on h62 (kW.alloc _).drew) ⟨W.heap.size, 0, none⟩ 1 1 (atomC (atomT ⟨false, ⟨m, hm8⟩, ⟨q, hq4⟩⟩)) (by simp [Act.eval]) rfl gn g1 s12.out s22.out (Nat.le_trans h52 (kW.alloc _).size) ?_; intro v' w5 hown5 hg5; obtain ⟨a5, m5, c5, rfl⟩ := own_slice hown5; obtain ⟨e1, e2, e3⟩ := own_last (own_far (own_on h22 (kW.alloc _).drew) (own_on h62 (kW.alloc _).drew) eo_ne.symm hg5) h12))
              all_goals
                go_wp2
                go_roundg (10 - (n + 1))
              all_goals (try omega)
              all_goals
                refine ⟨n + 1, _, D2, c2 ++ [atomT ⟨false, ⟨m, hm8⟩, ⟨q, hq4⟩⟩], rfl, by go_num, rfl, by omega, by omega, ?_, by omega, by rw [List.length_append]; show c2.length + 1 ≤ _; omega, hT3 _ ⟨false, ⟨m, hm8⟩, ⟨q, hq4⟩⟩ ?_, Wt.put h12 (own_on h22 (kW.alloc _).drew) (fun i u' L a b => ⟨own_on (h32 i u' L a b).1 (kW.alloc _).drew, (h32 i u' L a b).2⟩) h42 (Nat.le_trans h52 (kW.alloc _).size) (own_on h62 (kW.alloc _).drew) hg5 hown5, ((HON.out.trans (kW.alloc _).drew).grown hg5 (fun g e => Nat.le_trans h42 (own_block h62 e).1)).setNew hbo2 _⟩
                · rw [ByteArray.size_append, ByteArray.size_append, ByteArray.size_append, zD]
                  show S.size + 2 + 5 + 1 ≤ _
                  omega
                · rw [list_append, list_append, list_append, lD]
                  simp [itemB, sgnB, atomB, regT, digB]
          | false =>
            have HON : Hid (On w wr) := hon
            cases hw1 : (bits .and .i64 (z / 16) 1 == 1) with
            | true =>
              clear hon
              go_wp2
              obtain ⟨S0, hS0⟩ : ∃ S0, S0 = (S ++ ⟨#[32, 38]⟩) := ⟨_, rfl⟩
              rw [← hS0]
              have z0 : S0.size ≤ 310 := by rw [hS0]; first | omega | (rw [ByteArray.size_append]; show S.size + 2 ≤ _; omega)
              have y0 : ¬ 9223372036854775807 < S0.size + 1 := by omega
              have y1 : ¬ 9223372036854775807 < S0.size + 1 + XD.size := by omega
              have y2 : ¬ 9223372036854775807 < S0.size + 1 + XD.size + 4 := by omega
              have y3 : ¬ 9223372036854775807 < S0.size + 1 + XD.size + 4 + XR.size := by omega
              have y4 : ¬ 9223372036854775807 < S0.size + 1 + XD.size + 4 + XR.size + 3 := by omega
              have y5 : ¬ 9223372036854775807 < S0.size + 1 + XD.size + 4 + XR.size + 3 + XN.size := by omega
              have Z : Hid (S0.size = S.size + 2 ∧ XD.size = 1 ∧ XR.size = 1 ∧ XN.size ≤ 2) := ⟨by rw [hS0]; first | rfl | exact ByteArray.size_append, zD, zR, zN⟩
              have HS0 : Hid (S0 = (S ++ ⟨#[32, 38]⟩)) := hS0
              clear zD zR zN z0 hS0
              go_quiet (first | (go_at_call_of 6 (Value.int .i64 (m : Int)); exact Calls.quiet_of_same (hTd _)) | (go_at_call_of 6 (Value.int .i64 (q : Int)); exact Calls.quiet_of_same (hTr _)) | (go_at_call_of 6 (Value.int .i64 (-(m : Int))); exact Calls.quiet_of_same (hTn _)))
              go_wp2
              obtain ⟨W, hWW⟩ : ∃ W, W = (wr.alloc (.cells #[.int .i64 (m : Int), .int .i64 (q : Int), .int .i64 0, .int .i64 (-(m : Int))] 27)).drewN nq := ⟨_, rfl⟩
              have kW : On wr W := by rw [hWW]; exact ((On.refl wr).alloc _).drewN _
              have kB : Bk W wr.heap.size #[.int .i64 (m : Int), .int .i64 (q : Int), .int .i64 0, .int .i64 (-(m : Int))] := by rw [hWW]; exact Bk.new _ _ _
              rw [← hWW]
              clear hWW
              have w0 : W.cell? ⟨go, D.length, none⟩ = some (.slice ua c.length uc) := (kW.cell (p := ⟨go, D.length, none⟩) hgl).trans v0
              have wl : go < W.heap.size := Nat.lt_of_lt_of_le hgl kW.size
              have b0 : W.cell? ⟨wr.heap.size, 0, none⟩ = some (.int .i64 (m : Int)) := kB.at rfl
              have b1 : W.cell? ⟨wr.heap.size, 1, none⟩ = some (.int .i64 (q : Int)) := kB.at rfl
              have b2 : W.cell? ⟨wr.heap.size, 2, none⟩ = some (.int .i64 0) := kB.at rfl
              have b3 : W.cell? ⟨wr.heap.size, 3, none⟩ = some (.int .i64 (-(m : Int))) := kB.at rfl
              have bl : wr.heap.size < W.heap.size := kB.lt
              have wl' : go < W.heap.size + 1 := Nat.lt_succ_of_lt wl
              have gn : ∀ (j : Nat) (u : Value), (atomC (atomT ⟨true, ⟨m, hm8⟩, ⟨q, hq4⟩⟩))[j]? = some u → ((W.alloc (.cells #[.int .i64 (m : Int), .int .i64 (q : Int), .int .i64 0, .int .i64 (-(m : Int))] 27)).drew).cell? ((⟨W.heap.size, 0, none⟩ : Addr).add j) = some u := by
                intro j u hu
                show (W.alloc _).cell? _ = _
                rw [new_cell]
                exact hu
              have g1 : ∀ u ∈ atomC (atomT ⟨true, ⟨m, hm8⟩, ⟨q, hq4⟩⟩), u.oneCell' = true := by
                intro u hu
                simp only [atomC, List.mem_cons, List.not_mem_nil, or_false] at hu
                rcases hu with rfl | rfl | rfl | rfl <;> rfl
              go_region_law (first | (refine step_append_own rfl (.tmp 94) (.tmp 96) 29 rfl bc 27 i1 (.agg #[.int .i64 0, .int .i64 0, .int .i64 0, .int .i64 0]) 4 32 Tryd.underlying29 hj hy0 hy1 hy2 rfl (by decide) (.slice ua c.length uc) c.length (c.flatMap atomC) (by simp [Act.eval]) (own_on h6 (kW.alloc _).drew) ⟨W.heap.size, 0, none⟩ 1 1 (atomC (atomT ⟨true, ⟨m, hm8⟩, ⟨q, hq4⟩⟩)) (by simp [Act.eval]) rfl gn g1 s1.out s2.out (Nat.le_trans h5 (kW.alloc _).size) ?_; intro v' w5 hown5 hg5; obtain ⟨a5, m5, c5, rfl⟩ := own_slice hown5; obtain ⟨e1, e2, e3⟩ := own_last (own_far (own_on h2 (kW.alloc _).drew) (own_on h6 (kW.alloc _).drew) eo_ne.symm hg5) h1))
              all_goals
                go_wp2
                go_roundg (10 - (n + 1))
              all_goals (try omega)
              all_goals
                refine ⟨n + 1, _, D, c ++ [atomT ⟨true, ⟨m, hm8⟩, ⟨q, hq4⟩⟩], rfl, by go_num, rfl, by omega, by omega, ?_, by omega, by rw [List.length_append]; show c.length + 1 ≤ _; omega, hT.and hpn ⟨true, ⟨m, hm8⟩, ⟨q, hq4⟩⟩ ?_, Wt.put h1 (own_on h2 (kW.alloc _).drew) (fun i u' L a b => ⟨own_on (h3 i u' L a b).1 (kW.alloc _).drew, (h3 i u' L a b).2⟩) h4 (Nat.le_trans h5 (kW.alloc _).size) (own_on h6 (kW.alloc _).drew) hg5 hown5, ((HON.out.trans (kW.alloc _).drew).grown hg5 (fun g e => Nat.le_trans h4 (own_block h6 e).1)).setNew hbo _⟩
                · obtain ⟨zS, zD, zR, zN⟩ := Z.out
                  rw [ByteArray.size_append, ByteArray.size_append, ByteArray.size_append, ByteArray.size_append, ByteArray.size_append, ByteArray.size_append, zS, zD, zR]
                  show S.size + 2 + 1 + 1 + 4 + 1 + 3 + XN.size ≤ _
                  omega
                · rw [HS0.out]
                  rw [list_append, list_append, list_append, list_append, list_append, list_append, list_append, lD, lR, lN]
                  simp [itemB, sgnB, atomB, regT, digB]
            | false =>
              clear hon
              go_wp2_with (go_at_call 6; refine (hTd _).mono ?_; rintro e w2 ⟨rfl, rfl⟩)
              obtain ⟨W, hWW⟩ : ∃ W, W = wr.alloc (.cells #[.int .i64 (-1), .int .i64 0, .int .i64 120, .int .i64 (m : Int)] 27) := ⟨_, rfl⟩
              have kW : On wr W := by rw [hWW]; exact (On.refl wr).alloc _
              have kB : Bk W wr.heap.size #[.int .i64 (-1), .int .i64 0, .int .i64 120, .int .i64 (m : Int)] := by rw [hWW]; exact Bk.new _ _ _
              rw [← hWW]
              clear hWW
              have w0 : W.cell? ⟨go, D.length, none⟩ = some (.slice ua c.length uc) := (kW.cell (p := ⟨go, D.length, none⟩) hgl).trans v0
              have wl : go < W.heap.size := Nat.lt_of_lt_of_le hgl kW.size
              have b0 : W.cell? ⟨wr.heap.size, 0, none⟩ = some (.int .i64 (-1)) := kB.at rfl
              have b1 : W.cell? ⟨wr.heap.size, 1, none⟩ = some (.int .i64 0) := kB.at rfl
              have b2 : W.cell? ⟨wr.heap.size, 2, none⟩ = some (.int .i64 120) := kB.at rfl
              have b3 : W.cell? ⟨wr.heap.size, 3, none⟩ = some (.int .i64 (m : Int)) := kB.at rfl
              have bl : wr.heap.size < W.heap.size := kB.lt
              have wl' : go < W.heap.size + 1 := Nat.lt_succ_of_lt wl
              have gn : ∀ (j : Nat) (u : Value), (atomC (atomT ⟨false, ⟨m, hm8⟩, ⟨q, hq4⟩⟩))[j]? = some u → ((W.alloc (.cells #[.int .i64 (-1), .int .i64 0, .int .i64 120, .int .i64 (m : Int)] 27)).drew).cell? ((⟨W.heap.size, 0, none⟩ : Addr).add j) = some u := by
                intro j u hu
                show (W.alloc _).cell? _ = _
                rw [new_cell]
                exact hu
              have g1 : ∀ u ∈ atomC (atomT ⟨false, ⟨m, hm8⟩, ⟨q, hq4⟩⟩), u.oneCell' = true := by
                intro u hu
                simp only [atomC, List.mem_cons, List.not_mem_nil, or_false] at hu
                rcases hu with rfl | rfl | rfl | rfl <;> rfl
              go_region_law (first | (refine step_append_own rfl (.tmp 94) (.tmp 96) 29 rfl bc 27 i1 (.agg #[.int .i64 0, .int .i64 0, .int .i64 0, .int .i64 0]) 4 32 Tryd.underlying29 hj hy0 hy1 hy2 rfl (by decide) (.slice ua c.length uc) c.length (c.flatMap atomC) (by simp [Act.eval]) (own_on h6 (kW.alloc _).drew) ⟨W.heap.size, 0, none⟩ 1 1 (atomC (atomT ⟨false, ⟨m, hm8⟩, ⟨q, hq4⟩⟩)) (by simp [Act.eval]) rfl gn g1 s1.out s2.out (Nat.le_trans h5 (kW.alloc _).size) ?_; intro v' w5 hown5 hg5; obtain ⟨a5, m5, c5, rfl⟩ := own_slice hown5; obtain ⟨e1, e2, e3⟩ := own_last (own_far (own_on h2 (kW.alloc _).drew) (own_on h6 (kW.alloc _).drew) eo_ne.symm hg5) h1))
              all_goals
                go_wp2
                go_roundg (10 - (n + 1))
              all_goals (try omega)
              all_goals
                refine ⟨n + 1, _, D, c ++ [atomT ⟨false, ⟨m, hm8⟩, ⟨q, hq4⟩⟩], rfl, by go_num, rfl, by omega, by omega, ?_, by omega, by rw [List.length_append]; show c.length + 1 ≤ _; omega, hT.and hpn ⟨false, ⟨m, hm8⟩, ⟨q, hq4⟩⟩ ?_, Wt.put h1 (own_on h2 (kW.alloc _).drew) (fun i u' L a b => ⟨own_on (h3 i u' L a b).1 (kW.alloc _).drew, (h3 i u' L a b).2⟩) h4 (Nat.le_trans h5 (kW.alloc _).size) (own_on h6 (kW.alloc _).drew) hg5 hown5, ((HON.out.trans (kW.alloc _).drew).grown hg5 (fun g e => Nat.le_trans h4 (own_block h6 e).1)).setNew hbo _⟩
                · rw [ByteArray.size_append, ByteArray.size_append, ByteArray.size_append, zD]
                  show S.size + 2 + 5 + 1 ≤ _
                  omega
                · rw [list_append, list_append, list_append, lD]
                  simp [itemB, sgnB, atomB, regT, digB]
      · have hn0 : 0 < n := by omega
        have hP := fun W (h : Lw W) => parseGo_is (S ++ ⟨#[32, 59, 32, 125]⟩) (by have := size_list (S ++ ⟨#[32, 59, 32, 125]⟩); rw [list_append, List.length_append, ← size_list S] at this; have e2 : (⟨#[32, 59, 32, 125]⟩ : ByteArray).data.toList.length = 4 := rfl; omega) W h
        rw [hT.parse hn0 (by omega)] at hP
        have hS' : S.size ≤ 3000 := by omega
        have HT : Hid (Wt wr w.heap.size (.slice av mv cv) D c) := hW
        have HO : Hid (On w wr) := hon
        have hlw : ∀ w', On w w' → Lw w' := fun w' k => hw.on k
        clear hT hW hon hcell hw hS
        have hor : len ≤ n ∨ (n < len ∧ 10 ≤ n) := by omega
        rcases hor with hge | ⟨hlt, hge⟩
        all_goals
          go_wp2_with fail
          refine (hP _ hLw).mono ?_
          rintro e w1 ⟨v, rfl, ⟨a1, m1, c1, a2, m2, c2, a3, m3, c3, rfl, _, _, o3⟩, k1⟩
          have HO1 : Hid (On w w1) := HO.out.trans k1
          have HW1 : Hid (Wt w1 w.heap.size (.slice av mv cv) D c) := HT.out.on k1
          have HA1 : Hid (AnyAt w1 wr.heap.size (.slice a3 m3 c3) (D ++ [c])) := o3
          clear k1 o3 hP HO HT
          go_wp2_with fail
          refine (sameCond_is _ 2 (D ++ [c]) a3 av m3 mv c3 cv _ _ (HA1.out.on (((On.refl _).alloc _).alloc _)) (HW1.out.any.on (((On.refl _).alloc _).alloc _))).mono ?_
          rintro e w2 ⟨rfl, k2⟩
          have HO2 : Hid (On w w2) := ((HO1.out.alloc _).alloc _).trans k2
          clear k2
          go_wp2_with fail
          refine (awake_any _ (hlw _ HO2.out)).mono ?_
          rintro e w3 ⟨rfl, k3⟩
          have HO3 : Hid (On w w3) := HO2.out.trans k3
          clear k3
          go_wp2
        all_goals (try go_ret)
        all_goals exact ⟨rfl, HO3.out⟩












theorem cInt : Tryd.prog.cellsOf 3 = 1 := by kernel_rfl
theorem bInt : Tryd.prog.bytesOf 3 = 8 := by kernel_rfl
theorem laidOutT : laidOutB Tryd.prog = true := by kernel_rfl
set_option maxRecDepth 100000 in
theorem parseConds_lifted (os : Os) (started : os.Started) (H : Type) (enc : TypeId × Value → H) :
    ReturnsInHanded {} Tryd.checked os 3 .any (fun w args => (Rows.parseCondsSpec.pre enc Tryd.prog Tryd.f3 [] false w args ∧ laidMetH Tryd.prog laidL w) ∧ sizedMet enc Tryd.prog Tryd.f3 (OpenSpec.ofChange Rows.parseCondsSpec) false w args)
      (Rows.parseCondsSpec.post enc Tryd.prog Tryd.f3 false true false false) := by
  refine returnsInHanded_of_change_and (C := Tryd.checked) (X := fun w _ => laidMetH Tryd.prog laidL w) (fun _ _ _ hh h => h.of_heap hh) own started (by kernel_rfl) Tryd.func3
    (ChangeSpec.witness_shaped (enc := enc) (C := Tryd.checked) (os := os) (X := fun w _ => laidMetH Tryd.prog laidL w) false (World.doorLaid Tryd.prog 400 os) #[.slice none 0 0] 8 rfl (World.shaped_of_RefB (by kernel_rfl) (by kernel_rfl)) (by kernel_rfl) (by kernel_rfl) (by kernel_rfl) (door_met os _)) ?_
  intro W base args ds gs before hval0 hW _ hsz hL _
  have hval : ∀ (j : Nat) t v, Tryd.f3.params[j]? = some t → args[j]? = some v → Value.okWide Tryd.prog W .any base t v := hval0
  have hW' := hW
  obtain ⟨p, q, hA0, hV, rfl, hfz, hnd⟩ := hW
  have hA : DataW.TrodAll enc Tryd.prog W 0 (fun _ => true) true Tryd.f3.params.toList args.toList ds p := hA0
  rw [Tryd.params3] at hA hval hsz
  obtain ⟨v0, d0, rfl, rfl, h0⟩ := trodAll_one hA
  obtain ⟨rfl, rfl⟩ := trodVars_none hV
  obtain ⟨a0, len, cap, rfl⟩ := okWide_slice Tryd.underlying22 (hval 0 22 v0 rfl rfl)
  have h0k := h0
  obtain ⟨fuel, hf⟩ := h0
  clear hA0 hval0
  simp only [List.append_nil] at hW'
  have hlt : ∀ x ∈ p, x.block < W.heap.size := fun x hx => by simpa using hW'.lt x hx
  have hargs : ∀ (W' : World), Below W.heap.size W W' → DataW.Trod enc Tryd.prog W' 0 (fun b => decide (b < W.heap.size)) true 22 (.slice a0 len cap) d0 p :=
    fun W' hn => Below.trod laidOutT (by kernel_rfl) (of_decide_eq_true (by kernel_rfl)) h0k hn hlt
  obtain ⟨b, off, zs, hr, hc⟩ : ∃ (b off : Nat) (zs : List Int), len * 8 ≤ 140737488351232 ∧ (0 < len → a0 = some ⟨b, off, none⟩ ∧ b < W.heap.size ∧ ∀ j, j < len → W.cell? ⟨b, off + j, none⟩ = some (.int .i64 (zs.getD j 0))) := by
    rcases open_ints Tryd.underlying22 Tryd.underlying3 cInt hf with ⟨hcs, hx⟩ | ⟨a, len', cap', zs, hcs, _, hl, hm, hz, hx, hcell, hwz⟩
    · simp [Value.cells] at hcs
      obtain ⟨rfl, rfl, rfl⟩ := hcs
      exact ⟨0, 0, [], by decide, fun h => absurd h (Nat.lt_irrefl 0)⟩
    · simp [Value.cells] at hcs
      obtain ⟨rfl, rfl, rfl⟩ := hcs
      simp only [Prod.mk.injEq] at hx
      obtain ⟨rfl, rfl⟩ := hx
      simp only [if_true] at hz
      have hreach : len * 8 ≤ 140737488351232 := by
        have := sized_slice hsz (j := 0) (t := 22) (e := 3) rfl rfl Tryd.underlying22
        rw [show Tryd.checked.prog.bytesOf 3 = 8 from bInt] at this
        simp only [lits, List.length_map, List.length_take, List.length_drop, reachBytes] at this
        omega
      obtain ⟨b, off, spot⟩ := a
      refine ⟨b, off, zs, hreach, fun h => ?_⟩
      have hspot : spot = none := by simpa [Addr.add] using World.cell?_spot (hcell 0 (by omega))
      subst hspot
      exact ⟨rfl, hlt (.cell b off) (MemPlace.mem_row.2 ⟨0, by omega, by simp⟩), fun j hj => by rw [← add_plain]; exact hcell j (by omega)⟩
  refine (parseConds_walk a0 len cap b off zs W hr hc (of_laid hL)).mono fun e W' ⟨he, hw⟩ => ?_
  subst he
  refine ⟨_, rfl, _, _, _, [], p, [], hW', ?_, ?_, rfl, Below.frame hw _, fun h => by cases h⟩
  · exact trodAll_mk1 (shut_bool Tryd.underlying4 _)
  · exact trodAll_mk1 (hargs _ hw)

theorem parseConds_said : Rows.ParseCondsSaid :=
  OpenClaim.holds_of_wide 3 Tryd.f3 rfl rfl rfl rfl rfl rfl rfl ⟨rfl, rfl, rfl, rfl, rfl⟩ rfl rfl rfl rfl rfl (by kernel_rfl) Tryd.func3 (by kernel_rfl)
    (of_decide_eq_true (by kernel_rfl)) (by unfold Func.isWrapper; first | (rw [if_pos (by decide +kernel)]; kernel_rfl) | (rw [if_neg (by decide +kernel)]; exact ⟨rfl, rfl⟩))
    (fun os started H enc _ => parseConds_lifted os started H enc)

theorem parseConds_card : Rows.ParseCondsCardSaid :=
  Claim7.holds_tied_plain_at .later [] [.data, .data, .data, .sentinel, .sentinel, .data] true (true, "06901e403e1f2d56ba4afc917fd5db197e99e5f77a9f1f0e7260d8d9775bd5cf") true
    parseConds_said (fun _ h => by cases h) (by kernel_rfl) (fun _ h => by cases h) parseConds_row_tie rfl ⟨rfl, rfl⟩ (by kernel_rfl) rfl
    (fun f fn hf hfn => by
      obtain rfl : f = 3 := Option.some.inj ((show Tryd.prog.funcNamed "jacquard/jacquardlaw3.ParseConds" = some 3 by kernel_rfl).symm.trans hf) |>.symm
      obtain rfl : fn = Tryd.f3 := (Option.some.inj (Tryd.func3.symm.trans hfn)).symm
      exact ⟨by kernel_rfl, fun j t ht => by
        rw [Tryd.params3] at ht
        have hm : t ∈ [22] := by simpa using Array.mem_of_getElem? ht
        have hall : ([22].all fun u => !Tryd.prog.wantsStandIn u) = true := by kernel_rfl
        exact (show Tryd.prog.wantsStandIn t = false by simpa using List.all_eq_true.1 hall t hm)⟩)
    (by kernel_rfl)
#print axioms parseConds_card

end Go.Proofs.YtoaepdjjjcaafaaDoor
