/- Small for every list of numbers. -/
import Derived.Test.YtplihlmejnohnaaGreatDoorJ18StepH
import Derived.Deep.DeepCutAuto
import Derived.Laws.ResultCell
import Derived.Test.YtplihlmejnohnaaGreatDoorJ22CompOk
import Derived.Test.YtplihlmejnohnaaGreatDoorJ25AgA
import Derived.Test.YtplihlmejnohnaaGreatDoorJ17SmallB
import Derived.Test.YtplihlmejnohnaaGreatDoorStepI
import Derived.Test.YtplihlmejnohnaaGreatDoorJ24RVal
import Derived.Test.YtplihlmejnohnaaGreatDoorJ20BegW
import Derived.Test.YtplihlmejnohnaaGreatDoorJ28LocB
import Derived.Test.YtplihlmejnohnaaGreatDoorJ26AgT
import Derived.Test.YtplihlmejnohnaaGreatDoorJ29VmP
namespace Go.Proofs.YtplihlmejnohnaaGreatDoor
open Go.RowKit

theorem arm_0 {locs x m1 m5 : Nat} {ro vo : Int} (hm1 : Hid (m1 = x / 16 % locs)) (hm5 : Hid (m5 = x / 2048 % 2)) (h6 : Hid (x % 12 = 0)) (hro : Hid (opdOf x = ⟨ro, vo⟩)) : insOf locs x = [(⟨1, 0, (120 + (m1 : Int)), ⟨(ro), (vo)⟩, 0, ⟨0, 0⟩, 0⟩ : InsT)] := by
  have e1 := hm1.out
  have e5 := hm5.out
  have e6 := h6.out
  have eo := hro.out
  unfold insOf locOf regOf
  rw [← e1, ← e5, eo, e6]
  simp
theorem arm_1 {locs x m1 m5 : Nat} {ro vo : Int} (hm1 : Hid (m1 = x / 16 % locs)) (hm5 : Hid (m5 = x / 2048 % 2)) (h6 : Hid (x % 12 = 1)) (hro : Hid (opdOf x = ⟨ro, vo⟩)) : insOf locs x = [(⟨1, 0, (120 + (m1 : Int)), ⟨(ro), (vo)⟩, 0, ⟨0, 0⟩, 0⟩ : InsT)] := by
  have e1 := hm1.out
  have e5 := hm5.out
  have e6 := h6.out
  have eo := hro.out
  unfold insOf locOf regOf
  rw [← e1, ← e5, eo, e6]
  simp
theorem arm_2 {locs x m1 m5 : Nat} {ro vo : Int} (hm1 : Hid (m1 = x / 16 % locs)) (hm5 : Hid (m5 = x / 2048 % 2)) (h6 : Hid (x % 12 = 2)) (hro : Hid (opdOf x = ⟨ro, vo⟩)) : insOf locs x = [(⟨1, 0, (120 + (m1 : Int)), ⟨(ro), (vo)⟩, 0, ⟨0, 0⟩, 0⟩ : InsT)] := by
  have e1 := hm1.out
  have e5 := hm5.out
  have e6 := h6.out
  have eo := hro.out
  unfold insOf locOf regOf
  rw [← e1, ← e5, eo, e6]
  simp
theorem arm_3 {locs x m1 m5 : Nat} {ro vo : Int} (hm1 : Hid (m1 = x / 16 % locs)) (hm5 : Hid (m5 = x / 2048 % 2)) (h6 : Hid (x % 12 = 3)) (hro : Hid (opdOf x = ⟨ro, vo⟩)) : insOf locs x = [(⟨1, 0, (120 + (m1 : Int)), ⟨(ro), (vo)⟩, 0, ⟨0, 0⟩, 0⟩ : InsT)] := by
  have e1 := hm1.out
  have e5 := hm5.out
  have e6 := h6.out
  have eo := hro.out
  unfold insOf locOf regOf
  rw [← e1, ← e5, eo, e6]
  simp
theorem arm_4 {locs x m1 m5 : Nat} {ro vo : Int} (hm1 : Hid (m1 = x / 16 % locs)) (hm5 : Hid (m5 = x / 2048 % 2)) (h6 : Hid (x % 12 = 4)) (hro : Hid (opdOf x = ⟨ro, vo⟩)) : insOf locs x = [(⟨2, (m5 : Int), (120 + (m1 : Int)), ⟨0, 0⟩, 0, ⟨0, 0⟩, 0⟩ : InsT)] := by
  have e1 := hm1.out
  have e5 := hm5.out
  have e6 := h6.out
  have eo := hro.out
  unfold insOf locOf regOf
  rw [← e1, ← e5, eo, e6]
  simp
theorem arm_5 {locs x m1 m5 : Nat} {ro vo : Int} (hm1 : Hid (m1 = x / 16 % locs)) (hm5 : Hid (m5 = x / 2048 % 2)) (h6 : Hid (x % 12 = 5)) (hro : Hid (opdOf x = ⟨ro, vo⟩)) : insOf locs x = [(⟨2, (m5 : Int), (120 + (m1 : Int)), ⟨0, 0⟩, 0, ⟨0, 0⟩, 0⟩ : InsT)] := by
  have e1 := hm1.out
  have e5 := hm5.out
  have e6 := h6.out
  have eo := hro.out
  unfold insOf locOf regOf
  rw [← e1, ← e5, eo, e6]
  simp
theorem arm_6 {locs x m1 m5 : Nat} {ro vo : Int} (hm1 : Hid (m1 = x / 16 % locs)) (hm5 : Hid (m5 = x / 2048 % 2)) (h6 : Hid (x % 12 = 6)) (hro : Hid (opdOf x = ⟨ro, vo⟩)) : insOf locs x = [(⟨2, (m5 : Int), (120 + (m1 : Int)), ⟨0, 0⟩, 0, ⟨0, 0⟩, 0⟩ : InsT)] := by
  have e1 := hm1.out
  have e5 := hm5.out
  have e6 := h6.out
  have eo := hro.out
  unfold insOf locOf regOf
  rw [← e1, ← e5, eo, e6]
  simp
theorem arm_7 {locs x m1 m5 : Nat} {ro vo : Int} (hm1 : Hid (m1 = x / 16 % locs)) (hm5 : Hid (m5 = x / 2048 % 2)) (h6 : Hid (x % 12 = 7)) (hro : Hid (opdOf x = ⟨ro, vo⟩)) : insOf locs x = [(⟨2, (m5 : Int), (120 + (m1 : Int)), ⟨0, 0⟩, 0, ⟨0, 0⟩, 0⟩ : InsT)] := by
  have e1 := hm1.out
  have e5 := hm5.out
  have e6 := h6.out
  have eo := hro.out
  unfold insOf locOf regOf
  rw [← e1, ← e5, eo, e6]
  simp
theorem arm_8 {locs x m1 m5 : Nat} {ro vo : Int} (hm1 : Hid (m1 = x / 16 % locs)) (hm5 : Hid (m5 = x / 2048 % 2)) (h6 : Hid (x % 12 = 8)) (hro : Hid (opdOf x = ⟨ro, vo⟩)) : insOf locs x = [(⟨3, 0, 0, ⟨0, 0⟩, 0, ⟨0, 0⟩, 0⟩ : InsT)] := by
  have e1 := hm1.out
  have e5 := hm5.out
  have e6 := h6.out
  have eo := hro.out
  unfold insOf locOf regOf
  rw [← e1, ← e5, eo, e6]
  simp
theorem arm_9 {locs x m1 m5 : Nat} {ro vo : Int} (hm1 : Hid (m1 = x / 16 % locs)) (hm5 : Hid (m5 = x / 2048 % 2)) (h6 : Hid (x % 12 = 9)) (hro : Hid (opdOf x = ⟨ro, vo⟩)) : insOf locs x = [(⟨4, (m5 : Int), (120 + (m1 : Int)), ⟨(ro), (vo)⟩, 0, ⟨-1, 1⟩, 0⟩ : InsT)] := by
  have e1 := hm1.out
  have e5 := hm5.out
  have e6 := h6.out
  have eo := hro.out
  unfold insOf locOf regOf
  rw [← e1, ← e5, eo, e6]
  simp
theorem arm_10 {locs x m1 m5 : Nat} {ro vo : Int} (hm1 : Hid (m1 = x / 16 % locs)) (hm5 : Hid (m5 = x / 2048 % 2)) (h6 : Hid (x % 12 = 10)) (hro : Hid (opdOf x = ⟨ro, vo⟩)) : insOf locs x = [(⟨5, (m5 : Int), 0, ⟨(ro), (vo)⟩, 6, ⟨-1, 1⟩, 0⟩ : InsT)] := by
  have e1 := hm1.out
  have e5 := hm5.out
  have e6 := h6.out
  have eo := hro.out
  unfold insOf locOf regOf
  rw [← e1, ← e5, eo, e6]
  simp
theorem arm_11 {locs x m1 m5 : Nat} {ro vo : Int} (hm1 : Hid (m1 = x / 16 % locs)) (hm5 : Hid (m5 = x / 2048 % 2)) (h6 : Hid (x % 12 = 11)) (hro : Hid (opdOf x = ⟨ro, vo⟩)) : insOf locs x = [(⟨6, 0, 0, ⟨(ro), (vo)⟩, 0, ⟨-1, 0⟩, 1⟩ : InsT), (⟨1, 0, (120 + (m1 : Int)), ⟨-1, 2⟩, 0, ⟨0, 0⟩, 0⟩ : InsT)] := by
  have e1 := hm1.out
  have e5 := hm5.out
  have e6 := h6.out
  have eo := hro.out
  unfold insOf locOf regOf
  rw [← e1, ← e5, eo, e6]
  simp
set_option maxHeartbeats 16000000 in
set_option maxRecDepth 8000 in
theorem small_is (zs : List Int) (a : Option Addr) (cap most : Nat) (w : World) (hz : zs.length ≤ 9223372036854775807) (hr : Rd intC 1 w (.slice a zs.length cap) zs) :
    Calls Tryz.prog 30 #[.slice a zs.length cap, .int .i64 (most : Int)] w fun e w' => ∃ v, e = .returned v ∧ TOwn w' w.heap.size v (smallP zs most) ∧ On w w' := by
  obtain ⟨i0, hi, hz0, hz1, hz2⟩ := info_parts infoInit
  have HS := sx_start w zs a cap 22 68 68 3
  have b0 := nxtV_lt zs 0
  have b1 := nxtV_lt zs 1
  have b2 := nxtV_lt zs 2
  have b3 := nxtV_lt zs 3
  obtain ⟨n, hn, qn⟩ : ∃ n : Nat, Hid (n = nxtV zs 0 % 2 + 2) ∧ (nxtV zs 0 : Int) % 2 + 2 = (n : Int) := ⟨_, rfl, by omega⟩
  obtain ⟨locs, hl, ql⟩ : ∃ n : Nat, Hid (n = nxtV zs 1 % 2 + 2) ∧ (nxtV zs 1 : Int) % 2 + 2 = (n : Int) := ⟨_, rfl, by omega⟩
  go_enter Tryz.func30, Tryz.ntmps30
  go_wp2_with fail
  refine (HS.next (by decide) hz hr).mono ?_
  rintro e w1 ⟨rfl, h1, k1⟩
  go_wp2_with fail
  refine (h1.next (by decide) hz hr).mono ?_
  rintro e w2 ⟨rfl, h2, k2⟩
  go_wp2_with fail
  refine (h2.next (by decide) hz hr).mono ?_
  rintro e w3 ⟨rfl, h3, k3⟩
  clear HS h1 h2 k1 k2 k3
  obtain ⟨bq, hbq, qb⟩ : ∃ bq : Bool, Hid (bq = decide (nxtV zs 2 % 4 = 0)) ∧ ((nxtV zs 2 : Int) % 4 == 0) = bq := ⟨_, rfl, by rw [Bool.eq_iff_iff]; simp; omega⟩
  go_upto_if 32 with fail
  go_cut [8, 9] (fun u8 u9 wc => ∃ c1, u8 = .int .i64 (n : Int) ∧ u9 = .int .i64 (locs : Int) ∧ Sx w zs a cap c1 (.slice none 0 0) (iniTo zs) wc ∧ iniO wc (w.heap.size + 1 + 1 + 1 + 1) c1 (iniOf zs))
  case first =>
    cases bq with
    | true =>
      have hq : nxtV zs 2 % 4 = 0 := of_decide_eq_true hbq.out.symm
      have qv : (nxtV zs 3 : Int) % 3 = ((nxtV zs 3 % 3 : Nat) : Int) := by omega
      obtain ⟨V, hV⟩ : ∃ V : Nat, V = nxtV zs 3 % 3 := ⟨_, rfl⟩
      rw [← hV] at qv
      have qt : ((nxtV zs 3 : Nat) : Int).tmod 3 = (V : Int) := by rw [Int.tmod_eq_emod_of_nonneg (Int.natCast_nonneg _)]; exact qv
      have HV : Hid (V = nxtV zs 3 % 3) := hV
      clear hV
      have y3 := h3.bt.at (i := 1) rfl
      have z3 := h3.bt.lt
      have hN : Hid (w.heap.size + 1 + 1 + 1 < w.heap.size + 1 + 1 + 1 + 1) := Nat.lt_succ_self _
      have hC : Hid ((2 : Int) + 1 ≤ 999) := by show _ ≤ _; decide
      have HB : ∀ W : World, Sx w zs a cap (.slice none 0 0) (.slice none 0 0) (0 + 1 + 1 + 1 + 1) W → w.heap.size + 1 + 1 + 1 + 1 ≤ W.heap.size := fun W h => h.size
      go_wp2
      go_region_law (first | (refine step_append_own rfl (.tmp 34) (.tmp 39) 63 rfl (w.heap.size + 1 + 1 + 1 + 1) 116 i0 (.agg #[.int .i64 0, .int .i64 0]) 2 16 Tryz.underlying63 hi hz0 hz1 hz2 rfl (by decide) (.slice none 0 0) 0 [] (by simp [Act.eval]) (World.ownsRow_nil _ _ _ _) ⟨w4.heap.size, 0, none⟩ 1 1 (iniC ⟨120, V⟩) (by simp [Act.eval]) rfl (news_at w4 #[.int .i64 120, .int .i64 V] 116) (one_ini 120 V) one_max one_bytes (base_alloc (HB w4 h4) _) ?_; intro v' w5 hown5 hg5; obtain ⟨a5, c5, rfl⟩ := own_slice hown5; have h5 := Sx.grown (Sx.alloc h4 (.cells #[.int .i64 120, .int .i64 V] 116)) hg5 hN.out none_own; have q5 := Bk.at (i := 1) h5.bt rfl; have f5 := Bk.fr h5.bt 1; have l5 := Bk.lt h5.bt) | (go_simp; refine ((Sx.drew h3).next (by decide) hz hr).mono ?_; rintro e w4 ⟨rfl, h4, k4⟩; have q4 := Bk.at (i := 1) h4.bt rfl; have l4 := Bk.lt h4.bt))
      all_goals (try go_wp2)
      all_goals go_meet
      all_goals
        refine ⟨.slice a5 1 c5, rfl, rfl, ?_, ?_⟩
        · unfold iniTo; rw [if_pos hq]; exact h5.put1 _
        · unfold iniOf; rw [if_pos hq, ← HV.out]; exact own_set (by simpa using hown5) (by omega) _ _
    | false =>
      have hq : ¬ nxtV zs 2 % 4 = 0 := of_decide_eq_false hbq.out.symm
      go_wp2
      go_meet
      case rel =>
        refine ⟨.slice none 0 0, rfl, rfl, ?_, ?_⟩
        · unfold iniTo; rw [if_neg hq]; exact h3
        · unfold iniOf; rw [if_neg hq]; exact World.ownsRow_nil _ _ _ _
  case rest =>
    clear h3 qb hbq b0 b1 b2 b3 hi hz0 hz1 hz2 qn ql
    obtain ⟨c1, rfl, rfl, hS, hI⟩ := hcut
    obtain ⟨i1, j1, y0, y1, y2⟩ := info_parts infoIns
    have hn3 : 2 ≤ n ∧ n ≤ 3 := by have := hn.out; omega
    have hl3 : 2 ≤ locs ∧ locs ≤ 3 := by have := hl.out; omega
    have hS4 : iniTo zs ≤ 4 := by unfold iniTo; split <;> omega
    have HT : Hid (([] ++ (thrFrom zs most locs (n - 0) (iniTo zs) 0).1, (thrFrom zs most locs (n - 0) (iniTo zs) 0).2) = thrOf zs most) := by
      show _ = _
      unfold thrOf
      rw [← hn.out, ← hl.out]; simp
    go_wp2
    go_loopg [10, 11] n (fun gg u10 u11 wr => ∃ (i mem at' : Nat) (c2 : Value) (TL : List (List InsT)), i ≤ n ∧ gg = n - i ∧ u11 = .int .i64 (i : Int) ∧ u10 = .int .i64 (mem : Int) ∧ mem ≤ 3 * i ∧ at' ≤ 4 + 4 * i ∧ TL.length = i ∧ Sx w zs a cap c1 c2 at' wr ∧ iniO wr (w.heap.size + 1 + 1 + 1 + 1) c1 (iniOf zs) ∧ thrO wr (w.heap.size + 1 + 1 + 1 + 1) c2 TL ∧ Hid ((TL ++ (thrFrom zs most locs (n - i) at' mem).1, (thrFrom zs most locs (n - i) at' mem).2) = thrOf zs most))
    case atStart => exact ⟨0, 0, iniTo zs, .slice none 0 0, [], Nat.zero_le _, rfl, rfl, rfl, Nat.le_refl _, by omega, rfl, hS, hI, Own2.nil _ _ _ _ _ _, HT⟩
    case round =>
      clear HT hS hI
      obtain ⟨i, mem, at', c2, TL, hin, hg, rfl, rfl, hmem, hat, hTL, hS, hI, hT, HT⟩ := hrel
      have HTL : Hid (TL.length = i) := hTL
      clear hTL
      rcases Nat.lt_or_ge i n with hlt | hge
      · go_wp2_with fail
        refine (hS.next (by omega) hz hr).mono ?_
        rintro e W1 ⟨rfl, h1, k1⟩
        have hI1 := own_wa hI k1 (Nat.lt_succ_self _)
        have hT1 := hT.wa k1 (Nat.lt_succ_self _)
        have b1 := nxtV_lt zs at'
        obtain ⟨k0, HK, qk⟩ : ∃ k : Nat, Hid (k = nxtV zs at' % 3 + 1) ∧ (nxtV zs at' : Int) % 3 + 1 = (k : Int) := ⟨_, rfl, by omega⟩
        have hk03 : k0 ≤ 3 := by have := HK.out; omega
        have hW1 := h1.size
        have HR0 : Hid (([] ++ (rowFrom zs most locs k0 (at' + 1) mem).1, (rowFrom zs most locs k0 (at' + 1) mem).2) = rowFrom zs most locs k0 (at' + 1) mem) := by show _ = _; simp
        clear hS hI hT k1
        go_wp2
        go_loopg [10, 12, 13] k0 (fun gg u10 u12 u13 wq => ∃ (k mem' at'' : Nat) (L : List InsT), gg = k ∧ u13 = .int .i64 (k : Int) ∧ u10 = .int .i64 (mem' : Int) ∧ k ≤ k0 ∧ mem' + k ≤ mem + k0 ∧ at'' + k = at' + 1 + k0 ∧ Sx w zs a cap c1 c2 at'' wq ∧ Wa (w.heap.size + 1 + 1 + 1) W1 wq ∧ wq.ownsRow W1.heap.size 107 9 u12 L.length (L.flatMap insC) ∧ L.length + 2 * k ≤ 6 ∧ Hid ((L ++ (rowFrom zs most locs k at'' mem').1, (rowFrom zs most locs k at'' mem').2) = rowFrom zs most locs k0 (at' + 1) mem))
        case atStart => exact ⟨k0, mem, at' + 1, [], rfl, rfl, rfl, Nat.le_refl _, Nat.le_refl _, rfl, h1, Wa.refl _ _, World.ownsRow_nil _ _ _ _, by simp; omega, HR0⟩
        case round =>
          clear HR0 h1 qk b1
          obtain ⟨k', mem', at'', L, hgk, rfl, rfl, hkk, hmm, haa, hS, HW, hown, hL6, HR⟩ := hrel
          have hlt' : ∀ g, u12.ownBlock = some g → W1.heap.size ≤ g := fun g hg => (hown.lt g hg).1
          by_cases hend : k' = 0 ∨ ¬ mem' < most
          · have HE : Hid (rowFrom zs most locs k' at'' mem' = ([], at'', mem')) := by
              show _ = _
              rcases hend with rfl | h
              · rfl
              · cases k' with
                | zero => rfl
                | succ k => rw [rowFrom, if_neg h]
            have HR1 : Hid (rowFrom zs most locs k0 (at' + 1) mem = (L, at'', mem')) := by
              show _ = _
              rw [← HR.out, HE.out]; simp
            have HT2 : Hid ((TL ++ [L] ++ (thrFrom zs most locs (n - (i + 1)) at'' mem').1, (thrFrom zs most locs (n - (i + 1)) at'' mem').2) = thrOf zs most) := by
              show _ = _
              rw [← HT.out, show n - i = (n - (i + 1)) + 1 by omega, thrFrom, ← HK.out, HR1.out]
              simp
            have hI4 := own_wa hI1 HW (Nat.lt_succ_self _)
            obtain ⟨vs, hvl, hov, hin⟩ := hT1.wa HW (Nat.lt_succ_self _)
            obtain ⟨a2, cc2, rfl⟩ := own_slice hov
            obtain ⟨a12, c12, rfl⟩ := own_slice hown
            have g2 := hS.bt.at (i := 2) rfl
            have l2 := hS.bt.lt
            have hsz4 := hS.size
            have hbase : ∀ g, (Value.slice a2 TL.length cc2).ownBlock = some g → w.heap.size + 1 + 1 + 1 + 1 ≤ g := fun g hg => (hov.lt g hg).1
            have HOW : Hid (wr.ownsRow (w.heap.size + 1 + 1 + 1 + 1) 107 9 (.slice a12 L.length c12) L.length (L.flatMap insC)) := own_mono hown hW1
            have HB0 : Hid (w.heap.size + 1 + 1 + 1 < w.heap.size + 1 + 1 + 1 + 1) := Nat.lt_succ_self _
            obtain ⟨i2, j2, u0, u1, u2⟩ := info_parts infoThr
            have s1 : Hid (TL.length + 1 ≤ maxLen) := by show _ ≤ _; have := HTL.out; unfold maxLen; omega
            have s2 : Hid ((TL.length + 1) * 24 ≤ 140737488355328) := by show _ ≤ _; have := HTL.out; omega
            have s3 : Hid (w.heap.size + 1 + 1 + 1 + 1 ≤ wr.heap.size) := hsz4
            clear HT HR HE HR1 HW hown hI1 hT1 hlt'
            rcases (show k' = 0 ∨ ((0 : Int) < (k' : Int) ∧ ¬ (mem' : Int) < (most : Int)) by omega) with rfl | ⟨hkp, hmp⟩
            all_goals
              clear hend
              go_wp2_with (at_builtin; refine wpList_append_own _ rfl _ _ 25 rfl (w.heap.size + 1 + 1 + 1 + 1) 117 i2 (.slice none 0 0) 1 24 Tryz.underlying25 j2 u0 u1 u2 rfl (by decide) _ _ _ rfl (hov.alloc _) ⟨wr.heap.size, 0, none⟩ 1 1 [.slice a12 L.length c12] rfl rfl (news_at wr #[.slice a12 L.length c12] 117) (one_slice _ _ _) s1.out s2.out (base_alloc s3.out _) ?_)
              intro v' w5 hown5 hg5 _
              obtain ⟨a5, c5, rfl⟩ := own_slice hown5
              have h5 := (hS.alloc (.cells #[.slice a12 L.length c12] 117)).grown hg5 HB0.out hbase
              have q5 := h5.bt.at (i := 2) rfl
              have f5 := h5.bt.fr 2
              have l5 := h5.bt.lt
              go_wp2
              go_roundg (n - (i + 1))
              case measure => omega
              case rel =>
                refine ⟨i + 1, mem', at'', _, TL ++ [L], by omega, rfl, by go_num, rfl, by omega, by omega, by rw [List.length_append, HTL.out]; rfl, h5.put2 _, ?_, ?_, HT2⟩
                · exact own_set (own_far (hI4.alloc _) (hov.alloc _) (by decide) hg5) (by omega) _ _
                · exact Own2.set (Own2.snoc hvl (hov.alloc _) (fun i u M a b => (hin i u M a b).alloc _) (by decide) hg5 (by simpa using hown5) (HOW.out.alloc _)) (by omega) _ _
          · obtain ⟨k, rfl⟩ : ∃ k, k' = k + 1 := ⟨k' - 1, by omega⟩
            have hm : mem' < most := by omega
            have hmi : (mem' : Int) < (most : Int) := by omega
            clear hend
            go_wp2_with fail
            refine (hS.next (by omega) hz hr).mono ?_
            rintro e w4 ⟨rfl, h4, k4⟩
            have hown4 := own_wa hown k4 hW1
            have HW4 : Hid (Wa (w.heap.size + 1 + 1 + 1) W1 w4) := HW.trans k4
            have hw4 : W1.heap.size ≤ w4.heap.size := HW4.out.size
            have HB0 : Hid (w.heap.size + 1 + 1 + 1 < W1.heap.size) := hW1
            have bx := nxtV_lt zs at''
            have HR1 : Hid (rowFrom zs most locs (k + 1) at'' mem' = (insOf locs (nxtV zs at'') ++ (rowFrom zs most locs k (at'' + 1) (mem' + memOf (nxtV zs at''))).1, (rowFrom zs most locs k (at'' + 1) (mem' + memOf (nxtV zs at''))).2)) := by show _ = _; rw [rowFrom, if_pos hm]
            generalize nxtV zs at'' = x at *
            have HR2 : Hid ((L ++ insOf locs x ++ (rowFrom zs most locs k (at'' + 1) (mem' + memOf x)).1, (rowFrom zs most locs k (at'' + 1) (mem' + memOf x)).2) = rowFrom zs most locs k0 (at' + 1) mem) := by
              show _ = _
              rw [← HR.out, HR1.out, List.append_assoc]
            obtain ⟨m1, hm1, q1⟩ : ∃ m : Nat, Hid (m = x / 16 % locs) ∧ (x : Int) / 16 % (locs : Int) = (m : Int) := ⟨_, rfl, by push_cast; rfl⟩
            obtain ⟨m2, hm2, q2⟩ : ∃ m : Nat, Hid (m = x / 64 % 3) ∧ (x : Int) / 64 % 3 = (m : Int) := ⟨_, rfl, by omega⟩
            obtain ⟨m4, hm4, q4⟩ : ∃ m : Nat, Hid (m = x / 1024 % 2) ∧ bits .and .i64 ((x : Int) / 1024) 1 = (m : Int) := ⟨_, rfl, by rw [i64_and1]; omega⟩
            obtain ⟨m5, hm5, q5⟩ : ∃ m : Nat, Hid (m = x / 2048 % 2) ∧ bits .and .i64 ((x : Int) / 2048) 1 = (m : Int) := ⟨_, rfl, by rw [i64_and1]; omega⟩
            have bm1 : m1 < 3 := by have := hm1.out; have : x / 16 % locs < locs := Nat.mod_lt _ (by omega); omega
            have bm2 : m2 < 3 := by have := hm2.out; omega
            obtain ⟨b3, q3n', q3⟩ : ∃ b : Bool, Hid (decide (x / 256 % 3 = 0) = b) ∧ ((x : Int) / 256 % 3 == 0) = b := ⟨_, rfl, by rw [Bool.eq_iff_iff]; simp; omega⟩
            obtain ⟨c, q6n', q6⟩ : ∃ c : Nat, Hid (x % 12 = c) ∧ (x : Int) % 12 = (c : Int) := ⟨_, rfl, by omega⟩
            have hc12 : c < 12 := by have := q6n'.out; omega
            clear HR HR1 hown hS HW k4
            obtain ⟨ro, vo, hro⟩ : ∃ ro vo : Int, Hid (opdOf x = ⟨ro, vo⟩) := ⟨(opdOf x).r, (opdOf x).v, rfl⟩
            go_upto_if 74 with fail
            go_cut [16] (fun u16 wc => u16 = .pointer (some ⟨w4.heap.size, 0, none⟩) ∧ wc = w4.alloc (.cells #[.int .i64 ro, .int .i64 vo] 105))
            case first =>
              have ho := hro.out
              unfold opdOf at ho
              cases b3 with
              | true =>
                rw [if_pos (of_decide_eq_true q3n'.out), ← hm4.out] at ho
                obtain ⟨rfl, rfl⟩ := Opd.mk.inj ho
                go_wp2
                go_meet
                case rel => exact ⟨rfl, rfl⟩
              | false =>
                rw [if_neg (of_decide_eq_false q3n'.out), ← hm2.out] at ho
                obtain ⟨rfl, rfl⟩ := Opd.mk.inj ho
                go_wp2
                go_meet
                case rel => exact ⟨rfl, rfl⟩
            case rest =>
            obtain ⟨rfl, rfl⟩ := hcut
            have hcc : c = 0 ∨ c = 1 ∨ c = 2 ∨ c = 3 ∨ c = 4 ∨ c = 5 ∨ c = 6 ∨ c = 7 ∨ c = 8 ∨ c = 9 ∨ c = 10 ∨ c = 11 := by omega
            clear hc12 q3 q3n' q2 q4 hm2 hm4 bm2 q1
            rcases hcc with rfl | rfl | rfl | rfl | rfl | rfl | rfl | rfl | rfl | rfl | rfl | rfl
            · -- arm 0
              have HI : Hid (insOf locs x = [(⟨1, 0, (120 + (m1 : Int)), ⟨(ro), (vo)⟩, 0, ⟨0, 0⟩, 0⟩ : InsT)]) := arm_0 hm1 hm5 q6n' hro
              have q6a : (x : Int) % 12 = 0 := q6
              have HM : Hid (memOf x = 1) := by show memOf x = 1; unfold memOf; rw [q6n'.out]; decide
              clear q6
              go_wp2_with (at_builtin; refine wpList_append_own _ rfl _ _ 117 rfl W1.heap.size 107 i1 zIns 9 72 Tryz.underlying117 j1 y0 y1 y2 rfl (by decide) _ _ _ rfl ((hown4.alloc _).alloc _) ⟨w4.heap.size + 1, 0, none⟩ 1 1 (insC (⟨1, 0, (120 + (m1 : Int)), ⟨(ro), (vo)⟩, 0, ⟨0, 0⟩, 0⟩ : InsT)) rfl rfl ?c1 ?c2 ?c3 ?c4 ?c5 ?_)
              case c1 => exact news_two w4 _ #[.int .i64 1, .int .i64 0, .int .i64 (120 + (m1 : Int)), .int .i64 (ro), .int .i64 (vo), .int .i64 0, .int .i64 0, .int .i64 0, .int .i64 0] 107
              case c2 => exact one_ins _
              case c3 => unfold maxLen; omega
              case c4 => omega
              case c5 => simp only [World.size_alloc]; omega
              intro v' w5 hown5 hg5 _
              go_wp2
              go_roundg k
              case measure => omega
              case rel =>
                refine ⟨k, mem' + memOf x, at'' + 1, L ++ insOf locs x, rfl, by go_num, by rw [HM.out]; go_num, by omega, by rw [HM.out]; omega, by omega, ((h4.alloc _).alloc _).grown hg5 HB0.out hlt', ((HW4.out.alloc _).alloc _).grown hg5 hlt', ?_, ?_, ?_⟩
                · rw [HI.out]; simpa using hown5
                · rw [HI.out]; simp; omega
                · exact HR2.out
            · -- arm 1
              have HI : Hid (insOf locs x = [(⟨1, 0, (120 + (m1 : Int)), ⟨(ro), (vo)⟩, 0, ⟨0, 0⟩, 0⟩ : InsT)]) := arm_1 hm1 hm5 q6n' hro
              have q6a : (x : Int) % 12 = 1 := q6
              have HM : Hid (memOf x = 1) := by show memOf x = 1; unfold memOf; rw [q6n'.out]; decide
              clear q6
              go_wp2_with (at_builtin; refine wpList_append_own _ rfl _ _ 117 rfl W1.heap.size 107 i1 zIns 9 72 Tryz.underlying117 j1 y0 y1 y2 rfl (by decide) _ _ _ rfl ((hown4.alloc _).alloc _) ⟨w4.heap.size + 1, 0, none⟩ 1 1 (insC (⟨1, 0, (120 + (m1 : Int)), ⟨(ro), (vo)⟩, 0, ⟨0, 0⟩, 0⟩ : InsT)) rfl rfl ?c1 ?c2 ?c3 ?c4 ?c5 ?_)
              case c1 => exact news_two w4 _ #[.int .i64 1, .int .i64 0, .int .i64 (120 + (m1 : Int)), .int .i64 (ro), .int .i64 (vo), .int .i64 0, .int .i64 0, .int .i64 0, .int .i64 0] 107
              case c2 => exact one_ins _
              case c3 => unfold maxLen; omega
              case c4 => omega
              case c5 => simp only [World.size_alloc]; omega
              intro v' w5 hown5 hg5 _
              go_wp2
              go_roundg k
              case measure => omega
              case rel =>
                refine ⟨k, mem' + memOf x, at'' + 1, L ++ insOf locs x, rfl, by go_num, by rw [HM.out]; go_num, by omega, by rw [HM.out]; omega, by omega, ((h4.alloc _).alloc _).grown hg5 HB0.out hlt', ((HW4.out.alloc _).alloc _).grown hg5 hlt', ?_, ?_, ?_⟩
                · rw [HI.out]; simpa using hown5
                · rw [HI.out]; simp; omega
                · exact HR2.out
            · -- arm 2
              have HI : Hid (insOf locs x = [(⟨1, 0, (120 + (m1 : Int)), ⟨(ro), (vo)⟩, 0, ⟨0, 0⟩, 0⟩ : InsT)]) := arm_2 hm1 hm5 q6n' hro
              have q6a : (x : Int) % 12 = 2 := q6
              have HM : Hid (memOf x = 1) := by show memOf x = 1; unfold memOf; rw [q6n'.out]; decide
              clear q6
              go_wp2_with (at_builtin; refine wpList_append_own _ rfl _ _ 117 rfl W1.heap.size 107 i1 zIns 9 72 Tryz.underlying117 j1 y0 y1 y2 rfl (by decide) _ _ _ rfl ((hown4.alloc _).alloc _) ⟨w4.heap.size + 1, 0, none⟩ 1 1 (insC (⟨1, 0, (120 + (m1 : Int)), ⟨(ro), (vo)⟩, 0, ⟨0, 0⟩, 0⟩ : InsT)) rfl rfl ?c1 ?c2 ?c3 ?c4 ?c5 ?_)
              case c1 => exact news_two w4 _ #[.int .i64 1, .int .i64 0, .int .i64 (120 + (m1 : Int)), .int .i64 (ro), .int .i64 (vo), .int .i64 0, .int .i64 0, .int .i64 0, .int .i64 0] 107
              case c2 => exact one_ins _
              case c3 => unfold maxLen; omega
              case c4 => omega
              case c5 => simp only [World.size_alloc]; omega
              intro v' w5 hown5 hg5 _
              go_wp2
              go_roundg k
              case measure => omega
              case rel =>
                refine ⟨k, mem' + memOf x, at'' + 1, L ++ insOf locs x, rfl, by go_num, by rw [HM.out]; go_num, by omega, by rw [HM.out]; omega, by omega, ((h4.alloc _).alloc _).grown hg5 HB0.out hlt', ((HW4.out.alloc _).alloc _).grown hg5 hlt', ?_, ?_, ?_⟩
                · rw [HI.out]; simpa using hown5
                · rw [HI.out]; simp; omega
                · exact HR2.out
            · -- arm 3
              have HI : Hid (insOf locs x = [(⟨1, 0, (120 + (m1 : Int)), ⟨(ro), (vo)⟩, 0, ⟨0, 0⟩, 0⟩ : InsT)]) := arm_3 hm1 hm5 q6n' hro
              have q6a : (x : Int) % 12 = 3 := q6
              have HM : Hid (memOf x = 1) := by show memOf x = 1; unfold memOf; rw [q6n'.out]; decide
              clear q6
              go_wp2_with (at_builtin; refine wpList_append_own _ rfl _ _ 117 rfl W1.heap.size 107 i1 zIns 9 72 Tryz.underlying117 j1 y0 y1 y2 rfl (by decide) _ _ _ rfl ((hown4.alloc _).alloc _) ⟨w4.heap.size + 1, 0, none⟩ 1 1 (insC (⟨1, 0, (120 + (m1 : Int)), ⟨(ro), (vo)⟩, 0, ⟨0, 0⟩, 0⟩ : InsT)) rfl rfl ?c1 ?c2 ?c3 ?c4 ?c5 ?_)
              case c1 => exact news_two w4 _ #[.int .i64 1, .int .i64 0, .int .i64 (120 + (m1 : Int)), .int .i64 (ro), .int .i64 (vo), .int .i64 0, .int .i64 0, .int .i64 0, .int .i64 0] 107
              case c2 => exact one_ins _
              case c3 => unfold maxLen; omega
              case c4 => omega
              case c5 => simp only [World.size_alloc]; omega
              intro v' w5 hown5 hg5 _
              go_wp2
              go_roundg k
              case measure => omega
              case rel =>
                refine ⟨k, mem' + memOf x, at'' + 1, L ++ insOf locs x, rfl, by go_num, by rw [HM.out]; go_num, by omega, by rw [HM.out]; omega, by omega, ((h4.alloc _).alloc _).grown hg5 HB0.out hlt', ((HW4.out.alloc _).alloc _).grown hg5 hlt', ?_, ?_, ?_⟩
                · rw [HI.out]; simpa using hown5
                · rw [HI.out]; simp; omega
                · exact HR2.out
            · -- arm 4
              have HI : Hid (insOf locs x = [(⟨2, (m5 : Int), (120 + (m1 : Int)), ⟨0, 0⟩, 0, ⟨0, 0⟩, 0⟩ : InsT)]) := arm_4 hm1 hm5 q6n' hro
              have q6a : (x : Int) % 12 = 4 := q6
              have HM : Hid (memOf x = 1) := by show memOf x = 1; unfold memOf; rw [q6n'.out]; decide
              clear q6
              go_wp2_with (at_builtin; refine wpList_append_own _ rfl _ _ 117 rfl W1.heap.size 107 i1 zIns 9 72 Tryz.underlying117 j1 y0 y1 y2 rfl (by decide) _ _ _ rfl ((hown4.alloc _).alloc _) ⟨w4.heap.size + 1, 0, none⟩ 1 1 (insC (⟨2, (m5 : Int), (120 + (m1 : Int)), ⟨0, 0⟩, 0, ⟨0, 0⟩, 0⟩ : InsT)) rfl rfl ?c1 ?c2 ?c3 ?c4 ?c5 ?_)
              case c1 => exact news_two w4 _ #[.int .i64 2, .int .i64 (m5 : Int), .int .i64 (120 + (m1 : Int)), .int .i64 0, .int .i64 0, .int .i64 0, .int .i64 0, .int .i64 0, .int .i64 0] 107
              case c2 => exact one_ins _
              case c3 => unfold maxLen; omega
              case c4 => omega
              case c5 => simp only [World.size_alloc]; omega
              intro v' w5 hown5 hg5 _
              go_wp2
              go_roundg k
              case measure => omega
              case rel =>
                refine ⟨k, mem' + memOf x, at'' + 1, L ++ insOf locs x, rfl, by go_num, by rw [HM.out]; go_num, by omega, by rw [HM.out]; omega, by omega, ((h4.alloc _).alloc _).grown hg5 HB0.out hlt', ((HW4.out.alloc _).alloc _).grown hg5 hlt', ?_, ?_, ?_⟩
                · rw [HI.out]; simpa using hown5
                · rw [HI.out]; simp; omega
                · exact HR2.out
            · -- arm 5
              have HI : Hid (insOf locs x = [(⟨2, (m5 : Int), (120 + (m1 : Int)), ⟨0, 0⟩, 0, ⟨0, 0⟩, 0⟩ : InsT)]) := arm_5 hm1 hm5 q6n' hro
              have q6a : (x : Int) % 12 = 5 := q6
              have HM : Hid (memOf x = 1) := by show memOf x = 1; unfold memOf; rw [q6n'.out]; decide
              clear q6
              go_wp2_with (at_builtin; refine wpList_append_own _ rfl _ _ 117 rfl W1.heap.size 107 i1 zIns 9 72 Tryz.underlying117 j1 y0 y1 y2 rfl (by decide) _ _ _ rfl ((hown4.alloc _).alloc _) ⟨w4.heap.size + 1, 0, none⟩ 1 1 (insC (⟨2, (m5 : Int), (120 + (m1 : Int)), ⟨0, 0⟩, 0, ⟨0, 0⟩, 0⟩ : InsT)) rfl rfl ?c1 ?c2 ?c3 ?c4 ?c5 ?_)
              case c1 => exact news_two w4 _ #[.int .i64 2, .int .i64 (m5 : Int), .int .i64 (120 + (m1 : Int)), .int .i64 0, .int .i64 0, .int .i64 0, .int .i64 0, .int .i64 0, .int .i64 0] 107
              case c2 => exact one_ins _
              case c3 => unfold maxLen; omega
              case c4 => omega
              case c5 => simp only [World.size_alloc]; omega
              intro v' w5 hown5 hg5 _
              go_wp2
              go_roundg k
              case measure => omega
              case rel =>
                refine ⟨k, mem' + memOf x, at'' + 1, L ++ insOf locs x, rfl, by go_num, by rw [HM.out]; go_num, by omega, by rw [HM.out]; omega, by omega, ((h4.alloc _).alloc _).grown hg5 HB0.out hlt', ((HW4.out.alloc _).alloc _).grown hg5 hlt', ?_, ?_, ?_⟩
                · rw [HI.out]; simpa using hown5
                · rw [HI.out]; simp; omega
                · exact HR2.out
            · -- arm 6
              have HI : Hid (insOf locs x = [(⟨2, (m5 : Int), (120 + (m1 : Int)), ⟨0, 0⟩, 0, ⟨0, 0⟩, 0⟩ : InsT)]) := arm_6 hm1 hm5 q6n' hro
              have q6a : (x : Int) % 12 = 6 := q6
              have HM : Hid (memOf x = 1) := by show memOf x = 1; unfold memOf; rw [q6n'.out]; decide
              clear q6
              go_wp2_with (at_builtin; refine wpList_append_own _ rfl _ _ 117 rfl W1.heap.size 107 i1 zIns 9 72 Tryz.underlying117 j1 y0 y1 y2 rfl (by decide) _ _ _ rfl ((hown4.alloc _).alloc _) ⟨w4.heap.size + 1, 0, none⟩ 1 1 (insC (⟨2, (m5 : Int), (120 + (m1 : Int)), ⟨0, 0⟩, 0, ⟨0, 0⟩, 0⟩ : InsT)) rfl rfl ?c1 ?c2 ?c3 ?c4 ?c5 ?_)
              case c1 => exact news_two w4 _ #[.int .i64 2, .int .i64 (m5 : Int), .int .i64 (120 + (m1 : Int)), .int .i64 0, .int .i64 0, .int .i64 0, .int .i64 0, .int .i64 0, .int .i64 0] 107
              case c2 => exact one_ins _
              case c3 => unfold maxLen; omega
              case c4 => omega
              case c5 => simp only [World.size_alloc]; omega
              intro v' w5 hown5 hg5 _
              go_wp2
              go_roundg k
              case measure => omega
              case rel =>
                refine ⟨k, mem' + memOf x, at'' + 1, L ++ insOf locs x, rfl, by go_num, by rw [HM.out]; go_num, by omega, by rw [HM.out]; omega, by omega, ((h4.alloc _).alloc _).grown hg5 HB0.out hlt', ((HW4.out.alloc _).alloc _).grown hg5 hlt', ?_, ?_, ?_⟩
                · rw [HI.out]; simpa using hown5
                · rw [HI.out]; simp; omega
                · exact HR2.out
            · -- arm 7
              have HI : Hid (insOf locs x = [(⟨2, (m5 : Int), (120 + (m1 : Int)), ⟨0, 0⟩, 0, ⟨0, 0⟩, 0⟩ : InsT)]) := arm_7 hm1 hm5 q6n' hro
              have q6a : (x : Int) % 12 = 7 := q6
              have HM : Hid (memOf x = 1) := by show memOf x = 1; unfold memOf; rw [q6n'.out]; decide
              clear q6
              go_wp2_with (at_builtin; refine wpList_append_own _ rfl _ _ 117 rfl W1.heap.size 107 i1 zIns 9 72 Tryz.underlying117 j1 y0 y1 y2 rfl (by decide) _ _ _ rfl ((hown4.alloc _).alloc _) ⟨w4.heap.size + 1, 0, none⟩ 1 1 (insC (⟨2, (m5 : Int), (120 + (m1 : Int)), ⟨0, 0⟩, 0, ⟨0, 0⟩, 0⟩ : InsT)) rfl rfl ?c1 ?c2 ?c3 ?c4 ?c5 ?_)
              case c1 => exact news_two w4 _ #[.int .i64 2, .int .i64 (m5 : Int), .int .i64 (120 + (m1 : Int)), .int .i64 0, .int .i64 0, .int .i64 0, .int .i64 0, .int .i64 0, .int .i64 0] 107
              case c2 => exact one_ins _
              case c3 => unfold maxLen; omega
              case c4 => omega
              case c5 => simp only [World.size_alloc]; omega
              intro v' w5 hown5 hg5 _
              go_wp2
              go_roundg k
              case measure => omega
              case rel =>
                refine ⟨k, mem' + memOf x, at'' + 1, L ++ insOf locs x, rfl, by go_num, by rw [HM.out]; go_num, by omega, by rw [HM.out]; omega, by omega, ((h4.alloc _).alloc _).grown hg5 HB0.out hlt', ((HW4.out.alloc _).alloc _).grown hg5 hlt', ?_, ?_, ?_⟩
                · rw [HI.out]; simpa using hown5
                · rw [HI.out]; simp; omega
                · exact HR2.out
            · -- arm 8
              have HI : Hid (insOf locs x = [(⟨3, 0, 0, ⟨0, 0⟩, 0, ⟨0, 0⟩, 0⟩ : InsT)]) := arm_8 hm1 hm5 q6n' hro
              have q6a : (x : Int) % 12 = 8 := q6
              have HM : Hid (memOf x = 0) := by show memOf x = 0; unfold memOf; rw [q6n'.out]; decide
              clear q6
              go_wp2_with (at_builtin; refine wpList_append_own _ rfl _ _ 117 rfl W1.heap.size 107 i1 zIns 9 72 Tryz.underlying117 j1 y0 y1 y2 rfl (by decide) _ _ _ rfl ((hown4.alloc _).alloc _) ⟨w4.heap.size + 1, 0, none⟩ 1 1 (insC (⟨3, 0, 0, ⟨0, 0⟩, 0, ⟨0, 0⟩, 0⟩ : InsT)) rfl rfl ?c1 ?c2 ?c3 ?c4 ?c5 ?_)
              case c1 => exact news_two w4 _ #[.int .i64 3, .int .i64 0, .int .i64 0, .int .i64 0, .int .i64 0, .int .i64 0, .int .i64 0, .int .i64 0, .int .i64 0] 107
              case c2 => exact one_ins _
              case c3 => unfold maxLen; omega
              case c4 => omega
              case c5 => simp only [World.size_alloc]; omega
              intro v' w5 hown5 hg5 _
              go_wp2
              go_roundg k
              case measure => omega
              case rel =>
                refine ⟨k, mem' + memOf x, at'' + 1, L ++ insOf locs x, rfl, by go_num, by rw [HM.out]; rfl, by omega, by rw [HM.out]; omega, by omega, ((h4.alloc _).alloc _).grown hg5 HB0.out hlt', ((HW4.out.alloc _).alloc _).grown hg5 hlt', ?_, ?_, ?_⟩
                · rw [HI.out]; simpa using hown5
                · rw [HI.out]; simp; omega
                · exact HR2.out
            · -- arm 9
              have HI : Hid (insOf locs x = [(⟨4, (m5 : Int), (120 + (m1 : Int)), ⟨(ro), (vo)⟩, 0, ⟨-1, 1⟩, 0⟩ : InsT)]) := arm_9 hm1 hm5 q6n' hro
              have q6a : (x : Int) % 12 = 9 := q6
              have HM : Hid (memOf x = 1) := by show memOf x = 1; unfold memOf; rw [q6n'.out]; decide
              clear q6
              go_wp2_with (at_builtin; refine wpList_append_own _ rfl _ _ 117 rfl W1.heap.size 107 i1 zIns 9 72 Tryz.underlying117 j1 y0 y1 y2 rfl (by decide) _ _ _ rfl ((hown4.alloc _).alloc _) ⟨w4.heap.size + 1, 0, none⟩ 1 1 (insC (⟨4, (m5 : Int), (120 + (m1 : Int)), ⟨(ro), (vo)⟩, 0, ⟨-1, 1⟩, 0⟩ : InsT)) rfl rfl ?c1 ?c2 ?c3 ?c4 ?c5 ?_)
              case c1 => exact news_two w4 _ #[.int .i64 4, .int .i64 (m5 : Int), .int .i64 (120 + (m1 : Int)), .int .i64 (ro), .int .i64 (vo), .int .i64 0, .int .i64 (-1), .int .i64 1, .int .i64 0] 107
              case c2 => exact one_ins _
              case c3 => unfold maxLen; omega
              case c4 => omega
              case c5 => simp only [World.size_alloc]; omega
              intro v' w5 hown5 hg5 _
              go_wp2
              go_roundg k
              case measure => omega
              case rel =>
                refine ⟨k, mem' + memOf x, at'' + 1, L ++ insOf locs x, rfl, by go_num, by rw [HM.out]; go_num, by omega, by rw [HM.out]; omega, by omega, ((h4.alloc _).alloc _).grown hg5 HB0.out hlt', ((HW4.out.alloc _).alloc _).grown hg5 hlt', ?_, ?_, ?_⟩
                · rw [HI.out]; simpa using hown5
                · rw [HI.out]; simp; omega
                · exact HR2.out
            · -- arm 10
              have HI : Hid (insOf locs x = [(⟨5, (m5 : Int), 0, ⟨(ro), (vo)⟩, 6, ⟨-1, 1⟩, 0⟩ : InsT)]) := arm_10 hm1 hm5 q6n' hro
              have q6a : (x : Int) % 12 = 10 := q6
              have HM : Hid (memOf x = 0) := by show memOf x = 0; unfold memOf; rw [q6n'.out]; decide
              clear q6
              go_wp2_with (at_builtin; refine wpList_append_own _ rfl _ _ 117 rfl W1.heap.size 107 i1 zIns 9 72 Tryz.underlying117 j1 y0 y1 y2 rfl (by decide) _ _ _ rfl ((hown4.alloc _).alloc _) ⟨w4.heap.size + 1, 0, none⟩ 1 1 (insC (⟨5, (m5 : Int), 0, ⟨(ro), (vo)⟩, 6, ⟨-1, 1⟩, 0⟩ : InsT)) rfl rfl ?c1 ?c2 ?c3 ?c4 ?c5 ?_)
              case c1 => exact news_two w4 _ #[.int .i64 5, .int .i64 (m5 : Int), .int .i64 0, .int .i64 (ro), .int .i64 (vo), .int .i64 6, .int .i64 (-1), .int .i64 1, .int .i64 0] 107
              case c2 => exact one_ins _
              case c3 => unfold maxLen; omega
              case c4 => omega
              case c5 => simp only [World.size_alloc]; omega
              intro v' w5 hown5 hg5 _
              go_wp2
              go_roundg k
              case measure => omega
              case rel =>
                refine ⟨k, mem' + memOf x, at'' + 1, L ++ insOf locs x, rfl, by go_num, by rw [HM.out]; rfl, by omega, by rw [HM.out]; omega, by omega, ((h4.alloc _).alloc _).grown hg5 HB0.out hlt', ((HW4.out.alloc _).alloc _).grown hg5 hlt', ?_, ?_, ?_⟩
                · rw [HI.out]; simpa using hown5
                · rw [HI.out]; simp; omega
                · exact HR2.out
            · -- arm 11
              have HI : Hid (insOf locs x = [(⟨6, 0, 0, ⟨(ro), (vo)⟩, 0, ⟨-1, 0⟩, 1⟩ : InsT), (⟨1, 0, (120 + (m1 : Int)), ⟨-1, 2⟩, 0, ⟨0, 0⟩, 0⟩ : InsT)]) := arm_11 hm1 hm5 q6n' hro
              have q6a : (x : Int) % 12 = 11 := q6
              have HM : Hid (memOf x = 1) := by show memOf x = 1; unfold memOf; rw [q6n'.out]; decide
              clear q6
              go_wp2_with (at_builtin; refine wpList_append_own _ rfl _ _ 117 rfl W1.heap.size 107 i1 zIns 9 72 Tryz.underlying117 j1 y0 y1 y2 rfl (by decide) _ _ _ rfl ((hown4.alloc _).alloc _) ⟨w4.heap.size + 1, 0, none⟩ 2 2 (insC (⟨6, 0, 0, ⟨(ro), (vo)⟩, 0, ⟨-1, 0⟩, 1⟩ : InsT) ++ insC (⟨1, 0, (120 + (m1 : Int)), ⟨-1, 2⟩, 0, ⟨0, 0⟩, 0⟩ : InsT)) rfl rfl ?c1 ?c2 ?c3 ?c4 ?c5 ?_)
              case c1 => exact news_two w4 _ #[.int .i64 6, .int .i64 0, .int .i64 0, .int .i64 (ro), .int .i64 (vo), .int .i64 0, .int .i64 (-1), .int .i64 0, .int .i64 1, .int .i64 1, .int .i64 0, .int .i64 (120 + (m1 : Int)), .int .i64 (-1), .int .i64 2, .int .i64 0, .int .i64 0, .int .i64 0, .int .i64 0] 107
              case c2 => exact one_ins2 _ _
              case c3 => unfold maxLen; omega
              case c4 => omega
              case c5 => simp only [World.size_alloc]; omega
              intro v' w5 hown5 hg5 _
              go_wp2
              go_roundg k
              case measure => omega
              case rel =>
                refine ⟨k, mem' + memOf x, at'' + 1, L ++ insOf locs x, rfl, by go_num, by rw [HM.out]; go_num, by omega, by rw [HM.out]; omega, by omega, ((h4.alloc _).alloc _).grown hg5 HB0.out hlt', ((HW4.out.alloc _).alloc _).grown hg5 hlt', ?_, ?_, ?_⟩
                · rw [HI.out]; simpa using hown5
                · rw [HI.out]; simp; omega
                · exact HR2.out
      · obtain rfl : i = n := by omega
        have HT2 : Hid ((TL, at') = thrOf zs most) := by
          show _ = _
          rw [← HT.out, Nat.sub_self, thrFrom]; simp
        clear HT
        have b1 := nxtV_lt zs at'
        obtain ⟨vs, hvl, hov, hin'⟩ := hT
        obtain ⟨a2, cc2, rfl⟩ := own_slice hov
        obtain ⟨a1, cc1, rfl⟩ := own_slice hI
        go_wp2_with fail
        refine (hS.next (by omega) hz hr).mono ?_
        rintro e w4 ⟨rfl, h4, k4⟩
        have hI4 := own_wa hI k4 (Nat.lt_succ_self _)
        have hT4 : thrO w4 (w.heap.size + 1 + 1 + 1 + 1) (.slice a2 TL.length cc2) TL := Own2.wa ⟨vs, hvl, hov, hin'⟩ k4 (Nat.lt_succ_self _)
        clear hS hI hov hin' k4 hvl
        have HX : Hid (condOf (nxtV zs at') = (smallP zs most).cond) := by
          show condOf _ = condOf _
          rw [← HT2.out]
        have HP : Hid (smallP zs most = ⟨⟨#[116]⟩, iniOf zs, TL, condOf (nxtV zs at')⟩) := by
          show _ = _
          unfold smallP
          rw [← HT2.out]
        have t0 := h4.bt.at (i := 0) rfl
        have t1 := h4.bt.at (i := 1) rfl
        have t2 := h4.bt.at (i := 2) rfl
        have t3 := h4.bt.at (i := 3) rfl
        have t4 := h4.bt.at (i := 4) rfl
        have tf := fun j => h4.bt.fr j
        have tl := h4.bt.lt
        have r0 := h4.br.at (i := 0) rfl
        have r1 := h4.br.at (i := 1) rfl
        have r2 := h4.br.at (i := 2) rfl
        have r3 := h4.br.at (i := 3) rfl
        have r4 := h4.br.at (i := 4) rfl
        have rf := fun j => h4.br.fr j
        have rl := h4.br.lt
        have tl1 := Nat.lt_succ_of_lt tl
        have tl2 := Nat.lt_succ_of_lt tl1
        have rl1 := Nat.lt_succ_of_lt rl
        have rl2 := Nat.lt_succ_of_lt rl1
        have tl3 := Nat.lt_succ_of_lt tl2
        have rl3 := Nat.lt_succ_of_lt rl2
        generalize nxtV zs at' = x at *
        by_cases hx3 : x % 3 = 0
        · have q : ((x : Int) % 3 == 0) = true := by simp; omega
          obtain ⟨m0, hm0, q0⟩ : ∃ m : Nat, Hid (m = x / 3 % 2 + 1) ∧ (x : Int) / 3 % 2 + 1 = (m : Int) := ⟨_, rfl, by omega⟩
          obtain ⟨m1, hm1, q1⟩ : ∃ m : Nat, Hid (m = x / 8 % 2) ∧ bits .and .i64 ((x : Int) / 8) 1 = (m : Int) := ⟨_, rfl, by rw [i64_and1]; omega⟩
          obtain ⟨m2, hm2, q2⟩ : ∃ m : Nat, Hid (m = x / 16 % 2) ∧ bits .and .i64 ((x : Int) / 16) 1 = (m : Int) := ⟨_, rfl, by rw [i64_and1]; omega⟩
          obtain ⟨m3, hm3, q3⟩ : ∃ m : Nat, Hid (m = x / 32 % 3) ∧ (x : Int) / 32 % 3 = (m : Int) := ⟨_, rfl, by omega⟩
          obtain ⟨m4, hm4, q4⟩ : ∃ m : Nat, Hid (m = x / 128 % 2) ∧ bits .and .i64 ((x : Int) / 128) 1 = (m : Int) := ⟨_, rfl, by rw [i64_and1]; omega⟩
          have HC : Hid (condOf x = ⟨(m0 : Int), [[⟨0, m1, 0, m2⟩], [⟨-1, 0, 120, m3⟩, ⟨1, 0, 0, m4⟩]]⟩) := by
            show condOf x = _
            unfold condOf anyOf
            rw [if_pos hx3, ← hm0.out, ← hm1.out, ← hm2.out, ← hm3.out, ← hm4.out]
          go_wp2
          refine bodyPost_ret (v := .agg #[.string ⟨#[116]⟩, .slice a1 (iniOf zs).length cc1, .slice a2 TL.length cc2, .int .i64 (m0 : Int), .slice (some ⟨w4.heap.size + 1 + 1, 0, none⟩) 2 2]) ?_ rfl ⟨_, rfl, ?_, ?_⟩
          · rw [results_cell rfl]
            go_simp
          · rw [HP.out, HC.out]
            have hP1 := own_puts (N := w.heap.size + 1) [.string ⟨#[116]⟩, .slice a1 (iniOf zs).length cc1, .slice a2 TL.length cc2, .int .i64 (m0 : Int), .slice (some ⟨w4.heap.size + 1 + 1, 0, none⟩) 2 2] _ 0 (own_puts (N := w.heap.size + 1 + 1) [.int .i64 (m0 : Int), .slice (some ⟨w4.heap.size + 1 + 1, 0, none⟩) 2 2] w4 3 hI4 (by omega)) (by omega)
            have hP2 := Own2.puts (N := w.heap.size + 1) [.string ⟨#[116]⟩, .slice a1 (iniOf zs).length cc1, .slice a2 TL.length cc2, .int .i64 (m0 : Int), .slice (some ⟨w4.heap.size + 1 + 1, 0, none⟩) 2 2] _ 0 (Own2.puts (N := w.heap.size + 1 + 1) [.int .i64 (m0 : Int), .slice (some ⟨w4.heap.size + 1 + 1, 0, none⟩) 2 2] w4 3 hT4 (by omega)) (by omega)
            have hs4 := h4.size
            have hP3 := any_new (putCells (putCells w4 (w.heap.size + 1 + 1) 3 [.int .i64 (m0 : Int), .slice (some ⟨w4.heap.size + 1 + 1, 0, none⟩) 2 2]) (w.heap.size + 1) 0 [.string ⟨#[116]⟩, .slice a1 (iniOf zs).length cc1, .slice a2 TL.length cc2, .int .i64 (m0 : Int), .slice (some ⟨w4.heap.size + 1 + 1, 0, none⟩) 2 2]) w4.heap.size w.heap.size (by rw [size_puts, size_puts]) (by omega) [⟨0, m1, 0, m2⟩] [⟨-1, 0, 120, m3⟩, ⟨1, 0, 0, m4⟩] (by show 1 ≤ maxLen; decide) (by show 2 ≤ maxLen; decide) 121 120
            exact ⟨a1, cc1, a2, cc2, _, 2, rfl, own_mono (((hP1.alloc _).alloc _).alloc _) (by omega), Own2.mono (hP2.on ((((On.refl _).alloc _).alloc _).alloc _)) (by omega), hP3⟩
          · exact (((On.puts (N := w.heap.size + 1) (by omega) [.string ⟨#[116]⟩, .slice a1 (iniOf zs).length cc1, .slice a2 TL.length cc2, .int .i64 (m0 : Int), .slice (some ⟨w4.heap.size + 1 + 1, 0, none⟩) 2 2] _ 0 (On.puts (N := w.heap.size + 1 + 1) (by omega) [.int .i64 (m0 : Int), .slice (some ⟨w4.heap.size + 1 + 1, 0, none⟩) 2 2] w4 3 h4.on)).alloc _).alloc _).alloc _
        · have q : ((x : Int) % 3 == 0) = false := by simp; omega
          have HC : Hid (condOf x = ⟨0, []⟩) := by
            show condOf x = _
            unfold condOf
            rw [if_neg hx3]
          go_wp2
          refine bodyPost_ret (v := .agg #[.string ⟨#[116]⟩, .slice a1 (iniOf zs).length cc1, .slice a2 TL.length cc2, .int .i64 0, .slice none 0 0]) ?_ rfl ⟨_, rfl, ?_, ?_⟩
          · rw [results_cell rfl]
            go_simp
          · rw [HP.out, HC.out]
            refine ⟨a1, cc1, a2, cc2, none, 0, rfl, own_mono (own_puts [.string ⟨#[116]⟩, .slice a1 (iniOf zs).length cc1, .slice a2 TL.length cc2, .int .i64 0, .slice none 0 0] w4 0 hI4 (N := w.heap.size + 1) (by omega)) (by omega), Own2.mono (Own2.puts [.string ⟨#[116]⟩, .slice a1 (iniOf zs).length cc1, .slice a2 TL.length cc2, .int .i64 0, .slice none 0 0] w4 0 hT4 (N := w.heap.size + 1) (by omega)) (by omega), Own2.nil _ _ _ _ _ _⟩
          · exact On.puts (N := w.heap.size + 1) (by omega) [.string ⟨#[116]⟩, .slice a1 (iniOf zs).length cc1, .slice a2 TL.length cc2, .int .i64 0, .slice none 0 0] w4 0 h4.on
end Go.Proofs.YtplihlmejnohnaaGreatDoor

namespace Go.Proofs.YtplihlmejnohnaaGreatDoor
open Go.RowKit

theorem TOwn.rd {w : World} {base : Nat} {v : Value} {t : TestT} (h : TOwn w base v t) (hn : t.name.size ≤ 9223372036854775807) : TestRd w v t := by
  obtain ⟨a1, c1, a2, c2, a3, c3, e, h1, h2, h3⟩ := h
  exact ⟨a1, c1, a2, c2, a3, c3, e, hn, Rd.own (fun _ => rfl) h1, h2.rd (fun _ => rfl), h3.rd (fun _ => rfl)⟩
/-- The threads of the program of a test made of numbers. -/
def ofT (zs : List Int) (most : Nat) : List (List InsT) := (smallP zs most).thr.map (rplRow (locsR (smallP zs most)))
set_option maxHeartbeats 1000000 in
theorem of_is (zs : List Int) (a : Option Addr) (cap most : Nat) (w : World) (hz : zs.length ≤ 9223372036854775807) (hr : Rd intC 1 w (.slice a zs.length cap) zs) :
    Calls Tryz.prog 9 #[.slice a zs.length cap, .int .i64 (most : Int)] w fun e w' => ∃ pv, e = .returned pv ∧ ProgFl w' pv (locsR (smallP zs most)) (iniVals (locsR (smallP zs most)) (smallP zs most).ini) (ofT zs most) ∧ On w w' := by
  have hS := fun W (k : On w W) => small_is zs a cap most W hz (hr.on k)
  obtain ⟨h1, h2⟩ := thrOf_ok zs most
  have h24 : (smallP zs most).thr.length ≤ 1000000 ∧ ∀ L ∈ (smallP zs most).thr, L.length ≤ 1000000 := ⟨by have : (smallP zs most).thr = (thrOf zs most).1 := rfl; rw [this]; omega, fun L hL => by have := (h2 L hL).1.2.1; omega⟩
  have hC := fun v W h => rcompile_is (smallP zs most) v W h h24
  unfold ofT
  generalize (smallP zs most).thr.map (rplRow (locsR (smallP zs most))) = LL at *
  generalize iniVals (locsR (smallP zs most)) (smallP zs most).ini = IN at *
  generalize locsR (smallP zs most) = LT at *
  have hn : (smallP zs most).name.size ≤ 9223372036854775807 := by show (⟨#[116]⟩ : ByteArray).size ≤ _; decide
  generalize smallP zs most = T at *
  generalize zs.length = mm at *
  have k0 : ∀ A, On w (w.alloc A) := fun A => (On.refl w).alloc A
  have br : ∀ cs T, Bk (w.alloc (.cells cs T)) w.heap.size cs := fun cs T => Bk.new w cs T
  clear h1 h2 h24 hr hz
  go_enter Tryz.func9, Tryz.ntmps9
  go_wp2_with fail
  refine (hS _ (k0 _)).mono ?_
  rintro e w1 ⟨v, rfl, hT, k1⟩
  have Z1 := (br _ _).on k1
  have K1 : Hid (On w w1) := (k0 _).trans k1
  have hC1 := hC v w1 (hT.rd hn)
  clear hS hC k1 k0 br hT
  go_wp2_with fail
  refine hC1.mono ?_
  rintro e w2 ⟨pv, rfl, hP, k2⟩
  have Z2 := Z1.on k2
  have K2 : Hid (On w w2) := K1.out.trans k2
  obtain ⟨a1, c1, a2, c2, a3, c3, rfl, r1, r2, r3⟩ := (hP 0 [] 0 (Or.inr rfl)).ex
  have HP : Hid _ := hP
  have zl := Z1.lt
  clear r1 r2 r3 hP
  have z0 := Z2.at (i := 0) rfl
  have z1 := Z2.at (i := 1) rfl
  have z2 := Z2.at (i := 2) rfl
  have zf := fun i => Z2.fr i
  clear hC1 k2 K1
  go_wp2
  refine bodyPost_ret (v := .agg #[.slice a1 LT.length c1, .slice a2 IN.length c2, .slice a3 LL.length c3]) ?_ rfl ⟨_, rfl, ?_, ?_⟩
  · rw [results_cell rfl]
    go_simp
  · exact HP.out w.heap.size [.slice a1 LT.length c1, .slice a2 IN.length c2, .slice a3 LL.length c3] 0 (Or.inl zl)
  · repeat' (first | with_reducible refine On.setNew ?_ (by omega) _ | with_reducible exact K2.out)
end Go.Proofs.YtplihlmejnohnaaGreatDoor

namespace Go.Proofs.YtplihlmejnohnaaGreatDoor
open Go.RowKit

theorem pl_in (l : Int) : ∀ (LT : List UInt8) (i : Nat), (∃ b ∈ LT, (b.toNat : Int) = l) → (i : Int) ≤ plFrom l i LT ∧ plFrom l i LT < (i : Int) + LT.length
  | [], _, h => by obtain ⟨b, hb, _⟩ := h; exact absurd hb List.not_mem_nil
  | b :: LT, i, h => by
    unfold plFrom
    cases e : ((b.toNat : Int) == l) with
    | true =>
      rw [if_pos rfl, List.length_cons]
      omega
    | false =>
      rw [if_neg (by simp)]
      obtain ⟨c, hc, hl⟩ := h
      have hm : c ∈ LT := by
        rcases List.mem_cons.1 hc with rfl | h1
        · rw [hl] at e; simp at e
        · exact h1
      have := pl_in l LT (i + 1) ⟨c, hm, hl⟩
      rw [List.length_cons]
      omega
theorem mark_keep : ∀ (L : List Int) (f : Nat → Bool) (j : Nat), f j = true → markI L f j = true
  | [], _, _, h => h
  | l :: L, f, j, h => mark_keep L _ j (by
    show (if j = idxL l then true else f j) = true
    split
    · rfl
    · exact h)
theorem mark_mem : ∀ (L : List Int) (f : Nat → Bool) (l : Int), l ∈ L → markI L f (idxL l) = true
  | [], _, _, h => absurd h List.not_mem_nil
  | x :: L, f, l, h => by
    rcases List.mem_cons.1 h with rfl | h1
    · exact mark_keep L _ _ (by show (if idxL l = idxL l then true else f (idxL l)) = true; rw [if_pos rfl])
    · exact mark_mem L _ l h1
theorem letter_in (t : TestT) {l : Int} (h : l ∈ allLs t) (hk : locOk l = true) : ∃ b ∈ locsR t, (b.toNat : Int) = l := by
  have hl : 97 ≤ l ∧ l ≤ 122 := by
    unfold locOk at hk
    simpa using hk
  have hi : idxL l = l.toNat := by unfold idxL; omega
  refine ⟨UInt8.ofNat l.toNat, ?_, ?_⟩
  · unfold locsR outTo
    refine List.mem_map.2 ⟨l.toNat - 97, List.mem_filter.2 ⟨List.mem_range.2 (by omega), ?_⟩, by rw [show 97 + (l.toNat - 97) = l.toNat by omega]⟩
    rw [show 97 + (l.toNat - 97) = l.toNat by omega, ← hi]
    exact mark_mem _ _ _ h
  · rw [UInt8.toNat_ofNat']
    omega
theorem has_loc {x : InsT} (h : insOk x = true) (hk : hasLB x.k = true) : locOk x.l = true := by
  unfold hasLB at hk
  simp only [Bool.or_eq_true, beq_iff_eq] at hk
  unfold insOk at h
  rcases hk with e | e | e
  · rw [e] at h
    simp only [beq_self_eq_true, if_true, Bool.and_eq_true] at h
    exact h.1.2
  · rw [e] at h
    simp at h
    exact h.2
  · rw [e] at h
    simp at h
    exact h.1.1.2
theorem of_lok (zs : List Int) (most : Nat) : ∀ L ∈ ofT zs most, locsOk (locsR (smallP zs most)).length L := by
  intro L hL x hx hk
  unfold ofT at hL
  obtain ⟨L0, hL0, rfl⟩ := List.mem_map.1 hL
  unfold rplRow at hx
  obtain ⟨y, hy, rfl⟩ := List.mem_map.1 hx
  have hok : insOk y = true := List.all_eq_true.1 ((thrOf_ok zs most).2 L0 hL0).1.1 y hy
  have hk0 : (rplIns (locsR (smallP zs most)) y).k = y.k := by unfold rplIns; split <;> rfl
  rw [hk0] at hk
  have hl := has_loc hok hk
  have hl2 : 97 ≤ y.l ∧ y.l ≤ 122 := by unfold locOk at hl; simpa using hl
  have e : rplIns (locsR (smallP zs most)) y = ⟨y.k, y.r, plR (locsR (smallP zs most)) y.l, y.a, y.o, y.b, y.n⟩ := by
    unfold rplIns
    rw [if_neg (by simp; omega)]
  rw [e]
  have hm : y.l ∈ allLs (smallP zs most) := by
    unfold allLs
    refine List.mem_append_right _ (List.mem_append_left _ ?_)
    exact List.mem_flatMap.2 ⟨L0, hL0, List.mem_map.2 ⟨y, hy, rfl⟩⟩
  have := pl_in y.l (locsR (smallP zs most)) 0 (letter_in _ hm hl)
  show 0 ≤ plR _ _ ∧ plR _ _ < _
  unfold plR
  omega
end Go.Proofs.YtplihlmejnohnaaGreatDoor

namespace Go.Proofs.YtplihlmejnohnaaGreatDoor
open Go.RowKit

theorem skip_at : ∀ (L : List InsT) (i : Nat) (x : InsT), skipBad L = false → L[i]? = some x → x.k = 6 → x.n ≤ (L.length : Int) - i - 1
  | [], _, _, _, h, _ => by simp at h
  | y :: L, 0, x, hs, h, hk => by
    simp only [List.getElem?_cons_zero, Option.some.injEq] at h
    subst h
    unfold skipBad at hs
    simp only [Bool.or_eq_false_iff, Bool.and_eq_false_iff] at hs
    rcases hs.1 with h1 | h1
    · rw [hk] at h1; simp at h1
    · have := h1.2
      simp only [decide_eq_false_iff_not] at this
      simp only [List.length_cons]
      omega
  | y :: L, i + 1, x, hs, h, hk => by
    simp only [List.getElem?_cons_succ] at h
    unfold skipBad at hs
    simp only [Bool.or_eq_false_iff] at hs
    have := skip_at L i x hs.2 h hk
    simp only [List.length_cons]
    omega
theorem ins_fine (x : InsT) (h : insOk x = true) : (x.k = 5 → regOk x.r = true) ∧ (x.k = 6 → 0 ≤ x.n) ∧ ((x.k == 5 || x.k == 6) = !seenB x.k) ∧ ((x.k = 2 ∨ x.k = 4) → regOk x.r = true) := by
  unfold insOk at h
  split at h
  · rename_i hk
    have hk : x.k = 1 := by simpa using hk
    refine ⟨by omega, by omega, by rw [hk]; rfl, by omega⟩
  · split at h
    · rename_i hk
      have hk : x.k = 2 := by simpa using hk
      simp only [Bool.and_eq_true] at h
      exact ⟨by omega, by omega, by rw [hk]; rfl, fun _ => h.1.2⟩
    · split at h
      · rename_i hk
        have hk : x.k = 3 := by simpa using hk
        refine ⟨by omega, by omega, by rw [hk]; rfl, by omega⟩
      · split at h
        · rename_i hk
          have hk : x.k = 4 := by simpa using hk
          simp only [Bool.and_eq_true] at h
          exact ⟨by omega, by omega, by rw [hk]; rfl, fun _ => h.1.1.1.2⟩
        · split at h
          · rename_i hk
            have hk : x.k = 5 := by simpa using hk
            simp only [Bool.and_eq_true] at h
            exact ⟨fun _ => h.1.1.2, by omega, by rw [hk]; rfl, by omega⟩
          · split at h
            · rename_i hk
              have hk : x.k = 6 := by simpa using hk
              simp only [Bool.and_eq_true, decide_eq_true_eq] at h
              exact ⟨by omega, fun _ => h.1.1.2, by rw [hk]; rfl, by omega⟩
            · cases h
end Go.Proofs.YtplihlmejnohnaaGreatDoor

namespace Go.Proofs.YtplihlmejnohnaaGreatDoor
open Go.RowKit

set_option maxHeartbeats 8000000 in
set_option maxRecDepth 8000 in
theorem rnormal_is (LL : List (List InsT)) (t : Nat) (L : List InsT) (l0 : LocT) (v : Value) (w : World) (h : ProgRd w v LL) (hL : LL[t]? = some L) (h0 : 0 ≤ l0.pc)
    (hok : ∀ (i : Nat) (x : InsT), L[i]? = some x → (x.k = 5 → regOk x.r = true) ∧ (x.k = 6 → 0 ≤ x.n ∧ x.n ≤ (L.length : Int) - i - 1)) :
    Calls Tryz.prog 73 #[v, .int .i64 t, locV l0] w fun e w' => e = .returned (locV (settleP L l0)) ∧ On w w' := by
  obtain ⟨a1, m1, c1, a2, m2, c2, a, c, rfl, r⟩ := h
  have HR : Hid (Rd2 insC 9 w (.slice a LL.length c) LL) := r
  obtain ⟨_, _, _, _, hmL⟩ := r.slice
  have htl : t < LL.length := (List.getElem?_eq_some_iff.1 hL).1
  obtain ⟨ga, oa, rfl, hga, ax, cx, uax, hxm, rx⟩ := r.row hL
  have HX : Hid (Rd insC 9 w (.slice ax L.length cx) L) := rx
  have HOK : Hid (∀ (i : Nat) (x : InsT), L[i]? = some x → (x.k = 5 → regOk x.r = true) ∧ (x.k = 6 → 0 ≤ x.n ∧ x.n ≤ (L.length : Int) - i - 1)) := hok
  clear r rx hL hok
  obtain ⟨R, hR⟩ : ∃ R, R = locV (settleP L l0) := ⟨_, rfl⟩
  rw [← hR]
  obtain ⟨pc, p0, p1, p2, p3⟩ := l0
  obtain ⟨n0, rfl⟩ : ∃ n : Nat, pc = (n : Int) := ⟨pc.toNat, by have : 0 ≤ pc := h0; omega⟩
  have HS : Hid (R = locV (settleP L ⟨(n0 : Int), p0, p1, p2, p3⟩)) := hR
  clear hR h0
  unfold locV
  obtain ⟨W0, hW0⟩ : ∃ W0, W0 = ((w.alloc (.cells #[.slice a1 m1 c1, .slice a2 m2 c2, .slice (some ⟨ga, oa, none⟩) LL.length c] 27)).alloc (.cells #[.int .i64 (n0 : Int), .int .i64 p0, .int .i64 p1, .int .i64 p2, .int .i64 p3] 73)).alloc (.cells #[.int .i64 0, .int .i64 0, .int .i64 0, .int .i64 0, .int .i64 0] 73) := ⟨_, rfl⟩
  have K0 : On w W0 := by rw [hW0]; exact (((On.refl w).alloc _).alloc _).alloc _
  have PB0 : Bk W0 w.heap.size #[.slice a1 m1 c1, .slice a2 m2 c2, .slice (some ⟨ga, oa, none⟩) LL.length c] := by rw [hW0]; exact ((Bk.new w _ _).alloc _).alloc _
  have CB0 : Bk W0 (w.heap.size + 1) #[.int .i64 (n0 : Int), .int .i64 p0, .int .i64 p1, .int .i64 p2, .int .i64 p3] := by
    rw [hW0]
    have := (Bk.new (w.alloc (.cells #[.slice a1 m1 c1, .slice a2 m2 c2, .slice (some ⟨ga, oa, none⟩) LL.length c] 27)) #[.int .i64 (n0 : Int), .int .i64 p0, .int .i64 p1, .int .i64 p2, .int .i64 p3] 73).alloc (.cells #[.int .i64 0, .int .i64 0, .int .i64 0, .int .i64 0, .int .i64 0] 73)
    rwa [World.size_alloc] at this
  have ZB0 : Bk W0 (w.heap.size + 1 + 1) #[.int .i64 0, .int .i64 0, .int .i64 0, .int .i64 0, .int .i64 0] := by
    rw [hW0]
    have := Bk.new ((w.alloc (.cells #[.slice a1 m1 c1, .slice a2 m2 c2, .slice (some ⟨ga, oa, none⟩) LL.length c] 27)).alloc (.cells #[.int .i64 (n0 : Int), .int .i64 p0, .int .i64 p1, .int .i64 p2, .int .i64 p3] 73)) #[.int .i64 0, .int .i64 0, .int .i64 0, .int .i64 0, .int .i64 0] 73
    rwa [World.size_alloc, World.size_alloc] at this
  go_enter Tryz.func73, Tryz.ntmps73
  go_wp2
  rw [← hW0]
  clear hW0
  go_loopg [] (L.length - n0) (fun gg wq => ∃ (n : Nat) (r0 r1 r2 r3 : Int), gg = L.length - n ∧ Hid (On w wq) ∧ Bk wq w.heap.size #[.slice a1 m1 c1, .slice a2 m2 c2, .slice (some ⟨ga, oa, none⟩) LL.length c] ∧ Bk wq (w.heap.size + 1) #[.int .i64 (n : Int), .int .i64 r0, .int .i64 r1, .int .i64 r2, .int .i64 r3] ∧ Bk wq (w.heap.size + 1 + 1) #[.int .i64 0, .int .i64 0, .int .i64 0, .int .i64 0, .int .i64 0] ∧ Hid (R = locV (settleP L ⟨(n : Int), r0, r1, r2, r3⟩)))
  case atStart => exact ⟨n0, p0, p1, p2, p3, rfl, K0, PB0, CB0, ZB0, HS⟩
  case round =>
    clear HS PB0 CB0 ZB0
    obtain ⟨n, r0, r1, r2, r3, hgg, HO, PB, CB, ZB, HS⟩ := hrel
    have pl := PB.lt
    have cl := CB.lt
    have zl := ZB.lt
    have q2 := PB.at (i := 2) rfl
    have c0 := CB.at (i := 0) rfl
    have u0 := (HO.out.cell (p := ⟨ga, oa + t, none⟩) hga).trans uax
    have qS : (fun W : World => W.cell? ⟨w.heap.size, 2, none⟩ = some (.slice (some ⟨ga, oa, none⟩) LL.length c) ∧ W.cell? ⟨w.heap.size + 1, 0, none⟩ = some (.int .i64 (n : Int)) ∧ W.cell? ⟨ga, oa + t, none⟩ = some (.slice ax L.length cx)) wr.drew := ⟨q2, c0, u0⟩
    rcases Nat.lt_or_ge n L.length with hlt | hge
    · obtain ⟨x, hx⟩ : ∃ x, L[n]? = some x := ⟨_, List.getElem?_eq_getElem hlt⟩
      have hst := settle_step (L := L) (l := ⟨(n : Int), r0, r1, r2, r3⟩) (i := x) (Int.natCast_nonneg n) (by simpa using hx)
      obtain ⟨hok5, hok6⟩ := HOK.out n x hx
      go_wp2
      refine region_fin (fun W => W.cell? ⟨w.heap.size, 2, none⟩ = some (.slice (some ⟨ga, oa, none⟩) LL.length c) ∧ W.cell? ⟨w.heap.size + 1, 0, none⟩ = some (.int .i64 (n : Int)) ∧ W.cell? ⟨ga, oa + t, none⟩ = some (.slice ax L.length cx)) 99 9 (by kernel_rfl) rfl ?_
      refine fin_take 0 (v := ?_) rfl (by kernel_rfl) (by kernel_rfl) (by kernel_rfl) (by kernel_rfl) (fun _ _ _ h => h) rfl ?_ qS ?_
      rotate_left
      · intro W hW
        go_simp
        (try with_reducible rfl)
      simp only [Act.put, List.setIfInBounds_toArray, List.set_cons_zero, List.set_cons_succ]
      refine fin_take 1 (v := ?_) rfl (by kernel_rfl) (by kernel_rfl) (by kernel_rfl) (by kernel_rfl) (fun _ _ _ h => h) rfl ?_ qS ?_
      rotate_left
      · intro W hW
        go_simp
        (try with_reducible rfl)
      simp only [Act.put, List.setIfInBounds_toArray, List.set_cons_zero, List.set_cons_succ]
      refine fin_take 2 (v := ?_) rfl (by kernel_rfl) (by kernel_rfl) (by kernel_rfl) (by kernel_rfl) (fun _ _ _ h => h) rfl ?_ qS ?_
      rotate_left
      · intro W hW
        go_simp
        (try with_reducible rfl)
      simp only [Act.put, List.setIfInBounds_toArray, List.set_cons_zero, List.set_cons_succ]
      refine fin_take 3 (v := ?_) rfl (by kernel_rfl) (by kernel_rfl) (by kernel_rfl) (by kernel_rfl) (fun _ _ _ h => h) rfl ?_ qS ?_
      rotate_left
      · intro W hW
        go_simp
        (try with_reducible rfl)
      simp only [Act.put, List.setIfInBounds_toArray, List.set_cons_zero, List.set_cons_succ]
      refine fin_take 4 (v := ?_) rfl (by kernel_rfl) (by kernel_rfl) (by kernel_rfl) (by kernel_rfl) (fun _ _ _ h => h) rfl ?_ qS ?_
      rotate_left
      · intro W hW
        go_simp
        (try with_reducible rfl)
      simp only [Act.put, List.setIfInBounds_toArray, List.set_cons_zero, List.set_cons_succ]
      refine fin_take 5 (v := ?_) rfl (by kernel_rfl) (by kernel_rfl) (by kernel_rfl) (by kernel_rfl) (fun _ _ _ h => h) rfl ?_ qS ?_
      rotate_left
      · intro W hW
        go_simp
        (try with_reducible rfl)
      simp only [Act.put, List.setIfInBounds_toArray, List.set_cons_zero, List.set_cons_succ]
      refine fin_take 6 (v := ?_) rfl (by kernel_rfl) (by kernel_rfl) (by kernel_rfl) (by kernel_rfl) (fun _ _ _ h => h) rfl ?_ qS ?_
      rotate_left
      · intro W hW
        go_simp
        (try with_reducible rfl)
      simp only [Act.put, List.setIfInBounds_toArray, List.set_cons_zero, List.set_cons_succ]
      refine fin_take 7 (v := ?_) rfl (by kernel_rfl) (by kernel_rfl) (by kernel_rfl) (by kernel_rfl) (fun _ _ _ h => h) rfl ?_ qS ?_
      rotate_left
      · intro W hW
        go_simp
        (try with_reducible rfl)
      simp only [Act.put, List.setIfInBounds_toArray, List.set_cons_zero, List.set_cons_succ]
      refine fin_take 8 (v := ?_) rfl (by kernel_rfl) (by kernel_rfl) (by kernel_rfl) (by kernel_rfl) (fun _ _ _ h => h) rfl ?_ qS ?_
      rotate_left
      · intro W hW
        go_simp
        (try with_reducible rfl)
      simp only [Act.put, List.setIfInBounds_toArray, List.set_cons_zero, List.set_cons_succ]
      refine fin_done (by kernel_rfl) (NoPanic.normal ?_)
      clear qS
      obtain ⟨gx, ox, rfl, hgx, hcell⟩ := (HX.out.on HO.out).at hx
      have qI : ∀ W, On wr W → W.cell? ⟨w.heap.size, 2, none⟩ = some (.slice (some ⟨ga, oa, none⟩) LL.length c) ∧ W.cell? ⟨w.heap.size + 1, 0, none⟩ = some (.int .i64 (n : Int)) ∧ W.cell? ⟨ga, oa + t, none⟩ = some (.slice (some ⟨gx, ox, none⟩) L.length cx) ∧ W.cell? ⟨gx, ox + n * 9, none⟩ = some (.int .i64 x.k) ∧ W.cell? ⟨gx, ox + n * 9 + 1, none⟩ = some (.int .i64 x.r) ∧ W.cell? ⟨gx, ox + n * 9 + 2, none⟩ = some (.int .i64 x.l) ∧ W.cell? ⟨gx, ox + n * 9 + 3, none⟩ = some (.int .i64 x.a.r) ∧ W.cell? ⟨gx, ox + n * 9 + 4, none⟩ = some (.int .i64 x.a.v) ∧ W.cell? ⟨gx, ox + n * 9 + 5, none⟩ = some (.int .i64 x.o) ∧ W.cell? ⟨gx, ox + n * 9 + 6, none⟩ = some (.int .i64 x.b.r) ∧ W.cell? ⟨gx, ox + n * 9 + 7, none⟩ = some (.int .i64 x.b.v) ∧ W.cell? ⟨gx, ox + n * 9 + 8, none⟩ = some (.int .i64 x.n) := fun W k => ⟨(PB.on k).at (i := 2) rfl, (CB.on k).at (i := 0) rfl, (k.cell (p := ⟨ga, oa + t, none⟩) (Nat.lt_of_lt_of_le hga HO.out.size)).trans u0, (k.cell (p := ⟨gx, ox + n * 9 + 0, none⟩) hgx).trans (hcell 0 _ rfl), (k.cell (p := ⟨gx, ox + n * 9 + 1, none⟩) hgx).trans (hcell 1 _ rfl), (k.cell (p := ⟨gx, ox + n * 9 + 2, none⟩) hgx).trans (hcell 2 _ rfl), (k.cell (p := ⟨gx, ox + n * 9 + 3, none⟩) hgx).trans (hcell 3 _ rfl), (k.cell (p := ⟨gx, ox + n * 9 + 4, none⟩) hgx).trans (hcell 4 _ rfl), (k.cell (p := ⟨gx, ox + n * 9 + 5, none⟩) hgx).trans (hcell 5 _ rfl), (k.cell (p := ⟨gx, ox + n * 9 + 6, none⟩) hgx).trans (hcell 6 _ rfl), (k.cell (p := ⟨gx, ox + n * 9 + 7, none⟩) hgx).trans (hcell 7 _ rfl), (k.cell (p := ⟨gx, ox + n * 9 + 8, none⟩) hgx).trans (hcell 8 _ rfl)⟩
      have q9 := qI _ (On.refl wr).drew.drew
      go_wp2
      refine region_fin (fun W => W.cell? ⟨w.heap.size, 2, none⟩ = some (.slice (some ⟨ga, oa, none⟩) LL.length c) ∧ W.cell? ⟨w.heap.size + 1, 0, none⟩ = some (.int .i64 (n : Int)) ∧ W.cell? ⟨ga, oa + t, none⟩ = some (.slice (some ⟨gx, ox, none⟩) L.length cx) ∧ W.cell? ⟨gx, ox + n * 9, none⟩ = some (.int .i64 x.k) ∧ W.cell? ⟨gx, ox + n * 9 + 1, none⟩ = some (.int .i64 x.r) ∧ W.cell? ⟨gx, ox + n * 9 + 2, none⟩ = some (.int .i64 x.l) ∧ W.cell? ⟨gx, ox + n * 9 + 3, none⟩ = some (.int .i64 x.a.r) ∧ W.cell? ⟨gx, ox + n * 9 + 4, none⟩ = some (.int .i64 x.a.v) ∧ W.cell? ⟨gx, ox + n * 9 + 5, none⟩ = some (.int .i64 x.o) ∧ W.cell? ⟨gx, ox + n * 9 + 6, none⟩ = some (.int .i64 x.b.r) ∧ W.cell? ⟨gx, ox + n * 9 + 7, none⟩ = some (.int .i64 x.b.v) ∧ W.cell? ⟨gx, ox + n * 9 + 8, none⟩ = some (.int .i64 x.n)) 10 11 (by kernel_rfl) rfl ?_
      refine fin_take 0 (v := ?_) rfl (by kernel_rfl) (by kernel_rfl) (by kernel_rfl) (by kernel_rfl) (fun _ _ _ h => h) rfl ?_ q9 ?_
      rotate_left
      · intro W hW
        go_simp
        (try with_reducible rfl)
      simp only [Act.put, List.setIfInBounds_toArray, List.set_cons_zero, List.set_cons_succ]
      refine fin_take 1 (v := ?_) rfl (by kernel_rfl) (by kernel_rfl) (by kernel_rfl) (by kernel_rfl) (fun _ _ _ h => h) rfl ?_ q9 ?_
      rotate_left
      · intro W hW
        go_simp
        (try with_reducible rfl)
      simp only [Act.put, List.setIfInBounds_toArray, List.set_cons_zero, List.set_cons_succ]
      refine fin_take 2 (v := ?_) rfl (by kernel_rfl) (by kernel_rfl) (by kernel_rfl) (by kernel_rfl) (fun _ _ _ h => h) rfl ?_ q9 ?_
      rotate_left
      · intro W hW
        go_simp
        (try with_reducible rfl)
      simp only [Act.put, List.setIfInBounds_toArray, List.set_cons_zero, List.set_cons_succ]
      refine fin_take 3 (v := ?_) rfl (by kernel_rfl) (by kernel_rfl) (by kernel_rfl) (by kernel_rfl) (fun _ _ _ h => h) rfl ?_ q9 ?_
      rotate_left
      · intro W hW
        go_simp
        (try with_reducible rfl)
      simp only [Act.put, List.setIfInBounds_toArray, List.set_cons_zero, List.set_cons_succ]
      refine fin_take 4 (v := ?_) rfl (by kernel_rfl) (by kernel_rfl) (by kernel_rfl) (by kernel_rfl) (fun _ _ _ h => h) rfl ?_ q9 ?_
      rotate_left
      · intro W hW
        go_simp
        (try with_reducible rfl)
      simp only [Act.put, List.setIfInBounds_toArray, List.set_cons_zero, List.set_cons_succ]
      refine fin_take 5 (v := ?_) rfl (by kernel_rfl) (by kernel_rfl) (by kernel_rfl) (by kernel_rfl) (fun _ _ _ h => h) rfl ?_ q9 ?_
      rotate_left
      · intro W hW
        go_simp
        (try with_reducible rfl)
      simp only [Act.put, List.setIfInBounds_toArray, List.set_cons_zero, List.set_cons_succ]
      refine fin_take 6 (v := ?_) rfl (by kernel_rfl) (by kernel_rfl) (by kernel_rfl) (by kernel_rfl) (fun _ _ _ h => h) rfl ?_ q9 ?_
      rotate_left
      · intro W hW
        go_simp
        (try with_reducible rfl)
      simp only [Act.put, List.setIfInBounds_toArray, List.set_cons_zero, List.set_cons_succ]
      refine fin_take 7 (v := ?_) rfl (by kernel_rfl) (by kernel_rfl) (by kernel_rfl) (by kernel_rfl) (fun _ _ _ h => h) rfl ?_ q9 ?_
      rotate_left
      · intro W hW
        go_simp
        (try with_reducible rfl)
      simp only [Act.put, List.setIfInBounds_toArray, List.set_cons_zero, List.set_cons_succ]
      refine fin_take 8 (v := ?_) rfl (by kernel_rfl) (by kernel_rfl) (by kernel_rfl) (by kernel_rfl) (fun _ _ _ h => h) rfl ?_ q9 ?_
      rotate_left
      · intro W hW
        go_simp
        (try with_reducible rfl)
      simp only [Act.put, List.setIfInBounds_toArray, List.set_cons_zero, List.set_cons_succ]
      refine fin_one 9 rfl rfl (by kernel_rfl) (fun K hK => ?_)
      go_simp
      refine hK.out _ _ (fun _ => qI _ (((On.refl wr).drew.drew).alloc _)) ?_
      clear hK
      refine fin_one 10 rfl rfl (by kernel_rfl) (fun K hK => ?_)
      go_simp
      refine hK.out _ _ (fun h => absurd rfl h) ?_
      refine fin_done (by kernel_rfl) (NoPanic.normal ?_)
      obtain ⟨W1, hW1⟩ : ∃ W1, W1 = (wr.alloc (.cells #[.int .i64 x.k, .int .i64 x.r, .int .i64 x.l, .int .i64 x.a.r, .int .i64 x.a.v, .int .i64 x.o, .int .i64 x.b.r, .int .i64 x.b.v, .int .i64 x.n] 107)).drew.drew := ⟨_, rfl⟩
      have k1 : On wr W1 := by rw [hW1]; exact ((On.refl wr).alloc _).drew.drew
      have I1 : Bk W1 wr.heap.size #[.int .i64 x.k, .int .i64 x.r, .int .i64 x.l, .int .i64 x.a.r, .int .i64 x.a.v, .int .i64 x.o, .int .i64 x.b.r, .int .i64 x.b.v, .int .i64 x.n] := by rw [hW1]; exact Bk.new wr _ _
      have P1 := PB.on k1
      have C1 := CB.on k1
      have Z1 := ZB.on k1
      have O1 : On w W1 := HO.out.trans k1
      rw [← hW1]
      clear hW1 q9 qI hcell u0 c0 q2 PB CB ZB
      have hS : ∀ W, On W1 W → W.cell? ⟨w.heap.size + 1, 0, none⟩ = some (.int .i64 (n : Int)) ∧ W.cell? ⟨w.heap.size + 1, 1, none⟩ = some (.int .i64 r0) ∧ W.cell? ⟨w.heap.size + 1, 2, none⟩ = some (.int .i64 r1) ∧ W.cell? ⟨w.heap.size + 1, 3, none⟩ = some (.int .i64 r2) ∧ W.cell? ⟨w.heap.size + 1, 4, none⟩ = some (.int .i64 r3) ∧ W.cell? ⟨wr.heap.size, 0, none⟩ = some (.int .i64 x.k) ∧ W.cell? ⟨wr.heap.size, 1, none⟩ = some (.int .i64 x.r) ∧ W.cell? ⟨wr.heap.size, 2, none⟩ = some (.int .i64 x.l) ∧ W.cell? ⟨wr.heap.size, 3, none⟩ = some (.int .i64 x.a.r) ∧ W.cell? ⟨wr.heap.size, 4, none⟩ = some (.int .i64 x.a.v) ∧ W.cell? ⟨wr.heap.size, 5, none⟩ = some (.int .i64 x.o) ∧ W.cell? ⟨wr.heap.size, 6, none⟩ = some (.int .i64 x.b.r) ∧ W.cell? ⟨wr.heap.size, 7, none⟩ = some (.int .i64 x.b.v) ∧ W.cell? ⟨wr.heap.size, 8, none⟩ = some (.int .i64 x.n) := fun W k => ⟨(C1.on k).at (i := 0) rfl, (C1.on k).at (i := 1) rfl, (C1.on k).at (i := 2) rfl, (C1.on k).at (i := 3) rfl, (C1.on k).at (i := 4) rfl, (I1.on k).at (i := 0) rfl, (I1.on k).at (i := 1) rfl, (I1.on k).at (i := 2) rfl, (I1.on k).at (i := 3) rfl, (I1.on k).at (i := 4) rfl, (I1.on k).at (i := 5) rfl, (I1.on k).at (i := 6) rfl, (I1.on k).at (i := 7) rfl, (I1.on k).at (i := 8) rfl⟩
      have hVa := fun W => rvalue_is x.a ⟨(n : Int), r0, r1, r2, r3⟩ W
      have hVb := fun W => rvalue_is x.b ⟨(n : Int), r0, r1, r2, r3⟩ W
      unfold locV at hVa hVb
      have hwr : w.heap.size + 1 + 1 < wr.heap.size := zl
      have hne : ¬ wr.heap.size = w.heap.size := by omega
      have hne' : ¬ wr.heap.size = w.heap.size + 1 := by omega
      have il := I1.lt
      have wl1 : w.heap.size < W1.heap.size := by omega
      have wl2 : w.heap.size + 1 < W1.heap.size := by omega
      have wl3 : w.heap.size + 1 + 1 < W1.heap.size := by omega
      obtain ⟨y0, y1, y2, y3, y4, y5, y6, y7, y8, y9, y10, y11, y12, y13⟩ := hS _ (On.refl W1)
      cases h5 : (x.k == 5) with
      | true =>
        rw [h5] at hst
        simp only [if_true] at hst
        have hreg := hok5 (by simpa using h5)
        have h0 : ((x.o == 0) = true ∧ resOf x ⟨(n : Int), r0, r1, r2, r3⟩ = valOf x.a ⟨(n : Int), r0, r1, r2, r3⟩) ∨ ((x.o == 0) = false ∧ resOf x ⟨(n : Int), r0, r1, r2, r3⟩ = doV x.o (valOf x.a ⟨(n : Int), r0, r1, r2, r3⟩) (valOf x.b ⟨(n : Int), r0, r1, r2, r3⟩)) := by
          cases ho : (x.o == 0)
          · exact Or.inr ⟨rfl, by unfold resOf; rw [ho]; rfl⟩
          · exact Or.inl ⟨rfl, by unfold resOf; rw [ho]; rfl⟩
        have HS1 : Hid (R = locV (settleP L (pcTo (withR ⟨(n : Int), r0, r1, r2, r3⟩ x.r (resOf x ⟨(n : Int), r0, r1, r2, r3⟩)) ((n : Int) + 1)))) := HS.out.trans (congrArg locV hst)
        clear hst HS hok5 hok6
        rcases h0 with ⟨ho, hres⟩ | ⟨ho, hres⟩
        · rw [hres] at HS1
          generalize valOf x.a ⟨(n : Int), r0, r1, r2, r3⟩ = va at *
          have hob : (x.o != 0) = false := by rw [bne, ho]; rfl
          clear hres
          rcases regOk_four hreg with hr | hr | hr | hr
          · have HS2 : Hid (R = locV (settleP L ⟨((n + 1 : Nat) : Int), va, r1, r2, r3⟩)) := by
              show R = _
              rw [HS1.out, hr]
              rfl
            clear HS1 hreg
            go_wp2_with fail
            refine (hVa _).mono ?_
            rintro _ w3 ⟨rfl, k3⟩
            obtain ⟨y0, y1, y2, y3, y4, y5, y6, y7, y8, y9, y10, y11, y12, y13⟩ := hS _ k3
            have C2 := C1.on k3
            have P2 := P1.on k3
            have Z2 := Z1.on k3
            have I2 := I1.on k3
            have O2 := O1.trans k3
            have cf := fun i => C2.fr i
            have c3l := C2.lt
            have i3l := I2.lt
            go_wp2
            go_roundg (L.length - (n + 1))
            case measure => omega
            case rel => exact ⟨n + 1, va, r1, r2, r3, rfl, (O2.setNew (by omega) _).setNew (by omega) _, (P2.far (by omega) _ _).far (by omega) _ _, Bk.put (cs := [.int .i64 (n : Int), .int .i64 va, .int .i64 r1, .int .i64 r2, .int .i64 r3]) (C2.put (cs := [.int .i64 (n : Int), .int .i64 r0, .int .i64 r1, .int .i64 r2, .int .i64 r3]) 1 (.int .i64 va)) 0 (.int .i64 ((n + 1 : Nat) : Int)), (Z2.far (by omega) _ _).far (by omega) _ _, HS2⟩
          · have HS2 : Hid (R = locV (settleP L ⟨((n + 1 : Nat) : Int), r0, va, r2, r3⟩)) := by
              show R = _
              rw [HS1.out, hr]
              rfl
            clear HS1 hreg
            go_wp2_with fail
            refine (hVa _).mono ?_
            rintro _ w3 ⟨rfl, k3⟩
            obtain ⟨y0, y1, y2, y3, y4, y5, y6, y7, y8, y9, y10, y11, y12, y13⟩ := hS _ k3
            have C2 := C1.on k3
            have P2 := P1.on k3
            have Z2 := Z1.on k3
            have I2 := I1.on k3
            have O2 := O1.trans k3
            have cf := fun i => C2.fr i
            have c3l := C2.lt
            have i3l := I2.lt
            go_wp2
            go_roundg (L.length - (n + 1))
            case measure => omega
            case rel => exact ⟨n + 1, r0, va, r2, r3, rfl, (O2.setNew (by omega) _).setNew (by omega) _, (P2.far (by omega) _ _).far (by omega) _ _, Bk.put (cs := [.int .i64 (n : Int), .int .i64 r0, .int .i64 va, .int .i64 r2, .int .i64 r3]) (C2.put (cs := [.int .i64 (n : Int), .int .i64 r0, .int .i64 r1, .int .i64 r2, .int .i64 r3]) 2 (.int .i64 va)) 0 (.int .i64 ((n + 1 : Nat) : Int)), (Z2.far (by omega) _ _).far (by omega) _ _, HS2⟩
          · have HS2 : Hid (R = locV (settleP L ⟨((n + 1 : Nat) : Int), r0, r1, va, r3⟩)) := by
              show R = _
              rw [HS1.out, hr]
              rfl
            clear HS1 hreg
            go_wp2_with fail
            refine (hVa _).mono ?_
            rintro _ w3 ⟨rfl, k3⟩
            obtain ⟨y0, y1, y2, y3, y4, y5, y6, y7, y8, y9, y10, y11, y12, y13⟩ := hS _ k3
            have C2 := C1.on k3
            have P2 := P1.on k3
            have Z2 := Z1.on k3
            have I2 := I1.on k3
            have O2 := O1.trans k3
            have cf := fun i => C2.fr i
            have c3l := C2.lt
            have i3l := I2.lt
            go_wp2
            go_roundg (L.length - (n + 1))
            case measure => omega
            case rel => exact ⟨n + 1, r0, r1, va, r3, rfl, (O2.setNew (by omega) _).setNew (by omega) _, (P2.far (by omega) _ _).far (by omega) _ _, Bk.put (cs := [.int .i64 (n : Int), .int .i64 r0, .int .i64 r1, .int .i64 va, .int .i64 r3]) (C2.put (cs := [.int .i64 (n : Int), .int .i64 r0, .int .i64 r1, .int .i64 r2, .int .i64 r3]) 3 (.int .i64 va)) 0 (.int .i64 ((n + 1 : Nat) : Int)), (Z2.far (by omega) _ _).far (by omega) _ _, HS2⟩
          · have HS2 : Hid (R = locV (settleP L ⟨((n + 1 : Nat) : Int), r0, r1, r2, va⟩)) := by
              show R = _
              rw [HS1.out, hr]
              rfl
            clear HS1 hreg
            go_wp2_with fail
            refine (hVa _).mono ?_
            rintro _ w3 ⟨rfl, k3⟩
            obtain ⟨y0, y1, y2, y3, y4, y5, y6, y7, y8, y9, y10, y11, y12, y13⟩ := hS _ k3
            have C2 := C1.on k3
            have P2 := P1.on k3
            have Z2 := Z1.on k3
            have I2 := I1.on k3
            have O2 := O1.trans k3
            have cf := fun i => C2.fr i
            have c3l := C2.lt
            have i3l := I2.lt
            go_wp2
            go_roundg (L.length - (n + 1))
            case measure => omega
            case rel => exact ⟨n + 1, r0, r1, r2, va, rfl, (O2.setNew (by omega) _).setNew (by omega) _, (P2.far (by omega) _ _).far (by omega) _ _, Bk.put (cs := [.int .i64 (n : Int), .int .i64 r0, .int .i64 r1, .int .i64 r2, .int .i64 va]) (C2.put (cs := [.int .i64 (n : Int), .int .i64 r0, .int .i64 r1, .int .i64 r2, .int .i64 r3]) 4 (.int .i64 va)) 0 (.int .i64 ((n + 1 : Nat) : Int)), (Z2.far (by omega) _ _).far (by omega) _ _, HS2⟩
        · rw [hres] at HS1
          have hob : (x.o != 0) = true := by rw [bne, ho]; rfl
          have hDo := fun W => rdo_any x.o (valOf x.a ⟨(n : Int), r0, r1, r2, r3⟩) (valOf x.b ⟨(n : Int), r0, r1, r2, r3⟩) W
          generalize doV x.o (valOf x.a ⟨(n : Int), r0, r1, r2, r3⟩) (valOf x.b ⟨(n : Int), r0, r1, r2, r3⟩) = vd at *
          generalize valOf x.a ⟨(n : Int), r0, r1, r2, r3⟩ = va at *
          generalize valOf x.b ⟨(n : Int), r0, r1, r2, r3⟩ = vb at *
          generalize doB x.o = bo at *
          clear hres
          rcases regOk_four hreg with hr | hr | hr | hr
          · have HS2 : Hid (R = locV (settleP L ⟨((n + 1 : Nat) : Int), vd, r1, r2, r3⟩)) := by
              show R = _
              rw [HS1.out, hr]
              rfl
            clear HS1 hreg
            go_wp2_with fail
            refine (hVa _).mono ?_
            rintro _ w2 ⟨rfl, k2⟩
            obtain ⟨y0, y1, y2, y3, y4, y5, y6, y7, y8, y9, y10, y11, y12, y13⟩ := hS _ k2
            have q2 := hS _ k2.drew
            have i2l := Nat.lt_of_lt_of_le il k2.size
            have c2l := Nat.lt_of_lt_of_le wl2 k2.size
            go_wp2
            refine region_fin (fun W => W.cell? ⟨w.heap.size + 1, 0, none⟩ = some (.int .i64 (n : Int)) ∧ W.cell? ⟨w.heap.size + 1, 1, none⟩ = some (.int .i64 r0) ∧ W.cell? ⟨w.heap.size + 1, 2, none⟩ = some (.int .i64 r1) ∧ W.cell? ⟨w.heap.size + 1, 3, none⟩ = some (.int .i64 r2) ∧ W.cell? ⟨w.heap.size + 1, 4, none⟩ = some (.int .i64 r3) ∧ W.cell? ⟨wr.heap.size, 0, none⟩ = some (.int .i64 x.k) ∧ W.cell? ⟨wr.heap.size, 1, none⟩ = some (.int .i64 x.r) ∧ W.cell? ⟨wr.heap.size, 2, none⟩ = some (.int .i64 x.l) ∧ W.cell? ⟨wr.heap.size, 3, none⟩ = some (.int .i64 x.a.r) ∧ W.cell? ⟨wr.heap.size, 4, none⟩ = some (.int .i64 x.a.v) ∧ W.cell? ⟨wr.heap.size, 5, none⟩ = some (.int .i64 x.o) ∧ W.cell? ⟨wr.heap.size, 6, none⟩ = some (.int .i64 x.b.r) ∧ W.cell? ⟨wr.heap.size, 7, none⟩ = some (.int .i64 x.b.v) ∧ W.cell? ⟨wr.heap.size, 8, none⟩ = some (.int .i64 x.n)) 99 12 (by kernel_rfl) rfl ?_
            refine fin_take 0 (v := ?_) rfl (by kernel_rfl) (by kernel_rfl) (by kernel_rfl) (by kernel_rfl) (fun _ _ _ h => h) rfl ?_ q2 ?_
            rotate_left
            · intro W hW
              go_simp
              (try with_reducible rfl)
            simp only [Act.put, List.setIfInBounds_toArray, List.set_cons_zero, List.set_cons_succ]
            refine fin_take 1 (v := ?_) rfl (by kernel_rfl) (by kernel_rfl) (by kernel_rfl) (by kernel_rfl) (fun _ _ _ h => h) rfl ?_ q2 ?_
            rotate_left
            · intro W hW
              go_simp
              (try with_reducible rfl)
            simp only [Act.put, List.setIfInBounds_toArray, List.set_cons_zero, List.set_cons_succ]
            refine fin_take 2 (v := ?_) rfl (by kernel_rfl) (by kernel_rfl) (by kernel_rfl) (by kernel_rfl) (fun _ _ _ h => h) rfl ?_ q2 ?_
            rotate_left
            · intro W hW
              go_simp
              (try with_reducible rfl)
            simp only [Act.put, List.setIfInBounds_toArray, List.set_cons_zero, List.set_cons_succ]
            refine fin_take 3 (v := ?_) rfl (by kernel_rfl) (by kernel_rfl) (by kernel_rfl) (by kernel_rfl) (fun _ _ _ h => h) rfl ?_ q2 ?_
            rotate_left
            · intro W hW
              go_simp
              (try with_reducible rfl)
            simp only [Act.put, List.setIfInBounds_toArray, List.set_cons_zero, List.set_cons_succ]
            refine fin_take 4 (v := ?_) rfl (by kernel_rfl) (by kernel_rfl) (by kernel_rfl) (by kernel_rfl) (fun _ _ _ h => h) rfl ?_ q2 ?_
            rotate_left
            · intro W hW
              go_simp
              (try with_reducible rfl)
            simp only [Act.put, List.setIfInBounds_toArray, List.set_cons_zero, List.set_cons_succ]
            refine fin_take 5 (v := ?_) rfl (by kernel_rfl) (by kernel_rfl) (by kernel_rfl) (by kernel_rfl) (fun _ _ _ h => h) rfl ?_ q2 ?_
            rotate_left
            · intro W hW
              go_simp
              (try with_reducible rfl)
            simp only [Act.put, List.setIfInBounds_toArray, List.set_cons_zero, List.set_cons_succ]
            refine fin_one 6 rfl rfl (by kernel_rfl) (fun K hK => ?_)
            go_simp
            refine (hVb _).mono ?_
            rintro _ w3 ⟨rfl, k3'⟩
            have k3 : On W1 w3 := k2.drew.trans k3'
            have q3 := hS _ k3
            refine hK.out _ _ (fun _ => q3) ?_
            clear hK
            refine fin_one 7 rfl rfl (by kernel_rfl) (fun K hK => ?_)
            go_simp
            refine (hDo _).mono ?_
            rintro _ w4 ⟨rfl, hw4⟩
            subst w4
            refine hK.out _ _ (fun _ => q3) ?_
            clear hK
            refine fin_take 8 (v := ?_) rfl (by kernel_rfl) (by kernel_rfl) (by kernel_rfl) (by kernel_rfl) (fun _ _ _ h => h) rfl ?_ q3 ?_
            rotate_left
            · intro W hW
              go_simp
              (try with_reducible rfl)
            simp only [Act.put, List.setIfInBounds_toArray, List.set_cons_zero, List.set_cons_succ]
            refine fin_take 9 (v := ?_) rfl (by kernel_rfl) (by kernel_rfl) (by kernel_rfl) (by kernel_rfl) (fun _ _ _ h => h) rfl ?_ q3 ?_
            rotate_left
            · intro W hW
              go_simp
              (try with_reducible rfl)
            simp only [Act.put, List.setIfInBounds_toArray, List.set_cons_zero, List.set_cons_succ]
            refine fin_take 10 (v := ?_) rfl (by kernel_rfl) (by kernel_rfl) (by kernel_rfl) (by kernel_rfl) (fun _ _ _ h => h) rfl ?_ q3 ?_
            rotate_left
            · intro W hW
              go_simp
              (try with_reducible rfl)
            simp only [Act.put, List.setIfInBounds_toArray, List.set_cons_zero, List.set_cons_succ]
            refine fin_take 11 (v := ?_) rfl (by kernel_rfl) (by kernel_rfl) (by kernel_rfl) (by kernel_rfl) (fun _ _ _ h => h) rfl ?_ q3 ?_
            rotate_left
            · intro W hW
              go_simp
              (try with_reducible rfl)
            simp only [Act.put, List.setIfInBounds_toArray, List.set_cons_zero, List.set_cons_succ]
            refine fin_done (by kernel_rfl) (NoPanic.normal ?_)
            obtain ⟨y0, y1, y2, y3, y4, y5, y6, y7, y8, y9, y10, y11, y12, y13⟩ := q3
            have C2 := C1.on k3
            have P2 := P1.on k3
            have Z2 := Z1.on k3
            have I2 := I1.on k3
            have O2 := O1.trans k3
            have cf := fun i => C2.fr i
            have c3l := C2.lt
            have i3l := I2.lt
            go_wp2
            go_roundg (L.length - (n + 1))
            case measure => omega
            case rel => exact ⟨n + 1, vd, r1, r2, r3, rfl, (O2.setNew (by omega) _).setNew (by omega) _, (P2.far (by omega) _ _).far (by omega) _ _, Bk.put (cs := [.int .i64 (n : Int), .int .i64 vd, .int .i64 r1, .int .i64 r2, .int .i64 r3]) (C2.put (cs := [.int .i64 (n : Int), .int .i64 r0, .int .i64 r1, .int .i64 r2, .int .i64 r3]) 1 (.int .i64 vd)) 0 (.int .i64 ((n + 1 : Nat) : Int)), (Z2.far (by omega) _ _).far (by omega) _ _, HS2⟩
          · have HS2 : Hid (R = locV (settleP L ⟨((n + 1 : Nat) : Int), r0, vd, r2, r3⟩)) := by
              show R = _
              rw [HS1.out, hr]
              rfl
            clear HS1 hreg
            go_wp2_with fail
            refine (hVa _).mono ?_
            rintro _ w2 ⟨rfl, k2⟩
            obtain ⟨y0, y1, y2, y3, y4, y5, y6, y7, y8, y9, y10, y11, y12, y13⟩ := hS _ k2
            have q2 := hS _ k2.drew
            have i2l := Nat.lt_of_lt_of_le il k2.size
            have c2l := Nat.lt_of_lt_of_le wl2 k2.size
            go_wp2
            refine region_fin (fun W => W.cell? ⟨w.heap.size + 1, 0, none⟩ = some (.int .i64 (n : Int)) ∧ W.cell? ⟨w.heap.size + 1, 1, none⟩ = some (.int .i64 r0) ∧ W.cell? ⟨w.heap.size + 1, 2, none⟩ = some (.int .i64 r1) ∧ W.cell? ⟨w.heap.size + 1, 3, none⟩ = some (.int .i64 r2) ∧ W.cell? ⟨w.heap.size + 1, 4, none⟩ = some (.int .i64 r3) ∧ W.cell? ⟨wr.heap.size, 0, none⟩ = some (.int .i64 x.k) ∧ W.cell? ⟨wr.heap.size, 1, none⟩ = some (.int .i64 x.r) ∧ W.cell? ⟨wr.heap.size, 2, none⟩ = some (.int .i64 x.l) ∧ W.cell? ⟨wr.heap.size, 3, none⟩ = some (.int .i64 x.a.r) ∧ W.cell? ⟨wr.heap.size, 4, none⟩ = some (.int .i64 x.a.v) ∧ W.cell? ⟨wr.heap.size, 5, none⟩ = some (.int .i64 x.o) ∧ W.cell? ⟨wr.heap.size, 6, none⟩ = some (.int .i64 x.b.r) ∧ W.cell? ⟨wr.heap.size, 7, none⟩ = some (.int .i64 x.b.v) ∧ W.cell? ⟨wr.heap.size, 8, none⟩ = some (.int .i64 x.n)) 99 12 (by kernel_rfl) rfl ?_
            refine fin_take 0 (v := ?_) rfl (by kernel_rfl) (by kernel_rfl) (by kernel_rfl) (by kernel_rfl) (fun _ _ _ h => h) rfl ?_ q2 ?_
            rotate_left
            · intro W hW
              go_simp
              (try with_reducible rfl)
            simp only [Act.put, List.setIfInBounds_toArray, List.set_cons_zero, List.set_cons_succ]
            refine fin_take 1 (v := ?_) rfl (by kernel_rfl) (by kernel_rfl) (by kernel_rfl) (by kernel_rfl) (fun _ _ _ h => h) rfl ?_ q2 ?_
            rotate_left
            · intro W hW
              go_simp
              (try with_reducible rfl)
            simp only [Act.put, List.setIfInBounds_toArray, List.set_cons_zero, List.set_cons_succ]
            refine fin_take 2 (v := ?_) rfl (by kernel_rfl) (by kernel_rfl) (by kernel_rfl) (by kernel_rfl) (fun _ _ _ h => h) rfl ?_ q2 ?_
            rotate_left
            · intro W hW
              go_simp
              (try with_reducible rfl)
            simp only [Act.put, List.setIfInBounds_toArray, List.set_cons_zero, List.set_cons_succ]
            refine fin_take 3 (v := ?_) rfl (by kernel_rfl) (by kernel_rfl) (by kernel_rfl) (by kernel_rfl) (fun _ _ _ h => h) rfl ?_ q2 ?_
            rotate_left
            · intro W hW
              go_simp
              (try with_reducible rfl)
            simp only [Act.put, List.setIfInBounds_toArray, List.set_cons_zero, List.set_cons_succ]
            refine fin_take 4 (v := ?_) rfl (by kernel_rfl) (by kernel_rfl) (by kernel_rfl) (by kernel_rfl) (fun _ _ _ h => h) rfl ?_ q2 ?_
            rotate_left
            · intro W hW
              go_simp
              (try with_reducible rfl)
            simp only [Act.put, List.setIfInBounds_toArray, List.set_cons_zero, List.set_cons_succ]
            refine fin_take 5 (v := ?_) rfl (by kernel_rfl) (by kernel_rfl) (by kernel_rfl) (by kernel_rfl) (fun _ _ _ h => h) rfl ?_ q2 ?_
            rotate_left
            · intro W hW
              go_simp
              (try with_reducible rfl)
            simp only [Act.put, List.setIfInBounds_toArray, List.set_cons_zero, List.set_cons_succ]
            refine fin_one 6 rfl rfl (by kernel_rfl) (fun K hK => ?_)
            go_simp
            refine (hVb _).mono ?_
            rintro _ w3 ⟨rfl, k3'⟩
            have k3 : On W1 w3 := k2.drew.trans k3'
            have q3 := hS _ k3
            refine hK.out _ _ (fun _ => q3) ?_
            clear hK
            refine fin_one 7 rfl rfl (by kernel_rfl) (fun K hK => ?_)
            go_simp
            refine (hDo _).mono ?_
            rintro _ w4 ⟨rfl, hw4⟩
            subst w4
            refine hK.out _ _ (fun _ => q3) ?_
            clear hK
            refine fin_take 8 (v := ?_) rfl (by kernel_rfl) (by kernel_rfl) (by kernel_rfl) (by kernel_rfl) (fun _ _ _ h => h) rfl ?_ q3 ?_
            rotate_left
            · intro W hW
              go_simp
              (try with_reducible rfl)
            simp only [Act.put, List.setIfInBounds_toArray, List.set_cons_zero, List.set_cons_succ]
            refine fin_take 9 (v := ?_) rfl (by kernel_rfl) (by kernel_rfl) (by kernel_rfl) (by kernel_rfl) (fun _ _ _ h => h) rfl ?_ q3 ?_
            rotate_left
            · intro W hW
              go_simp
              (try with_reducible rfl)
            simp only [Act.put, List.setIfInBounds_toArray, List.set_cons_zero, List.set_cons_succ]
            refine fin_take 10 (v := ?_) rfl (by kernel_rfl) (by kernel_rfl) (by kernel_rfl) (by kernel_rfl) (fun _ _ _ h => h) rfl ?_ q3 ?_
            rotate_left
            · intro W hW
              go_simp
              (try with_reducible rfl)
            simp only [Act.put, List.setIfInBounds_toArray, List.set_cons_zero, List.set_cons_succ]
            refine fin_take 11 (v := ?_) rfl (by kernel_rfl) (by kernel_rfl) (by kernel_rfl) (by kernel_rfl) (fun _ _ _ h => h) rfl ?_ q3 ?_
            rotate_left
            · intro W hW
              go_simp
              (try with_reducible rfl)
            simp only [Act.put, List.setIfInBounds_toArray, List.set_cons_zero, List.set_cons_succ]
            refine fin_done (by kernel_rfl) (NoPanic.normal ?_)
            obtain ⟨y0, y1, y2, y3, y4, y5, y6, y7, y8, y9, y10, y11, y12, y13⟩ := q3
            have C2 := C1.on k3
            have P2 := P1.on k3
            have Z2 := Z1.on k3
            have I2 := I1.on k3
            have O2 := O1.trans k3
            have cf := fun i => C2.fr i
            have c3l := C2.lt
            have i3l := I2.lt
            go_wp2
            go_roundg (L.length - (n + 1))
            case measure => omega
            case rel => exact ⟨n + 1, r0, vd, r2, r3, rfl, (O2.setNew (by omega) _).setNew (by omega) _, (P2.far (by omega) _ _).far (by omega) _ _, Bk.put (cs := [.int .i64 (n : Int), .int .i64 r0, .int .i64 vd, .int .i64 r2, .int .i64 r3]) (C2.put (cs := [.int .i64 (n : Int), .int .i64 r0, .int .i64 r1, .int .i64 r2, .int .i64 r3]) 2 (.int .i64 vd)) 0 (.int .i64 ((n + 1 : Nat) : Int)), (Z2.far (by omega) _ _).far (by omega) _ _, HS2⟩
          · have HS2 : Hid (R = locV (settleP L ⟨((n + 1 : Nat) : Int), r0, r1, vd, r3⟩)) := by
              show R = _
              rw [HS1.out, hr]
              rfl
            clear HS1 hreg
            go_wp2_with fail
            refine (hVa _).mono ?_
            rintro _ w2 ⟨rfl, k2⟩
            obtain ⟨y0, y1, y2, y3, y4, y5, y6, y7, y8, y9, y10, y11, y12, y13⟩ := hS _ k2
            have q2 := hS _ k2.drew
            have i2l := Nat.lt_of_lt_of_le il k2.size
            have c2l := Nat.lt_of_lt_of_le wl2 k2.size
            go_wp2
            refine region_fin (fun W => W.cell? ⟨w.heap.size + 1, 0, none⟩ = some (.int .i64 (n : Int)) ∧ W.cell? ⟨w.heap.size + 1, 1, none⟩ = some (.int .i64 r0) ∧ W.cell? ⟨w.heap.size + 1, 2, none⟩ = some (.int .i64 r1) ∧ W.cell? ⟨w.heap.size + 1, 3, none⟩ = some (.int .i64 r2) ∧ W.cell? ⟨w.heap.size + 1, 4, none⟩ = some (.int .i64 r3) ∧ W.cell? ⟨wr.heap.size, 0, none⟩ = some (.int .i64 x.k) ∧ W.cell? ⟨wr.heap.size, 1, none⟩ = some (.int .i64 x.r) ∧ W.cell? ⟨wr.heap.size, 2, none⟩ = some (.int .i64 x.l) ∧ W.cell? ⟨wr.heap.size, 3, none⟩ = some (.int .i64 x.a.r) ∧ W.cell? ⟨wr.heap.size, 4, none⟩ = some (.int .i64 x.a.v) ∧ W.cell? ⟨wr.heap.size, 5, none⟩ = some (.int .i64 x.o) ∧ W.cell? ⟨wr.heap.size, 6, none⟩ = some (.int .i64 x.b.r) ∧ W.cell? ⟨wr.heap.size, 7, none⟩ = some (.int .i64 x.b.v) ∧ W.cell? ⟨wr.heap.size, 8, none⟩ = some (.int .i64 x.n)) 99 12 (by kernel_rfl) rfl ?_
            refine fin_take 0 (v := ?_) rfl (by kernel_rfl) (by kernel_rfl) (by kernel_rfl) (by kernel_rfl) (fun _ _ _ h => h) rfl ?_ q2 ?_
            rotate_left
            · intro W hW
              go_simp
              (try with_reducible rfl)
            simp only [Act.put, List.setIfInBounds_toArray, List.set_cons_zero, List.set_cons_succ]
            refine fin_take 1 (v := ?_) rfl (by kernel_rfl) (by kernel_rfl) (by kernel_rfl) (by kernel_rfl) (fun _ _ _ h => h) rfl ?_ q2 ?_
            rotate_left
            · intro W hW
              go_simp
              (try with_reducible rfl)
            simp only [Act.put, List.setIfInBounds_toArray, List.set_cons_zero, List.set_cons_succ]
            refine fin_take 2 (v := ?_) rfl (by kernel_rfl) (by kernel_rfl) (by kernel_rfl) (by kernel_rfl) (fun _ _ _ h => h) rfl ?_ q2 ?_
            rotate_left
            · intro W hW
              go_simp
              (try with_reducible rfl)
            simp only [Act.put, List.setIfInBounds_toArray, List.set_cons_zero, List.set_cons_succ]
            refine fin_take 3 (v := ?_) rfl (by kernel_rfl) (by kernel_rfl) (by kernel_rfl) (by kernel_rfl) (fun _ _ _ h => h) rfl ?_ q2 ?_
            rotate_left
            · intro W hW
              go_simp
              (try with_reducible rfl)
            simp only [Act.put, List.setIfInBounds_toArray, List.set_cons_zero, List.set_cons_succ]
            refine fin_take 4 (v := ?_) rfl (by kernel_rfl) (by kernel_rfl) (by kernel_rfl) (by kernel_rfl) (fun _ _ _ h => h) rfl ?_ q2 ?_
            rotate_left
            · intro W hW
              go_simp
              (try with_reducible rfl)
            simp only [Act.put, List.setIfInBounds_toArray, List.set_cons_zero, List.set_cons_succ]
            refine fin_take 5 (v := ?_) rfl (by kernel_rfl) (by kernel_rfl) (by kernel_rfl) (by kernel_rfl) (fun _ _ _ h => h) rfl ?_ q2 ?_
            rotate_left
            · intro W hW
              go_simp
              (try with_reducible rfl)
            simp only [Act.put, List.setIfInBounds_toArray, List.set_cons_zero, List.set_cons_succ]
            refine fin_one 6 rfl rfl (by kernel_rfl) (fun K hK => ?_)
            go_simp
            refine (hVb _).mono ?_
            rintro _ w3 ⟨rfl, k3'⟩
            have k3 : On W1 w3 := k2.drew.trans k3'
            have q3 := hS _ k3
            refine hK.out _ _ (fun _ => q3) ?_
            clear hK
            refine fin_one 7 rfl rfl (by kernel_rfl) (fun K hK => ?_)
            go_simp
            refine (hDo _).mono ?_
            rintro _ w4 ⟨rfl, hw4⟩
            subst w4
            refine hK.out _ _ (fun _ => q3) ?_
            clear hK
            refine fin_take 8 (v := ?_) rfl (by kernel_rfl) (by kernel_rfl) (by kernel_rfl) (by kernel_rfl) (fun _ _ _ h => h) rfl ?_ q3 ?_
            rotate_left
            · intro W hW
              go_simp
              (try with_reducible rfl)
            simp only [Act.put, List.setIfInBounds_toArray, List.set_cons_zero, List.set_cons_succ]
            refine fin_take 9 (v := ?_) rfl (by kernel_rfl) (by kernel_rfl) (by kernel_rfl) (by kernel_rfl) (fun _ _ _ h => h) rfl ?_ q3 ?_
            rotate_left
            · intro W hW
              go_simp
              (try with_reducible rfl)
            simp only [Act.put, List.setIfInBounds_toArray, List.set_cons_zero, List.set_cons_succ]
            refine fin_take 10 (v := ?_) rfl (by kernel_rfl) (by kernel_rfl) (by kernel_rfl) (by kernel_rfl) (fun _ _ _ h => h) rfl ?_ q3 ?_
            rotate_left
            · intro W hW
              go_simp
              (try with_reducible rfl)
            simp only [Act.put, List.setIfInBounds_toArray, List.set_cons_zero, List.set_cons_succ]
            refine fin_take 11 (v := ?_) rfl (by kernel_rfl) (by kernel_rfl) (by kernel_rfl) (by kernel_rfl) (fun _ _ _ h => h) rfl ?_ q3 ?_
            rotate_left
            · intro W hW
              go_simp
              (try with_reducible rfl)
            simp only [Act.put, List.setIfInBounds_toArray, List.set_cons_zero, List.set_cons_succ]
            refine fin_done (by kernel_rfl) (NoPanic.normal ?_)
            obtain ⟨y0, y1, y2, y3, y4, y5, y6, y7, y8, y9, y10, y11, y12, y13⟩ := q3
            have C2 := C1.on k3
            have P2 := P1.on k3
            have Z2 := Z1.on k3
            have I2 := I1.on k3
            have O2 := O1.trans k3
            have cf := fun i => C2.fr i
            have c3l := C2.lt
            have i3l := I2.lt
            go_wp2
            go_roundg (L.length - (n + 1))
            case measure => omega
            case rel => exact ⟨n + 1, r0, r1, vd, r3, rfl, (O2.setNew (by omega) _).setNew (by omega) _, (P2.far (by omega) _ _).far (by omega) _ _, Bk.put (cs := [.int .i64 (n : Int), .int .i64 r0, .int .i64 r1, .int .i64 vd, .int .i64 r3]) (C2.put (cs := [.int .i64 (n : Int), .int .i64 r0, .int .i64 r1, .int .i64 r2, .int .i64 r3]) 3 (.int .i64 vd)) 0 (.int .i64 ((n + 1 : Nat) : Int)), (Z2.far (by omega) _ _).far (by omega) _ _, HS2⟩
          · have HS2 : Hid (R = locV (settleP L ⟨((n + 1 : Nat) : Int), r0, r1, r2, vd⟩)) := by
              show R = _
              rw [HS1.out, hr]
              rfl
            clear HS1 hreg
            go_wp2_with fail
            refine (hVa _).mono ?_
            rintro _ w2 ⟨rfl, k2⟩
            obtain ⟨y0, y1, y2, y3, y4, y5, y6, y7, y8, y9, y10, y11, y12, y13⟩ := hS _ k2
            have q2 := hS _ k2.drew
            have i2l := Nat.lt_of_lt_of_le il k2.size
            have c2l := Nat.lt_of_lt_of_le wl2 k2.size
            go_wp2
            refine region_fin (fun W => W.cell? ⟨w.heap.size + 1, 0, none⟩ = some (.int .i64 (n : Int)) ∧ W.cell? ⟨w.heap.size + 1, 1, none⟩ = some (.int .i64 r0) ∧ W.cell? ⟨w.heap.size + 1, 2, none⟩ = some (.int .i64 r1) ∧ W.cell? ⟨w.heap.size + 1, 3, none⟩ = some (.int .i64 r2) ∧ W.cell? ⟨w.heap.size + 1, 4, none⟩ = some (.int .i64 r3) ∧ W.cell? ⟨wr.heap.size, 0, none⟩ = some (.int .i64 x.k) ∧ W.cell? ⟨wr.heap.size, 1, none⟩ = some (.int .i64 x.r) ∧ W.cell? ⟨wr.heap.size, 2, none⟩ = some (.int .i64 x.l) ∧ W.cell? ⟨wr.heap.size, 3, none⟩ = some (.int .i64 x.a.r) ∧ W.cell? ⟨wr.heap.size, 4, none⟩ = some (.int .i64 x.a.v) ∧ W.cell? ⟨wr.heap.size, 5, none⟩ = some (.int .i64 x.o) ∧ W.cell? ⟨wr.heap.size, 6, none⟩ = some (.int .i64 x.b.r) ∧ W.cell? ⟨wr.heap.size, 7, none⟩ = some (.int .i64 x.b.v) ∧ W.cell? ⟨wr.heap.size, 8, none⟩ = some (.int .i64 x.n)) 99 12 (by kernel_rfl) rfl ?_
            refine fin_take 0 (v := ?_) rfl (by kernel_rfl) (by kernel_rfl) (by kernel_rfl) (by kernel_rfl) (fun _ _ _ h => h) rfl ?_ q2 ?_
            rotate_left
            · intro W hW
              go_simp
              (try with_reducible rfl)
            simp only [Act.put, List.setIfInBounds_toArray, List.set_cons_zero, List.set_cons_succ]
            refine fin_take 1 (v := ?_) rfl (by kernel_rfl) (by kernel_rfl) (by kernel_rfl) (by kernel_rfl) (fun _ _ _ h => h) rfl ?_ q2 ?_
            rotate_left
            · intro W hW
              go_simp
              (try with_reducible rfl)
            simp only [Act.put, List.setIfInBounds_toArray, List.set_cons_zero, List.set_cons_succ]
            refine fin_take 2 (v := ?_) rfl (by kernel_rfl) (by kernel_rfl) (by kernel_rfl) (by kernel_rfl) (fun _ _ _ h => h) rfl ?_ q2 ?_
            rotate_left
            · intro W hW
              go_simp
              (try with_reducible rfl)
            simp only [Act.put, List.setIfInBounds_toArray, List.set_cons_zero, List.set_cons_succ]
            refine fin_take 3 (v := ?_) rfl (by kernel_rfl) (by kernel_rfl) (by kernel_rfl) (by kernel_rfl) (fun _ _ _ h => h) rfl ?_ q2 ?_
            rotate_left
            · intro W hW
              go_simp
              (try with_reducible rfl)
            simp only [Act.put, List.setIfInBounds_toArray, List.set_cons_zero, List.set_cons_succ]
            refine fin_take 4 (v := ?_) rfl (by kernel_rfl) (by kernel_rfl) (by kernel_rfl) (by kernel_rfl) (fun _ _ _ h => h) rfl ?_ q2 ?_
            rotate_left
            · intro W hW
              go_simp
              (try with_reducible rfl)
            simp only [Act.put, List.setIfInBounds_toArray, List.set_cons_zero, List.set_cons_succ]
            refine fin_take 5 (v := ?_) rfl (by kernel_rfl) (by kernel_rfl) (by kernel_rfl) (by kernel_rfl) (fun _ _ _ h => h) rfl ?_ q2 ?_
            rotate_left
            · intro W hW
              go_simp
              (try with_reducible rfl)
            simp only [Act.put, List.setIfInBounds_toArray, List.set_cons_zero, List.set_cons_succ]
            refine fin_one 6 rfl rfl (by kernel_rfl) (fun K hK => ?_)
            go_simp
            refine (hVb _).mono ?_
            rintro _ w3 ⟨rfl, k3'⟩
            have k3 : On W1 w3 := k2.drew.trans k3'
            have q3 := hS _ k3
            refine hK.out _ _ (fun _ => q3) ?_
            clear hK
            refine fin_one 7 rfl rfl (by kernel_rfl) (fun K hK => ?_)
            go_simp
            refine (hDo _).mono ?_
            rintro _ w4 ⟨rfl, hw4⟩
            subst w4
            refine hK.out _ _ (fun _ => q3) ?_
            clear hK
            refine fin_take 8 (v := ?_) rfl (by kernel_rfl) (by kernel_rfl) (by kernel_rfl) (by kernel_rfl) (fun _ _ _ h => h) rfl ?_ q3 ?_
            rotate_left
            · intro W hW
              go_simp
              (try with_reducible rfl)
            simp only [Act.put, List.setIfInBounds_toArray, List.set_cons_zero, List.set_cons_succ]
            refine fin_take 9 (v := ?_) rfl (by kernel_rfl) (by kernel_rfl) (by kernel_rfl) (by kernel_rfl) (fun _ _ _ h => h) rfl ?_ q3 ?_
            rotate_left
            · intro W hW
              go_simp
              (try with_reducible rfl)
            simp only [Act.put, List.setIfInBounds_toArray, List.set_cons_zero, List.set_cons_succ]
            refine fin_take 10 (v := ?_) rfl (by kernel_rfl) (by kernel_rfl) (by kernel_rfl) (by kernel_rfl) (fun _ _ _ h => h) rfl ?_ q3 ?_
            rotate_left
            · intro W hW
              go_simp
              (try with_reducible rfl)
            simp only [Act.put, List.setIfInBounds_toArray, List.set_cons_zero, List.set_cons_succ]
            refine fin_take 11 (v := ?_) rfl (by kernel_rfl) (by kernel_rfl) (by kernel_rfl) (by kernel_rfl) (fun _ _ _ h => h) rfl ?_ q3 ?_
            rotate_left
            · intro W hW
              go_simp
              (try with_reducible rfl)
            simp only [Act.put, List.setIfInBounds_toArray, List.set_cons_zero, List.set_cons_succ]
            refine fin_done (by kernel_rfl) (NoPanic.normal ?_)
            obtain ⟨y0, y1, y2, y3, y4, y5, y6, y7, y8, y9, y10, y11, y12, y13⟩ := q3
            have C2 := C1.on k3
            have P2 := P1.on k3
            have Z2 := Z1.on k3
            have I2 := I1.on k3
            have O2 := O1.trans k3
            have cf := fun i => C2.fr i
            have c3l := C2.lt
            have i3l := I2.lt
            go_wp2
            go_roundg (L.length - (n + 1))
            case measure => omega
            case rel => exact ⟨n + 1, r0, r1, r2, vd, rfl, (O2.setNew (by omega) _).setNew (by omega) _, (P2.far (by omega) _ _).far (by omega) _ _, Bk.put (cs := [.int .i64 (n : Int), .int .i64 r0, .int .i64 r1, .int .i64 r2, .int .i64 vd]) (C2.put (cs := [.int .i64 (n : Int), .int .i64 r0, .int .i64 r1, .int .i64 r2, .int .i64 r3]) 4 (.int .i64 vd)) 0 (.int .i64 ((n + 1 : Nat) : Int)), (Z2.far (by omega) _ _).far (by omega) _ _, HS2⟩
      | false =>
        rw [h5] at hst
        simp only [Bool.false_eq_true, if_false] at hst
        cases h6 : (x.k == 6) with
        | true =>
          rw [h6] at hst
          simp only [if_true] at hst
          obtain ⟨hn0, hn1⟩ := hok6 (by simpa using h6)
          have HS1 : Hid (R = locV (settleP L (pcTo ⟨(n : Int), r0, r1, r2, r3⟩ ((n : Int) + skipOf x ⟨(n : Int), r0, r1, r2, r3⟩ (L.length - n - 1) + 1)))) := HS.out.trans (congrArg locV hst)
          have hsk : skipOf x ⟨(n : Int), r0, r1, r2, r3⟩ (L.length - n - 1) = if valOf x.a ⟨(n : Int), r0, r1, r2, r3⟩ == valOf x.b ⟨(n : Int), r0, r1, r2, r3⟩ then x.n else 0 := by
            unfold skipOf
            split
            · omega
            · rfl
          rw [hsk] at HS1
          generalize valOf x.a ⟨(n : Int), r0, r1, r2, r3⟩ = va at *
          generalize valOf x.b ⟨(n : Int), r0, r1, r2, r3⟩ = vb at *
          clear hst HS hok5 hok6 hsk
          cases hab : (va == vb)
          · rw [hab] at HS1
            have HS2 : Hid (R = locV (settleP L ⟨((n + 1 : Nat) : Int), r0, r1, r2, r3⟩)) := by
              show R = _
              rw [HS1.out]
              unfold pcTo
              simp
            go_wp2
            have q1 := hS _ (On.refl W1).drew
            refine region_fin (fun W => W.cell? ⟨w.heap.size + 1, 0, none⟩ = some (.int .i64 (n : Int)) ∧ W.cell? ⟨w.heap.size + 1, 1, none⟩ = some (.int .i64 r0) ∧ W.cell? ⟨w.heap.size + 1, 2, none⟩ = some (.int .i64 r1) ∧ W.cell? ⟨w.heap.size + 1, 3, none⟩ = some (.int .i64 r2) ∧ W.cell? ⟨w.heap.size + 1, 4, none⟩ = some (.int .i64 r3) ∧ W.cell? ⟨wr.heap.size, 0, none⟩ = some (.int .i64 x.k) ∧ W.cell? ⟨wr.heap.size, 1, none⟩ = some (.int .i64 x.r) ∧ W.cell? ⟨wr.heap.size, 2, none⟩ = some (.int .i64 x.l) ∧ W.cell? ⟨wr.heap.size, 3, none⟩ = some (.int .i64 x.a.r) ∧ W.cell? ⟨wr.heap.size, 4, none⟩ = some (.int .i64 x.a.v) ∧ W.cell? ⟨wr.heap.size, 5, none⟩ = some (.int .i64 x.o) ∧ W.cell? ⟨wr.heap.size, 6, none⟩ = some (.int .i64 x.b.r) ∧ W.cell? ⟨wr.heap.size, 7, none⟩ = some (.int .i64 x.b.v) ∧ W.cell? ⟨wr.heap.size, 8, none⟩ = some (.int .i64 x.n)) 99 9 (by kernel_rfl) rfl ?_
            refine fin_take 0 (v := ?_) rfl (by kernel_rfl) (by kernel_rfl) (by kernel_rfl) (by kernel_rfl) (fun _ _ _ h => h) rfl ?_ q1 ?_
            rotate_left
            · intro W hW
              go_simp
              (try with_reducible rfl)
            simp only [Act.put, List.setIfInBounds_toArray, List.set_cons_zero, List.set_cons_succ]
            refine fin_take 1 (v := ?_) rfl (by kernel_rfl) (by kernel_rfl) (by kernel_rfl) (by kernel_rfl) (fun _ _ _ h => h) rfl ?_ q1 ?_
            rotate_left
            · intro W hW
              go_simp
              (try with_reducible rfl)
            simp only [Act.put, List.setIfInBounds_toArray, List.set_cons_zero, List.set_cons_succ]
            refine fin_take 2 (v := ?_) rfl (by kernel_rfl) (by kernel_rfl) (by kernel_rfl) (by kernel_rfl) (fun _ _ _ h => h) rfl ?_ q1 ?_
            rotate_left
            · intro W hW
              go_simp
              (try with_reducible rfl)
            simp only [Act.put, List.setIfInBounds_toArray, List.set_cons_zero, List.set_cons_succ]
            refine fin_take 4 (v := ?_) rfl (by kernel_rfl) (by kernel_rfl) (by kernel_rfl) (by kernel_rfl) (fun _ _ _ h => h) rfl ?_ q1 ?_
            rotate_left
            · intro W hW
              go_simp
              (try with_reducible rfl)
            simp only [Act.put, List.setIfInBounds_toArray, List.set_cons_zero, List.set_cons_succ]
            refine fin_take 5 (v := ?_) rfl (by kernel_rfl) (by kernel_rfl) (by kernel_rfl) (by kernel_rfl) (fun _ _ _ h => h) rfl ?_ q1 ?_
            rotate_left
            · intro W hW
              go_simp
              (try with_reducible rfl)
            simp only [Act.put, List.setIfInBounds_toArray, List.set_cons_zero, List.set_cons_succ]
            refine fin_take 6 (v := ?_) rfl (by kernel_rfl) (by kernel_rfl) (by kernel_rfl) (by kernel_rfl) (fun _ _ _ h => h) rfl ?_ q1 ?_
            rotate_left
            · intro W hW
              go_simp
              (try with_reducible rfl)
            simp only [Act.put, List.setIfInBounds_toArray, List.set_cons_zero, List.set_cons_succ]
            refine fin_one 3 rfl rfl (by kernel_rfl) (fun K hK => ?_)
            go_simp
            refine (hVa _).mono ?_
            rintro _ w12 ⟨rfl, k12'⟩
            have k12 : On W1 w12 := (On.refl W1).drew.trans k12'
            have q12 := hS _ k12
            refine hK.out _ _ (fun _ => q12) ?_
            clear hK
            refine fin_one 7 rfl rfl (by kernel_rfl) (fun K hK => ?_)
            go_simp
            refine (hVb _).mono ?_
            rintro _ w13 ⟨rfl, k13'⟩
            have k13 : On W1 w13 := k12.trans k13'
            have q13 := hS _ k13
            refine hK.out _ _ (fun _ => q13) ?_
            clear hK
            refine fin_take 8 (v := ?_) rfl (by kernel_rfl) (by kernel_rfl) (by kernel_rfl) (by kernel_rfl) (fun _ _ _ h => h) rfl ?_ q13 ?_
            rotate_left
            · intro W hW
              go_simp
              (try with_reducible rfl)
            simp only [Act.put, List.setIfInBounds_toArray, List.set_cons_zero, List.set_cons_succ]
            refine fin_done (by kernel_rfl) (NoPanic.normal ?_)
            have C2 := C1.on k13
            have P2 := P1.on k13
            have Z2 := Z1.on k13
            have O2 := O1.trans k13
            have c0 := C2.at (i := 0) rfl
            have cf := fun i => C2.fr i
            have c2l := C2.lt
            go_wp2
            go_roundg (L.length - (n + 1))
            case measure => omega
            case rel => exact ⟨n + 1, r0, r1, r2, r3, rfl, O2.setNew (by omega) _, P2.far (by omega) _ _, C2.put (cs := [.int .i64 (n : Int), .int .i64 r0, .int .i64 r1, .int .i64 r2, .int .i64 r3]) 0 (.int .i64 ((n + 1 : Nat) : Int)), Z2.far (by omega) _ _, HS2⟩
          · rw [hab] at HS1
            obtain ⟨m, hm⟩ : ∃ m : Nat, x.n = (m : Int) := ⟨x.n.toNat, by omega⟩
            have HS2 : Hid (R = locV (settleP L ⟨((n + m + 1 : Nat) : Int), r0, r1, r2, r3⟩)) := by
              show R = _
              rw [HS1.out, hm]
              unfold pcTo
              simp
            have hnm : n + m + 1 ≤ L.length := by omega
            have hlm : L.length ≤ 9223372036854775807 := hxm
            go_wp2
            have q1 := hS _ (On.refl W1).drew
            refine region_fin (fun W => W.cell? ⟨w.heap.size + 1, 0, none⟩ = some (.int .i64 (n : Int)) ∧ W.cell? ⟨w.heap.size + 1, 1, none⟩ = some (.int .i64 r0) ∧ W.cell? ⟨w.heap.size + 1, 2, none⟩ = some (.int .i64 r1) ∧ W.cell? ⟨w.heap.size + 1, 3, none⟩ = some (.int .i64 r2) ∧ W.cell? ⟨w.heap.size + 1, 4, none⟩ = some (.int .i64 r3) ∧ W.cell? ⟨wr.heap.size, 0, none⟩ = some (.int .i64 x.k) ∧ W.cell? ⟨wr.heap.size, 1, none⟩ = some (.int .i64 x.r) ∧ W.cell? ⟨wr.heap.size, 2, none⟩ = some (.int .i64 x.l) ∧ W.cell? ⟨wr.heap.size, 3, none⟩ = some (.int .i64 x.a.r) ∧ W.cell? ⟨wr.heap.size, 4, none⟩ = some (.int .i64 x.a.v) ∧ W.cell? ⟨wr.heap.size, 5, none⟩ = some (.int .i64 x.o) ∧ W.cell? ⟨wr.heap.size, 6, none⟩ = some (.int .i64 x.b.r) ∧ W.cell? ⟨wr.heap.size, 7, none⟩ = some (.int .i64 x.b.v) ∧ W.cell? ⟨wr.heap.size, 8, none⟩ = some (.int .i64 x.n)) 99 9 (by kernel_rfl) rfl ?_
            refine fin_take 0 (v := ?_) rfl (by kernel_rfl) (by kernel_rfl) (by kernel_rfl) (by kernel_rfl) (fun _ _ _ h => h) rfl ?_ q1 ?_
            rotate_left
            · intro W hW
              go_simp
              (try with_reducible rfl)
            simp only [Act.put, List.setIfInBounds_toArray, List.set_cons_zero, List.set_cons_succ]
            refine fin_take 1 (v := ?_) rfl (by kernel_rfl) (by kernel_rfl) (by kernel_rfl) (by kernel_rfl) (fun _ _ _ h => h) rfl ?_ q1 ?_
            rotate_left
            · intro W hW
              go_simp
              (try with_reducible rfl)
            simp only [Act.put, List.setIfInBounds_toArray, List.set_cons_zero, List.set_cons_succ]
            refine fin_take 2 (v := ?_) rfl (by kernel_rfl) (by kernel_rfl) (by kernel_rfl) (by kernel_rfl) (fun _ _ _ h => h) rfl ?_ q1 ?_
            rotate_left
            · intro W hW
              go_simp
              (try with_reducible rfl)
            simp only [Act.put, List.setIfInBounds_toArray, List.set_cons_zero, List.set_cons_succ]
            refine fin_take 4 (v := ?_) rfl (by kernel_rfl) (by kernel_rfl) (by kernel_rfl) (by kernel_rfl) (fun _ _ _ h => h) rfl ?_ q1 ?_
            rotate_left
            · intro W hW
              go_simp
              (try with_reducible rfl)
            simp only [Act.put, List.setIfInBounds_toArray, List.set_cons_zero, List.set_cons_succ]
            refine fin_take 5 (v := ?_) rfl (by kernel_rfl) (by kernel_rfl) (by kernel_rfl) (by kernel_rfl) (fun _ _ _ h => h) rfl ?_ q1 ?_
            rotate_left
            · intro W hW
              go_simp
              (try with_reducible rfl)
            simp only [Act.put, List.setIfInBounds_toArray, List.set_cons_zero, List.set_cons_succ]
            refine fin_take 6 (v := ?_) rfl (by kernel_rfl) (by kernel_rfl) (by kernel_rfl) (by kernel_rfl) (fun _ _ _ h => h) rfl ?_ q1 ?_
            rotate_left
            · intro W hW
              go_simp
              (try with_reducible rfl)
            simp only [Act.put, List.setIfInBounds_toArray, List.set_cons_zero, List.set_cons_succ]
            refine fin_one 3 rfl rfl (by kernel_rfl) (fun K hK => ?_)
            go_simp
            refine (hVa _).mono ?_
            rintro _ w12 ⟨rfl, k12'⟩
            have k12 : On W1 w12 := (On.refl W1).drew.trans k12'
            have q12 := hS _ k12
            refine hK.out _ _ (fun _ => q12) ?_
            clear hK
            refine fin_one 7 rfl rfl (by kernel_rfl) (fun K hK => ?_)
            go_simp
            refine (hVb _).mono ?_
            rintro _ w13 ⟨rfl, k13'⟩
            have k13 : On W1 w13 := k12.trans k13'
            have q13 := hS _ k13
            refine hK.out _ _ (fun _ => q13) ?_
            clear hK
            refine fin_take 8 (v := ?_) rfl (by kernel_rfl) (by kernel_rfl) (by kernel_rfl) (by kernel_rfl) (fun _ _ _ h => h) rfl ?_ q13 ?_
            rotate_left
            · intro W hW
              go_simp
              (try with_reducible rfl)
            simp only [Act.put, List.setIfInBounds_toArray, List.set_cons_zero, List.set_cons_succ]
            refine fin_done (by kernel_rfl) (NoPanic.normal ?_)
            have C2 := C1.on k13
            have P2 := P1.on k13
            have Z2 := Z1.on k13
            have I2 := I1.on k13
            have O2 := O1.trans k13
            have c0 := C2.at (i := 0) rfl
            have i8 := I2.at (i := 8) rfl
            rw [hm] at i8
            have cf := fun i => C2.fr i
            have c2l := C2.lt
            have i2l := I2.lt
            clear hm hn0 hn1 q1 q12 q13 hS y0 y1 y2 y3 y4 y5 y6 y7 y8 y9 y10 y11 y12 y13
            go_wp2
            go_roundg (L.length - (n + m + 1))
            case measure => omega
            case rel => exact ⟨n + m + 1, r0, r1, r2, r3, rfl, (O2.setNew (by omega) _).setNew (by omega) _, (P2.far (by omega) _ _).far (by omega) _ _, Bk.put (cs := [.int .i64 ((n : Int) + (m : Int)), .int .i64 r0, .int .i64 r1, .int .i64 r2, .int .i64 r3]) (C2.put (cs := [.int .i64 (n : Int), .int .i64 r0, .int .i64 r1, .int .i64 r2, .int .i64 r3]) 0 (.int .i64 ((n : Int) + (m : Int)))) 0 (.int .i64 ((n + m + 1 : Nat) : Int)), (Z2.far (by omega) _ _).far (by omega) _ _, HS2⟩
        | false =>
          rw [h6] at hst
          simp only [Bool.false_eq_true, if_false] at hst
          obtain rfl : R = .agg #[.int .i64 (n : Int), .int .i64 r0, .int .i64 r1, .int .i64 r2, .int .i64 r3] := by rw [HS.out, hst]; rfl
          clear HS hst hok5 hok6
          have zf := fun i => Z1.fr i
          have z0 := Z1.at (i := 0) rfl
          have z1 := Z1.at (i := 1) rfl
          have z2 := Z1.at (i := 2) rfl
          have z3 := Z1.at (i := 3) rfl
          have z4 := Z1.at (i := 4) rfl
          go_wp2
          refine bodyPost_ret (v := .agg #[.int .i64 (n : Int), .int .i64 r0, .int .i64 r1, .int .i64 r2, .int .i64 r3]) ?_ rfl ⟨rfl, ?_⟩
          · rw [results_cell rfl]
            go_simp
          · repeat' (first | with_reducible refine On.setNew ?_ (by omega) _ | with_reducible exact O1)
    · have e : settleP L ⟨(n : Int), r0, r1, r2, r3⟩ = ⟨(n : Int), r0, r1, r2, r3⟩ := settle_end (by simpa using hge)
      obtain rfl : R = .agg #[.int .i64 (n : Int), .int .i64 r0, .int .i64 r1, .int .i64 r2, .int .i64 r3] := by rw [HS.out, e]; rfl
      have hnn : ¬ n < L.length := by omega
      have P1 := PB.on (On.refl wr).drew
      have C1 := CB.on (On.refl wr).drew
      have Z1 := ZB.on (On.refl wr).drew
      have O1 : On w wr.drew := HO.out.drew
      have c1 := CB.at (i := 1) rfl
      have c2' := CB.at (i := 2) rfl
      have c3 := CB.at (i := 3) rfl
      have c4 := CB.at (i := 4) rfl
      have zf := fun i => ZB.fr i
      have z0 := ZB.at (i := 0) rfl
      have z1 := ZB.at (i := 1) rfl
      have z2 := ZB.at (i := 2) rfl
      have z3 := ZB.at (i := 3) rfl
      have z4 := ZB.at (i := 4) rfl
      go_wp2
      refine region_fin (fun W => W.cell? ⟨w.heap.size, 2, none⟩ = some (.slice (some ⟨ga, oa, none⟩) LL.length c) ∧ W.cell? ⟨w.heap.size + 1, 0, none⟩ = some (.int .i64 (n : Int)) ∧ W.cell? ⟨ga, oa + t, none⟩ = some (.slice ax L.length cx)) 99 9 (by kernel_rfl) rfl ?_
      refine fin_take 0 (v := ?_) rfl (by kernel_rfl) (by kernel_rfl) (by kernel_rfl) (by kernel_rfl) (fun _ _ _ h => h) rfl ?_ qS ?_
      rotate_left
      · intro W hW
        go_simp
        (try with_reducible rfl)
      simp only [Act.put, List.setIfInBounds_toArray, List.set_cons_zero, List.set_cons_succ]
      refine fin_take 1 (v := ?_) rfl (by kernel_rfl) (by kernel_rfl) (by kernel_rfl) (by kernel_rfl) (fun _ _ _ h => h) rfl ?_ qS ?_
      rotate_left
      · intro W hW
        go_simp
        (try with_reducible rfl)
      simp only [Act.put, List.setIfInBounds_toArray, List.set_cons_zero, List.set_cons_succ]
      refine fin_take 2 (v := ?_) rfl (by kernel_rfl) (by kernel_rfl) (by kernel_rfl) (by kernel_rfl) (fun _ _ _ h => h) rfl ?_ qS ?_
      rotate_left
      · intro W hW
        go_simp
        (try with_reducible rfl)
      simp only [Act.put, List.setIfInBounds_toArray, List.set_cons_zero, List.set_cons_succ]
      refine fin_take 3 (v := ?_) rfl (by kernel_rfl) (by kernel_rfl) (by kernel_rfl) (by kernel_rfl) (fun _ _ _ h => h) rfl ?_ qS ?_
      rotate_left
      · intro W hW
        go_simp
        (try with_reducible rfl)
      simp only [Act.put, List.setIfInBounds_toArray, List.set_cons_zero, List.set_cons_succ]
      refine fin_take 4 (v := ?_) rfl (by kernel_rfl) (by kernel_rfl) (by kernel_rfl) (by kernel_rfl) (fun _ _ _ h => h) rfl ?_ qS ?_
      rotate_left
      · intro W hW
        go_simp
        (try with_reducible rfl)
      simp only [Act.put, List.setIfInBounds_toArray, List.set_cons_zero, List.set_cons_succ]
      refine fin_take 5 (v := ?_) rfl (by kernel_rfl) (by kernel_rfl) (by kernel_rfl) (by kernel_rfl) (fun _ _ _ h => h) rfl ?_ qS ?_
      rotate_left
      · intro W hW
        go_simp
        (try with_reducible rfl)
      simp only [Act.put, List.setIfInBounds_toArray, List.set_cons_zero, List.set_cons_succ]
      refine fin_take 6 (v := ?_) rfl (by kernel_rfl) (by kernel_rfl) (by kernel_rfl) (by kernel_rfl) (fun _ _ _ h => h) rfl ?_ qS ?_
      rotate_left
      · intro W hW
        go_simp
        (try with_reducible rfl)
      simp only [Act.put, List.setIfInBounds_toArray, List.set_cons_zero, List.set_cons_succ]
      refine fin_take 7 (v := ?_) rfl (by kernel_rfl) (by kernel_rfl) (by kernel_rfl) (by kernel_rfl) (fun _ _ _ h => h) rfl ?_ qS ?_
      rotate_left
      · intro W hW
        go_simp
        (try with_reducible rfl)
      simp only [Act.put, List.setIfInBounds_toArray, List.set_cons_zero, List.set_cons_succ]
      refine fin_take 8 (v := ?_) rfl (by kernel_rfl) (by kernel_rfl) (by kernel_rfl) (by kernel_rfl) (fun _ _ _ h => h) rfl ?_ qS ?_
      rotate_left
      · intro W hW
        go_simp
        (try with_reducible rfl)
      simp only [Act.put, List.setIfInBounds_toArray, List.set_cons_zero, List.set_cons_succ]
      refine fin_done (by kernel_rfl) (NoPanic.normal ?_)
      go_wp2
      refine bodyPost_ret (v := .agg #[.int .i64 (n : Int), .int .i64 r0, .int .i64 r1, .int .i64 r2, .int .i64 r3]) ?_ rfl ⟨rfl, ?_⟩
      · rw [results_cell rfl]
        go_simp
      · refine On.drew ?_
        repeat' (first | with_reducible refine On.setNew ?_ (by omega) _ | with_reducible exact HO.out)
end Go.Proofs.YtplihlmejnohnaaGreatDoor

namespace Go.Proofs.YtplihlmejnohnaaGreatDoor
open Go.RowKit

def thereB (LL : List (List InsT)) (t : Int) : Bool := decide (0 ≤ t) && decide (t < LL.length)
set_option maxHeartbeats 4000000 in
theorem there_is (LL : List (List InsT)) (t : Int) (v : Value) (w : World) (h : ProgRd w v LL) :
    Calls Tryz.prog 72 #[v, .int .i64 t] w fun e w' => e = .returned (.bool (thereB LL t)) ∧ On w w' := by
  obtain ⟨a1, m1, c1, a2, m2, c2, a, c, rfl, r⟩ := h
  obtain ⟨_, _, _, _, hmL⟩ := r.slice
  clear r
  unfold thereB
  by_cases h0 : 0 ≤ t
  · by_cases h1 : t < LL.length
    · rw [decide_eq_true h0, decide_eq_true h1]
      go_enter Tryz.func72, Tryz.ntmps72
      go_wp2
      go_ret
      exact ⟨rfl, (On.refl w).alloc _⟩
    · rw [decide_eq_true h0, decide_eq_false h1]
      go_enter Tryz.func72, Tryz.ntmps72
      go_wp2
      go_ret
      exact ⟨rfl, (On.refl w).alloc _⟩
  · rw [decide_eq_false h0]
    go_enter Tryz.func72, Tryz.ntmps72
    go_wp2
    go_ret
    exact ⟨rfl, (On.refl w).alloc _⟩
/-- What the walks ask of a thread's instructions. -/
def fineL (L : List InsT) : Prop := ∀ (i : Nat) (x : InsT), L[i]? = some x → ((x.k = 5 → regOk x.r = true) ∧ (x.k = 6 → 0 ≤ x.n ∧ x.n ≤ (L.length : Int) - i - 1)) ∧ ((x.k == 5 || x.k == 6) = !seenB x.k) ∧ ((x.k = 2 ∨ x.k = 4) → regOk x.r = true)
theorem there_none (LL : List (List InsT)) (t : Int) (hb : thereB LL t = false) : threadP LL t = [] := by
  unfold threadP
  split
  · rename_i h0
    have h1 : ¬ t < LL.length := by
      unfold thereB at hb
      rw [decide_eq_true h0] at hb
      simpa using hb
    rw [List.getD_eq_getElem?_getD, List.getElem?_eq_none (by omega)]
    rfl
  · rfl
theorem there_some (LL : List (List InsT)) (t : Int) (hb : thereB LL t = true) : ∃ (k : Nat) (L : List InsT), t = (k : Int) ∧ k < LL.length ∧ LL[k]? = some L ∧ threadP LL t = L ∧ L ∈ LL := by
  unfold thereB at hb
  simp only [Bool.and_eq_true, decide_eq_true_eq] at hb
  have hk : t.toNat < LL.length := by omega
  refine ⟨t.toNat, LL[t.toNat], by omega, hk, List.getElem?_eq_getElem hk, ?_, List.getElem_mem hk⟩
  unfold threadP
  rw [if_pos hb.1, List.getD_eq_getElem?_getD, List.getElem?_eq_getElem hk]
  rfl
set_option maxHeartbeats 4000000 in
set_option maxRecDepth 8000 in
theorem rstart_is (LL : List (List InsT)) (t : Int) (v : Value) (w : World) (h : ProgRd w v LL) (hf : ∀ L ∈ LL, fineL L) :
    Calls Tryz.prog 44 #[v, .int .i64 t] w fun e w' => e = .returned (locV (startP (threadP LL t))) ∧ On w w' := by
  have hT := fun W (k : On w W) => there_is LL t v W (h.on k)
  have hNo := fun (k : Nat) (L : List InsT) (hL : LL[k]? = some L) (hm : L ∈ LL) W (kk : On w W) => rnormal_is LL k L ⟨0, 0, 0, 0, 0⟩ v W (h.on kk) hL (by decide) (fun i x hx => (hf L hm i x hx).1)
  obtain ⟨a1, m1, c1, a2, m2, c2, a, c, rfl, r⟩ := h
  clear r
  have k0 : ∀ A B, On w ((w.alloc A).alloc B) := fun A B => ((On.refl w).alloc A).alloc B
  have bp : ∀ cs T B, Bk ((w.alloc (.cells cs T)).alloc B) w.heap.size cs := fun cs T B => (Bk.new w cs T).alloc B
  have bk : ∀ A cs T, Bk ((w.alloc A).alloc (.cells cs T)) (w.heap.size + 1) cs := fun A cs T => by have := Bk.new (w.alloc A) cs T; rwa [World.size_alloc] at this
  cases hb : thereB LL t with
  | false =>
    rw [hb] at hT
    rw [there_none LL t hb, show startP [] = ⟨0, 0, 0, 0, 0⟩ from rfl]
    unfold locV
    clear hb hNo
    go_enter Tryz.func44, Tryz.ntmps44
    go_wp2_with fail
    refine (hT _ (k0 _ _)).mono ?_
    rintro _ w1 ⟨rfl, k1⟩
    have B1 := (bk _ _ _).on k1
    have K1 : On w w1 := (k0 _ _).trans k1
    have zf := fun i => B1.fr i
    have z0 := B1.at (i := 0) rfl
    have z1 := B1.at (i := 1) rfl
    have z2 := B1.at (i := 2) rfl
    have z3 := B1.at (i := 3) rfl
    have z4 := B1.at (i := 4) rfl
    have zl := B1.lt
    clear hT k0 bp bk k1
    go_wp2
    refine bodyPost_ret (v := .agg #[.int .i64 0, .int .i64 0, .int .i64 0, .int .i64 0, .int .i64 0]) ?_ rfl ⟨rfl, ?_⟩
    · rw [results_cell rfl]
      go_simp
    · repeat' (first | with_reducible refine On.setNew ?_ (by omega) _ | with_reducible exact K1)
  | true =>
    rw [hb] at hT
    obtain ⟨k, L, rfl, hk, hL, e, hm⟩ := there_some LL t hb
    rw [e]
    unfold startP
    have hS := hNo k L hL hm
    obtain ⟨⟨q0, q1, q2, q3, q4⟩, hR⟩ : ∃ R, settleP L ⟨0, 0, 0, 0, 0⟩ = R := ⟨_, rfl⟩
    rw [hR] at hS ⊢
    unfold locV at hS ⊢
    clear hR hb e hNo
    go_enter Tryz.func44, Tryz.ntmps44
    go_wp2_with fail
    refine (hT _ (k0 _ _)).mono ?_
    rintro _ w1 ⟨rfl, k1⟩
    have P1 := (bp _ _ _).on k1
    have B1 := (bk _ _ _).on k1
    have K1 : On w w1 := (k0 _ _).trans k1
    have p0 := P1.at (i := 0) rfl
    have p1 := P1.at (i := 1) rfl
    have p2 := P1.at (i := 2) rfl
    have pl := P1.lt
    clear hT k0 bp bk k1
    go_wp2_with fail
    refine (hS _ K1).mono ?_
    rintro _ w2 ⟨rfl, k2⟩
    have B2 := B1.on k2
    have K2 := K1.trans k2
    have zf := fun i => B2.fr i
    have z0 := B2.at (i := 0) rfl
    have z1 := B2.at (i := 1) rfl
    have z2 := B2.at (i := 2) rfl
    have z3 := B2.at (i := 3) rfl
    have z4 := B2.at (i := 4) rfl
    have zl := B2.lt
    go_wp2
    refine bodyPost_ret (v := .agg #[.int .i64 q0, .int .i64 q1, .int .i64 q2, .int .i64 q3, .int .i64 q4]) ?_ rfl ⟨rfl, ?_⟩
    · rw [results_cell rfl]
      go_simp
    · repeat' (first | with_reducible refine On.setNew ?_ (by omega) _ | with_reducible exact K2)
set_option maxHeartbeats 8000000 in
set_option maxRecDepth 8000 in
theorem rnext_is (LL : List (List InsT)) (t : Int) (l : LocT) (v : Value) (w : World) (h : ProgRd w v LL) (hf : ∀ L ∈ LL, fineL L) :
    Calls Tryz.prog 48 #[v, .int .i64 t, locV l] w fun e w' => e = .returned (nextV (nextP (threadP LL t) l)) ∧ On w w' := by
  have hT := fun W (k : On w W) => there_is LL t v W (h.on k)
  obtain ⟨a1, m1, c1, a2, m2, c2, a, c, rfl, r⟩ := h
  obtain ⟨_, _, _, _, hmL⟩ := r.slice
  obtain ⟨pc, r0, r1, r2, r3⟩ := l
  unfold locV
  cases hb : thereB LL t with
  | false =>
    rw [hb] at hT
    have e : nextV (nextP (threadP LL t) ⟨pc, r0, r1, r2, r3⟩) = .tuple #[.agg #[.int .i64 0, .int .i64 0, .int .i64 0, .int .i64 0, .int .i64 0, .int .i64 0, .int .i64 0, .int .i64 0, .int .i64 0], .bool false] := by
      rw [there_none LL t hb]
      unfold nextP
      split <;> simp [nextV] <;> rfl
    rw [e]
    clear e hb hf r
    obtain ⟨W0, hW0⟩ : ∃ W0, W0 = ((w.alloc (.cells #[.slice a1 m1 c1, .slice a2 m2 c2, .slice a LL.length c] 27)).alloc (.cells #[.int .i64 pc, .int .i64 r0, .int .i64 r1, .int .i64 r2, .int .i64 r3] 73)).alloc (.cells #[.int .i64 0, .int .i64 0, .int .i64 0, .int .i64 0, .int .i64 0, .int .i64 0, .int .i64 0, .int .i64 0, .int .i64 0] 107) := ⟨_, rfl⟩
    have K0 : On w W0 := by rw [hW0]; exact (((On.refl w).alloc _).alloc _).alloc _
    have PB : Bk W0 w.heap.size #[.slice a1 m1 c1, .slice a2 m2 c2, .slice a LL.length c] := by rw [hW0]; exact ((Bk.new w _ _).alloc _).alloc _
    have CB : Bk W0 (w.heap.size + 1) #[.int .i64 pc, .int .i64 r0, .int .i64 r1, .int .i64 r2, .int .i64 r3] := by
      rw [hW0]
      have := (Bk.new (w.alloc (.cells #[.slice a1 m1 c1, .slice a2 m2 c2, .slice a LL.length c] 27)) #[.int .i64 pc, .int .i64 r0, .int .i64 r1, .int .i64 r2, .int .i64 r3] 73).alloc (.cells #[.int .i64 0, .int .i64 0, .int .i64 0, .int .i64 0, .int .i64 0, .int .i64 0, .int .i64 0, .int .i64 0, .int .i64 0] 107)
      rwa [World.size_alloc] at this
    have ZB : Bk W0 (w.heap.size + 1 + 1) #[.int .i64 0, .int .i64 0, .int .i64 0, .int .i64 0, .int .i64 0, .int .i64 0, .int .i64 0, .int .i64 0, .int .i64 0] := by
      rw [hW0]
      have := Bk.new ((w.alloc (.cells #[.slice a1 m1 c1, .slice a2 m2 c2, .slice a LL.length c] 27)).alloc (.cells #[.int .i64 pc, .int .i64 r0, .int .i64 r1, .int .i64 r2, .int .i64 r3] 73)) #[.int .i64 0, .int .i64 0, .int .i64 0, .int .i64 0, .int .i64 0, .int .i64 0, .int .i64 0, .int .i64 0, .int .i64 0] 107
      rwa [World.size_alloc, World.size_alloc] at this
    have hS : ∀ W, On W0 W → W.cell? ⟨w.heap.size, 0, none⟩ = some (.slice a1 m1 c1) ∧ W.cell? ⟨w.heap.size, 1, none⟩ = some (.slice a2 m2 c2) ∧ W.cell? ⟨w.heap.size, 2, none⟩ = some (.slice a LL.length c) ∧ W.cell? ⟨w.heap.size + 1, 0, none⟩ = some (.int .i64 pc) := fun W k' => ⟨(PB.on k').at (i := 0) rfl, (PB.on k').at (i := 1) rfl, (PB.on k').at (i := 2) rfl, (CB.on k').at (i := 0) rfl⟩
    have qS := hS _ (On.refl W0).drew
    have zl := ZB.lt
    go_enter Tryz.func48, Tryz.ntmps48
    go_wp2
    rw [← hW0]
    clear hW0
    refine region_fin (fun W => W.cell? ⟨w.heap.size, 0, none⟩ = some (.slice a1 m1 c1) ∧ W.cell? ⟨w.heap.size, 1, none⟩ = some (.slice a2 m2 c2) ∧ W.cell? ⟨w.heap.size, 2, none⟩ = some (.slice a LL.length c) ∧ W.cell? ⟨w.heap.size + 1, 0, none⟩ = some (.int .i64 pc)) 99 20 (by kernel_rfl) rfl ?_
    refine fin_take 0 (v := ?_) rfl (by kernel_rfl) (by kernel_rfl) (by kernel_rfl) (by kernel_rfl) (fun _ _ _ h => h) rfl ?_ qS ?_
    rotate_left
    · intro W hW
      go_simp
      (try with_reducible rfl)
    simp only [Act.put, List.setIfInBounds_toArray, List.set_cons_zero, List.set_cons_succ]
    refine fin_take 1 (v := ?_) rfl (by kernel_rfl) (by kernel_rfl) (by kernel_rfl) (by kernel_rfl) (fun _ _ _ h => h) rfl ?_ qS ?_
    rotate_left
    · intro W hW
      go_simp
      (try with_reducible rfl)
    simp only [Act.put, List.setIfInBounds_toArray, List.set_cons_zero, List.set_cons_succ]
    refine fin_one 2 rfl rfl (by kernel_rfl) (fun K hK => ?_)
    go_simp
    refine (hT _ K0.drew).mono ?_
    rintro _ w1 ⟨rfl, k1'⟩
    have k1 : On W0 w1 := (On.refl W0).drew.trans k1'
    have q1 := hS _ k1
    refine hK.out _ _ (fun _ => q1) ?_
    clear hK
    refine fin_take 3 (v := ?_) rfl (by kernel_rfl) (by kernel_rfl) (by kernel_rfl) (by kernel_rfl) (fun _ _ _ h => h) rfl ?_ q1 ?_
    rotate_left
    · intro W hW
      go_simp
      (try with_reducible rfl)
    simp only [Act.put, List.setIfInBounds_toArray, List.set_cons_zero, List.set_cons_succ]
    refine fin_take 4 (v := ?_) rfl (by kernel_rfl) (by kernel_rfl) (by kernel_rfl) (by kernel_rfl) (fun _ _ _ h => h) rfl ?_ q1 ?_
    rotate_left
    · intro W hW
      go_simp
      (try with_reducible rfl)
    simp only [Act.put, List.setIfInBounds_toArray, List.set_cons_zero, List.set_cons_succ]
    refine fin_takeN 5 rfl (by kernel_rfl) (by kernel_rfl) (by kernel_rfl) (by kernel_rfl) (fun _ _ _ h => h) (by rfl) q1 ?_
    simp only [Act.put, List.setIfInBounds_toArray, List.set_cons_zero, List.set_cons_succ]
    refine fin_takeN 6 rfl (by kernel_rfl) (by kernel_rfl) (by kernel_rfl) (by kernel_rfl) (fun _ _ _ h => h) (by rfl) q1 ?_
    simp only [Act.put, List.setIfInBounds_toArray, List.set_cons_zero, List.set_cons_succ]
    refine fin_takeN 7 rfl (by kernel_rfl) (by kernel_rfl) (by kernel_rfl) (by kernel_rfl) (fun _ _ _ h => h) (by rfl) q1 ?_
    simp only [Act.put, List.setIfInBounds_toArray, List.set_cons_zero, List.set_cons_succ]
    refine fin_take 8 (v := ?_) rfl (by kernel_rfl) (by kernel_rfl) (by kernel_rfl) (by kernel_rfl) (fun _ _ _ h => h) rfl ?_ q1 ?_
    rotate_left
    · intro W hW
      go_simp
      (try with_reducible rfl)
    simp only [Act.put, List.setIfInBounds_toArray, List.set_cons_zero, List.set_cons_succ]
    refine fin_take 9 (v := ?_) rfl (by kernel_rfl) (by kernel_rfl) (by kernel_rfl) (by kernel_rfl) (fun _ _ _ h => h) rfl ?_ q1 ?_
    rotate_left
    · intro W hW
      go_simp
      (try with_reducible rfl)
    simp only [Act.put, List.setIfInBounds_toArray, List.set_cons_zero, List.set_cons_succ]
    refine fin_takeN 10 rfl (by kernel_rfl) (by kernel_rfl) (by kernel_rfl) (by kernel_rfl) (fun _ _ _ h => h) (by rfl) q1 ?_
    simp only [Act.put, List.setIfInBounds_toArray, List.set_cons_zero, List.set_cons_succ]
    refine fin_takeN 11 rfl (by kernel_rfl) (by kernel_rfl) (by kernel_rfl) (by kernel_rfl) (fun _ _ _ h => h) (by rfl) q1 ?_
    simp only [Act.put, List.setIfInBounds_toArray, List.set_cons_zero, List.set_cons_succ]
    refine fin_takeN 12 rfl (by kernel_rfl) (by kernel_rfl) (by kernel_rfl) (by kernel_rfl) (fun _ _ _ h => h) (by rfl) q1 ?_
    simp only [Act.put, List.setIfInBounds_toArray, List.set_cons_zero, List.set_cons_succ]
    refine fin_takeN 13 rfl (by kernel_rfl) (by kernel_rfl) (by kernel_rfl) (by kernel_rfl) (fun _ _ _ h => h) (by rfl) q1 ?_
    simp only [Act.put, List.setIfInBounds_toArray, List.set_cons_zero, List.set_cons_succ]
    refine fin_takeN 14 rfl (by kernel_rfl) (by kernel_rfl) (by kernel_rfl) (by kernel_rfl) (fun _ _ _ h => h) (by rfl) q1 ?_
    simp only [Act.put, List.setIfInBounds_toArray, List.set_cons_zero, List.set_cons_succ]
    refine fin_takeN 15 rfl (by kernel_rfl) (by kernel_rfl) (by kernel_rfl) (by kernel_rfl) (fun _ _ _ h => h) (by rfl) q1 ?_
    simp only [Act.put, List.setIfInBounds_toArray, List.set_cons_zero, List.set_cons_succ]
    refine fin_takeN 16 rfl (by kernel_rfl) (by kernel_rfl) (by kernel_rfl) (by kernel_rfl) (fun _ _ _ h => h) (by rfl) q1 ?_
    simp only [Act.put, List.setIfInBounds_toArray, List.set_cons_zero, List.set_cons_succ]
    refine fin_takeN 17 rfl (by kernel_rfl) (by kernel_rfl) (by kernel_rfl) (by kernel_rfl) (fun _ _ _ h => h) (by rfl) q1 ?_
    simp only [Act.put, List.setIfInBounds_toArray, List.set_cons_zero, List.set_cons_succ]
    refine fin_takeN 18 rfl (by kernel_rfl) (by kernel_rfl) (by kernel_rfl) (by kernel_rfl) (fun _ _ _ h => h) (by rfl) q1 ?_
    simp only [Act.put, List.setIfInBounds_toArray, List.set_cons_zero, List.set_cons_succ]
    refine fin_take 19 (v := ?_) rfl (by kernel_rfl) (by kernel_rfl) (by kernel_rfl) (by kernel_rfl) (fun _ _ _ h => h) rfl ?_ q1 ?_
    rotate_left
    · intro W hW
      go_simp
      (try with_reducible rfl)
    simp only [Act.put, List.setIfInBounds_toArray, List.set_cons_zero, List.set_cons_succ]
    refine fin_done (by kernel_rfl) (NoPanic.normal ?_)
    have O1 : On w w1 := K0.trans k1
    have Z1 := ZB.on k1
    have zf := fun i => Z1.fr i
    have z0 := Z1.at (i := 0) rfl
    have z1 := Z1.at (i := 1) rfl
    have z2 := Z1.at (i := 2) rfl
    have z3 := Z1.at (i := 3) rfl
    have z4 := Z1.at (i := 4) rfl
    have z5 := Z1.at (i := 5) rfl
    have z6 := Z1.at (i := 6) rfl
    have z7 := Z1.at (i := 7) rfl
    have z8 := Z1.at (i := 8) rfl
    have zzl := Z1.lt
    go_wp2
    refine bodyPost_ret (v := .tuple #[.agg #[.int .i64 0, .int .i64 0, .int .i64 0, .int .i64 0, .int .i64 0, .int .i64 0, .int .i64 0, .int .i64 0, .int .i64 0], .bool false]) ?_ rfl ⟨rfl, ?_⟩
    · rw [results_cell_slot rfl]
      go_simp
    · (try with_reducible refine On.drew ?_)
      repeat' (first | with_reducible refine On.setNew ?_ (by omega) _ | with_reducible exact O1 | with_reducible refine On.alloc ?_ _ | with_reducible refine On.drew ?_)
  | true =>
    rw [hb] at hT
    obtain ⟨k, L, rfl, hk, hL, e, hm⟩ := there_some LL t hb
    rw [e]
    have hfl := hf L hm
    clear hb e hf
    obtain ⟨ga, oa, rfl, hga, ax, cx, uax, hxm, rx⟩ := r.row hL
    clear r
    by_cases hneg : pc < 0
    · have e : nextV (nextP L ⟨pc, r0, r1, r2, r3⟩) = .tuple #[.agg #[.int .i64 0, .int .i64 0, .int .i64 0, .int .i64 0, .int .i64 0, .int .i64 0, .int .i64 0, .int .i64 0, .int .i64 0], .bool false] := by
        unfold nextP
        rw [if_neg (by show ¬ 0 ≤ pc; omega)]
        rfl
      rw [e]
      clear e
      obtain ⟨a, ha⟩ : ∃ a : Option Addr, a = some ⟨ga, oa, none⟩ := ⟨_, rfl⟩
      rw [← ha] at hT ⊢
      clear ha uax rx hga
      obtain ⟨W0, hW0⟩ : ∃ W0, W0 = ((w.alloc (.cells #[.slice a1 m1 c1, .slice a2 m2 c2, .slice a LL.length c] 27)).alloc (.cells #[.int .i64 pc, .int .i64 r0, .int .i64 r1, .int .i64 r2, .int .i64 r3] 73)).alloc (.cells #[.int .i64 0, .int .i64 0, .int .i64 0, .int .i64 0, .int .i64 0, .int .i64 0, .int .i64 0, .int .i64 0, .int .i64 0] 107) := ⟨_, rfl⟩
      have K0 : On w W0 := by rw [hW0]; exact (((On.refl w).alloc _).alloc _).alloc _
      have PB : Bk W0 w.heap.size #[.slice a1 m1 c1, .slice a2 m2 c2, .slice a LL.length c] := by rw [hW0]; exact ((Bk.new w _ _).alloc _).alloc _
      have CB : Bk W0 (w.heap.size + 1) #[.int .i64 pc, .int .i64 r0, .int .i64 r1, .int .i64 r2, .int .i64 r3] := by
        rw [hW0]
        have := (Bk.new (w.alloc (.cells #[.slice a1 m1 c1, .slice a2 m2 c2, .slice a LL.length c] 27)) #[.int .i64 pc, .int .i64 r0, .int .i64 r1, .int .i64 r2, .int .i64 r3] 73).alloc (.cells #[.int .i64 0, .int .i64 0, .int .i64 0, .int .i64 0, .int .i64 0, .int .i64 0, .int .i64 0, .int .i64 0, .int .i64 0] 107)
        rwa [World.size_alloc] at this
      have ZB : Bk W0 (w.heap.size + 1 + 1) #[.int .i64 0, .int .i64 0, .int .i64 0, .int .i64 0, .int .i64 0, .int .i64 0, .int .i64 0, .int .i64 0, .int .i64 0] := by
        rw [hW0]
        have := Bk.new ((w.alloc (.cells #[.slice a1 m1 c1, .slice a2 m2 c2, .slice a LL.length c] 27)).alloc (.cells #[.int .i64 pc, .int .i64 r0, .int .i64 r1, .int .i64 r2, .int .i64 r3] 73)) #[.int .i64 0, .int .i64 0, .int .i64 0, .int .i64 0, .int .i64 0, .int .i64 0, .int .i64 0, .int .i64 0, .int .i64 0] 107
        rwa [World.size_alloc, World.size_alloc] at this
      have hS : ∀ W, On W0 W → W.cell? ⟨w.heap.size, 0, none⟩ = some (.slice a1 m1 c1) ∧ W.cell? ⟨w.heap.size, 1, none⟩ = some (.slice a2 m2 c2) ∧ W.cell? ⟨w.heap.size, 2, none⟩ = some (.slice a LL.length c) ∧ W.cell? ⟨w.heap.size + 1, 0, none⟩ = some (.int .i64 pc) := fun W k' => ⟨(PB.on k').at (i := 0) rfl, (PB.on k').at (i := 1) rfl, (PB.on k').at (i := 2) rfl, (CB.on k').at (i := 0) rfl⟩
      have qS := hS _ (On.refl W0).drew
      have zl := ZB.lt
      go_enter Tryz.func48, Tryz.ntmps48
      go_wp2
      rw [← hW0]
      clear hW0
      refine region_fin (fun W => W.cell? ⟨w.heap.size, 0, none⟩ = some (.slice a1 m1 c1) ∧ W.cell? ⟨w.heap.size, 1, none⟩ = some (.slice a2 m2 c2) ∧ W.cell? ⟨w.heap.size, 2, none⟩ = some (.slice a LL.length c) ∧ W.cell? ⟨w.heap.size + 1, 0, none⟩ = some (.int .i64 pc)) 99 20 (by kernel_rfl) rfl ?_
      refine fin_take 0 (v := ?_) rfl (by kernel_rfl) (by kernel_rfl) (by kernel_rfl) (by kernel_rfl) (fun _ _ _ h => h) rfl ?_ qS ?_
      rotate_left
      · intro W hW
        go_simp
        (try with_reducible rfl)
      simp only [Act.put, List.setIfInBounds_toArray, List.set_cons_zero, List.set_cons_succ]
      refine fin_take 1 (v := ?_) rfl (by kernel_rfl) (by kernel_rfl) (by kernel_rfl) (by kernel_rfl) (fun _ _ _ h => h) rfl ?_ qS ?_
      rotate_left
      · intro W hW
        go_simp
        (try with_reducible rfl)
      simp only [Act.put, List.setIfInBounds_toArray, List.set_cons_zero, List.set_cons_succ]
      refine fin_one 2 rfl rfl (by kernel_rfl) (fun K hK => ?_)
      go_simp
      refine (hT _ K0.drew).mono ?_
      rintro _ w1 ⟨rfl, k1'⟩
      have k1 : On W0 w1 := (On.refl W0).drew.trans k1'
      have q1 := hS _ k1
      refine hK.out _ _ (fun _ => q1) ?_
      clear hK
      refine fin_take 3 (v := ?_) rfl (by kernel_rfl) (by kernel_rfl) (by kernel_rfl) (by kernel_rfl) (fun _ _ _ h => h) rfl ?_ q1 ?_
      rotate_left
      · intro W hW
        go_simp
        (try with_reducible rfl)
      simp only [Act.put, List.setIfInBounds_toArray, List.set_cons_zero, List.set_cons_succ]
      refine fin_take 4 (v := ?_) rfl (by kernel_rfl) (by kernel_rfl) (by kernel_rfl) (by kernel_rfl) (fun _ _ _ h => h) rfl ?_ q1 ?_
      rotate_left
      · intro W hW
        go_simp
        (try with_reducible rfl)
      simp only [Act.put, List.setIfInBounds_toArray, List.set_cons_zero, List.set_cons_succ]
      refine fin_takeG 5 (v := ?_) rfl (by kernel_rfl) (by kernel_rfl) (by kernel_rfl) (by kernel_rfl) (fun _ _ _ h => h) (by rfl) ?_ q1 ?_
      rotate_left
      · intro W hW
        go_simp
        (try with_reducible rfl)
      simp only [Act.put, List.setIfInBounds_toArray, List.set_cons_zero, List.set_cons_succ]
      refine fin_takeG 6 (v := ?_) rfl (by kernel_rfl) (by kernel_rfl) (by kernel_rfl) (by kernel_rfl) (fun _ _ _ h => h) (by rfl) ?_ q1 ?_
      rotate_left
      · intro W hW
        go_simp
        (try with_reducible rfl)
      simp only [Act.put, List.setIfInBounds_toArray, List.set_cons_zero, List.set_cons_succ]
      refine fin_takeG 7 (v := ?_) rfl (by kernel_rfl) (by kernel_rfl) (by kernel_rfl) (by kernel_rfl) (fun _ _ _ h => h) (by rfl) ?_ q1 ?_
      rotate_left
      · intro W hW
        go_simp
        (try with_reducible rfl)
      simp only [Act.put, List.setIfInBounds_toArray, List.set_cons_zero, List.set_cons_succ]
      refine fin_take 8 (v := ?_) rfl (by kernel_rfl) (by kernel_rfl) (by kernel_rfl) (by kernel_rfl) (fun _ _ _ h => h) rfl ?_ q1 ?_
      rotate_left
      · intro W hW
        go_simp
        (try with_reducible rfl)
      simp only [Act.put, List.setIfInBounds_toArray, List.set_cons_zero, List.set_cons_succ]
      refine fin_take 9 (v := ?_) rfl (by kernel_rfl) (by kernel_rfl) (by kernel_rfl) (by kernel_rfl) (fun _ _ _ h => h) rfl ?_ q1 ?_
      rotate_left
      · intro W hW
        go_simp
        (try with_reducible rfl)
      simp only [Act.put, List.setIfInBounds_toArray, List.set_cons_zero, List.set_cons_succ]
      refine fin_takeN 10 rfl (by kernel_rfl) (by kernel_rfl) (by kernel_rfl) (by kernel_rfl) (fun _ _ _ h => h) (by rfl) q1 ?_
      simp only [Act.put, List.setIfInBounds_toArray, List.set_cons_zero, List.set_cons_succ]
      refine fin_takeN 11 rfl (by kernel_rfl) (by kernel_rfl) (by kernel_rfl) (by kernel_rfl) (fun _ _ _ h => h) (by rfl) q1 ?_
      simp only [Act.put, List.setIfInBounds_toArray, List.set_cons_zero, List.set_cons_succ]
      refine fin_takeN 12 rfl (by kernel_rfl) (by kernel_rfl) (by kernel_rfl) (by kernel_rfl) (fun _ _ _ h => h) (by rfl) q1 ?_
      simp only [Act.put, List.setIfInBounds_toArray, List.set_cons_zero, List.set_cons_succ]
      refine fin_takeN 13 rfl (by kernel_rfl) (by kernel_rfl) (by kernel_rfl) (by kernel_rfl) (fun _ _ _ h => h) (by rfl) q1 ?_
      simp only [Act.put, List.setIfInBounds_toArray, List.set_cons_zero, List.set_cons_succ]
      refine fin_takeN 14 rfl (by kernel_rfl) (by kernel_rfl) (by kernel_rfl) (by kernel_rfl) (fun _ _ _ h => h) (by rfl) q1 ?_
      simp only [Act.put, List.setIfInBounds_toArray, List.set_cons_zero, List.set_cons_succ]
      refine fin_takeN 15 rfl (by kernel_rfl) (by kernel_rfl) (by kernel_rfl) (by kernel_rfl) (fun _ _ _ h => h) (by rfl) q1 ?_
      simp only [Act.put, List.setIfInBounds_toArray, List.set_cons_zero, List.set_cons_succ]
      refine fin_takeN 16 rfl (by kernel_rfl) (by kernel_rfl) (by kernel_rfl) (by kernel_rfl) (fun _ _ _ h => h) (by rfl) q1 ?_
      simp only [Act.put, List.setIfInBounds_toArray, List.set_cons_zero, List.set_cons_succ]
      refine fin_takeN 17 rfl (by kernel_rfl) (by kernel_rfl) (by kernel_rfl) (by kernel_rfl) (fun _ _ _ h => h) (by rfl) q1 ?_
      simp only [Act.put, List.setIfInBounds_toArray, List.set_cons_zero, List.set_cons_succ]
      refine fin_takeN 18 rfl (by kernel_rfl) (by kernel_rfl) (by kernel_rfl) (by kernel_rfl) (fun _ _ _ h => h) (by rfl) q1 ?_
      simp only [Act.put, List.setIfInBounds_toArray, List.set_cons_zero, List.set_cons_succ]
      refine fin_take 19 (v := ?_) rfl (by kernel_rfl) (by kernel_rfl) (by kernel_rfl) (by kernel_rfl) (fun _ _ _ h => h) rfl ?_ q1 ?_
      rotate_left
      · intro W hW
        go_simp
        (try with_reducible rfl)
      simp only [Act.put, List.setIfInBounds_toArray, List.set_cons_zero, List.set_cons_succ]
      refine fin_done (by kernel_rfl) (NoPanic.normal ?_)
      have O1 : On w w1 := K0.trans k1
      have Z1 := ZB.on k1
      have zf := fun i => Z1.fr i
      have z0 := Z1.at (i := 0) rfl
      have z1 := Z1.at (i := 1) rfl
      have z2 := Z1.at (i := 2) rfl
      have z3 := Z1.at (i := 3) rfl
      have z4 := Z1.at (i := 4) rfl
      have z5 := Z1.at (i := 5) rfl
      have z6 := Z1.at (i := 6) rfl
      have z7 := Z1.at (i := 7) rfl
      have z8 := Z1.at (i := 8) rfl
      have zzl := Z1.lt
      go_wp2
      refine bodyPost_ret (v := .tuple #[.agg #[.int .i64 0, .int .i64 0, .int .i64 0, .int .i64 0, .int .i64 0, .int .i64 0, .int .i64 0, .int .i64 0, .int .i64 0], .bool false]) ?_ rfl ⟨rfl, ?_⟩
      · rw [results_cell_slot rfl]
        go_simp
      · (try with_reducible refine On.drew ?_)
        repeat' (first | with_reducible refine On.setNew ?_ (by omega) _ | with_reducible exact O1 | with_reducible refine On.alloc ?_ _ | with_reducible refine On.drew ?_)
    · obtain ⟨n, rfl⟩ : ∃ n : Nat, pc = (n : Int) := ⟨pc.toNat, by omega⟩
      clear hneg
      rcases Nat.lt_or_ge n L.length with hlt | hge
      · obtain ⟨x, hx⟩ : ∃ x, L[n]? = some x := ⟨_, List.getElem?_eq_getElem hlt⟩
        have hkx := (hfl n x hx).2.1
        obtain ⟨gx, ox, rfl, hgx, hcell⟩ := rx.at hx
        cases hs : seenB x.k with
        | true =>
          have e : nextV (nextP L ⟨(n : Int), r0, r1, r2, r3⟩) = .tuple #[.agg #[.int .i64 x.k, .int .i64 x.r, .int .i64 x.l, .int .i64 x.a.r, .int .i64 x.a.v, .int .i64 x.o, .int .i64 x.b.r, .int .i64 x.b.v, .int .i64 x.n], .bool true] := by
            unfold nextP
            rw [if_pos (Int.natCast_nonneg n)]
            simp only [Int.toNat_natCast, hx, hs]
            rfl
          rw [e]
          rw [hs] at hkx
          have hk5 : (x.k == 5) = false := by revert hkx; cases (x.k == 5) <;> simp
          have hk6 : (x.k == 6) = false := by revert hkx; cases (x.k == 6) <;> simp
          clear e hx hkx hs hfl rx
          obtain ⟨W0, hW0⟩ : ∃ W0, W0 = ((w.alloc (.cells #[.slice a1 m1 c1, .slice a2 m2 c2, .slice (some ⟨ga, oa, none⟩) LL.length c] 27)).alloc (.cells #[.int .i64 (n : Int), .int .i64 r0, .int .i64 r1, .int .i64 r2, .int .i64 r3] 73)).alloc (.cells #[.int .i64 0, .int .i64 0, .int .i64 0, .int .i64 0, .int .i64 0, .int .i64 0, .int .i64 0, .int .i64 0, .int .i64 0] 107) := ⟨_, rfl⟩
          have K0 : On w W0 := by rw [hW0]; exact (((On.refl w).alloc _).alloc _).alloc _
          have PB : Bk W0 w.heap.size #[.slice a1 m1 c1, .slice a2 m2 c2, .slice (some ⟨ga, oa, none⟩) LL.length c] := by rw [hW0]; exact ((Bk.new w _ _).alloc _).alloc _
          have CB : Bk W0 (w.heap.size + 1) #[.int .i64 (n : Int), .int .i64 r0, .int .i64 r1, .int .i64 r2, .int .i64 r3] := by
            rw [hW0]
            have := (Bk.new (w.alloc (.cells #[.slice a1 m1 c1, .slice a2 m2 c2, .slice (some ⟨ga, oa, none⟩) LL.length c] 27)) #[.int .i64 (n : Int), .int .i64 r0, .int .i64 r1, .int .i64 r2, .int .i64 r3] 73).alloc (.cells #[.int .i64 0, .int .i64 0, .int .i64 0, .int .i64 0, .int .i64 0, .int .i64 0, .int .i64 0, .int .i64 0, .int .i64 0] 107)
            rwa [World.size_alloc] at this
          have ZB : Bk W0 (w.heap.size + 1 + 1) #[.int .i64 0, .int .i64 0, .int .i64 0, .int .i64 0, .int .i64 0, .int .i64 0, .int .i64 0, .int .i64 0, .int .i64 0] := by
            rw [hW0]
            have := Bk.new ((w.alloc (.cells #[.slice a1 m1 c1, .slice a2 m2 c2, .slice (some ⟨ga, oa, none⟩) LL.length c] 27)).alloc (.cells #[.int .i64 (n : Int), .int .i64 r0, .int .i64 r1, .int .i64 r2, .int .i64 r3] 73)) #[.int .i64 0, .int .i64 0, .int .i64 0, .int .i64 0, .int .i64 0, .int .i64 0, .int .i64 0, .int .i64 0, .int .i64 0] 107
            rwa [World.size_alloc, World.size_alloc] at this
          have uaxW := (K0.cell (p := ⟨ga, oa + k, none⟩) hga).trans uax
          have hgaW : ga < W0.heap.size := Nat.lt_of_lt_of_le hga K0.size
          have hS : ∀ W, On W0 W → W.cell? ⟨w.heap.size, 0, none⟩ = some (.slice a1 m1 c1) ∧ W.cell? ⟨w.heap.size, 1, none⟩ = some (.slice a2 m2 c2) ∧ W.cell? ⟨w.heap.size, 2, none⟩ = some (.slice (some ⟨ga, oa, none⟩) LL.length c) ∧ W.cell? ⟨w.heap.size + 1, 0, none⟩ = some (.int .i64 (n : Int)) ∧ W.cell? ⟨ga, oa + k, none⟩ = some (.slice (some ⟨gx, ox, none⟩) L.length cx) := fun W k' => ⟨(PB.on k').at (i := 0) rfl, (PB.on k').at (i := 1) rfl, (PB.on k').at (i := 2) rfl, (CB.on k').at (i := 0) rfl, (k'.cell (p := ⟨ga, oa + k, none⟩) hgaW).trans uaxW⟩
          have qS := hS _ (On.refl W0).drew
          have zl := ZB.lt
          go_enter Tryz.func48, Tryz.ntmps48
          go_wp2
          rw [← hW0]
          clear hW0
          refine region_fin (fun W => W.cell? ⟨w.heap.size, 0, none⟩ = some (.slice a1 m1 c1) ∧ W.cell? ⟨w.heap.size, 1, none⟩ = some (.slice a2 m2 c2) ∧ W.cell? ⟨w.heap.size, 2, none⟩ = some (.slice (some ⟨ga, oa, none⟩) LL.length c) ∧ W.cell? ⟨w.heap.size + 1, 0, none⟩ = some (.int .i64 (n : Int)) ∧ W.cell? ⟨ga, oa + k, none⟩ = some (.slice (some ⟨gx, ox, none⟩) L.length cx)) 99 20 (by kernel_rfl) rfl ?_
          refine fin_take 0 (v := ?_) rfl (by kernel_rfl) (by kernel_rfl) (by kernel_rfl) (by kernel_rfl) (fun _ _ _ h => h) rfl ?_ qS ?_
          rotate_left
          · intro W hW
            go_simp
            (try with_reducible rfl)
          simp only [Act.put, List.setIfInBounds_toArray, List.set_cons_zero, List.set_cons_succ]
          refine fin_take 1 (v := ?_) rfl (by kernel_rfl) (by kernel_rfl) (by kernel_rfl) (by kernel_rfl) (fun _ _ _ h => h) rfl ?_ qS ?_
          rotate_left
          · intro W hW
            go_simp
            (try with_reducible rfl)
          simp only [Act.put, List.setIfInBounds_toArray, List.set_cons_zero, List.set_cons_succ]
          refine fin_one 2 rfl rfl (by kernel_rfl) (fun K hK => ?_)
          go_simp
          refine (hT _ K0.drew).mono ?_
          rintro _ w1 ⟨rfl, k1'⟩
          have k1 : On W0 w1 := (On.refl W0).drew.trans k1'
          have q1 := hS _ k1
          refine hK.out _ _ (fun _ => q1) ?_
          clear hK
          refine fin_take 3 (v := ?_) rfl (by kernel_rfl) (by kernel_rfl) (by kernel_rfl) (by kernel_rfl) (fun _ _ _ h => h) rfl ?_ q1 ?_
          rotate_left
          · intro W hW
            go_simp
            (try with_reducible rfl)
          simp only [Act.put, List.setIfInBounds_toArray, List.set_cons_zero, List.set_cons_succ]
          refine fin_take 4 (v := ?_) rfl (by kernel_rfl) (by kernel_rfl) (by kernel_rfl) (by kernel_rfl) (fun _ _ _ h => h) rfl ?_ q1 ?_
          rotate_left
          · intro W hW
            go_simp
            (try with_reducible rfl)
          simp only [Act.put, List.setIfInBounds_toArray, List.set_cons_zero, List.set_cons_succ]
          refine fin_takeG 5 (v := ?_) rfl (by kernel_rfl) (by kernel_rfl) (by kernel_rfl) (by kernel_rfl) (fun _ _ _ h => h) (by rfl) ?_ q1 ?_
          rotate_left
          · intro W hW
            go_simp
            (try with_reducible rfl)
          simp only [Act.put, List.setIfInBounds_toArray, List.set_cons_zero, List.set_cons_succ]
          refine fin_takeG 6 (v := ?_) rfl (by kernel_rfl) (by kernel_rfl) (by kernel_rfl) (by kernel_rfl) (fun _ _ _ h => h) (by rfl) ?_ q1 ?_
          rotate_left
          · intro W hW
            go_simp
            (try with_reducible rfl)
          simp only [Act.put, List.setIfInBounds_toArray, List.set_cons_zero, List.set_cons_succ]
          refine fin_takeG 7 (v := ?_) rfl (by kernel_rfl) (by kernel_rfl) (by kernel_rfl) (by kernel_rfl) (fun _ _ _ h => h) (by rfl) ?_ q1 ?_
          rotate_left
          · intro W hW
            go_simp
            (try with_reducible rfl)
          simp only [Act.put, List.setIfInBounds_toArray, List.set_cons_zero, List.set_cons_succ]
          refine fin_take 8 (v := ?_) rfl (by kernel_rfl) (by kernel_rfl) (by kernel_rfl) (by kernel_rfl) (fun _ _ _ h => h) rfl ?_ q1 ?_
          rotate_left
          · intro W hW
            go_simp
            (try with_reducible rfl)
          simp only [Act.put, List.setIfInBounds_toArray, List.set_cons_zero, List.set_cons_succ]
          refine fin_take 9 (v := ?_) rfl (by kernel_rfl) (by kernel_rfl) (by kernel_rfl) (by kernel_rfl) (fun _ _ _ h => h) rfl ?_ q1 ?_
          rotate_left
          · intro W hW
            go_simp
            (try with_reducible rfl)
          simp only [Act.put, List.setIfInBounds_toArray, List.set_cons_zero, List.set_cons_succ]
          refine fin_takeG 10 (v := ?_) rfl (by kernel_rfl) (by kernel_rfl) (by kernel_rfl) (by kernel_rfl) (fun _ _ _ h => h) (by rfl) ?_ q1 ?_
          rotate_left
          · intro W hW
            go_simp
            (try with_reducible rfl)
          simp only [Act.put, List.setIfInBounds_toArray, List.set_cons_zero, List.set_cons_succ]
          refine fin_takeG 11 (v := ?_) rfl (by kernel_rfl) (by kernel_rfl) (by kernel_rfl) (by kernel_rfl) (fun _ _ _ h => h) (by rfl) ?_ q1 ?_
          rotate_left
          · intro W hW
            go_simp
            (try with_reducible rfl)
          simp only [Act.put, List.setIfInBounds_toArray, List.set_cons_zero, List.set_cons_succ]
          refine fin_takeG 12 (v := ?_) rfl (by kernel_rfl) (by kernel_rfl) (by kernel_rfl) (by kernel_rfl) (fun _ _ _ h => h) (by rfl) ?_ q1 ?_
          rotate_left
          · intro W hW
            go_simp
            (try with_reducible rfl)
          simp only [Act.put, List.setIfInBounds_toArray, List.set_cons_zero, List.set_cons_succ]
          refine fin_takeG 13 (v := ?_) rfl (by kernel_rfl) (by kernel_rfl) (by kernel_rfl) (by kernel_rfl) (fun _ _ _ h => h) (by rfl) ?_ q1 ?_
          rotate_left
          · intro W hW
            go_simp
            (try with_reducible rfl)
          simp only [Act.put, List.setIfInBounds_toArray, List.set_cons_zero, List.set_cons_succ]
          refine fin_takeG 14 (v := ?_) rfl (by kernel_rfl) (by kernel_rfl) (by kernel_rfl) (by kernel_rfl) (fun _ _ _ h => h) (by rfl) ?_ q1 ?_
          rotate_left
          · intro W hW
            go_simp
            (try with_reducible rfl)
          simp only [Act.put, List.setIfInBounds_toArray, List.set_cons_zero, List.set_cons_succ]
          refine fin_takeG 15 (v := ?_) rfl (by kernel_rfl) (by kernel_rfl) (by kernel_rfl) (by kernel_rfl) (fun _ _ _ h => h) (by rfl) ?_ q1 ?_
          rotate_left
          · intro W hW
            go_simp
            (try with_reducible rfl)
          simp only [Act.put, List.setIfInBounds_toArray, List.set_cons_zero, List.set_cons_succ]
          refine fin_takeG 16 (v := ?_) rfl (by kernel_rfl) (by kernel_rfl) (by kernel_rfl) (by kernel_rfl) (fun _ _ _ h => h) (by rfl) ?_ q1 ?_
          rotate_left
          · intro W hW
            go_simp
            (try with_reducible rfl)
          simp only [Act.put, List.setIfInBounds_toArray, List.set_cons_zero, List.set_cons_succ]
          refine fin_takeG 17 (v := ?_) rfl (by kernel_rfl) (by kernel_rfl) (by kernel_rfl) (by kernel_rfl) (fun _ _ _ h => h) (by rfl) ?_ q1 ?_
          rotate_left
          · intro W hW
            go_simp
            (try with_reducible rfl)
          simp only [Act.put, List.setIfInBounds_toArray, List.set_cons_zero, List.set_cons_succ]
          refine fin_takeG 18 (v := ?_) rfl (by kernel_rfl) (by kernel_rfl) (by kernel_rfl) (by kernel_rfl) (fun _ _ _ h => h) (by rfl) ?_ q1 ?_
          rotate_left
          · intro W hW
            go_simp
            (try with_reducible rfl)
          simp only [Act.put, List.setIfInBounds_toArray, List.set_cons_zero, List.set_cons_succ]
          refine fin_take 19 (v := ?_) rfl (by kernel_rfl) (by kernel_rfl) (by kernel_rfl) (by kernel_rfl) (fun _ _ _ h => h) rfl ?_ q1 ?_
          rotate_left
          · intro W hW
            go_simp
            (try with_reducible rfl)
          simp only [Act.put, List.setIfInBounds_toArray, List.set_cons_zero, List.set_cons_succ]
          refine fin_done (by kernel_rfl) (NoPanic.normal ?_)
          have O1 : On w w1 := K0.trans k1
          have Z1 := ZB.on k1
          have qI : ∀ W, On w1 W → W.cell? ⟨w.heap.size, 0, none⟩ = some (.slice a1 m1 c1) ∧ W.cell? ⟨w.heap.size, 1, none⟩ = some (.slice a2 m2 c2) ∧ W.cell? ⟨w.heap.size, 2, none⟩ = some (.slice (some ⟨ga, oa, none⟩) LL.length c) ∧ W.cell? ⟨w.heap.size + 1, 0, none⟩ = some (.int .i64 (n : Int)) ∧ W.cell? ⟨ga, oa + k, none⟩ = some (.slice (some ⟨gx, ox, none⟩) L.length cx) ∧ W.cell? ⟨gx, ox + n * 9, none⟩ = some (.int .i64 x.k) ∧ W.cell? ⟨gx, ox + n * 9 + 1, none⟩ = some (.int .i64 x.r) ∧ W.cell? ⟨gx, ox + n * 9 + 2, none⟩ = some (.int .i64 x.l) ∧ W.cell? ⟨gx, ox + n * 9 + 3, none⟩ = some (.int .i64 x.a.r) ∧ W.cell? ⟨gx, ox + n * 9 + 4, none⟩ = some (.int .i64 x.a.v) ∧ W.cell? ⟨gx, ox + n * 9 + 5, none⟩ = some (.int .i64 x.o) ∧ W.cell? ⟨gx, ox + n * 9 + 6, none⟩ = some (.int .i64 x.b.r) ∧ W.cell? ⟨gx, ox + n * 9 + 7, none⟩ = some (.int .i64 x.b.v) ∧ W.cell? ⟨gx, ox + n * 9 + 8, none⟩ = some (.int .i64 x.n) := fun W k' => ⟨(PB.on (k1.trans k')).at (i := 0) rfl, (PB.on (k1.trans k')).at (i := 1) rfl, (PB.on (k1.trans k')).at (i := 2) rfl, (CB.on (k1.trans k')).at (i := 0) rfl, ((k1.trans k').cell (p := ⟨ga, oa + k, none⟩) hgaW).trans uaxW, ((O1.trans k').cell (p := ⟨gx, ox + n * 9 + 0, none⟩) hgx).trans (hcell 0 _ rfl), ((O1.trans k').cell (p := ⟨gx, ox + n * 9 + 1, none⟩) hgx).trans (hcell 1 _ rfl), ((O1.trans k').cell (p := ⟨gx, ox + n * 9 + 2, none⟩) hgx).trans (hcell 2 _ rfl), ((O1.trans k').cell (p := ⟨gx, ox + n * 9 + 3, none⟩) hgx).trans (hcell 3 _ rfl), ((O1.trans k').cell (p := ⟨gx, ox + n * 9 + 4, none⟩) hgx).trans (hcell 4 _ rfl), ((O1.trans k').cell (p := ⟨gx, ox + n * 9 + 5, none⟩) hgx).trans (hcell 5 _ rfl), ((O1.trans k').cell (p := ⟨gx, ox + n * 9 + 6, none⟩) hgx).trans (hcell 6 _ rfl), ((O1.trans k').cell (p := ⟨gx, ox + n * 9 + 7, none⟩) hgx).trans (hcell 7 _ rfl), ((O1.trans k').cell (p := ⟨gx, ox + n * 9 + 8, none⟩) hgx).trans (hcell 8 _ rfl)⟩
          have q2 := qI _ (On.refl w1).drew
          have k1l := k1.size
          go_wp2
          refine region_fin (fun W => W.cell? ⟨w.heap.size, 0, none⟩ = some (.slice a1 m1 c1) ∧ W.cell? ⟨w.heap.size, 1, none⟩ = some (.slice a2 m2 c2) ∧ W.cell? ⟨w.heap.size, 2, none⟩ = some (.slice (some ⟨ga, oa, none⟩) LL.length c) ∧ W.cell? ⟨w.heap.size + 1, 0, none⟩ = some (.int .i64 (n : Int)) ∧ W.cell? ⟨ga, oa + k, none⟩ = some (.slice (some ⟨gx, ox, none⟩) L.length cx) ∧ W.cell? ⟨gx, ox + n * 9, none⟩ = some (.int .i64 x.k) ∧ W.cell? ⟨gx, ox + n * 9 + 1, none⟩ = some (.int .i64 x.r) ∧ W.cell? ⟨gx, ox + n * 9 + 2, none⟩ = some (.int .i64 x.l) ∧ W.cell? ⟨gx, ox + n * 9 + 3, none⟩ = some (.int .i64 x.a.r) ∧ W.cell? ⟨gx, ox + n * 9 + 4, none⟩ = some (.int .i64 x.a.v) ∧ W.cell? ⟨gx, ox + n * 9 + 5, none⟩ = some (.int .i64 x.o) ∧ W.cell? ⟨gx, ox + n * 9 + 6, none⟩ = some (.int .i64 x.b.r) ∧ W.cell? ⟨gx, ox + n * 9 + 7, none⟩ = some (.int .i64 x.b.v) ∧ W.cell? ⟨gx, ox + n * 9 + 8, none⟩ = some (.int .i64 x.n)) 10 11 (by kernel_rfl) rfl ?_
          refine fin_take 0 (v := ?_) rfl (by kernel_rfl) (by kernel_rfl) (by kernel_rfl) (by kernel_rfl) (fun _ _ _ h => h) rfl ?_ q2 ?_
          rotate_left
          · intro W hW
            go_simp
            (try with_reducible rfl)
          simp only [Act.put, List.setIfInBounds_toArray, List.set_cons_zero, List.set_cons_succ]
          refine fin_take 1 (v := ?_) rfl (by kernel_rfl) (by kernel_rfl) (by kernel_rfl) (by kernel_rfl) (fun _ _ _ h => h) rfl ?_ q2 ?_
          rotate_left
          · intro W hW
            go_simp
            (try with_reducible rfl)
          simp only [Act.put, List.setIfInBounds_toArray, List.set_cons_zero, List.set_cons_succ]
          refine fin_take 2 (v := ?_) rfl (by kernel_rfl) (by kernel_rfl) (by kernel_rfl) (by kernel_rfl) (fun _ _ _ h => h) rfl ?_ q2 ?_
          rotate_left
          · intro W hW
            go_simp
            (try with_reducible rfl)
          simp only [Act.put, List.setIfInBounds_toArray, List.set_cons_zero, List.set_cons_succ]
          refine fin_take 3 (v := ?_) rfl (by kernel_rfl) (by kernel_rfl) (by kernel_rfl) (by kernel_rfl) (fun _ _ _ h => h) rfl ?_ q2 ?_
          rotate_left
          · intro W hW
            go_simp
            (try with_reducible rfl)
          simp only [Act.put, List.setIfInBounds_toArray, List.set_cons_zero, List.set_cons_succ]
          refine fin_take 4 (v := ?_) rfl (by kernel_rfl) (by kernel_rfl) (by kernel_rfl) (by kernel_rfl) (fun _ _ _ h => h) rfl ?_ q2 ?_
          rotate_left
          · intro W hW
            go_simp
            (try with_reducible rfl)
          simp only [Act.put, List.setIfInBounds_toArray, List.set_cons_zero, List.set_cons_succ]
          refine fin_take 5 (v := ?_) rfl (by kernel_rfl) (by kernel_rfl) (by kernel_rfl) (by kernel_rfl) (fun _ _ _ h => h) rfl ?_ q2 ?_
          rotate_left
          · intro W hW
            go_simp
            (try with_reducible rfl)
          simp only [Act.put, List.setIfInBounds_toArray, List.set_cons_zero, List.set_cons_succ]
          refine fin_take 6 (v := ?_) rfl (by kernel_rfl) (by kernel_rfl) (by kernel_rfl) (by kernel_rfl) (fun _ _ _ h => h) rfl ?_ q2 ?_
          rotate_left
          · intro W hW
            go_simp
            (try with_reducible rfl)
          simp only [Act.put, List.setIfInBounds_toArray, List.set_cons_zero, List.set_cons_succ]
          refine fin_take 7 (v := ?_) rfl (by kernel_rfl) (by kernel_rfl) (by kernel_rfl) (by kernel_rfl) (fun _ _ _ h => h) rfl ?_ q2 ?_
          rotate_left
          · intro W hW
            go_simp
            (try with_reducible rfl)
          simp only [Act.put, List.setIfInBounds_toArray, List.set_cons_zero, List.set_cons_succ]
          refine fin_take 8 (v := ?_) rfl (by kernel_rfl) (by kernel_rfl) (by kernel_rfl) (by kernel_rfl) (fun _ _ _ h => h) rfl ?_ q2 ?_
          rotate_left
          · intro W hW
            go_simp
            (try with_reducible rfl)
          simp only [Act.put, List.setIfInBounds_toArray, List.set_cons_zero, List.set_cons_succ]
          refine fin_one 9 rfl rfl (by kernel_rfl) (fun K hK => ?_)
          go_simp
          refine hK.out _ _ (fun _ => qI _ ((On.refl w1).alloc _).drew) ?_
          clear hK
          refine fin_one 10 rfl rfl (by kernel_rfl) (fun K hK => ?_)
          go_simp
          refine hK.out _ _ (fun h => absurd rfl h) ?_
          refine fin_done (by kernel_rfl) (NoPanic.normal ?_)
          have hwr : w.heap.size + 1 + 1 < w1.heap.size := by omega
          have hne : ¬ w1.heap.size = w.heap.size + 1 + 1 := by omega
          clear q2 qI hcell
          have zf := fun i => Z1.fr i
          have z0 := Z1.at (i := 0) rfl
          have z1 := Z1.at (i := 1) rfl
          have z2 := Z1.at (i := 2) rfl
          have z3 := Z1.at (i := 3) rfl
          have z4 := Z1.at (i := 4) rfl
          have z5 := Z1.at (i := 5) rfl
          have z6 := Z1.at (i := 6) rfl
          have z7 := Z1.at (i := 7) rfl
          have z8 := Z1.at (i := 8) rfl
          have zzl := Z1.lt
          go_wp2
          refine bodyPost_ret (v := .tuple #[.agg #[.int .i64 x.k, .int .i64 x.r, .int .i64 x.l, .int .i64 x.a.r, .int .i64 x.a.v, .int .i64 x.o, .int .i64 x.b.r, .int .i64 x.b.v, .int .i64 x.n], .bool true]) ?_ rfl ⟨rfl, ?_⟩
          · rw [results_cell_slot rfl]
            go_simp
          · (try with_reducible refine On.drew ?_)
            repeat' (first | with_reducible refine On.setNew ?_ (by omega) _ | with_reducible exact O1 | with_reducible refine On.alloc ?_ _ | with_reducible refine On.drew ?_)
        | false =>
          have e : nextV (nextP L ⟨(n : Int), r0, r1, r2, r3⟩) = .tuple #[.agg #[.int .i64 0, .int .i64 0, .int .i64 0, .int .i64 0, .int .i64 0, .int .i64 0, .int .i64 0, .int .i64 0, .int .i64 0], .bool false] := by
            unfold nextP
            rw [if_pos (Int.natCast_nonneg n)]
            simp only [Int.toNat_natCast, hx, hs]
            rfl
          rw [e]
          rw [hs] at hkx
          clear e hx hs hfl rx
          cases hk5 : (x.k == 5)
          · have hk6 : (x.k == 6) = true := by rw [hk5] at hkx; simpa using hkx
            clear hkx
            obtain ⟨W0, hW0⟩ : ∃ W0, W0 = ((w.alloc (.cells #[.slice a1 m1 c1, .slice a2 m2 c2, .slice (some ⟨ga, oa, none⟩) LL.length c] 27)).alloc (.cells #[.int .i64 (n : Int), .int .i64 r0, .int .i64 r1, .int .i64 r2, .int .i64 r3] 73)).alloc (.cells #[.int .i64 0, .int .i64 0, .int .i64 0, .int .i64 0, .int .i64 0, .int .i64 0, .int .i64 0, .int .i64 0, .int .i64 0] 107) := ⟨_, rfl⟩
            have K0 : On w W0 := by rw [hW0]; exact (((On.refl w).alloc _).alloc _).alloc _
            have PB : Bk W0 w.heap.size #[.slice a1 m1 c1, .slice a2 m2 c2, .slice (some ⟨ga, oa, none⟩) LL.length c] := by rw [hW0]; exact ((Bk.new w _ _).alloc _).alloc _
            have CB : Bk W0 (w.heap.size + 1) #[.int .i64 (n : Int), .int .i64 r0, .int .i64 r1, .int .i64 r2, .int .i64 r3] := by
              rw [hW0]
              have := (Bk.new (w.alloc (.cells #[.slice a1 m1 c1, .slice a2 m2 c2, .slice (some ⟨ga, oa, none⟩) LL.length c] 27)) #[.int .i64 (n : Int), .int .i64 r0, .int .i64 r1, .int .i64 r2, .int .i64 r3] 73).alloc (.cells #[.int .i64 0, .int .i64 0, .int .i64 0, .int .i64 0, .int .i64 0, .int .i64 0, .int .i64 0, .int .i64 0, .int .i64 0] 107)
              rwa [World.size_alloc] at this
            have ZB : Bk W0 (w.heap.size + 1 + 1) #[.int .i64 0, .int .i64 0, .int .i64 0, .int .i64 0, .int .i64 0, .int .i64 0, .int .i64 0, .int .i64 0, .int .i64 0] := by
              rw [hW0]
              have := Bk.new ((w.alloc (.cells #[.slice a1 m1 c1, .slice a2 m2 c2, .slice (some ⟨ga, oa, none⟩) LL.length c] 27)).alloc (.cells #[.int .i64 (n : Int), .int .i64 r0, .int .i64 r1, .int .i64 r2, .int .i64 r3] 73)) #[.int .i64 0, .int .i64 0, .int .i64 0, .int .i64 0, .int .i64 0, .int .i64 0, .int .i64 0, .int .i64 0, .int .i64 0] 107
              rwa [World.size_alloc, World.size_alloc] at this
            have uaxW := (K0.cell (p := ⟨ga, oa + k, none⟩) hga).trans uax
            have hgaW : ga < W0.heap.size := Nat.lt_of_lt_of_le hga K0.size
            have hS : ∀ W, On W0 W → W.cell? ⟨w.heap.size, 0, none⟩ = some (.slice a1 m1 c1) ∧ W.cell? ⟨w.heap.size, 1, none⟩ = some (.slice a2 m2 c2) ∧ W.cell? ⟨w.heap.size, 2, none⟩ = some (.slice (some ⟨ga, oa, none⟩) LL.length c) ∧ W.cell? ⟨w.heap.size + 1, 0, none⟩ = some (.int .i64 (n : Int)) ∧ W.cell? ⟨ga, oa + k, none⟩ = some (.slice (some ⟨gx, ox, none⟩) L.length cx) := fun W k' => ⟨(PB.on k').at (i := 0) rfl, (PB.on k').at (i := 1) rfl, (PB.on k').at (i := 2) rfl, (CB.on k').at (i := 0) rfl, (k'.cell (p := ⟨ga, oa + k, none⟩) hgaW).trans uaxW⟩
            have qS := hS _ (On.refl W0).drew
            have zl := ZB.lt
            go_enter Tryz.func48, Tryz.ntmps48
            go_wp2
            rw [← hW0]
            clear hW0
            refine region_fin (fun W => W.cell? ⟨w.heap.size, 0, none⟩ = some (.slice a1 m1 c1) ∧ W.cell? ⟨w.heap.size, 1, none⟩ = some (.slice a2 m2 c2) ∧ W.cell? ⟨w.heap.size, 2, none⟩ = some (.slice (some ⟨ga, oa, none⟩) LL.length c) ∧ W.cell? ⟨w.heap.size + 1, 0, none⟩ = some (.int .i64 (n : Int)) ∧ W.cell? ⟨ga, oa + k, none⟩ = some (.slice (some ⟨gx, ox, none⟩) L.length cx)) 99 20 (by kernel_rfl) rfl ?_
            refine fin_take 0 (v := ?_) rfl (by kernel_rfl) (by kernel_rfl) (by kernel_rfl) (by kernel_rfl) (fun _ _ _ h => h) rfl ?_ qS ?_
            rotate_left
            · intro W hW
              go_simp
              (try with_reducible rfl)
            simp only [Act.put, List.setIfInBounds_toArray, List.set_cons_zero, List.set_cons_succ]
            refine fin_take 1 (v := ?_) rfl (by kernel_rfl) (by kernel_rfl) (by kernel_rfl) (by kernel_rfl) (fun _ _ _ h => h) rfl ?_ qS ?_
            rotate_left
            · intro W hW
              go_simp
              (try with_reducible rfl)
            simp only [Act.put, List.setIfInBounds_toArray, List.set_cons_zero, List.set_cons_succ]
            refine fin_one 2 rfl rfl (by kernel_rfl) (fun K hK => ?_)
            go_simp
            refine (hT _ K0.drew).mono ?_
            rintro _ w1 ⟨rfl, k1'⟩
            have k1 : On W0 w1 := (On.refl W0).drew.trans k1'
            have q1 := hS _ k1
            refine hK.out _ _ (fun _ => q1) ?_
            clear hK
            refine fin_take 3 (v := ?_) rfl (by kernel_rfl) (by kernel_rfl) (by kernel_rfl) (by kernel_rfl) (fun _ _ _ h => h) rfl ?_ q1 ?_
            rotate_left
            · intro W hW
              go_simp
              (try with_reducible rfl)
            simp only [Act.put, List.setIfInBounds_toArray, List.set_cons_zero, List.set_cons_succ]
            refine fin_take 4 (v := ?_) rfl (by kernel_rfl) (by kernel_rfl) (by kernel_rfl) (by kernel_rfl) (fun _ _ _ h => h) rfl ?_ q1 ?_
            rotate_left
            · intro W hW
              go_simp
              (try with_reducible rfl)
            simp only [Act.put, List.setIfInBounds_toArray, List.set_cons_zero, List.set_cons_succ]
            refine fin_takeG 5 (v := ?_) rfl (by kernel_rfl) (by kernel_rfl) (by kernel_rfl) (by kernel_rfl) (fun _ _ _ h => h) (by rfl) ?_ q1 ?_
            rotate_left
            · intro W hW
              go_simp
              (try with_reducible rfl)
            simp only [Act.put, List.setIfInBounds_toArray, List.set_cons_zero, List.set_cons_succ]
            refine fin_takeG 6 (v := ?_) rfl (by kernel_rfl) (by kernel_rfl) (by kernel_rfl) (by kernel_rfl) (fun _ _ _ h => h) (by rfl) ?_ q1 ?_
            rotate_left
            · intro W hW
              go_simp
              (try with_reducible rfl)
            simp only [Act.put, List.setIfInBounds_toArray, List.set_cons_zero, List.set_cons_succ]
            refine fin_takeG 7 (v := ?_) rfl (by kernel_rfl) (by kernel_rfl) (by kernel_rfl) (by kernel_rfl) (fun _ _ _ h => h) (by rfl) ?_ q1 ?_
            rotate_left
            · intro W hW
              go_simp
              (try with_reducible rfl)
            simp only [Act.put, List.setIfInBounds_toArray, List.set_cons_zero, List.set_cons_succ]
            refine fin_take 8 (v := ?_) rfl (by kernel_rfl) (by kernel_rfl) (by kernel_rfl) (by kernel_rfl) (fun _ _ _ h => h) rfl ?_ q1 ?_
            rotate_left
            · intro W hW
              go_simp
              (try with_reducible rfl)
            simp only [Act.put, List.setIfInBounds_toArray, List.set_cons_zero, List.set_cons_succ]
            refine fin_take 9 (v := ?_) rfl (by kernel_rfl) (by kernel_rfl) (by kernel_rfl) (by kernel_rfl) (fun _ _ _ h => h) rfl ?_ q1 ?_
            rotate_left
            · intro W hW
              go_simp
              (try with_reducible rfl)
            simp only [Act.put, List.setIfInBounds_toArray, List.set_cons_zero, List.set_cons_succ]
            refine fin_takeG 10 (v := ?_) rfl (by kernel_rfl) (by kernel_rfl) (by kernel_rfl) (by kernel_rfl) (fun _ _ _ h => h) (by rfl) ?_ q1 ?_
            rotate_left
            · intro W hW
              go_simp
              (try with_reducible rfl)
            simp only [Act.put, List.setIfInBounds_toArray, List.set_cons_zero, List.set_cons_succ]
            refine fin_takeG 11 (v := ?_) rfl (by kernel_rfl) (by kernel_rfl) (by kernel_rfl) (by kernel_rfl) (fun _ _ _ h => h) (by rfl) ?_ q1 ?_
            rotate_left
            · intro W hW
              go_simp
              (try with_reducible rfl)
            simp only [Act.put, List.setIfInBounds_toArray, List.set_cons_zero, List.set_cons_succ]
            refine fin_takeG 12 (v := ?_) rfl (by kernel_rfl) (by kernel_rfl) (by kernel_rfl) (by kernel_rfl) (fun _ _ _ h => h) (by rfl) ?_ q1 ?_
            rotate_left
            · intro W hW
              go_simp
              (try with_reducible rfl)
            simp only [Act.put, List.setIfInBounds_toArray, List.set_cons_zero, List.set_cons_succ]
            refine fin_takeG 13 (v := ?_) rfl (by kernel_rfl) (by kernel_rfl) (by kernel_rfl) (by kernel_rfl) (fun _ _ _ h => h) (by rfl) ?_ q1 ?_
            rotate_left
            · intro W hW
              go_simp
              (try with_reducible rfl)
            simp only [Act.put, List.setIfInBounds_toArray, List.set_cons_zero, List.set_cons_succ]
            refine fin_takeG 14 (v := ?_) rfl (by kernel_rfl) (by kernel_rfl) (by kernel_rfl) (by kernel_rfl) (fun _ _ _ h => h) (by rfl) ?_ q1 ?_
            rotate_left
            · intro W hW
              go_simp
              (try with_reducible rfl)
            simp only [Act.put, List.setIfInBounds_toArray, List.set_cons_zero, List.set_cons_succ]
            refine fin_takeG 15 (v := ?_) rfl (by kernel_rfl) (by kernel_rfl) (by kernel_rfl) (by kernel_rfl) (fun _ _ _ h => h) (by rfl) ?_ q1 ?_
            rotate_left
            · intro W hW
              go_simp
              (try with_reducible rfl)
            simp only [Act.put, List.setIfInBounds_toArray, List.set_cons_zero, List.set_cons_succ]
            refine fin_takeG 16 (v := ?_) rfl (by kernel_rfl) (by kernel_rfl) (by kernel_rfl) (by kernel_rfl) (fun _ _ _ h => h) (by rfl) ?_ q1 ?_
            rotate_left
            · intro W hW
              go_simp
              (try with_reducible rfl)
            simp only [Act.put, List.setIfInBounds_toArray, List.set_cons_zero, List.set_cons_succ]
            refine fin_takeG 17 (v := ?_) rfl (by kernel_rfl) (by kernel_rfl) (by kernel_rfl) (by kernel_rfl) (fun _ _ _ h => h) (by rfl) ?_ q1 ?_
            rotate_left
            · intro W hW
              go_simp
              (try with_reducible rfl)
            simp only [Act.put, List.setIfInBounds_toArray, List.set_cons_zero, List.set_cons_succ]
            refine fin_takeG 18 (v := ?_) rfl (by kernel_rfl) (by kernel_rfl) (by kernel_rfl) (by kernel_rfl) (fun _ _ _ h => h) (by rfl) ?_ q1 ?_
            rotate_left
            · intro W hW
              go_simp
              (try with_reducible rfl)
            simp only [Act.put, List.setIfInBounds_toArray, List.set_cons_zero, List.set_cons_succ]
            refine fin_take 19 (v := ?_) rfl (by kernel_rfl) (by kernel_rfl) (by kernel_rfl) (by kernel_rfl) (fun _ _ _ h => h) rfl ?_ q1 ?_
            rotate_left
            · intro W hW
              go_simp
              (try with_reducible rfl)
            simp only [Act.put, List.setIfInBounds_toArray, List.set_cons_zero, List.set_cons_succ]
            refine fin_done (by kernel_rfl) (NoPanic.normal ?_)
            have O1 : On w w1 := K0.trans k1
            have Z1 := ZB.on k1
            have qI : ∀ W, On w1 W → W.cell? ⟨w.heap.size, 0, none⟩ = some (.slice a1 m1 c1) ∧ W.cell? ⟨w.heap.size, 1, none⟩ = some (.slice a2 m2 c2) ∧ W.cell? ⟨w.heap.size, 2, none⟩ = some (.slice (some ⟨ga, oa, none⟩) LL.length c) ∧ W.cell? ⟨w.heap.size + 1, 0, none⟩ = some (.int .i64 (n : Int)) ∧ W.cell? ⟨ga, oa + k, none⟩ = some (.slice (some ⟨gx, ox, none⟩) L.length cx) ∧ W.cell? ⟨gx, ox + n * 9, none⟩ = some (.int .i64 x.k) ∧ W.cell? ⟨gx, ox + n * 9 + 1, none⟩ = some (.int .i64 x.r) ∧ W.cell? ⟨gx, ox + n * 9 + 2, none⟩ = some (.int .i64 x.l) ∧ W.cell? ⟨gx, ox + n * 9 + 3, none⟩ = some (.int .i64 x.a.r) ∧ W.cell? ⟨gx, ox + n * 9 + 4, none⟩ = some (.int .i64 x.a.v) ∧ W.cell? ⟨gx, ox + n * 9 + 5, none⟩ = some (.int .i64 x.o) ∧ W.cell? ⟨gx, ox + n * 9 + 6, none⟩ = some (.int .i64 x.b.r) ∧ W.cell? ⟨gx, ox + n * 9 + 7, none⟩ = some (.int .i64 x.b.v) ∧ W.cell? ⟨gx, ox + n * 9 + 8, none⟩ = some (.int .i64 x.n) := fun W k' => ⟨(PB.on (k1.trans k')).at (i := 0) rfl, (PB.on (k1.trans k')).at (i := 1) rfl, (PB.on (k1.trans k')).at (i := 2) rfl, (CB.on (k1.trans k')).at (i := 0) rfl, ((k1.trans k').cell (p := ⟨ga, oa + k, none⟩) hgaW).trans uaxW, ((O1.trans k').cell (p := ⟨gx, ox + n * 9 + 0, none⟩) hgx).trans (hcell 0 _ rfl), ((O1.trans k').cell (p := ⟨gx, ox + n * 9 + 1, none⟩) hgx).trans (hcell 1 _ rfl), ((O1.trans k').cell (p := ⟨gx, ox + n * 9 + 2, none⟩) hgx).trans (hcell 2 _ rfl), ((O1.trans k').cell (p := ⟨gx, ox + n * 9 + 3, none⟩) hgx).trans (hcell 3 _ rfl), ((O1.trans k').cell (p := ⟨gx, ox + n * 9 + 4, none⟩) hgx).trans (hcell 4 _ rfl), ((O1.trans k').cell (p := ⟨gx, ox + n * 9 + 5, none⟩) hgx).trans (hcell 5 _ rfl), ((O1.trans k').cell (p := ⟨gx, ox + n * 9 + 6, none⟩) hgx).trans (hcell 6 _ rfl), ((O1.trans k').cell (p := ⟨gx, ox + n * 9 + 7, none⟩) hgx).trans (hcell 7 _ rfl), ((O1.trans k').cell (p := ⟨gx, ox + n * 9 + 8, none⟩) hgx).trans (hcell 8 _ rfl)⟩
            have q2 := qI _ (On.refl w1).drew
            have k1l := k1.size
            go_wp2
            refine region_fin (fun W => W.cell? ⟨w.heap.size, 0, none⟩ = some (.slice a1 m1 c1) ∧ W.cell? ⟨w.heap.size, 1, none⟩ = some (.slice a2 m2 c2) ∧ W.cell? ⟨w.heap.size, 2, none⟩ = some (.slice (some ⟨ga, oa, none⟩) LL.length c) ∧ W.cell? ⟨w.heap.size + 1, 0, none⟩ = some (.int .i64 (n : Int)) ∧ W.cell? ⟨ga, oa + k, none⟩ = some (.slice (some ⟨gx, ox, none⟩) L.length cx) ∧ W.cell? ⟨gx, ox + n * 9, none⟩ = some (.int .i64 x.k) ∧ W.cell? ⟨gx, ox + n * 9 + 1, none⟩ = some (.int .i64 x.r) ∧ W.cell? ⟨gx, ox + n * 9 + 2, none⟩ = some (.int .i64 x.l) ∧ W.cell? ⟨gx, ox + n * 9 + 3, none⟩ = some (.int .i64 x.a.r) ∧ W.cell? ⟨gx, ox + n * 9 + 4, none⟩ = some (.int .i64 x.a.v) ∧ W.cell? ⟨gx, ox + n * 9 + 5, none⟩ = some (.int .i64 x.o) ∧ W.cell? ⟨gx, ox + n * 9 + 6, none⟩ = some (.int .i64 x.b.r) ∧ W.cell? ⟨gx, ox + n * 9 + 7, none⟩ = some (.int .i64 x.b.v) ∧ W.cell? ⟨gx, ox + n * 9 + 8, none⟩ = some (.int .i64 x.n)) 10 11 (by kernel_rfl) rfl ?_
            refine fin_take 0 (v := ?_) rfl (by kernel_rfl) (by kernel_rfl) (by kernel_rfl) (by kernel_rfl) (fun _ _ _ h => h) rfl ?_ q2 ?_
            rotate_left
            · intro W hW
              go_simp
              (try with_reducible rfl)
            simp only [Act.put, List.setIfInBounds_toArray, List.set_cons_zero, List.set_cons_succ]
            refine fin_take 1 (v := ?_) rfl (by kernel_rfl) (by kernel_rfl) (by kernel_rfl) (by kernel_rfl) (fun _ _ _ h => h) rfl ?_ q2 ?_
            rotate_left
            · intro W hW
              go_simp
              (try with_reducible rfl)
            simp only [Act.put, List.setIfInBounds_toArray, List.set_cons_zero, List.set_cons_succ]
            refine fin_take 2 (v := ?_) rfl (by kernel_rfl) (by kernel_rfl) (by kernel_rfl) (by kernel_rfl) (fun _ _ _ h => h) rfl ?_ q2 ?_
            rotate_left
            · intro W hW
              go_simp
              (try with_reducible rfl)
            simp only [Act.put, List.setIfInBounds_toArray, List.set_cons_zero, List.set_cons_succ]
            refine fin_take 3 (v := ?_) rfl (by kernel_rfl) (by kernel_rfl) (by kernel_rfl) (by kernel_rfl) (fun _ _ _ h => h) rfl ?_ q2 ?_
            rotate_left
            · intro W hW
              go_simp
              (try with_reducible rfl)
            simp only [Act.put, List.setIfInBounds_toArray, List.set_cons_zero, List.set_cons_succ]
            refine fin_take 4 (v := ?_) rfl (by kernel_rfl) (by kernel_rfl) (by kernel_rfl) (by kernel_rfl) (fun _ _ _ h => h) rfl ?_ q2 ?_
            rotate_left
            · intro W hW
              go_simp
              (try with_reducible rfl)
            simp only [Act.put, List.setIfInBounds_toArray, List.set_cons_zero, List.set_cons_succ]
            refine fin_take 5 (v := ?_) rfl (by kernel_rfl) (by kernel_rfl) (by kernel_rfl) (by kernel_rfl) (fun _ _ _ h => h) rfl ?_ q2 ?_
            rotate_left
            · intro W hW
              go_simp
              (try with_reducible rfl)
            simp only [Act.put, List.setIfInBounds_toArray, List.set_cons_zero, List.set_cons_succ]
            refine fin_take 6 (v := ?_) rfl (by kernel_rfl) (by kernel_rfl) (by kernel_rfl) (by kernel_rfl) (fun _ _ _ h => h) rfl ?_ q2 ?_
            rotate_left
            · intro W hW
              go_simp
              (try with_reducible rfl)
            simp only [Act.put, List.setIfInBounds_toArray, List.set_cons_zero, List.set_cons_succ]
            refine fin_take 7 (v := ?_) rfl (by kernel_rfl) (by kernel_rfl) (by kernel_rfl) (by kernel_rfl) (fun _ _ _ h => h) rfl ?_ q2 ?_
            rotate_left
            · intro W hW
              go_simp
              (try with_reducible rfl)
            simp only [Act.put, List.setIfInBounds_toArray, List.set_cons_zero, List.set_cons_succ]
            refine fin_take 8 (v := ?_) rfl (by kernel_rfl) (by kernel_rfl) (by kernel_rfl) (by kernel_rfl) (fun _ _ _ h => h) rfl ?_ q2 ?_
            rotate_left
            · intro W hW
              go_simp
              (try with_reducible rfl)
            simp only [Act.put, List.setIfInBounds_toArray, List.set_cons_zero, List.set_cons_succ]
            refine fin_one 9 rfl rfl (by kernel_rfl) (fun K hK => ?_)
            go_simp
            refine hK.out _ _ (fun _ => qI _ ((On.refl w1).alloc _).drew) ?_
            clear hK
            refine fin_one 10 rfl rfl (by kernel_rfl) (fun K hK => ?_)
            go_simp
            refine hK.out _ _ (fun h => absurd rfl h) ?_
            refine fin_done (by kernel_rfl) (NoPanic.normal ?_)
            have hwr : w.heap.size + 1 + 1 < w1.heap.size := by omega
            have hne : ¬ w1.heap.size = w.heap.size + 1 + 1 := by omega
            clear q2 qI hcell
            have zf := fun i => Z1.fr i
            have z0 := Z1.at (i := 0) rfl
            have z1 := Z1.at (i := 1) rfl
            have z2 := Z1.at (i := 2) rfl
            have z3 := Z1.at (i := 3) rfl
            have z4 := Z1.at (i := 4) rfl
            have z5 := Z1.at (i := 5) rfl
            have z6 := Z1.at (i := 6) rfl
            have z7 := Z1.at (i := 7) rfl
            have z8 := Z1.at (i := 8) rfl
            have zzl := Z1.lt
            go_wp2
            refine bodyPost_ret (v := .tuple #[.agg #[.int .i64 0, .int .i64 0, .int .i64 0, .int .i64 0, .int .i64 0, .int .i64 0, .int .i64 0, .int .i64 0, .int .i64 0], .bool false]) ?_ rfl ⟨rfl, ?_⟩
            · rw [results_cell_slot rfl]
              go_simp
            · (try with_reducible refine On.drew ?_)
              repeat' (first | with_reducible refine On.setNew ?_ (by omega) _ | with_reducible exact O1 | with_reducible refine On.alloc ?_ _ | with_reducible refine On.drew ?_)
          · clear hkx
            obtain ⟨W0, hW0⟩ : ∃ W0, W0 = ((w.alloc (.cells #[.slice a1 m1 c1, .slice a2 m2 c2, .slice (some ⟨ga, oa, none⟩) LL.length c] 27)).alloc (.cells #[.int .i64 (n : Int), .int .i64 r0, .int .i64 r1, .int .i64 r2, .int .i64 r3] 73)).alloc (.cells #[.int .i64 0, .int .i64 0, .int .i64 0, .int .i64 0, .int .i64 0, .int .i64 0, .int .i64 0, .int .i64 0, .int .i64 0] 107) := ⟨_, rfl⟩
            have K0 : On w W0 := by rw [hW0]; exact (((On.refl w).alloc _).alloc _).alloc _
            have PB : Bk W0 w.heap.size #[.slice a1 m1 c1, .slice a2 m2 c2, .slice (some ⟨ga, oa, none⟩) LL.length c] := by rw [hW0]; exact ((Bk.new w _ _).alloc _).alloc _
            have CB : Bk W0 (w.heap.size + 1) #[.int .i64 (n : Int), .int .i64 r0, .int .i64 r1, .int .i64 r2, .int .i64 r3] := by
              rw [hW0]
              have := (Bk.new (w.alloc (.cells #[.slice a1 m1 c1, .slice a2 m2 c2, .slice (some ⟨ga, oa, none⟩) LL.length c] 27)) #[.int .i64 (n : Int), .int .i64 r0, .int .i64 r1, .int .i64 r2, .int .i64 r3] 73).alloc (.cells #[.int .i64 0, .int .i64 0, .int .i64 0, .int .i64 0, .int .i64 0, .int .i64 0, .int .i64 0, .int .i64 0, .int .i64 0] 107)
              rwa [World.size_alloc] at this
            have ZB : Bk W0 (w.heap.size + 1 + 1) #[.int .i64 0, .int .i64 0, .int .i64 0, .int .i64 0, .int .i64 0, .int .i64 0, .int .i64 0, .int .i64 0, .int .i64 0] := by
              rw [hW0]
              have := Bk.new ((w.alloc (.cells #[.slice a1 m1 c1, .slice a2 m2 c2, .slice (some ⟨ga, oa, none⟩) LL.length c] 27)).alloc (.cells #[.int .i64 (n : Int), .int .i64 r0, .int .i64 r1, .int .i64 r2, .int .i64 r3] 73)) #[.int .i64 0, .int .i64 0, .int .i64 0, .int .i64 0, .int .i64 0, .int .i64 0, .int .i64 0, .int .i64 0, .int .i64 0] 107
              rwa [World.size_alloc, World.size_alloc] at this
            have uaxW := (K0.cell (p := ⟨ga, oa + k, none⟩) hga).trans uax
            have hgaW : ga < W0.heap.size := Nat.lt_of_lt_of_le hga K0.size
            have hS : ∀ W, On W0 W → W.cell? ⟨w.heap.size, 0, none⟩ = some (.slice a1 m1 c1) ∧ W.cell? ⟨w.heap.size, 1, none⟩ = some (.slice a2 m2 c2) ∧ W.cell? ⟨w.heap.size, 2, none⟩ = some (.slice (some ⟨ga, oa, none⟩) LL.length c) ∧ W.cell? ⟨w.heap.size + 1, 0, none⟩ = some (.int .i64 (n : Int)) ∧ W.cell? ⟨ga, oa + k, none⟩ = some (.slice (some ⟨gx, ox, none⟩) L.length cx) := fun W k' => ⟨(PB.on k').at (i := 0) rfl, (PB.on k').at (i := 1) rfl, (PB.on k').at (i := 2) rfl, (CB.on k').at (i := 0) rfl, (k'.cell (p := ⟨ga, oa + k, none⟩) hgaW).trans uaxW⟩
            have qS := hS _ (On.refl W0).drew
            have zl := ZB.lt
            go_enter Tryz.func48, Tryz.ntmps48
            go_wp2
            rw [← hW0]
            clear hW0
            refine region_fin (fun W => W.cell? ⟨w.heap.size, 0, none⟩ = some (.slice a1 m1 c1) ∧ W.cell? ⟨w.heap.size, 1, none⟩ = some (.slice a2 m2 c2) ∧ W.cell? ⟨w.heap.size, 2, none⟩ = some (.slice (some ⟨ga, oa, none⟩) LL.length c) ∧ W.cell? ⟨w.heap.size + 1, 0, none⟩ = some (.int .i64 (n : Int)) ∧ W.cell? ⟨ga, oa + k, none⟩ = some (.slice (some ⟨gx, ox, none⟩) L.length cx)) 99 20 (by kernel_rfl) rfl ?_
            refine fin_take 0 (v := ?_) rfl (by kernel_rfl) (by kernel_rfl) (by kernel_rfl) (by kernel_rfl) (fun _ _ _ h => h) rfl ?_ qS ?_
            rotate_left
            · intro W hW
              go_simp
              (try with_reducible rfl)
            simp only [Act.put, List.setIfInBounds_toArray, List.set_cons_zero, List.set_cons_succ]
            refine fin_take 1 (v := ?_) rfl (by kernel_rfl) (by kernel_rfl) (by kernel_rfl) (by kernel_rfl) (fun _ _ _ h => h) rfl ?_ qS ?_
            rotate_left
            · intro W hW
              go_simp
              (try with_reducible rfl)
            simp only [Act.put, List.setIfInBounds_toArray, List.set_cons_zero, List.set_cons_succ]
            refine fin_one 2 rfl rfl (by kernel_rfl) (fun K hK => ?_)
            go_simp
            refine (hT _ K0.drew).mono ?_
            rintro _ w1 ⟨rfl, k1'⟩
            have k1 : On W0 w1 := (On.refl W0).drew.trans k1'
            have q1 := hS _ k1
            refine hK.out _ _ (fun _ => q1) ?_
            clear hK
            refine fin_take 3 (v := ?_) rfl (by kernel_rfl) (by kernel_rfl) (by kernel_rfl) (by kernel_rfl) (fun _ _ _ h => h) rfl ?_ q1 ?_
            rotate_left
            · intro W hW
              go_simp
              (try with_reducible rfl)
            simp only [Act.put, List.setIfInBounds_toArray, List.set_cons_zero, List.set_cons_succ]
            refine fin_take 4 (v := ?_) rfl (by kernel_rfl) (by kernel_rfl) (by kernel_rfl) (by kernel_rfl) (fun _ _ _ h => h) rfl ?_ q1 ?_
            rotate_left
            · intro W hW
              go_simp
              (try with_reducible rfl)
            simp only [Act.put, List.setIfInBounds_toArray, List.set_cons_zero, List.set_cons_succ]
            refine fin_takeG 5 (v := ?_) rfl (by kernel_rfl) (by kernel_rfl) (by kernel_rfl) (by kernel_rfl) (fun _ _ _ h => h) (by rfl) ?_ q1 ?_
            rotate_left
            · intro W hW
              go_simp
              (try with_reducible rfl)
            simp only [Act.put, List.setIfInBounds_toArray, List.set_cons_zero, List.set_cons_succ]
            refine fin_takeG 6 (v := ?_) rfl (by kernel_rfl) (by kernel_rfl) (by kernel_rfl) (by kernel_rfl) (fun _ _ _ h => h) (by rfl) ?_ q1 ?_
            rotate_left
            · intro W hW
              go_simp
              (try with_reducible rfl)
            simp only [Act.put, List.setIfInBounds_toArray, List.set_cons_zero, List.set_cons_succ]
            refine fin_takeG 7 (v := ?_) rfl (by kernel_rfl) (by kernel_rfl) (by kernel_rfl) (by kernel_rfl) (fun _ _ _ h => h) (by rfl) ?_ q1 ?_
            rotate_left
            · intro W hW
              go_simp
              (try with_reducible rfl)
            simp only [Act.put, List.setIfInBounds_toArray, List.set_cons_zero, List.set_cons_succ]
            refine fin_take 8 (v := ?_) rfl (by kernel_rfl) (by kernel_rfl) (by kernel_rfl) (by kernel_rfl) (fun _ _ _ h => h) rfl ?_ q1 ?_
            rotate_left
            · intro W hW
              go_simp
              (try with_reducible rfl)
            simp only [Act.put, List.setIfInBounds_toArray, List.set_cons_zero, List.set_cons_succ]
            refine fin_take 9 (v := ?_) rfl (by kernel_rfl) (by kernel_rfl) (by kernel_rfl) (by kernel_rfl) (fun _ _ _ h => h) rfl ?_ q1 ?_
            rotate_left
            · intro W hW
              go_simp
              (try with_reducible rfl)
            simp only [Act.put, List.setIfInBounds_toArray, List.set_cons_zero, List.set_cons_succ]
            refine fin_takeG 10 (v := ?_) rfl (by kernel_rfl) (by kernel_rfl) (by kernel_rfl) (by kernel_rfl) (fun _ _ _ h => h) (by rfl) ?_ q1 ?_
            rotate_left
            · intro W hW
              go_simp
              (try with_reducible rfl)
            simp only [Act.put, List.setIfInBounds_toArray, List.set_cons_zero, List.set_cons_succ]
            refine fin_takeG 11 (v := ?_) rfl (by kernel_rfl) (by kernel_rfl) (by kernel_rfl) (by kernel_rfl) (fun _ _ _ h => h) (by rfl) ?_ q1 ?_
            rotate_left
            · intro W hW
              go_simp
              (try with_reducible rfl)
            simp only [Act.put, List.setIfInBounds_toArray, List.set_cons_zero, List.set_cons_succ]
            refine fin_takeG 12 (v := ?_) rfl (by kernel_rfl) (by kernel_rfl) (by kernel_rfl) (by kernel_rfl) (fun _ _ _ h => h) (by rfl) ?_ q1 ?_
            rotate_left
            · intro W hW
              go_simp
              (try with_reducible rfl)
            simp only [Act.put, List.setIfInBounds_toArray, List.set_cons_zero, List.set_cons_succ]
            refine fin_takeG 13 (v := ?_) rfl (by kernel_rfl) (by kernel_rfl) (by kernel_rfl) (by kernel_rfl) (fun _ _ _ h => h) (by rfl) ?_ q1 ?_
            rotate_left
            · intro W hW
              go_simp
              (try with_reducible rfl)
            simp only [Act.put, List.setIfInBounds_toArray, List.set_cons_zero, List.set_cons_succ]
            refine fin_takeG 14 (v := ?_) rfl (by kernel_rfl) (by kernel_rfl) (by kernel_rfl) (by kernel_rfl) (fun _ _ _ h => h) (by rfl) ?_ q1 ?_
            rotate_left
            · intro W hW
              go_simp
              (try with_reducible rfl)
            simp only [Act.put, List.setIfInBounds_toArray, List.set_cons_zero, List.set_cons_succ]
            refine fin_takeG 15 (v := ?_) rfl (by kernel_rfl) (by kernel_rfl) (by kernel_rfl) (by kernel_rfl) (fun _ _ _ h => h) (by rfl) ?_ q1 ?_
            rotate_left
            · intro W hW
              go_simp
              (try with_reducible rfl)
            simp only [Act.put, List.setIfInBounds_toArray, List.set_cons_zero, List.set_cons_succ]
            refine fin_takeG 16 (v := ?_) rfl (by kernel_rfl) (by kernel_rfl) (by kernel_rfl) (by kernel_rfl) (fun _ _ _ h => h) (by rfl) ?_ q1 ?_
            rotate_left
            · intro W hW
              go_simp
              (try with_reducible rfl)
            simp only [Act.put, List.setIfInBounds_toArray, List.set_cons_zero, List.set_cons_succ]
            refine fin_takeG 17 (v := ?_) rfl (by kernel_rfl) (by kernel_rfl) (by kernel_rfl) (by kernel_rfl) (fun _ _ _ h => h) (by rfl) ?_ q1 ?_
            rotate_left
            · intro W hW
              go_simp
              (try with_reducible rfl)
            simp only [Act.put, List.setIfInBounds_toArray, List.set_cons_zero, List.set_cons_succ]
            refine fin_takeG 18 (v := ?_) rfl (by kernel_rfl) (by kernel_rfl) (by kernel_rfl) (by kernel_rfl) (fun _ _ _ h => h) (by rfl) ?_ q1 ?_
            rotate_left
            · intro W hW
              go_simp
              (try with_reducible rfl)
            simp only [Act.put, List.setIfInBounds_toArray, List.set_cons_zero, List.set_cons_succ]
            refine fin_take 19 (v := ?_) rfl (by kernel_rfl) (by kernel_rfl) (by kernel_rfl) (by kernel_rfl) (fun _ _ _ h => h) rfl ?_ q1 ?_
            rotate_left
            · intro W hW
              go_simp
              (try with_reducible rfl)
            simp only [Act.put, List.setIfInBounds_toArray, List.set_cons_zero, List.set_cons_succ]
            refine fin_done (by kernel_rfl) (NoPanic.normal ?_)
            have O1 : On w w1 := K0.trans k1
            have Z1 := ZB.on k1
            have qI : ∀ W, On w1 W → W.cell? ⟨w.heap.size, 0, none⟩ = some (.slice a1 m1 c1) ∧ W.cell? ⟨w.heap.size, 1, none⟩ = some (.slice a2 m2 c2) ∧ W.cell? ⟨w.heap.size, 2, none⟩ = some (.slice (some ⟨ga, oa, none⟩) LL.length c) ∧ W.cell? ⟨w.heap.size + 1, 0, none⟩ = some (.int .i64 (n : Int)) ∧ W.cell? ⟨ga, oa + k, none⟩ = some (.slice (some ⟨gx, ox, none⟩) L.length cx) ∧ W.cell? ⟨gx, ox + n * 9, none⟩ = some (.int .i64 x.k) ∧ W.cell? ⟨gx, ox + n * 9 + 1, none⟩ = some (.int .i64 x.r) ∧ W.cell? ⟨gx, ox + n * 9 + 2, none⟩ = some (.int .i64 x.l) ∧ W.cell? ⟨gx, ox + n * 9 + 3, none⟩ = some (.int .i64 x.a.r) ∧ W.cell? ⟨gx, ox + n * 9 + 4, none⟩ = some (.int .i64 x.a.v) ∧ W.cell? ⟨gx, ox + n * 9 + 5, none⟩ = some (.int .i64 x.o) ∧ W.cell? ⟨gx, ox + n * 9 + 6, none⟩ = some (.int .i64 x.b.r) ∧ W.cell? ⟨gx, ox + n * 9 + 7, none⟩ = some (.int .i64 x.b.v) ∧ W.cell? ⟨gx, ox + n * 9 + 8, none⟩ = some (.int .i64 x.n) := fun W k' => ⟨(PB.on (k1.trans k')).at (i := 0) rfl, (PB.on (k1.trans k')).at (i := 1) rfl, (PB.on (k1.trans k')).at (i := 2) rfl, (CB.on (k1.trans k')).at (i := 0) rfl, ((k1.trans k').cell (p := ⟨ga, oa + k, none⟩) hgaW).trans uaxW, ((O1.trans k').cell (p := ⟨gx, ox + n * 9 + 0, none⟩) hgx).trans (hcell 0 _ rfl), ((O1.trans k').cell (p := ⟨gx, ox + n * 9 + 1, none⟩) hgx).trans (hcell 1 _ rfl), ((O1.trans k').cell (p := ⟨gx, ox + n * 9 + 2, none⟩) hgx).trans (hcell 2 _ rfl), ((O1.trans k').cell (p := ⟨gx, ox + n * 9 + 3, none⟩) hgx).trans (hcell 3 _ rfl), ((O1.trans k').cell (p := ⟨gx, ox + n * 9 + 4, none⟩) hgx).trans (hcell 4 _ rfl), ((O1.trans k').cell (p := ⟨gx, ox + n * 9 + 5, none⟩) hgx).trans (hcell 5 _ rfl), ((O1.trans k').cell (p := ⟨gx, ox + n * 9 + 6, none⟩) hgx).trans (hcell 6 _ rfl), ((O1.trans k').cell (p := ⟨gx, ox + n * 9 + 7, none⟩) hgx).trans (hcell 7 _ rfl), ((O1.trans k').cell (p := ⟨gx, ox + n * 9 + 8, none⟩) hgx).trans (hcell 8 _ rfl)⟩
            have q2 := qI _ (On.refl w1).drew
            have k1l := k1.size
            go_wp2
            refine region_fin (fun W => W.cell? ⟨w.heap.size, 0, none⟩ = some (.slice a1 m1 c1) ∧ W.cell? ⟨w.heap.size, 1, none⟩ = some (.slice a2 m2 c2) ∧ W.cell? ⟨w.heap.size, 2, none⟩ = some (.slice (some ⟨ga, oa, none⟩) LL.length c) ∧ W.cell? ⟨w.heap.size + 1, 0, none⟩ = some (.int .i64 (n : Int)) ∧ W.cell? ⟨ga, oa + k, none⟩ = some (.slice (some ⟨gx, ox, none⟩) L.length cx) ∧ W.cell? ⟨gx, ox + n * 9, none⟩ = some (.int .i64 x.k) ∧ W.cell? ⟨gx, ox + n * 9 + 1, none⟩ = some (.int .i64 x.r) ∧ W.cell? ⟨gx, ox + n * 9 + 2, none⟩ = some (.int .i64 x.l) ∧ W.cell? ⟨gx, ox + n * 9 + 3, none⟩ = some (.int .i64 x.a.r) ∧ W.cell? ⟨gx, ox + n * 9 + 4, none⟩ = some (.int .i64 x.a.v) ∧ W.cell? ⟨gx, ox + n * 9 + 5, none⟩ = some (.int .i64 x.o) ∧ W.cell? ⟨gx, ox + n * 9 + 6, none⟩ = some (.int .i64 x.b.r) ∧ W.cell? ⟨gx, ox + n * 9 + 7, none⟩ = some (.int .i64 x.b.v) ∧ W.cell? ⟨gx, ox + n * 9 + 8, none⟩ = some (.int .i64 x.n)) 10 11 (by kernel_rfl) rfl ?_
            refine fin_take 0 (v := ?_) rfl (by kernel_rfl) (by kernel_rfl) (by kernel_rfl) (by kernel_rfl) (fun _ _ _ h => h) rfl ?_ q2 ?_
            rotate_left
            · intro W hW
              go_simp
              (try with_reducible rfl)
            simp only [Act.put, List.setIfInBounds_toArray, List.set_cons_zero, List.set_cons_succ]
            refine fin_take 1 (v := ?_) rfl (by kernel_rfl) (by kernel_rfl) (by kernel_rfl) (by kernel_rfl) (fun _ _ _ h => h) rfl ?_ q2 ?_
            rotate_left
            · intro W hW
              go_simp
              (try with_reducible rfl)
            simp only [Act.put, List.setIfInBounds_toArray, List.set_cons_zero, List.set_cons_succ]
            refine fin_take 2 (v := ?_) rfl (by kernel_rfl) (by kernel_rfl) (by kernel_rfl) (by kernel_rfl) (fun _ _ _ h => h) rfl ?_ q2 ?_
            rotate_left
            · intro W hW
              go_simp
              (try with_reducible rfl)
            simp only [Act.put, List.setIfInBounds_toArray, List.set_cons_zero, List.set_cons_succ]
            refine fin_take 3 (v := ?_) rfl (by kernel_rfl) (by kernel_rfl) (by kernel_rfl) (by kernel_rfl) (fun _ _ _ h => h) rfl ?_ q2 ?_
            rotate_left
            · intro W hW
              go_simp
              (try with_reducible rfl)
            simp only [Act.put, List.setIfInBounds_toArray, List.set_cons_zero, List.set_cons_succ]
            refine fin_take 4 (v := ?_) rfl (by kernel_rfl) (by kernel_rfl) (by kernel_rfl) (by kernel_rfl) (fun _ _ _ h => h) rfl ?_ q2 ?_
            rotate_left
            · intro W hW
              go_simp
              (try with_reducible rfl)
            simp only [Act.put, List.setIfInBounds_toArray, List.set_cons_zero, List.set_cons_succ]
            refine fin_take 5 (v := ?_) rfl (by kernel_rfl) (by kernel_rfl) (by kernel_rfl) (by kernel_rfl) (fun _ _ _ h => h) rfl ?_ q2 ?_
            rotate_left
            · intro W hW
              go_simp
              (try with_reducible rfl)
            simp only [Act.put, List.setIfInBounds_toArray, List.set_cons_zero, List.set_cons_succ]
            refine fin_take 6 (v := ?_) rfl (by kernel_rfl) (by kernel_rfl) (by kernel_rfl) (by kernel_rfl) (fun _ _ _ h => h) rfl ?_ q2 ?_
            rotate_left
            · intro W hW
              go_simp
              (try with_reducible rfl)
            simp only [Act.put, List.setIfInBounds_toArray, List.set_cons_zero, List.set_cons_succ]
            refine fin_take 7 (v := ?_) rfl (by kernel_rfl) (by kernel_rfl) (by kernel_rfl) (by kernel_rfl) (fun _ _ _ h => h) rfl ?_ q2 ?_
            rotate_left
            · intro W hW
              go_simp
              (try with_reducible rfl)
            simp only [Act.put, List.setIfInBounds_toArray, List.set_cons_zero, List.set_cons_succ]
            refine fin_take 8 (v := ?_) rfl (by kernel_rfl) (by kernel_rfl) (by kernel_rfl) (by kernel_rfl) (fun _ _ _ h => h) rfl ?_ q2 ?_
            rotate_left
            · intro W hW
              go_simp
              (try with_reducible rfl)
            simp only [Act.put, List.setIfInBounds_toArray, List.set_cons_zero, List.set_cons_succ]
            refine fin_one 9 rfl rfl (by kernel_rfl) (fun K hK => ?_)
            go_simp
            refine hK.out _ _ (fun _ => qI _ ((On.refl w1).alloc _).drew) ?_
            clear hK
            refine fin_one 10 rfl rfl (by kernel_rfl) (fun K hK => ?_)
            go_simp
            refine hK.out _ _ (fun h => absurd rfl h) ?_
            refine fin_done (by kernel_rfl) (NoPanic.normal ?_)
            have hwr : w.heap.size + 1 + 1 < w1.heap.size := by omega
            have hne : ¬ w1.heap.size = w.heap.size + 1 + 1 := by omega
            clear q2 qI hcell
            have zf := fun i => Z1.fr i
            have z0 := Z1.at (i := 0) rfl
            have z1 := Z1.at (i := 1) rfl
            have z2 := Z1.at (i := 2) rfl
            have z3 := Z1.at (i := 3) rfl
            have z4 := Z1.at (i := 4) rfl
            have z5 := Z1.at (i := 5) rfl
            have z6 := Z1.at (i := 6) rfl
            have z7 := Z1.at (i := 7) rfl
            have z8 := Z1.at (i := 8) rfl
            have zzl := Z1.lt
            go_wp2
            refine bodyPost_ret (v := .tuple #[.agg #[.int .i64 0, .int .i64 0, .int .i64 0, .int .i64 0, .int .i64 0, .int .i64 0, .int .i64 0, .int .i64 0, .int .i64 0], .bool false]) ?_ rfl ⟨rfl, ?_⟩
            · rw [results_cell_slot rfl]
              go_simp
            · (try with_reducible refine On.drew ?_)
              repeat' (first | with_reducible refine On.setNew ?_ (by omega) _ | with_reducible exact O1 | with_reducible refine On.alloc ?_ _ | with_reducible refine On.drew ?_)
      · have e : nextV (nextP L ⟨(n : Int), r0, r1, r2, r3⟩) = .tuple #[.agg #[.int .i64 0, .int .i64 0, .int .i64 0, .int .i64 0, .int .i64 0, .int .i64 0, .int .i64 0, .int .i64 0, .int .i64 0], .bool false] := by
          unfold nextP
          rw [if_pos (Int.natCast_nonneg n)]
          simp only [Int.toNat_natCast, List.getElem?_eq_none hge]
          rfl
        rw [e]
        have hnl : ¬ n < L.length := by omega
        clear e hfl rx
        obtain ⟨W0, hW0⟩ : ∃ W0, W0 = ((w.alloc (.cells #[.slice a1 m1 c1, .slice a2 m2 c2, .slice (some ⟨ga, oa, none⟩) LL.length c] 27)).alloc (.cells #[.int .i64 (n : Int), .int .i64 r0, .int .i64 r1, .int .i64 r2, .int .i64 r3] 73)).alloc (.cells #[.int .i64 0, .int .i64 0, .int .i64 0, .int .i64 0, .int .i64 0, .int .i64 0, .int .i64 0, .int .i64 0, .int .i64 0] 107) := ⟨_, rfl⟩
        have K0 : On w W0 := by rw [hW0]; exact (((On.refl w).alloc _).alloc _).alloc _
        have PB : Bk W0 w.heap.size #[.slice a1 m1 c1, .slice a2 m2 c2, .slice (some ⟨ga, oa, none⟩) LL.length c] := by rw [hW0]; exact ((Bk.new w _ _).alloc _).alloc _
        have CB : Bk W0 (w.heap.size + 1) #[.int .i64 (n : Int), .int .i64 r0, .int .i64 r1, .int .i64 r2, .int .i64 r3] := by
          rw [hW0]
          have := (Bk.new (w.alloc (.cells #[.slice a1 m1 c1, .slice a2 m2 c2, .slice (some ⟨ga, oa, none⟩) LL.length c] 27)) #[.int .i64 (n : Int), .int .i64 r0, .int .i64 r1, .int .i64 r2, .int .i64 r3] 73).alloc (.cells #[.int .i64 0, .int .i64 0, .int .i64 0, .int .i64 0, .int .i64 0, .int .i64 0, .int .i64 0, .int .i64 0, .int .i64 0] 107)
          rwa [World.size_alloc] at this
        have ZB : Bk W0 (w.heap.size + 1 + 1) #[.int .i64 0, .int .i64 0, .int .i64 0, .int .i64 0, .int .i64 0, .int .i64 0, .int .i64 0, .int .i64 0, .int .i64 0] := by
          rw [hW0]
          have := Bk.new ((w.alloc (.cells #[.slice a1 m1 c1, .slice a2 m2 c2, .slice (some ⟨ga, oa, none⟩) LL.length c] 27)).alloc (.cells #[.int .i64 (n : Int), .int .i64 r0, .int .i64 r1, .int .i64 r2, .int .i64 r3] 73)) #[.int .i64 0, .int .i64 0, .int .i64 0, .int .i64 0, .int .i64 0, .int .i64 0, .int .i64 0, .int .i64 0, .int .i64 0] 107
          rwa [World.size_alloc, World.size_alloc] at this
        have uaxW := (K0.cell (p := ⟨ga, oa + k, none⟩) hga).trans uax
        have hgaW : ga < W0.heap.size := Nat.lt_of_lt_of_le hga K0.size
        have hS : ∀ W, On W0 W → W.cell? ⟨w.heap.size, 0, none⟩ = some (.slice a1 m1 c1) ∧ W.cell? ⟨w.heap.size, 1, none⟩ = some (.slice a2 m2 c2) ∧ W.cell? ⟨w.heap.size, 2, none⟩ = some (.slice (some ⟨ga, oa, none⟩) LL.length c) ∧ W.cell? ⟨w.heap.size + 1, 0, none⟩ = some (.int .i64 (n : Int)) ∧ W.cell? ⟨ga, oa + k, none⟩ = some (.slice ax L.length cx) := fun W k' => ⟨(PB.on k').at (i := 0) rfl, (PB.on k').at (i := 1) rfl, (PB.on k').at (i := 2) rfl, (CB.on k').at (i := 0) rfl, (k'.cell (p := ⟨ga, oa + k, none⟩) hgaW).trans uaxW⟩
        have qS := hS _ (On.refl W0).drew
        have zl := ZB.lt
        go_enter Tryz.func48, Tryz.ntmps48
        go_wp2
        rw [← hW0]
        clear hW0
        refine region_fin (fun W => W.cell? ⟨w.heap.size, 0, none⟩ = some (.slice a1 m1 c1) ∧ W.cell? ⟨w.heap.size, 1, none⟩ = some (.slice a2 m2 c2) ∧ W.cell? ⟨w.heap.size, 2, none⟩ = some (.slice (some ⟨ga, oa, none⟩) LL.length c) ∧ W.cell? ⟨w.heap.size + 1, 0, none⟩ = some (.int .i64 (n : Int)) ∧ W.cell? ⟨ga, oa + k, none⟩ = some (.slice ax L.length cx)) 99 20 (by kernel_rfl) rfl ?_
        refine fin_take 0 (v := ?_) rfl (by kernel_rfl) (by kernel_rfl) (by kernel_rfl) (by kernel_rfl) (fun _ _ _ h => h) rfl ?_ qS ?_
        rotate_left
        · intro W hW
          go_simp
          (try with_reducible rfl)
        simp only [Act.put, List.setIfInBounds_toArray, List.set_cons_zero, List.set_cons_succ]
        refine fin_take 1 (v := ?_) rfl (by kernel_rfl) (by kernel_rfl) (by kernel_rfl) (by kernel_rfl) (fun _ _ _ h => h) rfl ?_ qS ?_
        rotate_left
        · intro W hW
          go_simp
          (try with_reducible rfl)
        simp only [Act.put, List.setIfInBounds_toArray, List.set_cons_zero, List.set_cons_succ]
        refine fin_one 2 rfl rfl (by kernel_rfl) (fun K hK => ?_)
        go_simp
        refine (hT _ K0.drew).mono ?_
        rintro _ w1 ⟨rfl, k1'⟩
        have k1 : On W0 w1 := (On.refl W0).drew.trans k1'
        have q1 := hS _ k1
        refine hK.out _ _ (fun _ => q1) ?_
        clear hK
        refine fin_take 3 (v := ?_) rfl (by kernel_rfl) (by kernel_rfl) (by kernel_rfl) (by kernel_rfl) (fun _ _ _ h => h) rfl ?_ q1 ?_
        rotate_left
        · intro W hW
          go_simp
          (try with_reducible rfl)
        simp only [Act.put, List.setIfInBounds_toArray, List.set_cons_zero, List.set_cons_succ]
        refine fin_take 4 (v := ?_) rfl (by kernel_rfl) (by kernel_rfl) (by kernel_rfl) (by kernel_rfl) (fun _ _ _ h => h) rfl ?_ q1 ?_
        rotate_left
        · intro W hW
          go_simp
          (try with_reducible rfl)
        simp only [Act.put, List.setIfInBounds_toArray, List.set_cons_zero, List.set_cons_succ]
        refine fin_takeG 5 (v := ?_) rfl (by kernel_rfl) (by kernel_rfl) (by kernel_rfl) (by kernel_rfl) (fun _ _ _ h => h) (by rfl) ?_ q1 ?_
        rotate_left
        · intro W hW
          go_simp
          (try with_reducible rfl)
        simp only [Act.put, List.setIfInBounds_toArray, List.set_cons_zero, List.set_cons_succ]
        refine fin_takeG 6 (v := ?_) rfl (by kernel_rfl) (by kernel_rfl) (by kernel_rfl) (by kernel_rfl) (fun _ _ _ h => h) (by rfl) ?_ q1 ?_
        rotate_left
        · intro W hW
          go_simp
          (try with_reducible rfl)
        simp only [Act.put, List.setIfInBounds_toArray, List.set_cons_zero, List.set_cons_succ]
        refine fin_takeG 7 (v := ?_) rfl (by kernel_rfl) (by kernel_rfl) (by kernel_rfl) (by kernel_rfl) (fun _ _ _ h => h) (by rfl) ?_ q1 ?_
        rotate_left
        · intro W hW
          go_simp
          (try with_reducible rfl)
        simp only [Act.put, List.setIfInBounds_toArray, List.set_cons_zero, List.set_cons_succ]
        refine fin_take 8 (v := ?_) rfl (by kernel_rfl) (by kernel_rfl) (by kernel_rfl) (by kernel_rfl) (fun _ _ _ h => h) rfl ?_ q1 ?_
        rotate_left
        · intro W hW
          go_simp
          (try with_reducible rfl)
        simp only [Act.put, List.setIfInBounds_toArray, List.set_cons_zero, List.set_cons_succ]
        refine fin_take 9 (v := ?_) rfl (by kernel_rfl) (by kernel_rfl) (by kernel_rfl) (by kernel_rfl) (fun _ _ _ h => h) rfl ?_ q1 ?_
        rotate_left
        · intro W hW
          go_simp
          (try with_reducible rfl)
        simp only [Act.put, List.setIfInBounds_toArray, List.set_cons_zero, List.set_cons_succ]
        refine fin_takeG 10 (v := ?_) rfl (by kernel_rfl) (by kernel_rfl) (by kernel_rfl) (by kernel_rfl) (fun _ _ _ h => h) (by rfl) ?_ q1 ?_
        rotate_left
        · intro W hW
          go_simp
          (try with_reducible rfl)
        simp only [Act.put, List.setIfInBounds_toArray, List.set_cons_zero, List.set_cons_succ]
        refine fin_takeG 11 (v := ?_) rfl (by kernel_rfl) (by kernel_rfl) (by kernel_rfl) (by kernel_rfl) (fun _ _ _ h => h) (by rfl) ?_ q1 ?_
        rotate_left
        · intro W hW
          go_simp
          (try with_reducible rfl)
        simp only [Act.put, List.setIfInBounds_toArray, List.set_cons_zero, List.set_cons_succ]
        refine fin_takeG 12 (v := ?_) rfl (by kernel_rfl) (by kernel_rfl) (by kernel_rfl) (by kernel_rfl) (fun _ _ _ h => h) (by rfl) ?_ q1 ?_
        rotate_left
        · intro W hW
          go_simp
          (try with_reducible rfl)
        simp only [Act.put, List.setIfInBounds_toArray, List.set_cons_zero, List.set_cons_succ]
        refine fin_takeG 13 (v := ?_) rfl (by kernel_rfl) (by kernel_rfl) (by kernel_rfl) (by kernel_rfl) (fun _ _ _ h => h) (by rfl) ?_ q1 ?_
        rotate_left
        · intro W hW
          go_simp
          (try with_reducible rfl)
        simp only [Act.put, List.setIfInBounds_toArray, List.set_cons_zero, List.set_cons_succ]
        refine fin_takeG 14 (v := ?_) rfl (by kernel_rfl) (by kernel_rfl) (by kernel_rfl) (by kernel_rfl) (fun _ _ _ h => h) (by rfl) ?_ q1 ?_
        rotate_left
        · intro W hW
          go_simp
          (try with_reducible rfl)
        simp only [Act.put, List.setIfInBounds_toArray, List.set_cons_zero, List.set_cons_succ]
        refine fin_takeG 15 (v := ?_) rfl (by kernel_rfl) (by kernel_rfl) (by kernel_rfl) (by kernel_rfl) (fun _ _ _ h => h) (by rfl) ?_ q1 ?_
        rotate_left
        · intro W hW
          go_simp
          (try with_reducible rfl)
        simp only [Act.put, List.setIfInBounds_toArray, List.set_cons_zero, List.set_cons_succ]
        refine fin_takeG 16 (v := ?_) rfl (by kernel_rfl) (by kernel_rfl) (by kernel_rfl) (by kernel_rfl) (fun _ _ _ h => h) (by rfl) ?_ q1 ?_
        rotate_left
        · intro W hW
          go_simp
          (try with_reducible rfl)
        simp only [Act.put, List.setIfInBounds_toArray, List.set_cons_zero, List.set_cons_succ]
        refine fin_takeG 17 (v := ?_) rfl (by kernel_rfl) (by kernel_rfl) (by kernel_rfl) (by kernel_rfl) (fun _ _ _ h => h) (by rfl) ?_ q1 ?_
        rotate_left
        · intro W hW
          go_simp
          (try with_reducible rfl)
        simp only [Act.put, List.setIfInBounds_toArray, List.set_cons_zero, List.set_cons_succ]
        refine fin_takeG 18 (v := ?_) rfl (by kernel_rfl) (by kernel_rfl) (by kernel_rfl) (by kernel_rfl) (fun _ _ _ h => h) (by rfl) ?_ q1 ?_
        rotate_left
        · intro W hW
          go_simp
          (try with_reducible rfl)
        simp only [Act.put, List.setIfInBounds_toArray, List.set_cons_zero, List.set_cons_succ]
        refine fin_take 19 (v := ?_) rfl (by kernel_rfl) (by kernel_rfl) (by kernel_rfl) (by kernel_rfl) (fun _ _ _ h => h) rfl ?_ q1 ?_
        rotate_left
        · intro W hW
          go_simp
          (try with_reducible rfl)
        simp only [Act.put, List.setIfInBounds_toArray, List.set_cons_zero, List.set_cons_succ]
        refine fin_done (by kernel_rfl) (NoPanic.normal ?_)
        have O1 : On w w1 := K0.trans k1
        have Z1 := ZB.on k1
        have zf := fun i => Z1.fr i
        have z0 := Z1.at (i := 0) rfl
        have z1 := Z1.at (i := 1) rfl
        have z2 := Z1.at (i := 2) rfl
        have z3 := Z1.at (i := 3) rfl
        have z4 := Z1.at (i := 4) rfl
        have z5 := Z1.at (i := 5) rfl
        have z6 := Z1.at (i := 6) rfl
        have z7 := Z1.at (i := 7) rfl
        have z8 := Z1.at (i := 8) rfl
        have zzl := Z1.lt
        go_wp2
        refine bodyPost_ret (v := .tuple #[.agg #[.int .i64 0, .int .i64 0, .int .i64 0, .int .i64 0, .int .i64 0, .int .i64 0, .int .i64 0, .int .i64 0, .int .i64 0], .bool false]) ?_ rfl ⟨rfl, ?_⟩
        · rw [results_cell_slot rfl]
          go_simp
        · (try with_reducible refine On.drew ?_)
          repeat' (first | with_reducible refine On.setNew ?_ (by omega) _ | with_reducible exact O1 | with_reducible refine On.alloc ?_ _ | with_reducible refine On.drew ?_)
end Go.Proofs.YtplihlmejnohnaaGreatDoor

namespace Go.Proofs.YtplihlmejnohnaaGreatDoor
open Go.RowKit

theorem rpl_keeps (LT : List UInt8) (x : InsT) : (rplIns LT x).k = x.k ∧ (rplIns LT x).r = x.r ∧ (rplIns LT x).n = x.n := by
  unfold rplIns
  split <;> exact ⟨rfl, rfl, rfl⟩
theorem of_fine (zs : List Int) (most : Nat) : ∀ L ∈ ofT zs most, fineL L := by
  intro L hL i x hx
  unfold ofT at hL
  obtain ⟨L0, hL0, rfl⟩ := List.mem_map.1 hL
  obtain ⟨⟨h1, _, _⟩, h2⟩ := (thrOf_ok zs most).2 L0 hL0
  unfold rplRow at hx ⊢
  rw [List.getElem?_map, Option.map_eq_some_iff] at hx
  obtain ⟨y, hy, rfl⟩ := hx
  obtain ⟨e1, e2, e3⟩ := rpl_keeps (locsR (smallP zs most)) y
  obtain ⟨f1, f2, f3, f4⟩ := ins_fine y (List.all_eq_true.1 h1 y (List.mem_of_getElem? hy))
  rw [e1, e2, e3]
  refine ⟨⟨f1, fun h6 => ⟨f2 h6, ?_⟩⟩, f3, f4⟩
  rw [List.length_map]
  exact skip_at L0 i y h2 hy h6
theorem of_len (zs : List Int) (most : Nat) : ∀ L ∈ ofT zs most, L.length ≤ 6 := by
  intro L hL
  unfold ofT at hL
  obtain ⟨L0, hL0, rfl⟩ := List.mem_map.1 hL
  unfold rplRow
  rw [List.length_map]
  exact ((thrOf_ok zs most).2 L0 hL0).1.2.1
theorem of_many (zs : List Int) (most : Nat) : 2 ≤ (ofT zs most).length ∧ (ofT zs most).length ≤ 3 := by
  unfold ofT
  rw [List.length_map]
  have := (thrOf_ok zs most).1
  have e : (smallP zs most).thr = (thrOf zs most).1 := rfl
  rw [e]
  omega
theorem thread_len {LL : List (List InsT)} {m : Nat} (h : ∀ L ∈ LL, L.length ≤ m) (t : Int) : (threadP LL t).length ≤ m := by
  unfold threadP
  split
  · rw [List.getD_eq_getElem?_getD]
    cases hq : LL[t.toNat]? with
    | none => simp
    | some M => exact h M (List.mem_of_getElem? hq)
  · simp
theorem of_locs (zs : List Int) (most : Nat) : (locsR (smallP zs most)).length ≤ 26 := outTo_len _ 123
theorem of_inis (zs : List Int) (most : Nat) : (iniVals (locsR (smallP zs most)) (smallP zs most).ini).length = (locsR (smallP zs most)).length := by
  unfold iniVals
  rw [List.length_map]
end Go.Proofs.YtplihlmejnohnaaGreatDoor

namespace Go.Proofs.YtplihlmejnohnaaGreatDoor
open Go.RowKit

theorem of_insB (zs : List Int) (most : Nat) : ∀ L ∈ ofT zs most, InsB L := by
  intro L hL y hy
  unfold ofT at hL
  obtain ⟨L0, hL0, rfl⟩ := List.mem_map.1 hL
  unfold rplRow at hy
  obtain ⟨z, hz, rfl⟩ := List.mem_map.1 hy
  have e : (rplIns (locsR (smallP zs most)) z).a = z.a ∧ (rplIns (locsR (smallP zs most)) z).b = z.b := by
    unfold rplIns
    split <;> exact ⟨rfl, rfl⟩
  rw [e.1, e.2]
  have := thrFrom_b zs most _ _ _ _ L0 hL0 z hz
  exact ⟨this.1, this.2.1⟩
theorem valFrom_b (b : UInt8) : ∀ (L : List InitT) (v : Int), B64 v → (∀ x ∈ L, B64 x.v) → B64 (valFrom b L v)
  | [], _, h, _ => h
  | x :: L, v, h, hL => by
    unfold valFrom
    rw [List.foldl_cons]
    refine valFrom_b b L _ ?_ (fun y hy => hL y (List.mem_cons_of_mem _ hy))
    split
    · exact hL x List.mem_cons_self
    · exact h
theorem of_inB (zs : List Int) (most : Nat) : ∀ v ∈ iniVals (locsR (smallP zs most)) (smallP zs most).ini, B64 v := by
  intro v hv
  unfold iniVals at hv
  obtain ⟨b, _, rfl⟩ := List.mem_map.1 hv
  exact valFrom_b b _ 0 bd_zero (iniOf_b zs)
end Go.Proofs.YtplihlmejnohnaaGreatDoor

namespace Go.Proofs.YtplihlmejnohnaaGreatDoor
open Go.RowKit

theorem of_lt (zs : List Int) (most : Nat) : locsR (smallP zs most) = lettersN (locsN (smallP zs most)) := out_letters _ (small_ok zs most)
theorem of_ll (zs : List Int) (most : Nat) : ofT zs most = (smallP zs most).thr.map (placedP (lettersN (locsN (smallP zs most)))) := by
  unfold ofT
  rw [of_lt]
  apply List.map_congr_left
  intro L hL
  exact (row_same _ L ((thrOf_ok zs most).2 L hL).1.1).symm
def ltO (zs : List Int) (most : Nat) : List UInt8 := locsR (smallP zs most)
def inO (zs : List Int) (most : Nat) : List Int := iniVals (locsR (smallP zs most)) (smallP zs most).ini
theorem ag_made (zs : List Int) (most : Nat) : AgOk (ltO zs most) (inO zs most) (ofT zs most) := by
  have h := ag_of (smallP zs most) (small_check zs most) (inO zs most) (by rw [← of_lt]; exact of_inis zs most)
  rw [← of_lt] at h
  have e := of_ll zs most
  rw [← of_lt] at e
  rw [e]
  exact h
theorem lok_made (zs : List Int) (most : Nat) : LOk (ofT zs most) where
  len := by have := (of_many zs most).2; omega
  num := of_insB zs most
  loc := fun L hL x hx hk => by
    have h := of_lok zs most L hL x hx hk
    have h3 := of_locs3 zs most
    omega
  ten := fun L hL => by have := of_len zs most L hL; omega
theorem in_made (zs : List Int) (most : Nat) : ∀ v ∈ inO zs most, B64 v := of_inB zs most
end Go.Proofs.YtplihlmejnohnaaGreatDoor
