/- PrintLines, walked. -/
import Derived.Test.YtoolingijocpcaaDoorTestW
import Derived.Test.YtoolingijocpcaaDoorTokL
import Derived.Test.YtoolingijocpcaaDoorSmallC
import Derived.Test.YtoolingijocpcaaDoorAwake4
namespace Go.Proofs.YtoolingijocpcaaDoor
open Go.RowKit

theorem TOwn.rdT {w : World} {base : Nat} {v : Value} {t : TestT} (h : TOwn w base v t) (hn : t.name.size ≤ 9223372036854775807) : TestRd w v t := by
  obtain ⟨a1, c1, a2, c2, a3, c3, e, h1, h2, h3⟩ := h.rd4
  exact ⟨a1, c1, a2, c2, a3, c3, e, hn, h1, h2, h3⟩
theorem arr_at {l : List UInt8} {i : Nat} {c : UInt8} (h : l[i]? = some c) : (⟨l.toArray⟩ : ByteArray).data[i]? = some c := by simpa using h
theorem cnt_take (p : UInt8 → Bool) {l : List UInt8} {i : Nat} {c : UInt8} (h : l[i]? = some c) : (l.take (i + 1)).countP p = (l.take i).countP p + if p c then 1 else 0 := by
  rw [List.take_add_one, h, Option.toList_some, List.countP_append, List.countP_cons, List.countP_nil, Nat.zero_add]
set_option maxHeartbeats 4000000 in
set_option maxRecDepth 8000 in
theorem printLines_walk (a : Option Addr) (zs : List Int) (cap : Nat) (w : World) (hz : zs.length ≤ 9223372036854775807) (hr : Rd intC 1 w (.slice a zs.length cap) zs) (lw : Lw w) :
    Calls Tryd.prog 3 #[.slice a zs.length cap] w fun e w' => e = .returned (.bool true) ∧ On w w' := by
  have hS := small_is zs a cap 12 w hz hr
  have hok := small_ok zs 12
  have hTx := fun v W (k : On w W) h => ptest_is (smallP zs 12) v W (lw.on k) h hok (small_B zs 12) (small_text zs 12)
  have hA2 := fun W (k : On w W) => awake4_is W (lw.on k)
  have HF : Hid (fineL (textL (smallP zs 12))) := text_fine hok
  have HC : Hid ((textL (smallP zs 12)).countP nlB = (textL (smallP zs 12)).countP isEnd) := text_cnt hok
  obtain ⟨pr, hpr⟩ := text_last (smallP zs 12)
  have hTl := small_text zs 12
  have hnm : (smallP zs 12).name.size ≤ 9223372036854775807 := by show 1 ≤ _; decide
  clear hok lw
  generalize smallP zs 12 = t at *
  generalize textL t = s at *
  have hs0 : 0 < s.length := by rw [hpr]; simp
  have hlast : s[s.length - 1]? = some 10 := by rw [hpr]; simp
  have hnl : 0 < s.countP nlB := by rw [hpr, List.countP_append]; have : List.countP nlB [125, 10] = 1 := by decide
                                    omega
  have HLAST : Hid (s[s.length - 1]? = some 10) := hlast
  have HNL : Hid (0 < s.countP nlB) := hnl
  clear hpr hlast hnl hr
  go_enter Tryd.func3, Tryd.ntmps3
  go_wp2_with fail
  refine hS.mono ?_
  rintro _ w1 ⟨v, rfl, hown, k1⟩
  have hrd := hown.rdT hnm
  obtain ⟨a1, c1, a2, c2, a3, c3, rfl, _, _, _, _⟩ := hrd.ex
  have hTx2 := fun W (k : On w1 W) => hTx _ W (k1.trans k) (hrd.on k)
  obtain ⟨S, hS9⟩ : ∃ S : ByteArray, S = ⟨s.toArray⟩ := ⟨_, rfl⟩
  have hsz : S.size = s.length := by rw [hS9]; show s.toArray.size = _; simp
  have HAT : Hid (∀ i c, s[i]? = some c → ∃ h : i < S.size, S[i] = c) := fun i c hc => by
    subst hS9
    have hi := (List.getElem?_eq_some_iff.1 hc).1
    refine ⟨by omega, ?_⟩
    have := (List.getElem?_eq_some_iff.1 hc).2
    show s.toArray[i] = c
    simpa using this
  rw [← hS9] at hTx2
  clear hS9 hTx hrd hown hnm
  generalize t.cond.any.length = m3 at *
  generalize t.cond.k = kk at *
  generalize t.thr.length = m2 at *
  generalize t.ini.length = m1 at *
  generalize t.name = nm at *
  obtain ⟨len, hln⟩ : ∃ len, len = s.length := ⟨_, rfl⟩
  rw [← hln] at hsz hs0 hTl HLAST
  have HLN : Hid (len = s.length) := hln
  clear hln
  go_wp2_with fail
  refine (hTx2 _ ((On.refl w1).alloc _)).mono ?_
  rintro _ w2 ⟨rfl, k2⟩
  have HO2 : Hid (On w w2) := (k1.trans ((On.refl w1).alloc _)).trans k2
  clear hTx2 k1 k2
  go_wp2
  go_loopg [5, 6, 7] len (fun gg s5 s6 s7 wr => ∃ i : Nat, i ≤ len ∧ gg = len - i ∧ s7 = .int .i64 i ∧ s5 = .int .i64 ((s.take i).countP nlB : Nat) ∧ s6 = .int .i64 ((s.take i).countP isEnd : Nat) ∧ w2 = wr)
  case atStart => exact ⟨0, Nat.zero_le _, rfl, rfl, rfl, rfl, rfl⟩
  case round =>
    obtain ⟨i, hi, hk, rfl, rfl, rfl, hwr⟩ := hrel
    subst hwr
    rcases Nat.lt_or_ge i len with hlt | hge
    · obtain ⟨c, hc⟩ : ∃ c, s[i]? = some c := ⟨_, List.getElem?_eq_getElem (by rw [← HLN.out]; exact hlt)⟩
      obtain ⟨hi2, hSi⟩ := HAT.out i c hc
      have e1 := cnt_take nlB hc
      have e2 := cnt_take isEnd hc
      obtain ⟨f1, f2⟩ := HF.out i c hc
      obtain ⟨A, hA⟩ : ∃ A, A = (s.take i).countP nlB := ⟨_, rfl⟩
      obtain ⟨E, hE⟩ : ∃ E, E = (s.take i).countP isEnd := ⟨_, rfl⟩
      have hAl : A ≤ len := by rw [hA, HLN.out]; exact Nat.le_trans List.countP_le_length (List.length_take_le' i s)
      have hEl : E ≤ len := by rw [hE, HLN.out]; exact Nat.le_trans List.countP_le_length (List.length_take_le' i s)
      rw [← hA] at e1 ⊢
      rw [← hE] at e2 ⊢
      have F1 : Hid (c = 10 → ∃ d, 1 ≤ i ∧ s[i - 1]? = some d ∧ isEnd d = true) := f1
      have F2 : Hid (c = 32 → ∃ d, 1 ≤ i ∧ s[i - 1]? = some d ∧ d ≠ 32 ∧ d ≠ 10) := f2
      clear hA hE f1 f2 hc
      by_cases q10 : c = 10
      · subst q10
        obtain ⟨d, hd1, hd2, hd3⟩ := F1.out rfl
        have HE1 : Hid ((s.take (i + 1)).countP nlB = A + 1) := by show _ = _; rw [e1]; rfl
        have HE2 : Hid ((s.take (i + 1)).countP isEnd = E) := by show _ = _; rw [e2]; rfl
        have hSk : (S[i]).toNat = 10 := by rw [hSi]; rfl
        obtain ⟨p, hp⟩ : ∃ p, p = i - 1 := ⟨_, rfl⟩
        rw [← hp] at hd2
        have hpw : IntKind.i64.wrap ((i : Int) - 1) = (p : Int) := by rw [IntKind.wrap_i64]; omega
        obtain ⟨hp2, hSp⟩ := HAT.out p d hd2
        have hi0 : ((i : Int) == 0) = false := by simpa using (by omega : ¬ (i : Int) = 0)
        have hdd : d = 123 ∨ d = 59 ∨ d = 125 := by
          unfold isEnd at hd3
          simp only [Bool.or_eq_true, beq_iff_eq] at hd3
          rcases hd3 with (h | h) | h
          · exact Or.inl h
          · exact Or.inr (Or.inl h)
          · exact Or.inr (Or.inr h)
        clear e1 e2 hd2 hd3 hSi hp F1 F2 HF HC HNL HLAST
        rcases hdd with rfl | rfl | rfl
        · have hSd : (S[p]).toNat = 123 := by rw [hSp]; rfl
          clear hSp
          go_wp2
          go_roundg (len - (i + 1))
          case measure => omega
          case rel => exact ⟨i + 1, hlt, rfl, by congr 1, by rw [HE1.out]; congr 1, by rw [HE2.out], rfl⟩
        · have hSd : (S[p]).toNat = 59 := by rw [hSp]; rfl
          clear hSp
          go_wp2
          go_roundg (len - (i + 1))
          case measure => omega
          case rel => exact ⟨i + 1, hlt, rfl, by congr 1, by rw [HE1.out]; congr 1, by rw [HE2.out], rfl⟩
        · have hSd : (S[p]).toNat = 125 := by rw [hSp]; rfl
          clear hSp
          go_wp2
          go_roundg (len - (i + 1))
          case measure => omega
          case rel => exact ⟨i + 1, hlt, rfl, by congr 1, by rw [HE1.out]; congr 1, by rw [HE2.out], rfl⟩
      · by_cases q123 : c = 123
        · subst q123
          have HE1 : Hid ((s.take (i + 1)).countP nlB = A) := by show _ = _; rw [e1]; rfl
          have HE2 : Hid ((s.take (i + 1)).countP isEnd = E + 1) := by show _ = _; rw [e2]; rfl
          have hSk : (S[i]).toNat = 123 := by rw [hSi]; rfl
          clear e1 e2 hSi F1 F2 HF HC HNL HLAST
          go_wp2
          go_roundg (len - (i + 1))
          case measure => omega
          case rel => exact ⟨i + 1, hlt, rfl, by congr 1, by rw [HE1.out], by rw [HE2.out]; congr 1, rfl⟩
        · by_cases q59 : c = 59
          · subst q59
            have HE1 : Hid ((s.take (i + 1)).countP nlB = A) := by show _ = _; rw [e1]; rfl
            have HE2 : Hid ((s.take (i + 1)).countP isEnd = E + 1) := by show _ = _; rw [e2]; rfl
            have hSk : (S[i]).toNat = 59 := by rw [hSi]; rfl
            clear e1 e2 hSi F1 F2 HF HC HNL HLAST
            go_wp2
            go_roundg (len - (i + 1))
            case measure => omega
            case rel => exact ⟨i + 1, hlt, rfl, by congr 1, by rw [HE1.out], by rw [HE2.out]; congr 1, rfl⟩
          · by_cases q125 : c = 125
            · subst q125
              have HE1 : Hid ((s.take (i + 1)).countP nlB = A) := by show _ = _; rw [e1]; rfl
              have HE2 : Hid ((s.take (i + 1)).countP isEnd = E + 1) := by show _ = _; rw [e2]; rfl
              have hSk : (S[i]).toNat = 125 := by rw [hSi]; rfl
              clear e1 e2 hSi F1 F2 HF HC HNL HLAST
              go_wp2
              go_roundg (len - (i + 1))
              case measure => omega
              case rel => exact ⟨i + 1, hlt, rfl, by congr 1, by rw [HE1.out], by rw [HE2.out]; congr 1, rfl⟩
            · by_cases q32 : c = 32
              · subst q32
                obtain ⟨d, hd1, hd2, hd3, hd4⟩ := F2.out rfl
                have HE1 : Hid ((s.take (i + 1)).countP nlB = A) := by show _ = _; rw [e1]; rfl
                have HE2 : Hid ((s.take (i + 1)).countP isEnd = E) := by show _ = _; rw [e2]; rfl
                have hSk : (S[i]).toNat = 32 := by rw [hSi]; rfl
                obtain ⟨p, hp⟩ : ∃ p, p = i - 1 := ⟨_, rfl⟩
                rw [← hp] at hd2
                have hpw : IntKind.i64.wrap ((i : Int) - 1) = (p : Int) := by rw [IntKind.wrap_i64]; omega
                obtain ⟨hp2, hSp⟩ := HAT.out p d hd2
                have hi0 : ((i : Int) == 0) = false := by simpa using (by omega : ¬ (i : Int) = 0)
                obtain ⟨dn, hdn⟩ : ∃ dn, dn = d.toNat := ⟨_, rfl⟩
                have hSd : (S[p]).toNat = dn := by rw [hSp, hdn]
                have b1 : ((dn : Int) == 32) = false := by
                  rw [beq_eq_false_iff_ne]
                  intro e
                  exact hd3 (UInt8.toNat_inj.1 (by show d.toNat = 32; omega))
                have b2 : ((dn : Int) == 10) = false := by
                  rw [beq_eq_false_iff_ne]
                  intro e
                  exact hd4 (UInt8.toNat_inj.1 (by show d.toNat = 10; omega))
                clear e1 e2 hd2 hd3 hd4 hSi hSp hp hdn F1 F2 HF HC HNL HLAST
                go_wp2
                go_roundg (len - (i + 1))
                case measure => omega
                case rel => exact ⟨i + 1, hlt, rfl, by congr 1, by rw [HE1.out], by rw [HE2.out], rfl⟩
              · have HE1 : Hid ((s.take (i + 1)).countP nlB = A) := by
                  show _ = _
                  rw [e1]
                  have : nlB c = false := by unfold nlB; simpa using q10
                  rw [this]; rfl
                have HE2 : Hid ((s.take (i + 1)).countP isEnd = E) := by
                  show _ = _
                  rw [e2]
                  have : isEnd c = false := by unfold isEnd; simp [q123, q59, q125]
                  rw [this]; rfl
                obtain ⟨cn, hcn⟩ : ∃ cn, cn = c.toNat := ⟨_, rfl⟩
                have hSk : (S[i]).toNat = cn := by rw [hSi, hcn]
                have g10 : ((cn : Int) == 10) = false := by
                  rw [beq_eq_false_iff_ne]
                  intro e
                  exact q10 (UInt8.toNat_inj.1 (by show c.toNat = 10; omega))
                have g123 : ((cn : Int) == 123) = false := by
                  rw [beq_eq_false_iff_ne]
                  intro e
                  exact q123 (UInt8.toNat_inj.1 (by show c.toNat = 123; omega))
                have g59 : ((cn : Int) == 59) = false := by
                  rw [beq_eq_false_iff_ne]
                  intro e
                  exact q59 (UInt8.toNat_inj.1 (by show c.toNat = 59; omega))
                have g125 : ((cn : Int) == 125) = false := by
                  rw [beq_eq_false_iff_ne]
                  intro e
                  exact q125 (UInt8.toNat_inj.1 (by show c.toNat = 125; omega))
                have g32 : ((cn : Int) == 32) = false := by
                  rw [beq_eq_false_iff_ne]
                  intro e
                  exact q32 (UInt8.toNat_inj.1 (by show c.toNat = 32; omega))
                clear e1 e2 hSi hcn q10 q123 q59 q125 q32 F1 F2 HF HC HNL HLAST
                go_wp2
                go_roundg (len - (i + 1))
                case measure => omega
                case rel => exact ⟨i + 1, hlt, rfl, by congr 1, by rw [HE1.out], by rw [HE2.out], rfl⟩
    · skip
      have hlen2 : len = i := by omega
      have h1 := HC.out
      have h2 := HNL.out
      have e1 : s.take i = s := List.take_of_length_le (by rw [← HLN.out]; exact hge)
      rw [e1]
      obtain ⟨A, hA⟩ : ∃ A, A = s.countP nlB := ⟨_, rfl⟩
      rw [← h1, ← hA]
      rw [← hA] at h2
      obtain ⟨hp2, hSp⟩ := HAT.out (len - 1) 10 HLAST.out
      obtain ⟨p, hp⟩ : ∃ p, p = len - 1 := ⟨_, rfl⟩
      have hpw : IntKind.i64.wrap ((len : Int) - 1) = (p : Int) := by rw [IntKind.wrap_i64]; omega
      rw [← hp] at hp2
      have hSp2 : (S[p]).toNat = 10 := by subst hp; rw [hSp]; rfl
      have hA0 : decide (0 < A) = true := decide_eq_true h2
      clear HF HC HNL HLAST h1 e1 hA hSp hp h2
      subst hlen2
      go_wp2_with fail
      refine (hA2 _ HO2.out).mono ?_
      rintro _ w3 ⟨rfl, k3⟩
      go_wp2
      go_ret
      exact ⟨rfl, HO2.out.trans k3⟩
end Go.Proofs.YtoolingijocpcaaDoor
