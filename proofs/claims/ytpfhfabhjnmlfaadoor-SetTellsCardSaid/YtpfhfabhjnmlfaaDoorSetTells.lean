/- SetTells, walked. -/
import Derived.Test.YtpfhfabhjnmlfaaDoorTellsP
import Derived.Test.YtpfhfabhjnmlfaaDoorAwake7
import Derived.Test.YtpfhfabhjnmlfaaDoorSetUptos
import Derived.Test.YtpfhfabhjnmlfaaDoorRegFin2
namespace Go.Proofs.YtpfhfabhjnmlfaaDoor
open Go.RowKit

theorem zero_marks : marksA 0 = #[.bool false, .bool false, .bool false, .bool false, .bool false, .bool false, .bool false, .bool false, .bool false, .bool false, .bool false, .bool false, .bool false, .bool false, .bool false, .bool false, .bool false, .bool false, .bool false, .bool false, .bool false, .bool false, .bool false, .bool false, .bool false, .bool false, .bool false, .bool false, .bool false, .bool false, .bool false, .bool false, .bool false, .bool false, .bool false, .bool false, .bool false, .bool false, .bool false, .bool false, .bool false, .bool false, .bool false, .bool false, .bool false, .bool false, .bool false, .bool false, .bool false, .bool false, .bool false, .bool false, .bool false, .bool false, .bool false, .bool false, .bool false, .bool false, .bool false, .bool false, .bool false, .bool false, .bool false, .bool false] := by kernel_rfl
theorem marks_new (w : World) (T : TypeId) : Bk (w.alloc (.cells #[.bool false, .bool false, .bool false, .bool false, .bool false, .bool false, .bool false, .bool false, .bool false, .bool false, .bool false, .bool false, .bool false, .bool false, .bool false, .bool false, .bool false, .bool false, .bool false, .bool false, .bool false, .bool false, .bool false, .bool false, .bool false, .bool false, .bool false, .bool false, .bool false, .bool false, .bool false, .bool false, .bool false, .bool false, .bool false, .bool false, .bool false, .bool false, .bool false, .bool false, .bool false, .bool false, .bool false, .bool false, .bool false, .bool false, .bool false, .bool false, .bool false, .bool false, .bool false, .bool false, .bool false, .bool false, .bool false, .bool false, .bool false, .bool false, .bool false, .bool false, .bool false, .bool false, .bool false, .bool false] T)) w.heap.size (marksA 0) := by rw [zero_marks]; exact Bk.new w _ T
set_option maxHeartbeats 4000000 in
set_option maxRecDepth 8000 in
theorem setTells_walk (ao : Option Addr) (zs : List Int) (cap : Nat) (a b : Int) (w : World) (hm : zs.length ≤ 9223372036854775807) (hr : Rd intC 1 w (.slice ao zs.length cap) zs) (hd : Dt w) :
    Calls Tryd.prog 4 #[.slice ao zs.length cap, .int .i64 a, .int .i64 b] w fun e w' => e = .returned (.bool true) ∧ On w w' := by
  have hA := fun W (k : On w W) => awake7_is W (hd.on k)
  by_cases hbig : 200 < zs.length
  · go_enter Tryd.func4, Tryd.ntmps4
    go_wp2_with fail
    refine (hA _ (On.refl _)).mono ?_
    rintro _ w1 ⟨rfl, k1⟩
    go_wp2
    go_ret
    exact ⟨rfl, k1⟩
  · have hO := fun W (k : On w W) => of_is zs _ W (hr.on k)
    have hRl := of_lt zs 0 (by decide)
    obtain ⟨R, hR⟩ : ∃ R, R = ofI 0 zs := ⟨_, rfl⟩
    rw [← hR] at hO hRl
    have HRR : Hid (R = ofI 0 (zs.drop 0)) := hR
    have hW := fun W => with_is R a hRl W
    have hal := with_lt R a hRl
    obtain ⟨A, hAe⟩ : ∃ A, A = withI R a := ⟨_, rfl⟩
    rw [← hAe] at hW hal
    have HAE : Hid (A = withI R a) := hAe
    have hV := fun W => less_is A b hal W
    have hbl := less_lt A b hal
    obtain ⟨S, hSe⟩ : ∃ S, S = lessI A b := ⟨_, rfl⟩
    rw [← hSe] at hV hbl
    have HSE : Hid (S = lessI A b) := hSe
    have hLi := fun W (k : On w W) => list_is S hbl W (hd.on k)
    have hH := fun (i : Int) W => has_is S i hbl W
    have hC := fun W => len_is S hbl W
    have hF := fun W (k : On w W) => first_is S hbl W (hd.on k)
    have hlen : zs.length ≤ 200 := by omega
    clear hR hAe hSe hbig
    have B0 := marks_new w 32
    have K0 : Hid (On w (w.alloc (.cells #[.bool false, .bool false, .bool false, .bool false, .bool false, .bool false, .bool false, .bool false, .bool false, .bool false, .bool false, .bool false, .bool false, .bool false, .bool false, .bool false, .bool false, .bool false, .bool false, .bool false, .bool false, .bool false, .bool false, .bool false, .bool false, .bool false, .bool false, .bool false, .bool false, .bool false, .bool false, .bool false, .bool false, .bool false, .bool false, .bool false, .bool false, .bool false, .bool false, .bool false, .bool false, .bool false, .bool false, .bool false, .bool false, .bool false, .bool false, .bool false, .bool false, .bool false, .bool false, .bool false, .bool false, .bool false, .bool false, .bool false, .bool false, .bool false, .bool false, .bool false, .bool false, .bool false, .bool false, .bool false] 32))) := (On.refl w).alloc _
    go_enter Tryd.func4, Tryd.ntmps4
    go_wp2
    go_loopg [8] zs.length (fun gg s8 wr => ∃ n s : Nat, n ≤ zs.length ∧ gg = zs.length - n ∧ s8 = .int .i64 n ∧ s < 18446744073709551616 ∧ Hid (On w wr) ∧ Bk wr w.heap.size (marksA s) ∧ Hid (R = ofI s (zs.drop n)))
    case atStart => exact ⟨0, 0, Nat.zero_le _, rfl, rfl, by decide, K0, B0, HRR⟩
    case round =>
      clear B0 K0 HRR
      obtain ⟨n, s, hn, hk, rfl, hs, HO, HB, HR⟩ := hrel
      have hblt := HB.lt
      rcases Nat.lt_or_ge n zs.length with hlt | hge
      · obtain ⟨x, hx, hdr⟩ := drop_at hlt
        obtain ⟨g, off, rfl, hg, u0⟩ := (hr.on HO.out).at hx
        have hc0 := u0 0 _ rfl
        simp only [Nat.mul_one, Nat.add_zero] at hc0
        have HR2 : Hid (R = ofI (withI s x) (zs.drop (n + 1))) := by
          show R = _
          rw [HR.out, hdr]
          rfl
        clear HR hdr u0 hx
        by_cases hx0 : x < 0
        · rw [with_none s x (by omega)] at HR2
          go_wp2
          go_roundg (zs.length - (n + 1))
          case measure => omega
          case rel => exact ⟨n + 1, s, hlt, rfl, by congr 1, hs, HO, HB, HR2⟩
        · by_cases hx1 : 64 ≤ x
          · rw [with_none s x (by omega)] at HR2
            go_wp2
            go_roundg (zs.length - (n + 1))
            case measure => omega
            case rel => exact ⟨n + 1, s, hlt, rfl, by congr 1, hs, HO, HB, HR2⟩
          · obtain ⟨j, hj, rfl⟩ : ∃ j : Nat, j < 64 ∧ x = (j : Int) := ⟨x.toNat, by omega, by omega⟩
            have hq := HB.at (marks_at s hj)
            have hfz := HB.fr j
            clear hx0 hx1
            go_wp2
            go_roundg (zs.length - (n + 1))
            case measure => omega
            case rel => exact ⟨n + 1, withI s j, hlt, rfl, by congr 1, with_lt s j hs, HO.out.setNew (Nat.le_refl _) _, marks_with HB hj, HR2⟩
      · obtain rfl : n = zs.length := by omega
        obtain rfl : R = s := by rw [HR.out, List.drop_length]; rfl
        clear HR hge
        have hO1 := hO _ HO.out
        go_wp2_with fail
        refine hO1.mono ?_
        rintro _ w1 ⟨rfl, hw1⟩
        subst w1
        go_wp2_with fail
        refine (hW _).mono ?_
        rintro _ w1 ⟨rfl, hw1⟩
        subst w1
        go_wp2_with fail
        refine (hV _).mono ?_
        rintro _ w1 ⟨rfl, hw1⟩
        subst w1
        clear hO hO1 hW hV hr hn hk
        obtain ha | ha | ⟨ja, hja, rfl⟩ : a < 0 ∨ 64 ≤ a ∨ ∃ j : Nat, j < 64 ∧ a = (j : Int) := by
          by_cases h0 : a < 0
          · exact Or.inl h0
          · by_cases h1 : 64 ≤ a
            · exact Or.inr (Or.inl h1)
            · exact Or.inr (Or.inr ⟨a.toNat, by omega, by omega⟩)
        · have HBA := HB
          have HOA := HO
          rw [show R = A by rw [HAE.out, with_none R a (by omega)]] at HBA
          obtain hb | hb | ⟨jb, hjb, rfl⟩ : b < 0 ∨ 64 ≤ b ∨ ∃ j : Nat, j < 64 ∧ b = (j : Int) := by
            by_cases h0 : b < 0
            · exact Or.inl h0
            · by_cases h1 : 64 ≤ b
              · exact Or.inr (Or.inl h1)
              · exact Or.inr (Or.inr ⟨b.toNat, by omega, by omega⟩)
          · have HBX := HBA
            have HOX := HOA
            rw [show A = S by rw [HSE.out, less_none A b hal (by omega)]] at HBX
            have HB2 : Bk _ w.heap.size (marksA S) := HBX
            go_wp2_with fail
            refine (hLi _ HOX.out).mono ?_
            rintro _ w2 ⟨xa, xc, rfl, ho, k2⟩
            have HO2 : Hid (On w w2) := HOX.out.trans k2
            have HB3 := HB2.on k2
            have hrx := list_rd ho
            clear HB2 ho k2
            go_wp2
            go_loopg [10, 11, 13] 64 (fun gg s10 s11 s13 wl => ∃ i : Nat, i ≤ 64 ∧ gg = 64 - i ∧ s13 = .int .i64 i ∧ s10 = .int .i64 (pre S i).length ∧ s11 = .int .i64 (hd1 (pre S i)) ∧ Hid (On w2 wl))
            case atStart => exact ⟨0, by omega, rfl, rfl, rfl, rfl, On.refl _⟩
            case round =>
              obtain ⟨i, hi, hk, rfl, rfl, rfl, HL⟩ := hrel
              rcases Nat.lt_or_ge i 64 with hlt | hge
              · have hcell := (HB3.on HL.out).at (marks_at S hlt)
                have hsz := (HB3.on HL.out).lt
                have hHi := fun W => hH i W
                rw [has_nat S i hlt] at hHi
                have hpl := pre_len S i
                have hst := pre_step S i
                have hh := hd1_step S i
                have hg1 := hd1_ge (pre S i)
                have hg2 := hd1_lt S i (by omega)
                have hpa := pre_at S i hlt
                obtain ⟨n, hn⟩ : ∃ n, n = (pre S i).length := ⟨_, rfl⟩
                obtain ⟨F, hFe⟩ : ∃ F, F = hd1 (pre S i) := ⟨_, rfl⟩
                rw [← hn] at hpl hpa ⊢
                rw [← hFe] at hh hg1 hg2 ⊢
                have qS : wr.drew.cell? ⟨w.heap.size, i, none⟩ = some (.bool (S.testBit i)) := hcell
                cases htb : S.testBit i
                · rw [htb] at hHi hcell hst hh qS
                  have HE1 : Hid ((pre S (i + 1)).length = n) := by show _ = _; rw [hst, hn]; simp
                  have HE2 : Hid (hd1 (pre S (i + 1)) = F) := by show _ = _; rw [hh]; simp
                  clear hst hh hpa hn hFe htb
                  go_wp2
                  refine region_fin (fun W => W.cell? ⟨w.heap.size, i, none⟩ = some (.bool false)) 99 7 (by kernel_rfl) rfl ?_
                  refine fin_take 0 (v := ?_) rfl (by kernel_rfl) (by kernel_rfl) (by kernel_rfl) (by kernel_rfl) (fun _ _ _ h => h) rfl ?_ qS ?_
                  rotate_left
                  · intro W hW
                    go_simp
                    (try with_reducible rfl)
                  simp only [Act.put, List.setIfInBounds_toArray, List.set_cons_zero, List.set_cons_succ]
                  refine fin_take 1 (v := ?_) rfl (by kernel_rfl) (by kernel_rfl) (by kernel_rfl) (by kernel_rfl) (fun _ _ _ h => h) rfl ?_ qS ?_
                  rotate_left
                  · intro W hW
                    go_simp
                    (try with_reducible rfl)
                  simp only [Act.put, List.setIfInBounds_toArray, List.set_cons_zero, List.set_cons_succ]
                  refine fin_take 3 (v := ?_) rfl (by kernel_rfl) (by kernel_rfl) (by kernel_rfl) (by kernel_rfl) (fun _ _ _ h => h) rfl ?_ qS ?_
                  rotate_left
                  · intro W hW
                    go_simp
                    (try with_reducible rfl)
                  simp only [Act.put, List.setIfInBounds_toArray, List.set_cons_zero, List.set_cons_succ]
                  refine fin_take 4 (v := ?_) rfl (by kernel_rfl) (by kernel_rfl) (by kernel_rfl) (by kernel_rfl) (fun _ _ _ h => h) rfl ?_ qS ?_
                  rotate_left
                  · intro W hW
                    go_simp
                    (try with_reducible rfl)
                  simp only [Act.put, List.setIfInBounds_toArray, List.set_cons_zero, List.set_cons_succ]
                  refine fin_take 5 (v := ?_) rfl (by kernel_rfl) (by kernel_rfl) (by kernel_rfl) (by kernel_rfl) (fun _ _ _ h => h) rfl ?_ qS ?_
                  rotate_left
                  · intro W hW
                    go_simp
                    (try with_reducible rfl)
                  simp only [Act.put, List.setIfInBounds_toArray, List.set_cons_zero, List.set_cons_succ]
                  refine fin_one 2 rfl rfl (by kernel_rfl) (fun K hK => ?_)
                  go_simp
                  refine (hHi _).mono ?_
                  rintro _ w4 ⟨rfl, hw4⟩
                  subst w4
                  refine hK.out _ _ (fun _ => qS) ?_
                  clear hK
                  refine fin_take 6 (v := ?_) rfl (by kernel_rfl) (by kernel_rfl) (by kernel_rfl) (by kernel_rfl) (fun _ _ _ h => h) rfl ?_ qS ?_
                  rotate_left
                  · intro W hW
                    go_simp
                    (try with_reducible rfl)
                  simp only [Act.put, List.setIfInBounds_toArray, List.set_cons_zero, List.set_cons_succ]
                  refine fin_done (by kernel_rfl) (NoPanic.normal ?_)
                  go_wp2
                  go_roundg (64 - (i + 1))
                  case measure => omega
                  case rel => exact ⟨i + 1, hlt, rfl, by congr 1, by rw [HE1.out], by rw [HE2.out], HL.out.drew⟩
                · have hpa2 := hpa htb
                  rw [htb] at hHi hcell hst hh qS
                  have HE1 : Hid ((pre S (i + 1)).length = n + 1) := by show _ = _; rw [hst, hn]; simp
                  have HE2 : Hid (hd1 (pre S (i + 1)) = if F < 0 then (i : Int) else F) := by show _ = _; rw [hh]; simp
                  have hnl : n < (bits64 S).length := (List.getElem?_eq_some_iff.1 hpa2).1
                  have hx2 : ((bits64 S).map fun i : Nat => (i : Int))[n]? = some (i : Int) := by rw [List.getElem?_map, hpa2]; rfl
                  have hrx2 := hrx.on HL.out
                  rw [show (bits64 S).length = ((bits64 S).map fun i : Nat => (i : Int)).length from (List.length_map _).symm] at hrx2
                  obtain ⟨g, off, rfl, hgl, u0⟩ := hrx2.at hx2
                  have hc0 : wr.cell? ⟨g, off + n, none⟩ = some (.int .i64 i) := by have := u0 0 _ rfl; rw [Nat.mul_one, Nat.add_zero] at this; exact this
                  have hc1 : wr.drew.cell? ⟨g, off + n, none⟩ = some (.int .i64 i) := hc0
                  have hl64 : (bits64 S).length ≤ 64 := cnt_le S
                  have hnl2 : ¬ (bits64 S).length ≤ n := by omega
                  clear hst hh hpa hn hFe htb hpa2 hx2 hrx2 u0
                  by_cases hF0 : F < 0
                  · rw [if_pos hF0] at HE2
                    go_wp2
                    refine region_fin (fun W => W.cell? ⟨w.heap.size, i, none⟩ = some (.bool true)) 99 7 (by kernel_rfl) rfl ?_
                    refine fin_take 0 (v := ?_) rfl (by kernel_rfl) (by kernel_rfl) (by kernel_rfl) (by kernel_rfl) (fun _ _ _ h => h) rfl ?_ qS ?_
                    rotate_left
                    · intro W hW
                      go_simp
                      (try with_reducible rfl)
                    simp only [Act.put, List.setIfInBounds_toArray, List.set_cons_zero, List.set_cons_succ]
                    refine fin_take 1 (v := ?_) rfl (by kernel_rfl) (by kernel_rfl) (by kernel_rfl) (by kernel_rfl) (fun _ _ _ h => h) rfl ?_ qS ?_
                    rotate_left
                    · intro W hW
                      go_simp
                      (try with_reducible rfl)
                    simp only [Act.put, List.setIfInBounds_toArray, List.set_cons_zero, List.set_cons_succ]
                    refine fin_take 3 (v := ?_) rfl (by kernel_rfl) (by kernel_rfl) (by kernel_rfl) (by kernel_rfl) (fun _ _ _ h => h) rfl ?_ qS ?_
                    rotate_left
                    · intro W hW
                      go_simp
                      (try with_reducible rfl)
                    simp only [Act.put, List.setIfInBounds_toArray, List.set_cons_zero, List.set_cons_succ]
                    refine fin_take 4 (v := ?_) rfl (by kernel_rfl) (by kernel_rfl) (by kernel_rfl) (by kernel_rfl) (fun _ _ _ h => h) rfl ?_ qS ?_
                    rotate_left
                    · intro W hW
                      go_simp
                      (try with_reducible rfl)
                    simp only [Act.put, List.setIfInBounds_toArray, List.set_cons_zero, List.set_cons_succ]
                    refine fin_take 5 (v := ?_) rfl (by kernel_rfl) (by kernel_rfl) (by kernel_rfl) (by kernel_rfl) (fun _ _ _ h => h) rfl ?_ qS ?_
                    rotate_left
                    · intro W hW
                      go_simp
                      (try with_reducible rfl)
                    simp only [Act.put, List.setIfInBounds_toArray, List.set_cons_zero, List.set_cons_succ]
                    refine fin_one 2 rfl rfl (by kernel_rfl) (fun K hK => ?_)
                    go_simp
                    refine (hHi _).mono ?_
                    rintro _ w4 ⟨rfl, hw4⟩
                    subst w4
                    refine hK.out _ _ (fun _ => qS) ?_
                    clear hK
                    refine fin_take 6 (v := ?_) rfl (by kernel_rfl) (by kernel_rfl) (by kernel_rfl) (by kernel_rfl) (fun _ _ _ h => h) rfl ?_ qS ?_
                    rotate_left
                    · intro W hW
                      go_simp
                      (try with_reducible rfl)
                    simp only [Act.put, List.setIfInBounds_toArray, List.set_cons_zero, List.set_cons_succ]
                    refine fin_done (by kernel_rfl) (NoPanic.normal ?_)
                    go_wp2
                    go_roundg (64 - (i + 1))
                    case measure => omega
                    case rel => exact ⟨i + 1, hlt, rfl, by congr 1, by rw [HE1.out]; congr 1, by rw [HE2.out], HL.out.drew⟩
                  · rw [if_neg hF0] at HE2
                    go_wp2
                    refine region_fin (fun W => W.cell? ⟨w.heap.size, i, none⟩ = some (.bool true)) 99 7 (by kernel_rfl) rfl ?_
                    refine fin_take 0 (v := ?_) rfl (by kernel_rfl) (by kernel_rfl) (by kernel_rfl) (by kernel_rfl) (fun _ _ _ h => h) rfl ?_ qS ?_
                    rotate_left
                    · intro W hW
                      go_simp
                      (try with_reducible rfl)
                    simp only [Act.put, List.setIfInBounds_toArray, List.set_cons_zero, List.set_cons_succ]
                    refine fin_take 1 (v := ?_) rfl (by kernel_rfl) (by kernel_rfl) (by kernel_rfl) (by kernel_rfl) (fun _ _ _ h => h) rfl ?_ qS ?_
                    rotate_left
                    · intro W hW
                      go_simp
                      (try with_reducible rfl)
                    simp only [Act.put, List.setIfInBounds_toArray, List.set_cons_zero, List.set_cons_succ]
                    refine fin_take 3 (v := ?_) rfl (by kernel_rfl) (by kernel_rfl) (by kernel_rfl) (by kernel_rfl) (fun _ _ _ h => h) rfl ?_ qS ?_
                    rotate_left
                    · intro W hW
                      go_simp
                      (try with_reducible rfl)
                    simp only [Act.put, List.setIfInBounds_toArray, List.set_cons_zero, List.set_cons_succ]
                    refine fin_take 4 (v := ?_) rfl (by kernel_rfl) (by kernel_rfl) (by kernel_rfl) (by kernel_rfl) (fun _ _ _ h => h) rfl ?_ qS ?_
                    rotate_left
                    · intro W hW
                      go_simp
                      (try with_reducible rfl)
                    simp only [Act.put, List.setIfInBounds_toArray, List.set_cons_zero, List.set_cons_succ]
                    refine fin_take 5 (v := ?_) rfl (by kernel_rfl) (by kernel_rfl) (by kernel_rfl) (by kernel_rfl) (fun _ _ _ h => h) rfl ?_ qS ?_
                    rotate_left
                    · intro W hW
                      go_simp
                      (try with_reducible rfl)
                    simp only [Act.put, List.setIfInBounds_toArray, List.set_cons_zero, List.set_cons_succ]
                    refine fin_one 2 rfl rfl (by kernel_rfl) (fun K hK => ?_)
                    go_simp
                    refine (hHi _).mono ?_
                    rintro _ w4 ⟨rfl, hw4⟩
                    subst w4
                    refine hK.out _ _ (fun _ => qS) ?_
                    clear hK
                    refine fin_take 6 (v := ?_) rfl (by kernel_rfl) (by kernel_rfl) (by kernel_rfl) (by kernel_rfl) (fun _ _ _ h => h) rfl ?_ qS ?_
                    rotate_left
                    · intro W hW
                      go_simp
                      (try with_reducible rfl)
                    simp only [Act.put, List.setIfInBounds_toArray, List.set_cons_zero, List.set_cons_succ]
                    refine fin_done (by kernel_rfl) (NoPanic.normal ?_)
                    go_wp2
                    go_roundg (64 - (i + 1))
                    case measure => omega
                    case rel => exact ⟨i + 1, hlt, rfl, by congr 1, by rw [HE1.out]; congr 1, by rw [HE2.out], HL.out.drew⟩
              · have hi64 : i = 64 := by omega
                have e1 : (pre S i).length = cnt64 S := by rw [hi64]; rfl
                have e2 : hd1 (pre S i) = firstN S := by rw [hi64, pre_all, hd1_first S hbl]
                have e3 : (bits64 S).length = cnt64 S := rfl
                have hcl := cnt_le S
                have hH1 := fun W => hH (-1) W
                have hH2 := fun W => hH 64 W
                rw [show hasI S (-1) = false by rw [has_bit]; rfl] at hH1
                rw [show hasI S 64 = false by rw [has_bit]; rfl] at hH2
                rw [e1, e2]
                rw [e3] at hrx
                simp only [e3]
                clear hH hrx e1 e2 e3 hi64
                generalize cnt64 S = C at *
                generalize firstN S = FN at *
                have hil : ¬ i < 64 := by omega
                go_wp2_with fail
                refine (hC _).mono ?_
                rintro _ w5 ⟨rfl, hw5⟩
                subst w5
                go_wp2_with fail
                refine (hF _ (HO2.out.trans HL.out)).mono ?_
                rintro _ w5 ⟨rfl, hw5⟩
                subst w5
                go_wp2_with fail
                refine (hH1 _).mono ?_
                rintro _ w5 ⟨rfl, hw5⟩
                subst w5
                go_wp2_with fail
                refine (hH2 _).mono ?_
                rintro _ w5 ⟨rfl, hw5⟩
                subst w5
                go_wp2_with fail
                refine (hA _ (HO2.out.trans HL.out)).mono ?_
                rintro _ w6 ⟨rfl, k6⟩
                go_wp2
                go_ret
                exact ⟨rfl, (HO2.out.trans HL.out).trans k6⟩
          · have HBX := HBA
            have HOX := HOA
            rw [show A = S by rw [HSE.out, less_none A b hal (by omega)]] at HBX
            have HB2 : Bk _ w.heap.size (marksA S) := HBX
            go_wp2_with fail
            refine (hLi _ HOX.out).mono ?_
            rintro _ w2 ⟨xa, xc, rfl, ho, k2⟩
            have HO2 : Hid (On w w2) := HOX.out.trans k2
            have HB3 := HB2.on k2
            have hrx := list_rd ho
            clear HB2 ho k2
            go_wp2
            go_loopg [10, 11, 13] 64 (fun gg s10 s11 s13 wl => ∃ i : Nat, i ≤ 64 ∧ gg = 64 - i ∧ s13 = .int .i64 i ∧ s10 = .int .i64 (pre S i).length ∧ s11 = .int .i64 (hd1 (pre S i)) ∧ Hid (On w2 wl))
            case atStart => exact ⟨0, by omega, rfl, rfl, rfl, rfl, On.refl _⟩
            case round =>
              obtain ⟨i, hi, hk, rfl, rfl, rfl, HL⟩ := hrel
              rcases Nat.lt_or_ge i 64 with hlt | hge
              · have hcell := (HB3.on HL.out).at (marks_at S hlt)
                have hsz := (HB3.on HL.out).lt
                have hHi := fun W => hH i W
                rw [has_nat S i hlt] at hHi
                have hpl := pre_len S i
                have hst := pre_step S i
                have hh := hd1_step S i
                have hg1 := hd1_ge (pre S i)
                have hg2 := hd1_lt S i (by omega)
                have hpa := pre_at S i hlt
                obtain ⟨n, hn⟩ : ∃ n, n = (pre S i).length := ⟨_, rfl⟩
                obtain ⟨F, hFe⟩ : ∃ F, F = hd1 (pre S i) := ⟨_, rfl⟩
                rw [← hn] at hpl hpa ⊢
                rw [← hFe] at hh hg1 hg2 ⊢
                have qS : wr.drew.cell? ⟨w.heap.size, i, none⟩ = some (.bool (S.testBit i)) := hcell
                cases htb : S.testBit i
                · rw [htb] at hHi hcell hst hh qS
                  have HE1 : Hid ((pre S (i + 1)).length = n) := by show _ = _; rw [hst, hn]; simp
                  have HE2 : Hid (hd1 (pre S (i + 1)) = F) := by show _ = _; rw [hh]; simp
                  clear hst hh hpa hn hFe htb
                  go_wp2
                  refine region_fin (fun W => W.cell? ⟨w.heap.size, i, none⟩ = some (.bool false)) 99 7 (by kernel_rfl) rfl ?_
                  refine fin_take 0 (v := ?_) rfl (by kernel_rfl) (by kernel_rfl) (by kernel_rfl) (by kernel_rfl) (fun _ _ _ h => h) rfl ?_ qS ?_
                  rotate_left
                  · intro W hW
                    go_simp
                    (try with_reducible rfl)
                  simp only [Act.put, List.setIfInBounds_toArray, List.set_cons_zero, List.set_cons_succ]
                  refine fin_take 1 (v := ?_) rfl (by kernel_rfl) (by kernel_rfl) (by kernel_rfl) (by kernel_rfl) (fun _ _ _ h => h) rfl ?_ qS ?_
                  rotate_left
                  · intro W hW
                    go_simp
                    (try with_reducible rfl)
                  simp only [Act.put, List.setIfInBounds_toArray, List.set_cons_zero, List.set_cons_succ]
                  refine fin_take 3 (v := ?_) rfl (by kernel_rfl) (by kernel_rfl) (by kernel_rfl) (by kernel_rfl) (fun _ _ _ h => h) rfl ?_ qS ?_
                  rotate_left
                  · intro W hW
                    go_simp
                    (try with_reducible rfl)
                  simp only [Act.put, List.setIfInBounds_toArray, List.set_cons_zero, List.set_cons_succ]
                  refine fin_take 4 (v := ?_) rfl (by kernel_rfl) (by kernel_rfl) (by kernel_rfl) (by kernel_rfl) (fun _ _ _ h => h) rfl ?_ qS ?_
                  rotate_left
                  · intro W hW
                    go_simp
                    (try with_reducible rfl)
                  simp only [Act.put, List.setIfInBounds_toArray, List.set_cons_zero, List.set_cons_succ]
                  refine fin_take 5 (v := ?_) rfl (by kernel_rfl) (by kernel_rfl) (by kernel_rfl) (by kernel_rfl) (fun _ _ _ h => h) rfl ?_ qS ?_
                  rotate_left
                  · intro W hW
                    go_simp
                    (try with_reducible rfl)
                  simp only [Act.put, List.setIfInBounds_toArray, List.set_cons_zero, List.set_cons_succ]
                  refine fin_one 2 rfl rfl (by kernel_rfl) (fun K hK => ?_)
                  go_simp
                  refine (hHi _).mono ?_
                  rintro _ w4 ⟨rfl, hw4⟩
                  subst w4
                  refine hK.out _ _ (fun _ => qS) ?_
                  clear hK
                  refine fin_take 6 (v := ?_) rfl (by kernel_rfl) (by kernel_rfl) (by kernel_rfl) (by kernel_rfl) (fun _ _ _ h => h) rfl ?_ qS ?_
                  rotate_left
                  · intro W hW
                    go_simp
                    (try with_reducible rfl)
                  simp only [Act.put, List.setIfInBounds_toArray, List.set_cons_zero, List.set_cons_succ]
                  refine fin_done (by kernel_rfl) (NoPanic.normal ?_)
                  go_wp2
                  go_roundg (64 - (i + 1))
                  case measure => omega
                  case rel => exact ⟨i + 1, hlt, rfl, by congr 1, by rw [HE1.out], by rw [HE2.out], HL.out.drew⟩
                · have hpa2 := hpa htb
                  rw [htb] at hHi hcell hst hh qS
                  have HE1 : Hid ((pre S (i + 1)).length = n + 1) := by show _ = _; rw [hst, hn]; simp
                  have HE2 : Hid (hd1 (pre S (i + 1)) = if F < 0 then (i : Int) else F) := by show _ = _; rw [hh]; simp
                  have hnl : n < (bits64 S).length := (List.getElem?_eq_some_iff.1 hpa2).1
                  have hx2 : ((bits64 S).map fun i : Nat => (i : Int))[n]? = some (i : Int) := by rw [List.getElem?_map, hpa2]; rfl
                  have hrx2 := hrx.on HL.out
                  rw [show (bits64 S).length = ((bits64 S).map fun i : Nat => (i : Int)).length from (List.length_map _).symm] at hrx2
                  obtain ⟨g, off, rfl, hgl, u0⟩ := hrx2.at hx2
                  have hc0 : wr.cell? ⟨g, off + n, none⟩ = some (.int .i64 i) := by have := u0 0 _ rfl; rw [Nat.mul_one, Nat.add_zero] at this; exact this
                  have hc1 : wr.drew.cell? ⟨g, off + n, none⟩ = some (.int .i64 i) := hc0
                  have hl64 : (bits64 S).length ≤ 64 := cnt_le S
                  have hnl2 : ¬ (bits64 S).length ≤ n := by omega
                  clear hst hh hpa hn hFe htb hpa2 hx2 hrx2 u0
                  by_cases hF0 : F < 0
                  · rw [if_pos hF0] at HE2
                    go_wp2
                    refine region_fin (fun W => W.cell? ⟨w.heap.size, i, none⟩ = some (.bool true)) 99 7 (by kernel_rfl) rfl ?_
                    refine fin_take 0 (v := ?_) rfl (by kernel_rfl) (by kernel_rfl) (by kernel_rfl) (by kernel_rfl) (fun _ _ _ h => h) rfl ?_ qS ?_
                    rotate_left
                    · intro W hW
                      go_simp
                      (try with_reducible rfl)
                    simp only [Act.put, List.setIfInBounds_toArray, List.set_cons_zero, List.set_cons_succ]
                    refine fin_take 1 (v := ?_) rfl (by kernel_rfl) (by kernel_rfl) (by kernel_rfl) (by kernel_rfl) (fun _ _ _ h => h) rfl ?_ qS ?_
                    rotate_left
                    · intro W hW
                      go_simp
                      (try with_reducible rfl)
                    simp only [Act.put, List.setIfInBounds_toArray, List.set_cons_zero, List.set_cons_succ]
                    refine fin_take 3 (v := ?_) rfl (by kernel_rfl) (by kernel_rfl) (by kernel_rfl) (by kernel_rfl) (fun _ _ _ h => h) rfl ?_ qS ?_
                    rotate_left
                    · intro W hW
                      go_simp
                      (try with_reducible rfl)
                    simp only [Act.put, List.setIfInBounds_toArray, List.set_cons_zero, List.set_cons_succ]
                    refine fin_take 4 (v := ?_) rfl (by kernel_rfl) (by kernel_rfl) (by kernel_rfl) (by kernel_rfl) (fun _ _ _ h => h) rfl ?_ qS ?_
                    rotate_left
                    · intro W hW
                      go_simp
                      (try with_reducible rfl)
                    simp only [Act.put, List.setIfInBounds_toArray, List.set_cons_zero, List.set_cons_succ]
                    refine fin_take 5 (v := ?_) rfl (by kernel_rfl) (by kernel_rfl) (by kernel_rfl) (by kernel_rfl) (fun _ _ _ h => h) rfl ?_ qS ?_
                    rotate_left
                    · intro W hW
                      go_simp
                      (try with_reducible rfl)
                    simp only [Act.put, List.setIfInBounds_toArray, List.set_cons_zero, List.set_cons_succ]
                    refine fin_one 2 rfl rfl (by kernel_rfl) (fun K hK => ?_)
                    go_simp
                    refine (hHi _).mono ?_
                    rintro _ w4 ⟨rfl, hw4⟩
                    subst w4
                    refine hK.out _ _ (fun _ => qS) ?_
                    clear hK
                    refine fin_take 6 (v := ?_) rfl (by kernel_rfl) (by kernel_rfl) (by kernel_rfl) (by kernel_rfl) (fun _ _ _ h => h) rfl ?_ qS ?_
                    rotate_left
                    · intro W hW
                      go_simp
                      (try with_reducible rfl)
                    simp only [Act.put, List.setIfInBounds_toArray, List.set_cons_zero, List.set_cons_succ]
                    refine fin_done (by kernel_rfl) (NoPanic.normal ?_)
                    go_wp2
                    go_roundg (64 - (i + 1))
                    case measure => omega
                    case rel => exact ⟨i + 1, hlt, rfl, by congr 1, by rw [HE1.out]; congr 1, by rw [HE2.out], HL.out.drew⟩
                  · rw [if_neg hF0] at HE2
                    go_wp2
                    refine region_fin (fun W => W.cell? ⟨w.heap.size, i, none⟩ = some (.bool true)) 99 7 (by kernel_rfl) rfl ?_
                    refine fin_take 0 (v := ?_) rfl (by kernel_rfl) (by kernel_rfl) (by kernel_rfl) (by kernel_rfl) (fun _ _ _ h => h) rfl ?_ qS ?_
                    rotate_left
                    · intro W hW
                      go_simp
                      (try with_reducible rfl)
                    simp only [Act.put, List.setIfInBounds_toArray, List.set_cons_zero, List.set_cons_succ]
                    refine fin_take 1 (v := ?_) rfl (by kernel_rfl) (by kernel_rfl) (by kernel_rfl) (by kernel_rfl) (fun _ _ _ h => h) rfl ?_ qS ?_
                    rotate_left
                    · intro W hW
                      go_simp
                      (try with_reducible rfl)
                    simp only [Act.put, List.setIfInBounds_toArray, List.set_cons_zero, List.set_cons_succ]
                    refine fin_take 3 (v := ?_) rfl (by kernel_rfl) (by kernel_rfl) (by kernel_rfl) (by kernel_rfl) (fun _ _ _ h => h) rfl ?_ qS ?_
                    rotate_left
                    · intro W hW
                      go_simp
                      (try with_reducible rfl)
                    simp only [Act.put, List.setIfInBounds_toArray, List.set_cons_zero, List.set_cons_succ]
                    refine fin_take 4 (v := ?_) rfl (by kernel_rfl) (by kernel_rfl) (by kernel_rfl) (by kernel_rfl) (fun _ _ _ h => h) rfl ?_ qS ?_
                    rotate_left
                    · intro W hW
                      go_simp
                      (try with_reducible rfl)
                    simp only [Act.put, List.setIfInBounds_toArray, List.set_cons_zero, List.set_cons_succ]
                    refine fin_take 5 (v := ?_) rfl (by kernel_rfl) (by kernel_rfl) (by kernel_rfl) (by kernel_rfl) (fun _ _ _ h => h) rfl ?_ qS ?_
                    rotate_left
                    · intro W hW
                      go_simp
                      (try with_reducible rfl)
                    simp only [Act.put, List.setIfInBounds_toArray, List.set_cons_zero, List.set_cons_succ]
                    refine fin_one 2 rfl rfl (by kernel_rfl) (fun K hK => ?_)
                    go_simp
                    refine (hHi _).mono ?_
                    rintro _ w4 ⟨rfl, hw4⟩
                    subst w4
                    refine hK.out _ _ (fun _ => qS) ?_
                    clear hK
                    refine fin_take 6 (v := ?_) rfl (by kernel_rfl) (by kernel_rfl) (by kernel_rfl) (by kernel_rfl) (fun _ _ _ h => h) rfl ?_ qS ?_
                    rotate_left
                    · intro W hW
                      go_simp
                      (try with_reducible rfl)
                    simp only [Act.put, List.setIfInBounds_toArray, List.set_cons_zero, List.set_cons_succ]
                    refine fin_done (by kernel_rfl) (NoPanic.normal ?_)
                    go_wp2
                    go_roundg (64 - (i + 1))
                    case measure => omega
                    case rel => exact ⟨i + 1, hlt, rfl, by congr 1, by rw [HE1.out]; congr 1, by rw [HE2.out], HL.out.drew⟩
              · have hi64 : i = 64 := by omega
                have e1 : (pre S i).length = cnt64 S := by rw [hi64]; rfl
                have e2 : hd1 (pre S i) = firstN S := by rw [hi64, pre_all, hd1_first S hbl]
                have e3 : (bits64 S).length = cnt64 S := rfl
                have hcl := cnt_le S
                have hH1 := fun W => hH (-1) W
                have hH2 := fun W => hH 64 W
                rw [show hasI S (-1) = false by rw [has_bit]; rfl] at hH1
                rw [show hasI S 64 = false by rw [has_bit]; rfl] at hH2
                rw [e1, e2]
                rw [e3] at hrx
                simp only [e3]
                clear hH hrx e1 e2 e3 hi64
                generalize cnt64 S = C at *
                generalize firstN S = FN at *
                have hil : ¬ i < 64 := by omega
                go_wp2_with fail
                refine (hC _).mono ?_
                rintro _ w5 ⟨rfl, hw5⟩
                subst w5
                go_wp2_with fail
                refine (hF _ (HO2.out.trans HL.out)).mono ?_
                rintro _ w5 ⟨rfl, hw5⟩
                subst w5
                go_wp2_with fail
                refine (hH1 _).mono ?_
                rintro _ w5 ⟨rfl, hw5⟩
                subst w5
                go_wp2_with fail
                refine (hH2 _).mono ?_
                rintro _ w5 ⟨rfl, hw5⟩
                subst w5
                go_wp2_with fail
                refine (hA _ (HO2.out.trans HL.out)).mono ?_
                rintro _ w6 ⟨rfl, k6⟩
                go_wp2
                go_ret
                exact ⟨rfl, (HO2.out.trans HL.out).trans k6⟩
          · have hqb := HBA.at (marks_at A hjb)
            have hfb := HBA.fr jb
            have HBX := marks_less hal HBA hjb
            rw [← HSE.out] at HBX
            have HOX : Hid (On w _) := HOA.out.setNew (i := jb) (Nat.le_refl _) (.bool false)
            have HB2 : Bk _ w.heap.size (marksA S) := HBX
            go_wp2_with fail
            refine (hLi _ HOX.out).mono ?_
            rintro _ w2 ⟨xa, xc, rfl, ho, k2⟩
            have HO2 : Hid (On w w2) := HOX.out.trans k2
            have HB3 := HB2.on k2
            have hrx := list_rd ho
            clear HB2 ho k2
            go_wp2
            go_loopg [10, 11, 13] 64 (fun gg s10 s11 s13 wl => ∃ i : Nat, i ≤ 64 ∧ gg = 64 - i ∧ s13 = .int .i64 i ∧ s10 = .int .i64 (pre S i).length ∧ s11 = .int .i64 (hd1 (pre S i)) ∧ Hid (On w2 wl))
            case atStart => exact ⟨0, by omega, rfl, rfl, rfl, rfl, On.refl _⟩
            case round =>
              obtain ⟨i, hi, hk, rfl, rfl, rfl, HL⟩ := hrel
              rcases Nat.lt_or_ge i 64 with hlt | hge
              · have hcell := (HB3.on HL.out).at (marks_at S hlt)
                have hsz := (HB3.on HL.out).lt
                have hHi := fun W => hH i W
                rw [has_nat S i hlt] at hHi
                have hpl := pre_len S i
                have hst := pre_step S i
                have hh := hd1_step S i
                have hg1 := hd1_ge (pre S i)
                have hg2 := hd1_lt S i (by omega)
                have hpa := pre_at S i hlt
                obtain ⟨n, hn⟩ : ∃ n, n = (pre S i).length := ⟨_, rfl⟩
                obtain ⟨F, hFe⟩ : ∃ F, F = hd1 (pre S i) := ⟨_, rfl⟩
                rw [← hn] at hpl hpa ⊢
                rw [← hFe] at hh hg1 hg2 ⊢
                have qS : wr.drew.cell? ⟨w.heap.size, i, none⟩ = some (.bool (S.testBit i)) := hcell
                cases htb : S.testBit i
                · rw [htb] at hHi hcell hst hh qS
                  have HE1 : Hid ((pre S (i + 1)).length = n) := by show _ = _; rw [hst, hn]; simp
                  have HE2 : Hid (hd1 (pre S (i + 1)) = F) := by show _ = _; rw [hh]; simp
                  clear hst hh hpa hn hFe htb
                  go_wp2
                  refine region_fin (fun W => W.cell? ⟨w.heap.size, i, none⟩ = some (.bool false)) 99 7 (by kernel_rfl) rfl ?_
                  refine fin_take 0 (v := ?_) rfl (by kernel_rfl) (by kernel_rfl) (by kernel_rfl) (by kernel_rfl) (fun _ _ _ h => h) rfl ?_ qS ?_
                  rotate_left
                  · intro W hW
                    go_simp
                    (try with_reducible rfl)
                  simp only [Act.put, List.setIfInBounds_toArray, List.set_cons_zero, List.set_cons_succ]
                  refine fin_take 1 (v := ?_) rfl (by kernel_rfl) (by kernel_rfl) (by kernel_rfl) (by kernel_rfl) (fun _ _ _ h => h) rfl ?_ qS ?_
                  rotate_left
                  · intro W hW
                    go_simp
                    (try with_reducible rfl)
                  simp only [Act.put, List.setIfInBounds_toArray, List.set_cons_zero, List.set_cons_succ]
                  refine fin_take 3 (v := ?_) rfl (by kernel_rfl) (by kernel_rfl) (by kernel_rfl) (by kernel_rfl) (fun _ _ _ h => h) rfl ?_ qS ?_
                  rotate_left
                  · intro W hW
                    go_simp
                    (try with_reducible rfl)
                  simp only [Act.put, List.setIfInBounds_toArray, List.set_cons_zero, List.set_cons_succ]
                  refine fin_take 4 (v := ?_) rfl (by kernel_rfl) (by kernel_rfl) (by kernel_rfl) (by kernel_rfl) (fun _ _ _ h => h) rfl ?_ qS ?_
                  rotate_left
                  · intro W hW
                    go_simp
                    (try with_reducible rfl)
                  simp only [Act.put, List.setIfInBounds_toArray, List.set_cons_zero, List.set_cons_succ]
                  refine fin_take 5 (v := ?_) rfl (by kernel_rfl) (by kernel_rfl) (by kernel_rfl) (by kernel_rfl) (fun _ _ _ h => h) rfl ?_ qS ?_
                  rotate_left
                  · intro W hW
                    go_simp
                    (try with_reducible rfl)
                  simp only [Act.put, List.setIfInBounds_toArray, List.set_cons_zero, List.set_cons_succ]
                  refine fin_one 2 rfl rfl (by kernel_rfl) (fun K hK => ?_)
                  go_simp
                  refine (hHi _).mono ?_
                  rintro _ w4 ⟨rfl, hw4⟩
                  subst w4
                  refine hK.out _ _ (fun _ => qS) ?_
                  clear hK
                  refine fin_take 6 (v := ?_) rfl (by kernel_rfl) (by kernel_rfl) (by kernel_rfl) (by kernel_rfl) (fun _ _ _ h => h) rfl ?_ qS ?_
                  rotate_left
                  · intro W hW
                    go_simp
                    (try with_reducible rfl)
                  simp only [Act.put, List.setIfInBounds_toArray, List.set_cons_zero, List.set_cons_succ]
                  refine fin_done (by kernel_rfl) (NoPanic.normal ?_)
                  go_wp2
                  go_roundg (64 - (i + 1))
                  case measure => omega
                  case rel => exact ⟨i + 1, hlt, rfl, by congr 1, by rw [HE1.out], by rw [HE2.out], HL.out.drew⟩
                · have hpa2 := hpa htb
                  rw [htb] at hHi hcell hst hh qS
                  have HE1 : Hid ((pre S (i + 1)).length = n + 1) := by show _ = _; rw [hst, hn]; simp
                  have HE2 : Hid (hd1 (pre S (i + 1)) = if F < 0 then (i : Int) else F) := by show _ = _; rw [hh]; simp
                  have hnl : n < (bits64 S).length := (List.getElem?_eq_some_iff.1 hpa2).1
                  have hx2 : ((bits64 S).map fun i : Nat => (i : Int))[n]? = some (i : Int) := by rw [List.getElem?_map, hpa2]; rfl
                  have hrx2 := hrx.on HL.out
                  rw [show (bits64 S).length = ((bits64 S).map fun i : Nat => (i : Int)).length from (List.length_map _).symm] at hrx2
                  obtain ⟨g, off, rfl, hgl, u0⟩ := hrx2.at hx2
                  have hc0 : wr.cell? ⟨g, off + n, none⟩ = some (.int .i64 i) := by have := u0 0 _ rfl; rw [Nat.mul_one, Nat.add_zero] at this; exact this
                  have hc1 : wr.drew.cell? ⟨g, off + n, none⟩ = some (.int .i64 i) := hc0
                  have hl64 : (bits64 S).length ≤ 64 := cnt_le S
                  have hnl2 : ¬ (bits64 S).length ≤ n := by omega
                  clear hst hh hpa hn hFe htb hpa2 hx2 hrx2 u0
                  by_cases hF0 : F < 0
                  · rw [if_pos hF0] at HE2
                    go_wp2
                    refine region_fin (fun W => W.cell? ⟨w.heap.size, i, none⟩ = some (.bool true)) 99 7 (by kernel_rfl) rfl ?_
                    refine fin_take 0 (v := ?_) rfl (by kernel_rfl) (by kernel_rfl) (by kernel_rfl) (by kernel_rfl) (fun _ _ _ h => h) rfl ?_ qS ?_
                    rotate_left
                    · intro W hW
                      go_simp
                      (try with_reducible rfl)
                    simp only [Act.put, List.setIfInBounds_toArray, List.set_cons_zero, List.set_cons_succ]
                    refine fin_take 1 (v := ?_) rfl (by kernel_rfl) (by kernel_rfl) (by kernel_rfl) (by kernel_rfl) (fun _ _ _ h => h) rfl ?_ qS ?_
                    rotate_left
                    · intro W hW
                      go_simp
                      (try with_reducible rfl)
                    simp only [Act.put, List.setIfInBounds_toArray, List.set_cons_zero, List.set_cons_succ]
                    refine fin_take 3 (v := ?_) rfl (by kernel_rfl) (by kernel_rfl) (by kernel_rfl) (by kernel_rfl) (fun _ _ _ h => h) rfl ?_ qS ?_
                    rotate_left
                    · intro W hW
                      go_simp
                      (try with_reducible rfl)
                    simp only [Act.put, List.setIfInBounds_toArray, List.set_cons_zero, List.set_cons_succ]
                    refine fin_take 4 (v := ?_) rfl (by kernel_rfl) (by kernel_rfl) (by kernel_rfl) (by kernel_rfl) (fun _ _ _ h => h) rfl ?_ qS ?_
                    rotate_left
                    · intro W hW
                      go_simp
                      (try with_reducible rfl)
                    simp only [Act.put, List.setIfInBounds_toArray, List.set_cons_zero, List.set_cons_succ]
                    refine fin_take 5 (v := ?_) rfl (by kernel_rfl) (by kernel_rfl) (by kernel_rfl) (by kernel_rfl) (fun _ _ _ h => h) rfl ?_ qS ?_
                    rotate_left
                    · intro W hW
                      go_simp
                      (try with_reducible rfl)
                    simp only [Act.put, List.setIfInBounds_toArray, List.set_cons_zero, List.set_cons_succ]
                    refine fin_one 2 rfl rfl (by kernel_rfl) (fun K hK => ?_)
                    go_simp
                    refine (hHi _).mono ?_
                    rintro _ w4 ⟨rfl, hw4⟩
                    subst w4
                    refine hK.out _ _ (fun _ => qS) ?_
                    clear hK
                    refine fin_take 6 (v := ?_) rfl (by kernel_rfl) (by kernel_rfl) (by kernel_rfl) (by kernel_rfl) (fun _ _ _ h => h) rfl ?_ qS ?_
                    rotate_left
                    · intro W hW
                      go_simp
                      (try with_reducible rfl)
                    simp only [Act.put, List.setIfInBounds_toArray, List.set_cons_zero, List.set_cons_succ]
                    refine fin_done (by kernel_rfl) (NoPanic.normal ?_)
                    go_wp2
                    go_roundg (64 - (i + 1))
                    case measure => omega
                    case rel => exact ⟨i + 1, hlt, rfl, by congr 1, by rw [HE1.out]; congr 1, by rw [HE2.out], HL.out.drew⟩
                  · rw [if_neg hF0] at HE2
                    go_wp2
                    refine region_fin (fun W => W.cell? ⟨w.heap.size, i, none⟩ = some (.bool true)) 99 7 (by kernel_rfl) rfl ?_
                    refine fin_take 0 (v := ?_) rfl (by kernel_rfl) (by kernel_rfl) (by kernel_rfl) (by kernel_rfl) (fun _ _ _ h => h) rfl ?_ qS ?_
                    rotate_left
                    · intro W hW
                      go_simp
                      (try with_reducible rfl)
                    simp only [Act.put, List.setIfInBounds_toArray, List.set_cons_zero, List.set_cons_succ]
                    refine fin_take 1 (v := ?_) rfl (by kernel_rfl) (by kernel_rfl) (by kernel_rfl) (by kernel_rfl) (fun _ _ _ h => h) rfl ?_ qS ?_
                    rotate_left
                    · intro W hW
                      go_simp
                      (try with_reducible rfl)
                    simp only [Act.put, List.setIfInBounds_toArray, List.set_cons_zero, List.set_cons_succ]
                    refine fin_take 3 (v := ?_) rfl (by kernel_rfl) (by kernel_rfl) (by kernel_rfl) (by kernel_rfl) (fun _ _ _ h => h) rfl ?_ qS ?_
                    rotate_left
                    · intro W hW
                      go_simp
                      (try with_reducible rfl)
                    simp only [Act.put, List.setIfInBounds_toArray, List.set_cons_zero, List.set_cons_succ]
                    refine fin_take 4 (v := ?_) rfl (by kernel_rfl) (by kernel_rfl) (by kernel_rfl) (by kernel_rfl) (fun _ _ _ h => h) rfl ?_ qS ?_
                    rotate_left
                    · intro W hW
                      go_simp
                      (try with_reducible rfl)
                    simp only [Act.put, List.setIfInBounds_toArray, List.set_cons_zero, List.set_cons_succ]
                    refine fin_take 5 (v := ?_) rfl (by kernel_rfl) (by kernel_rfl) (by kernel_rfl) (by kernel_rfl) (fun _ _ _ h => h) rfl ?_ qS ?_
                    rotate_left
                    · intro W hW
                      go_simp
                      (try with_reducible rfl)
                    simp only [Act.put, List.setIfInBounds_toArray, List.set_cons_zero, List.set_cons_succ]
                    refine fin_one 2 rfl rfl (by kernel_rfl) (fun K hK => ?_)
                    go_simp
                    refine (hHi _).mono ?_
                    rintro _ w4 ⟨rfl, hw4⟩
                    subst w4
                    refine hK.out _ _ (fun _ => qS) ?_
                    clear hK
                    refine fin_take 6 (v := ?_) rfl (by kernel_rfl) (by kernel_rfl) (by kernel_rfl) (by kernel_rfl) (fun _ _ _ h => h) rfl ?_ qS ?_
                    rotate_left
                    · intro W hW
                      go_simp
                      (try with_reducible rfl)
                    simp only [Act.put, List.setIfInBounds_toArray, List.set_cons_zero, List.set_cons_succ]
                    refine fin_done (by kernel_rfl) (NoPanic.normal ?_)
                    go_wp2
                    go_roundg (64 - (i + 1))
                    case measure => omega
                    case rel => exact ⟨i + 1, hlt, rfl, by congr 1, by rw [HE1.out]; congr 1, by rw [HE2.out], HL.out.drew⟩
              · have hi64 : i = 64 := by omega
                have e1 : (pre S i).length = cnt64 S := by rw [hi64]; rfl
                have e2 : hd1 (pre S i) = firstN S := by rw [hi64, pre_all, hd1_first S hbl]
                have e3 : (bits64 S).length = cnt64 S := rfl
                have hcl := cnt_le S
                have hH1 := fun W => hH (-1) W
                have hH2 := fun W => hH 64 W
                rw [show hasI S (-1) = false by rw [has_bit]; rfl] at hH1
                rw [show hasI S 64 = false by rw [has_bit]; rfl] at hH2
                rw [e1, e2]
                rw [e3] at hrx
                simp only [e3]
                clear hH hrx e1 e2 e3 hi64
                generalize cnt64 S = C at *
                generalize firstN S = FN at *
                have hil : ¬ i < 64 := by omega
                go_wp2_with fail
                refine (hC _).mono ?_
                rintro _ w5 ⟨rfl, hw5⟩
                subst w5
                go_wp2_with fail
                refine (hF _ (HO2.out.trans HL.out)).mono ?_
                rintro _ w5 ⟨rfl, hw5⟩
                subst w5
                go_wp2_with fail
                refine (hH1 _).mono ?_
                rintro _ w5 ⟨rfl, hw5⟩
                subst w5
                go_wp2_with fail
                refine (hH2 _).mono ?_
                rintro _ w5 ⟨rfl, hw5⟩
                subst w5
                go_wp2_with fail
                refine (hA _ (HO2.out.trans HL.out)).mono ?_
                rintro _ w6 ⟨rfl, k6⟩
                go_wp2
                go_ret
                exact ⟨rfl, (HO2.out.trans HL.out).trans k6⟩
        · have HBA := HB
          have HOA := HO
          rw [show R = A by rw [HAE.out, with_none R a (by omega)]] at HBA
          obtain hb | hb | ⟨jb, hjb, rfl⟩ : b < 0 ∨ 64 ≤ b ∨ ∃ j : Nat, j < 64 ∧ b = (j : Int) := by
            by_cases h0 : b < 0
            · exact Or.inl h0
            · by_cases h1 : 64 ≤ b
              · exact Or.inr (Or.inl h1)
              · exact Or.inr (Or.inr ⟨b.toNat, by omega, by omega⟩)
          · have HBX := HBA
            have HOX := HOA
            rw [show A = S by rw [HSE.out, less_none A b hal (by omega)]] at HBX
            have HB2 : Bk _ w.heap.size (marksA S) := HBX
            go_wp2_with fail
            refine (hLi _ HOX.out).mono ?_
            rintro _ w2 ⟨xa, xc, rfl, ho, k2⟩
            have HO2 : Hid (On w w2) := HOX.out.trans k2
            have HB3 := HB2.on k2
            have hrx := list_rd ho
            clear HB2 ho k2
            go_wp2
            go_loopg [10, 11, 13] 64 (fun gg s10 s11 s13 wl => ∃ i : Nat, i ≤ 64 ∧ gg = 64 - i ∧ s13 = .int .i64 i ∧ s10 = .int .i64 (pre S i).length ∧ s11 = .int .i64 (hd1 (pre S i)) ∧ Hid (On w2 wl))
            case atStart => exact ⟨0, by omega, rfl, rfl, rfl, rfl, On.refl _⟩
            case round =>
              obtain ⟨i, hi, hk, rfl, rfl, rfl, HL⟩ := hrel
              rcases Nat.lt_or_ge i 64 with hlt | hge
              · have hcell := (HB3.on HL.out).at (marks_at S hlt)
                have hsz := (HB3.on HL.out).lt
                have hHi := fun W => hH i W
                rw [has_nat S i hlt] at hHi
                have hpl := pre_len S i
                have hst := pre_step S i
                have hh := hd1_step S i
                have hg1 := hd1_ge (pre S i)
                have hg2 := hd1_lt S i (by omega)
                have hpa := pre_at S i hlt
                obtain ⟨n, hn⟩ : ∃ n, n = (pre S i).length := ⟨_, rfl⟩
                obtain ⟨F, hFe⟩ : ∃ F, F = hd1 (pre S i) := ⟨_, rfl⟩
                rw [← hn] at hpl hpa ⊢
                rw [← hFe] at hh hg1 hg2 ⊢
                have qS : wr.drew.cell? ⟨w.heap.size, i, none⟩ = some (.bool (S.testBit i)) := hcell
                cases htb : S.testBit i
                · rw [htb] at hHi hcell hst hh qS
                  have HE1 : Hid ((pre S (i + 1)).length = n) := by show _ = _; rw [hst, hn]; simp
                  have HE2 : Hid (hd1 (pre S (i + 1)) = F) := by show _ = _; rw [hh]; simp
                  clear hst hh hpa hn hFe htb
                  go_wp2
                  refine region_fin (fun W => W.cell? ⟨w.heap.size, i, none⟩ = some (.bool false)) 99 7 (by kernel_rfl) rfl ?_
                  refine fin_take 0 (v := ?_) rfl (by kernel_rfl) (by kernel_rfl) (by kernel_rfl) (by kernel_rfl) (fun _ _ _ h => h) rfl ?_ qS ?_
                  rotate_left
                  · intro W hW
                    go_simp
                    (try with_reducible rfl)
                  simp only [Act.put, List.setIfInBounds_toArray, List.set_cons_zero, List.set_cons_succ]
                  refine fin_take 1 (v := ?_) rfl (by kernel_rfl) (by kernel_rfl) (by kernel_rfl) (by kernel_rfl) (fun _ _ _ h => h) rfl ?_ qS ?_
                  rotate_left
                  · intro W hW
                    go_simp
                    (try with_reducible rfl)
                  simp only [Act.put, List.setIfInBounds_toArray, List.set_cons_zero, List.set_cons_succ]
                  refine fin_take 3 (v := ?_) rfl (by kernel_rfl) (by kernel_rfl) (by kernel_rfl) (by kernel_rfl) (fun _ _ _ h => h) rfl ?_ qS ?_
                  rotate_left
                  · intro W hW
                    go_simp
                    (try with_reducible rfl)
                  simp only [Act.put, List.setIfInBounds_toArray, List.set_cons_zero, List.set_cons_succ]
                  refine fin_take 4 (v := ?_) rfl (by kernel_rfl) (by kernel_rfl) (by kernel_rfl) (by kernel_rfl) (fun _ _ _ h => h) rfl ?_ qS ?_
                  rotate_left
                  · intro W hW
                    go_simp
                    (try with_reducible rfl)
                  simp only [Act.put, List.setIfInBounds_toArray, List.set_cons_zero, List.set_cons_succ]
                  refine fin_take 5 (v := ?_) rfl (by kernel_rfl) (by kernel_rfl) (by kernel_rfl) (by kernel_rfl) (fun _ _ _ h => h) rfl ?_ qS ?_
                  rotate_left
                  · intro W hW
                    go_simp
                    (try with_reducible rfl)
                  simp only [Act.put, List.setIfInBounds_toArray, List.set_cons_zero, List.set_cons_succ]
                  refine fin_one 2 rfl rfl (by kernel_rfl) (fun K hK => ?_)
                  go_simp
                  refine (hHi _).mono ?_
                  rintro _ w4 ⟨rfl, hw4⟩
                  subst w4
                  refine hK.out _ _ (fun _ => qS) ?_
                  clear hK
                  refine fin_take 6 (v := ?_) rfl (by kernel_rfl) (by kernel_rfl) (by kernel_rfl) (by kernel_rfl) (fun _ _ _ h => h) rfl ?_ qS ?_
                  rotate_left
                  · intro W hW
                    go_simp
                    (try with_reducible rfl)
                  simp only [Act.put, List.setIfInBounds_toArray, List.set_cons_zero, List.set_cons_succ]
                  refine fin_done (by kernel_rfl) (NoPanic.normal ?_)
                  go_wp2
                  go_roundg (64 - (i + 1))
                  case measure => omega
                  case rel => exact ⟨i + 1, hlt, rfl, by congr 1, by rw [HE1.out], by rw [HE2.out], HL.out.drew⟩
                · have hpa2 := hpa htb
                  rw [htb] at hHi hcell hst hh qS
                  have HE1 : Hid ((pre S (i + 1)).length = n + 1) := by show _ = _; rw [hst, hn]; simp
                  have HE2 : Hid (hd1 (pre S (i + 1)) = if F < 0 then (i : Int) else F) := by show _ = _; rw [hh]; simp
                  have hnl : n < (bits64 S).length := (List.getElem?_eq_some_iff.1 hpa2).1
                  have hx2 : ((bits64 S).map fun i : Nat => (i : Int))[n]? = some (i : Int) := by rw [List.getElem?_map, hpa2]; rfl
                  have hrx2 := hrx.on HL.out
                  rw [show (bits64 S).length = ((bits64 S).map fun i : Nat => (i : Int)).length from (List.length_map _).symm] at hrx2
                  obtain ⟨g, off, rfl, hgl, u0⟩ := hrx2.at hx2
                  have hc0 : wr.cell? ⟨g, off + n, none⟩ = some (.int .i64 i) := by have := u0 0 _ rfl; rw [Nat.mul_one, Nat.add_zero] at this; exact this
                  have hc1 : wr.drew.cell? ⟨g, off + n, none⟩ = some (.int .i64 i) := hc0
                  have hl64 : (bits64 S).length ≤ 64 := cnt_le S
                  have hnl2 : ¬ (bits64 S).length ≤ n := by omega
                  clear hst hh hpa hn hFe htb hpa2 hx2 hrx2 u0
                  by_cases hF0 : F < 0
                  · rw [if_pos hF0] at HE2
                    go_wp2
                    refine region_fin (fun W => W.cell? ⟨w.heap.size, i, none⟩ = some (.bool true)) 99 7 (by kernel_rfl) rfl ?_
                    refine fin_take 0 (v := ?_) rfl (by kernel_rfl) (by kernel_rfl) (by kernel_rfl) (by kernel_rfl) (fun _ _ _ h => h) rfl ?_ qS ?_
                    rotate_left
                    · intro W hW
                      go_simp
                      (try with_reducible rfl)
                    simp only [Act.put, List.setIfInBounds_toArray, List.set_cons_zero, List.set_cons_succ]
                    refine fin_take 1 (v := ?_) rfl (by kernel_rfl) (by kernel_rfl) (by kernel_rfl) (by kernel_rfl) (fun _ _ _ h => h) rfl ?_ qS ?_
                    rotate_left
                    · intro W hW
                      go_simp
                      (try with_reducible rfl)
                    simp only [Act.put, List.setIfInBounds_toArray, List.set_cons_zero, List.set_cons_succ]
                    refine fin_take 3 (v := ?_) rfl (by kernel_rfl) (by kernel_rfl) (by kernel_rfl) (by kernel_rfl) (fun _ _ _ h => h) rfl ?_ qS ?_
                    rotate_left
                    · intro W hW
                      go_simp
                      (try with_reducible rfl)
                    simp only [Act.put, List.setIfInBounds_toArray, List.set_cons_zero, List.set_cons_succ]
                    refine fin_take 4 (v := ?_) rfl (by kernel_rfl) (by kernel_rfl) (by kernel_rfl) (by kernel_rfl) (fun _ _ _ h => h) rfl ?_ qS ?_
                    rotate_left
                    · intro W hW
                      go_simp
                      (try with_reducible rfl)
                    simp only [Act.put, List.setIfInBounds_toArray, List.set_cons_zero, List.set_cons_succ]
                    refine fin_take 5 (v := ?_) rfl (by kernel_rfl) (by kernel_rfl) (by kernel_rfl) (by kernel_rfl) (fun _ _ _ h => h) rfl ?_ qS ?_
                    rotate_left
                    · intro W hW
                      go_simp
                      (try with_reducible rfl)
                    simp only [Act.put, List.setIfInBounds_toArray, List.set_cons_zero, List.set_cons_succ]
                    refine fin_one 2 rfl rfl (by kernel_rfl) (fun K hK => ?_)
                    go_simp
                    refine (hHi _).mono ?_
                    rintro _ w4 ⟨rfl, hw4⟩
                    subst w4
                    refine hK.out _ _ (fun _ => qS) ?_
                    clear hK
                    refine fin_take 6 (v := ?_) rfl (by kernel_rfl) (by kernel_rfl) (by kernel_rfl) (by kernel_rfl) (fun _ _ _ h => h) rfl ?_ qS ?_
                    rotate_left
                    · intro W hW
                      go_simp
                      (try with_reducible rfl)
                    simp only [Act.put, List.setIfInBounds_toArray, List.set_cons_zero, List.set_cons_succ]
                    refine fin_done (by kernel_rfl) (NoPanic.normal ?_)
                    go_wp2
                    go_roundg (64 - (i + 1))
                    case measure => omega
                    case rel => exact ⟨i + 1, hlt, rfl, by congr 1, by rw [HE1.out]; congr 1, by rw [HE2.out], HL.out.drew⟩
                  · rw [if_neg hF0] at HE2
                    go_wp2
                    refine region_fin (fun W => W.cell? ⟨w.heap.size, i, none⟩ = some (.bool true)) 99 7 (by kernel_rfl) rfl ?_
                    refine fin_take 0 (v := ?_) rfl (by kernel_rfl) (by kernel_rfl) (by kernel_rfl) (by kernel_rfl) (fun _ _ _ h => h) rfl ?_ qS ?_
                    rotate_left
                    · intro W hW
                      go_simp
                      (try with_reducible rfl)
                    simp only [Act.put, List.setIfInBounds_toArray, List.set_cons_zero, List.set_cons_succ]
                    refine fin_take 1 (v := ?_) rfl (by kernel_rfl) (by kernel_rfl) (by kernel_rfl) (by kernel_rfl) (fun _ _ _ h => h) rfl ?_ qS ?_
                    rotate_left
                    · intro W hW
                      go_simp
                      (try with_reducible rfl)
                    simp only [Act.put, List.setIfInBounds_toArray, List.set_cons_zero, List.set_cons_succ]
                    refine fin_take 3 (v := ?_) rfl (by kernel_rfl) (by kernel_rfl) (by kernel_rfl) (by kernel_rfl) (fun _ _ _ h => h) rfl ?_ qS ?_
                    rotate_left
                    · intro W hW
                      go_simp
                      (try with_reducible rfl)
                    simp only [Act.put, List.setIfInBounds_toArray, List.set_cons_zero, List.set_cons_succ]
                    refine fin_take 4 (v := ?_) rfl (by kernel_rfl) (by kernel_rfl) (by kernel_rfl) (by kernel_rfl) (fun _ _ _ h => h) rfl ?_ qS ?_
                    rotate_left
                    · intro W hW
                      go_simp
                      (try with_reducible rfl)
                    simp only [Act.put, List.setIfInBounds_toArray, List.set_cons_zero, List.set_cons_succ]
                    refine fin_take 5 (v := ?_) rfl (by kernel_rfl) (by kernel_rfl) (by kernel_rfl) (by kernel_rfl) (fun _ _ _ h => h) rfl ?_ qS ?_
                    rotate_left
                    · intro W hW
                      go_simp
                      (try with_reducible rfl)
                    simp only [Act.put, List.setIfInBounds_toArray, List.set_cons_zero, List.set_cons_succ]
                    refine fin_one 2 rfl rfl (by kernel_rfl) (fun K hK => ?_)
                    go_simp
                    refine (hHi _).mono ?_
                    rintro _ w4 ⟨rfl, hw4⟩
                    subst w4
                    refine hK.out _ _ (fun _ => qS) ?_
                    clear hK
                    refine fin_take 6 (v := ?_) rfl (by kernel_rfl) (by kernel_rfl) (by kernel_rfl) (by kernel_rfl) (fun _ _ _ h => h) rfl ?_ qS ?_
                    rotate_left
                    · intro W hW
                      go_simp
                      (try with_reducible rfl)
                    simp only [Act.put, List.setIfInBounds_toArray, List.set_cons_zero, List.set_cons_succ]
                    refine fin_done (by kernel_rfl) (NoPanic.normal ?_)
                    go_wp2
                    go_roundg (64 - (i + 1))
                    case measure => omega
                    case rel => exact ⟨i + 1, hlt, rfl, by congr 1, by rw [HE1.out]; congr 1, by rw [HE2.out], HL.out.drew⟩
              · have hi64 : i = 64 := by omega
                have e1 : (pre S i).length = cnt64 S := by rw [hi64]; rfl
                have e2 : hd1 (pre S i) = firstN S := by rw [hi64, pre_all, hd1_first S hbl]
                have e3 : (bits64 S).length = cnt64 S := rfl
                have hcl := cnt_le S
                have hH1 := fun W => hH (-1) W
                have hH2 := fun W => hH 64 W
                rw [show hasI S (-1) = false by rw [has_bit]; rfl] at hH1
                rw [show hasI S 64 = false by rw [has_bit]; rfl] at hH2
                rw [e1, e2]
                rw [e3] at hrx
                simp only [e3]
                clear hH hrx e1 e2 e3 hi64
                generalize cnt64 S = C at *
                generalize firstN S = FN at *
                have hil : ¬ i < 64 := by omega
                go_wp2_with fail
                refine (hC _).mono ?_
                rintro _ w5 ⟨rfl, hw5⟩
                subst w5
                go_wp2_with fail
                refine (hF _ (HO2.out.trans HL.out)).mono ?_
                rintro _ w5 ⟨rfl, hw5⟩
                subst w5
                go_wp2_with fail
                refine (hH1 _).mono ?_
                rintro _ w5 ⟨rfl, hw5⟩
                subst w5
                go_wp2_with fail
                refine (hH2 _).mono ?_
                rintro _ w5 ⟨rfl, hw5⟩
                subst w5
                go_wp2_with fail
                refine (hA _ (HO2.out.trans HL.out)).mono ?_
                rintro _ w6 ⟨rfl, k6⟩
                go_wp2
                go_ret
                exact ⟨rfl, (HO2.out.trans HL.out).trans k6⟩
          · have HBX := HBA
            have HOX := HOA
            rw [show A = S by rw [HSE.out, less_none A b hal (by omega)]] at HBX
            have HB2 : Bk _ w.heap.size (marksA S) := HBX
            go_wp2_with fail
            refine (hLi _ HOX.out).mono ?_
            rintro _ w2 ⟨xa, xc, rfl, ho, k2⟩
            have HO2 : Hid (On w w2) := HOX.out.trans k2
            have HB3 := HB2.on k2
            have hrx := list_rd ho
            clear HB2 ho k2
            go_wp2
            go_loopg [10, 11, 13] 64 (fun gg s10 s11 s13 wl => ∃ i : Nat, i ≤ 64 ∧ gg = 64 - i ∧ s13 = .int .i64 i ∧ s10 = .int .i64 (pre S i).length ∧ s11 = .int .i64 (hd1 (pre S i)) ∧ Hid (On w2 wl))
            case atStart => exact ⟨0, by omega, rfl, rfl, rfl, rfl, On.refl _⟩
            case round =>
              obtain ⟨i, hi, hk, rfl, rfl, rfl, HL⟩ := hrel
              rcases Nat.lt_or_ge i 64 with hlt | hge
              · have hcell := (HB3.on HL.out).at (marks_at S hlt)
                have hsz := (HB3.on HL.out).lt
                have hHi := fun W => hH i W
                rw [has_nat S i hlt] at hHi
                have hpl := pre_len S i
                have hst := pre_step S i
                have hh := hd1_step S i
                have hg1 := hd1_ge (pre S i)
                have hg2 := hd1_lt S i (by omega)
                have hpa := pre_at S i hlt
                obtain ⟨n, hn⟩ : ∃ n, n = (pre S i).length := ⟨_, rfl⟩
                obtain ⟨F, hFe⟩ : ∃ F, F = hd1 (pre S i) := ⟨_, rfl⟩
                rw [← hn] at hpl hpa ⊢
                rw [← hFe] at hh hg1 hg2 ⊢
                have qS : wr.drew.cell? ⟨w.heap.size, i, none⟩ = some (.bool (S.testBit i)) := hcell
                cases htb : S.testBit i
                · rw [htb] at hHi hcell hst hh qS
                  have HE1 : Hid ((pre S (i + 1)).length = n) := by show _ = _; rw [hst, hn]; simp
                  have HE2 : Hid (hd1 (pre S (i + 1)) = F) := by show _ = _; rw [hh]; simp
                  clear hst hh hpa hn hFe htb
                  go_wp2
                  refine region_fin (fun W => W.cell? ⟨w.heap.size, i, none⟩ = some (.bool false)) 99 7 (by kernel_rfl) rfl ?_
                  refine fin_take 0 (v := ?_) rfl (by kernel_rfl) (by kernel_rfl) (by kernel_rfl) (by kernel_rfl) (fun _ _ _ h => h) rfl ?_ qS ?_
                  rotate_left
                  · intro W hW
                    go_simp
                    (try with_reducible rfl)
                  simp only [Act.put, List.setIfInBounds_toArray, List.set_cons_zero, List.set_cons_succ]
                  refine fin_take 1 (v := ?_) rfl (by kernel_rfl) (by kernel_rfl) (by kernel_rfl) (by kernel_rfl) (fun _ _ _ h => h) rfl ?_ qS ?_
                  rotate_left
                  · intro W hW
                    go_simp
                    (try with_reducible rfl)
                  simp only [Act.put, List.setIfInBounds_toArray, List.set_cons_zero, List.set_cons_succ]
                  refine fin_take 3 (v := ?_) rfl (by kernel_rfl) (by kernel_rfl) (by kernel_rfl) (by kernel_rfl) (fun _ _ _ h => h) rfl ?_ qS ?_
                  rotate_left
                  · intro W hW
                    go_simp
                    (try with_reducible rfl)
                  simp only [Act.put, List.setIfInBounds_toArray, List.set_cons_zero, List.set_cons_succ]
                  refine fin_take 4 (v := ?_) rfl (by kernel_rfl) (by kernel_rfl) (by kernel_rfl) (by kernel_rfl) (fun _ _ _ h => h) rfl ?_ qS ?_
                  rotate_left
                  · intro W hW
                    go_simp
                    (try with_reducible rfl)
                  simp only [Act.put, List.setIfInBounds_toArray, List.set_cons_zero, List.set_cons_succ]
                  refine fin_take 5 (v := ?_) rfl (by kernel_rfl) (by kernel_rfl) (by kernel_rfl) (by kernel_rfl) (fun _ _ _ h => h) rfl ?_ qS ?_
                  rotate_left
                  · intro W hW
                    go_simp
                    (try with_reducible rfl)
                  simp only [Act.put, List.setIfInBounds_toArray, List.set_cons_zero, List.set_cons_succ]
                  refine fin_one 2 rfl rfl (by kernel_rfl) (fun K hK => ?_)
                  go_simp
                  refine (hHi _).mono ?_
                  rintro _ w4 ⟨rfl, hw4⟩
                  subst w4
                  refine hK.out _ _ (fun _ => qS) ?_
                  clear hK
                  refine fin_take 6 (v := ?_) rfl (by kernel_rfl) (by kernel_rfl) (by kernel_rfl) (by kernel_rfl) (fun _ _ _ h => h) rfl ?_ qS ?_
                  rotate_left
                  · intro W hW
                    go_simp
                    (try with_reducible rfl)
                  simp only [Act.put, List.setIfInBounds_toArray, List.set_cons_zero, List.set_cons_succ]
                  refine fin_done (by kernel_rfl) (NoPanic.normal ?_)
                  go_wp2
                  go_roundg (64 - (i + 1))
                  case measure => omega
                  case rel => exact ⟨i + 1, hlt, rfl, by congr 1, by rw [HE1.out], by rw [HE2.out], HL.out.drew⟩
                · have hpa2 := hpa htb
                  rw [htb] at hHi hcell hst hh qS
                  have HE1 : Hid ((pre S (i + 1)).length = n + 1) := by show _ = _; rw [hst, hn]; simp
                  have HE2 : Hid (hd1 (pre S (i + 1)) = if F < 0 then (i : Int) else F) := by show _ = _; rw [hh]; simp
                  have hnl : n < (bits64 S).length := (List.getElem?_eq_some_iff.1 hpa2).1
                  have hx2 : ((bits64 S).map fun i : Nat => (i : Int))[n]? = some (i : Int) := by rw [List.getElem?_map, hpa2]; rfl
                  have hrx2 := hrx.on HL.out
                  rw [show (bits64 S).length = ((bits64 S).map fun i : Nat => (i : Int)).length from (List.length_map _).symm] at hrx2
                  obtain ⟨g, off, rfl, hgl, u0⟩ := hrx2.at hx2
                  have hc0 : wr.cell? ⟨g, off + n, none⟩ = some (.int .i64 i) := by have := u0 0 _ rfl; rw [Nat.mul_one, Nat.add_zero] at this; exact this
                  have hc1 : wr.drew.cell? ⟨g, off + n, none⟩ = some (.int .i64 i) := hc0
                  have hl64 : (bits64 S).length ≤ 64 := cnt_le S
                  have hnl2 : ¬ (bits64 S).length ≤ n := by omega
                  clear hst hh hpa hn hFe htb hpa2 hx2 hrx2 u0
                  by_cases hF0 : F < 0
                  · rw [if_pos hF0] at HE2
                    go_wp2
                    refine region_fin (fun W => W.cell? ⟨w.heap.size, i, none⟩ = some (.bool true)) 99 7 (by kernel_rfl) rfl ?_
                    refine fin_take 0 (v := ?_) rfl (by kernel_rfl) (by kernel_rfl) (by kernel_rfl) (by kernel_rfl) (fun _ _ _ h => h) rfl ?_ qS ?_
                    rotate_left
                    · intro W hW
                      go_simp
                      (try with_reducible rfl)
                    simp only [Act.put, List.setIfInBounds_toArray, List.set_cons_zero, List.set_cons_succ]
                    refine fin_take 1 (v := ?_) rfl (by kernel_rfl) (by kernel_rfl) (by kernel_rfl) (by kernel_rfl) (fun _ _ _ h => h) rfl ?_ qS ?_
                    rotate_left
                    · intro W hW
                      go_simp
                      (try with_reducible rfl)
                    simp only [Act.put, List.setIfInBounds_toArray, List.set_cons_zero, List.set_cons_succ]
                    refine fin_take 3 (v := ?_) rfl (by kernel_rfl) (by kernel_rfl) (by kernel_rfl) (by kernel_rfl) (fun _ _ _ h => h) rfl ?_ qS ?_
                    rotate_left
                    · intro W hW
                      go_simp
                      (try with_reducible rfl)
                    simp only [Act.put, List.setIfInBounds_toArray, List.set_cons_zero, List.set_cons_succ]
                    refine fin_take 4 (v := ?_) rfl (by kernel_rfl) (by kernel_rfl) (by kernel_rfl) (by kernel_rfl) (fun _ _ _ h => h) rfl ?_ qS ?_
                    rotate_left
                    · intro W hW
                      go_simp
                      (try with_reducible rfl)
                    simp only [Act.put, List.setIfInBounds_toArray, List.set_cons_zero, List.set_cons_succ]
                    refine fin_take 5 (v := ?_) rfl (by kernel_rfl) (by kernel_rfl) (by kernel_rfl) (by kernel_rfl) (fun _ _ _ h => h) rfl ?_ qS ?_
                    rotate_left
                    · intro W hW
                      go_simp
                      (try with_reducible rfl)
                    simp only [Act.put, List.setIfInBounds_toArray, List.set_cons_zero, List.set_cons_succ]
                    refine fin_one 2 rfl rfl (by kernel_rfl) (fun K hK => ?_)
                    go_simp
                    refine (hHi _).mono ?_
                    rintro _ w4 ⟨rfl, hw4⟩
                    subst w4
                    refine hK.out _ _ (fun _ => qS) ?_
                    clear hK
                    refine fin_take 6 (v := ?_) rfl (by kernel_rfl) (by kernel_rfl) (by kernel_rfl) (by kernel_rfl) (fun _ _ _ h => h) rfl ?_ qS ?_
                    rotate_left
                    · intro W hW
                      go_simp
                      (try with_reducible rfl)
                    simp only [Act.put, List.setIfInBounds_toArray, List.set_cons_zero, List.set_cons_succ]
                    refine fin_done (by kernel_rfl) (NoPanic.normal ?_)
                    go_wp2
                    go_roundg (64 - (i + 1))
                    case measure => omega
                    case rel => exact ⟨i + 1, hlt, rfl, by congr 1, by rw [HE1.out]; congr 1, by rw [HE2.out], HL.out.drew⟩
                  · rw [if_neg hF0] at HE2
                    go_wp2
                    refine region_fin (fun W => W.cell? ⟨w.heap.size, i, none⟩ = some (.bool true)) 99 7 (by kernel_rfl) rfl ?_
                    refine fin_take 0 (v := ?_) rfl (by kernel_rfl) (by kernel_rfl) (by kernel_rfl) (by kernel_rfl) (fun _ _ _ h => h) rfl ?_ qS ?_
                    rotate_left
                    · intro W hW
                      go_simp
                      (try with_reducible rfl)
                    simp only [Act.put, List.setIfInBounds_toArray, List.set_cons_zero, List.set_cons_succ]
                    refine fin_take 1 (v := ?_) rfl (by kernel_rfl) (by kernel_rfl) (by kernel_rfl) (by kernel_rfl) (fun _ _ _ h => h) rfl ?_ qS ?_
                    rotate_left
                    · intro W hW
                      go_simp
                      (try with_reducible rfl)
                    simp only [Act.put, List.setIfInBounds_toArray, List.set_cons_zero, List.set_cons_succ]
                    refine fin_take 3 (v := ?_) rfl (by kernel_rfl) (by kernel_rfl) (by kernel_rfl) (by kernel_rfl) (fun _ _ _ h => h) rfl ?_ qS ?_
                    rotate_left
                    · intro W hW
                      go_simp
                      (try with_reducible rfl)
                    simp only [Act.put, List.setIfInBounds_toArray, List.set_cons_zero, List.set_cons_succ]
                    refine fin_take 4 (v := ?_) rfl (by kernel_rfl) (by kernel_rfl) (by kernel_rfl) (by kernel_rfl) (fun _ _ _ h => h) rfl ?_ qS ?_
                    rotate_left
                    · intro W hW
                      go_simp
                      (try with_reducible rfl)
                    simp only [Act.put, List.setIfInBounds_toArray, List.set_cons_zero, List.set_cons_succ]
                    refine fin_take 5 (v := ?_) rfl (by kernel_rfl) (by kernel_rfl) (by kernel_rfl) (by kernel_rfl) (fun _ _ _ h => h) rfl ?_ qS ?_
                    rotate_left
                    · intro W hW
                      go_simp
                      (try with_reducible rfl)
                    simp only [Act.put, List.setIfInBounds_toArray, List.set_cons_zero, List.set_cons_succ]
                    refine fin_one 2 rfl rfl (by kernel_rfl) (fun K hK => ?_)
                    go_simp
                    refine (hHi _).mono ?_
                    rintro _ w4 ⟨rfl, hw4⟩
                    subst w4
                    refine hK.out _ _ (fun _ => qS) ?_
                    clear hK
                    refine fin_take 6 (v := ?_) rfl (by kernel_rfl) (by kernel_rfl) (by kernel_rfl) (by kernel_rfl) (fun _ _ _ h => h) rfl ?_ qS ?_
                    rotate_left
                    · intro W hW
                      go_simp
                      (try with_reducible rfl)
                    simp only [Act.put, List.setIfInBounds_toArray, List.set_cons_zero, List.set_cons_succ]
                    refine fin_done (by kernel_rfl) (NoPanic.normal ?_)
                    go_wp2
                    go_roundg (64 - (i + 1))
                    case measure => omega
                    case rel => exact ⟨i + 1, hlt, rfl, by congr 1, by rw [HE1.out]; congr 1, by rw [HE2.out], HL.out.drew⟩
              · have hi64 : i = 64 := by omega
                have e1 : (pre S i).length = cnt64 S := by rw [hi64]; rfl
                have e2 : hd1 (pre S i) = firstN S := by rw [hi64, pre_all, hd1_first S hbl]
                have e3 : (bits64 S).length = cnt64 S := rfl
                have hcl := cnt_le S
                have hH1 := fun W => hH (-1) W
                have hH2 := fun W => hH 64 W
                rw [show hasI S (-1) = false by rw [has_bit]; rfl] at hH1
                rw [show hasI S 64 = false by rw [has_bit]; rfl] at hH2
                rw [e1, e2]
                rw [e3] at hrx
                simp only [e3]
                clear hH hrx e1 e2 e3 hi64
                generalize cnt64 S = C at *
                generalize firstN S = FN at *
                have hil : ¬ i < 64 := by omega
                go_wp2_with fail
                refine (hC _).mono ?_
                rintro _ w5 ⟨rfl, hw5⟩
                subst w5
                go_wp2_with fail
                refine (hF _ (HO2.out.trans HL.out)).mono ?_
                rintro _ w5 ⟨rfl, hw5⟩
                subst w5
                go_wp2_with fail
                refine (hH1 _).mono ?_
                rintro _ w5 ⟨rfl, hw5⟩
                subst w5
                go_wp2_with fail
                refine (hH2 _).mono ?_
                rintro _ w5 ⟨rfl, hw5⟩
                subst w5
                go_wp2_with fail
                refine (hA _ (HO2.out.trans HL.out)).mono ?_
                rintro _ w6 ⟨rfl, k6⟩
                go_wp2
                go_ret
                exact ⟨rfl, (HO2.out.trans HL.out).trans k6⟩
          · have hqb := HBA.at (marks_at A hjb)
            have hfb := HBA.fr jb
            have HBX := marks_less hal HBA hjb
            rw [← HSE.out] at HBX
            have HOX : Hid (On w _) := HOA.out.setNew (i := jb) (Nat.le_refl _) (.bool false)
            have HB2 : Bk _ w.heap.size (marksA S) := HBX
            go_wp2_with fail
            refine (hLi _ HOX.out).mono ?_
            rintro _ w2 ⟨xa, xc, rfl, ho, k2⟩
            have HO2 : Hid (On w w2) := HOX.out.trans k2
            have HB3 := HB2.on k2
            have hrx := list_rd ho
            clear HB2 ho k2
            go_wp2
            go_loopg [10, 11, 13] 64 (fun gg s10 s11 s13 wl => ∃ i : Nat, i ≤ 64 ∧ gg = 64 - i ∧ s13 = .int .i64 i ∧ s10 = .int .i64 (pre S i).length ∧ s11 = .int .i64 (hd1 (pre S i)) ∧ Hid (On w2 wl))
            case atStart => exact ⟨0, by omega, rfl, rfl, rfl, rfl, On.refl _⟩
            case round =>
              obtain ⟨i, hi, hk, rfl, rfl, rfl, HL⟩ := hrel
              rcases Nat.lt_or_ge i 64 with hlt | hge
              · have hcell := (HB3.on HL.out).at (marks_at S hlt)
                have hsz := (HB3.on HL.out).lt
                have hHi := fun W => hH i W
                rw [has_nat S i hlt] at hHi
                have hpl := pre_len S i
                have hst := pre_step S i
                have hh := hd1_step S i
                have hg1 := hd1_ge (pre S i)
                have hg2 := hd1_lt S i (by omega)
                have hpa := pre_at S i hlt
                obtain ⟨n, hn⟩ : ∃ n, n = (pre S i).length := ⟨_, rfl⟩
                obtain ⟨F, hFe⟩ : ∃ F, F = hd1 (pre S i) := ⟨_, rfl⟩
                rw [← hn] at hpl hpa ⊢
                rw [← hFe] at hh hg1 hg2 ⊢
                have qS : wr.drew.cell? ⟨w.heap.size, i, none⟩ = some (.bool (S.testBit i)) := hcell
                cases htb : S.testBit i
                · rw [htb] at hHi hcell hst hh qS
                  have HE1 : Hid ((pre S (i + 1)).length = n) := by show _ = _; rw [hst, hn]; simp
                  have HE2 : Hid (hd1 (pre S (i + 1)) = F) := by show _ = _; rw [hh]; simp
                  clear hst hh hpa hn hFe htb
                  go_wp2
                  refine region_fin (fun W => W.cell? ⟨w.heap.size, i, none⟩ = some (.bool false)) 99 7 (by kernel_rfl) rfl ?_
                  refine fin_take 0 (v := ?_) rfl (by kernel_rfl) (by kernel_rfl) (by kernel_rfl) (by kernel_rfl) (fun _ _ _ h => h) rfl ?_ qS ?_
                  rotate_left
                  · intro W hW
                    go_simp
                    (try with_reducible rfl)
                  simp only [Act.put, List.setIfInBounds_toArray, List.set_cons_zero, List.set_cons_succ]
                  refine fin_take 1 (v := ?_) rfl (by kernel_rfl) (by kernel_rfl) (by kernel_rfl) (by kernel_rfl) (fun _ _ _ h => h) rfl ?_ qS ?_
                  rotate_left
                  · intro W hW
                    go_simp
                    (try with_reducible rfl)
                  simp only [Act.put, List.setIfInBounds_toArray, List.set_cons_zero, List.set_cons_succ]
                  refine fin_take 3 (v := ?_) rfl (by kernel_rfl) (by kernel_rfl) (by kernel_rfl) (by kernel_rfl) (fun _ _ _ h => h) rfl ?_ qS ?_
                  rotate_left
                  · intro W hW
                    go_simp
                    (try with_reducible rfl)
                  simp only [Act.put, List.setIfInBounds_toArray, List.set_cons_zero, List.set_cons_succ]
                  refine fin_take 4 (v := ?_) rfl (by kernel_rfl) (by kernel_rfl) (by kernel_rfl) (by kernel_rfl) (fun _ _ _ h => h) rfl ?_ qS ?_
                  rotate_left
                  · intro W hW
                    go_simp
                    (try with_reducible rfl)
                  simp only [Act.put, List.setIfInBounds_toArray, List.set_cons_zero, List.set_cons_succ]
                  refine fin_take 5 (v := ?_) rfl (by kernel_rfl) (by kernel_rfl) (by kernel_rfl) (by kernel_rfl) (fun _ _ _ h => h) rfl ?_ qS ?_
                  rotate_left
                  · intro W hW
                    go_simp
                    (try with_reducible rfl)
                  simp only [Act.put, List.setIfInBounds_toArray, List.set_cons_zero, List.set_cons_succ]
                  refine fin_one 2 rfl rfl (by kernel_rfl) (fun K hK => ?_)
                  go_simp
                  refine (hHi _).mono ?_
                  rintro _ w4 ⟨rfl, hw4⟩
                  subst w4
                  refine hK.out _ _ (fun _ => qS) ?_
                  clear hK
                  refine fin_take 6 (v := ?_) rfl (by kernel_rfl) (by kernel_rfl) (by kernel_rfl) (by kernel_rfl) (fun _ _ _ h => h) rfl ?_ qS ?_
                  rotate_left
                  · intro W hW
                    go_simp
                    (try with_reducible rfl)
                  simp only [Act.put, List.setIfInBounds_toArray, List.set_cons_zero, List.set_cons_succ]
                  refine fin_done (by kernel_rfl) (NoPanic.normal ?_)
                  go_wp2
                  go_roundg (64 - (i + 1))
                  case measure => omega
                  case rel => exact ⟨i + 1, hlt, rfl, by congr 1, by rw [HE1.out], by rw [HE2.out], HL.out.drew⟩
                · have hpa2 := hpa htb
                  rw [htb] at hHi hcell hst hh qS
                  have HE1 : Hid ((pre S (i + 1)).length = n + 1) := by show _ = _; rw [hst, hn]; simp
                  have HE2 : Hid (hd1 (pre S (i + 1)) = if F < 0 then (i : Int) else F) := by show _ = _; rw [hh]; simp
                  have hnl : n < (bits64 S).length := (List.getElem?_eq_some_iff.1 hpa2).1
                  have hx2 : ((bits64 S).map fun i : Nat => (i : Int))[n]? = some (i : Int) := by rw [List.getElem?_map, hpa2]; rfl
                  have hrx2 := hrx.on HL.out
                  rw [show (bits64 S).length = ((bits64 S).map fun i : Nat => (i : Int)).length from (List.length_map _).symm] at hrx2
                  obtain ⟨g, off, rfl, hgl, u0⟩ := hrx2.at hx2
                  have hc0 : wr.cell? ⟨g, off + n, none⟩ = some (.int .i64 i) := by have := u0 0 _ rfl; rw [Nat.mul_one, Nat.add_zero] at this; exact this
                  have hc1 : wr.drew.cell? ⟨g, off + n, none⟩ = some (.int .i64 i) := hc0
                  have hl64 : (bits64 S).length ≤ 64 := cnt_le S
                  have hnl2 : ¬ (bits64 S).length ≤ n := by omega
                  clear hst hh hpa hn hFe htb hpa2 hx2 hrx2 u0
                  by_cases hF0 : F < 0
                  · rw [if_pos hF0] at HE2
                    go_wp2
                    refine region_fin (fun W => W.cell? ⟨w.heap.size, i, none⟩ = some (.bool true)) 99 7 (by kernel_rfl) rfl ?_
                    refine fin_take 0 (v := ?_) rfl (by kernel_rfl) (by kernel_rfl) (by kernel_rfl) (by kernel_rfl) (fun _ _ _ h => h) rfl ?_ qS ?_
                    rotate_left
                    · intro W hW
                      go_simp
                      (try with_reducible rfl)
                    simp only [Act.put, List.setIfInBounds_toArray, List.set_cons_zero, List.set_cons_succ]
                    refine fin_take 1 (v := ?_) rfl (by kernel_rfl) (by kernel_rfl) (by kernel_rfl) (by kernel_rfl) (fun _ _ _ h => h) rfl ?_ qS ?_
                    rotate_left
                    · intro W hW
                      go_simp
                      (try with_reducible rfl)
                    simp only [Act.put, List.setIfInBounds_toArray, List.set_cons_zero, List.set_cons_succ]
                    refine fin_take 3 (v := ?_) rfl (by kernel_rfl) (by kernel_rfl) (by kernel_rfl) (by kernel_rfl) (fun _ _ _ h => h) rfl ?_ qS ?_
                    rotate_left
                    · intro W hW
                      go_simp
                      (try with_reducible rfl)
                    simp only [Act.put, List.setIfInBounds_toArray, List.set_cons_zero, List.set_cons_succ]
                    refine fin_take 4 (v := ?_) rfl (by kernel_rfl) (by kernel_rfl) (by kernel_rfl) (by kernel_rfl) (fun _ _ _ h => h) rfl ?_ qS ?_
                    rotate_left
                    · intro W hW
                      go_simp
                      (try with_reducible rfl)
                    simp only [Act.put, List.setIfInBounds_toArray, List.set_cons_zero, List.set_cons_succ]
                    refine fin_take 5 (v := ?_) rfl (by kernel_rfl) (by kernel_rfl) (by kernel_rfl) (by kernel_rfl) (fun _ _ _ h => h) rfl ?_ qS ?_
                    rotate_left
                    · intro W hW
                      go_simp
                      (try with_reducible rfl)
                    simp only [Act.put, List.setIfInBounds_toArray, List.set_cons_zero, List.set_cons_succ]
                    refine fin_one 2 rfl rfl (by kernel_rfl) (fun K hK => ?_)
                    go_simp
                    refine (hHi _).mono ?_
                    rintro _ w4 ⟨rfl, hw4⟩
                    subst w4
                    refine hK.out _ _ (fun _ => qS) ?_
                    clear hK
                    refine fin_take 6 (v := ?_) rfl (by kernel_rfl) (by kernel_rfl) (by kernel_rfl) (by kernel_rfl) (fun _ _ _ h => h) rfl ?_ qS ?_
                    rotate_left
                    · intro W hW
                      go_simp
                      (try with_reducible rfl)
                    simp only [Act.put, List.setIfInBounds_toArray, List.set_cons_zero, List.set_cons_succ]
                    refine fin_done (by kernel_rfl) (NoPanic.normal ?_)
                    go_wp2
                    go_roundg (64 - (i + 1))
                    case measure => omega
                    case rel => exact ⟨i + 1, hlt, rfl, by congr 1, by rw [HE1.out]; congr 1, by rw [HE2.out], HL.out.drew⟩
                  · rw [if_neg hF0] at HE2
                    go_wp2
                    refine region_fin (fun W => W.cell? ⟨w.heap.size, i, none⟩ = some (.bool true)) 99 7 (by kernel_rfl) rfl ?_
                    refine fin_take 0 (v := ?_) rfl (by kernel_rfl) (by kernel_rfl) (by kernel_rfl) (by kernel_rfl) (fun _ _ _ h => h) rfl ?_ qS ?_
                    rotate_left
                    · intro W hW
                      go_simp
                      (try with_reducible rfl)
                    simp only [Act.put, List.setIfInBounds_toArray, List.set_cons_zero, List.set_cons_succ]
                    refine fin_take 1 (v := ?_) rfl (by kernel_rfl) (by kernel_rfl) (by kernel_rfl) (by kernel_rfl) (fun _ _ _ h => h) rfl ?_ qS ?_
                    rotate_left
                    · intro W hW
                      go_simp
                      (try with_reducible rfl)
                    simp only [Act.put, List.setIfInBounds_toArray, List.set_cons_zero, List.set_cons_succ]
                    refine fin_take 3 (v := ?_) rfl (by kernel_rfl) (by kernel_rfl) (by kernel_rfl) (by kernel_rfl) (fun _ _ _ h => h) rfl ?_ qS ?_
                    rotate_left
                    · intro W hW
                      go_simp
                      (try with_reducible rfl)
                    simp only [Act.put, List.setIfInBounds_toArray, List.set_cons_zero, List.set_cons_succ]
                    refine fin_take 4 (v := ?_) rfl (by kernel_rfl) (by kernel_rfl) (by kernel_rfl) (by kernel_rfl) (fun _ _ _ h => h) rfl ?_ qS ?_
                    rotate_left
                    · intro W hW
                      go_simp
                      (try with_reducible rfl)
                    simp only [Act.put, List.setIfInBounds_toArray, List.set_cons_zero, List.set_cons_succ]
                    refine fin_take 5 (v := ?_) rfl (by kernel_rfl) (by kernel_rfl) (by kernel_rfl) (by kernel_rfl) (fun _ _ _ h => h) rfl ?_ qS ?_
                    rotate_left
                    · intro W hW
                      go_simp
                      (try with_reducible rfl)
                    simp only [Act.put, List.setIfInBounds_toArray, List.set_cons_zero, List.set_cons_succ]
                    refine fin_one 2 rfl rfl (by kernel_rfl) (fun K hK => ?_)
                    go_simp
                    refine (hHi _).mono ?_
                    rintro _ w4 ⟨rfl, hw4⟩
                    subst w4
                    refine hK.out _ _ (fun _ => qS) ?_
                    clear hK
                    refine fin_take 6 (v := ?_) rfl (by kernel_rfl) (by kernel_rfl) (by kernel_rfl) (by kernel_rfl) (fun _ _ _ h => h) rfl ?_ qS ?_
                    rotate_left
                    · intro W hW
                      go_simp
                      (try with_reducible rfl)
                    simp only [Act.put, List.setIfInBounds_toArray, List.set_cons_zero, List.set_cons_succ]
                    refine fin_done (by kernel_rfl) (NoPanic.normal ?_)
                    go_wp2
                    go_roundg (64 - (i + 1))
                    case measure => omega
                    case rel => exact ⟨i + 1, hlt, rfl, by congr 1, by rw [HE1.out]; congr 1, by rw [HE2.out], HL.out.drew⟩
              · have hi64 : i = 64 := by omega
                have e1 : (pre S i).length = cnt64 S := by rw [hi64]; rfl
                have e2 : hd1 (pre S i) = firstN S := by rw [hi64, pre_all, hd1_first S hbl]
                have e3 : (bits64 S).length = cnt64 S := rfl
                have hcl := cnt_le S
                have hH1 := fun W => hH (-1) W
                have hH2 := fun W => hH 64 W
                rw [show hasI S (-1) = false by rw [has_bit]; rfl] at hH1
                rw [show hasI S 64 = false by rw [has_bit]; rfl] at hH2
                rw [e1, e2]
                rw [e3] at hrx
                simp only [e3]
                clear hH hrx e1 e2 e3 hi64
                generalize cnt64 S = C at *
                generalize firstN S = FN at *
                have hil : ¬ i < 64 := by omega
                go_wp2_with fail
                refine (hC _).mono ?_
                rintro _ w5 ⟨rfl, hw5⟩
                subst w5
                go_wp2_with fail
                refine (hF _ (HO2.out.trans HL.out)).mono ?_
                rintro _ w5 ⟨rfl, hw5⟩
                subst w5
                go_wp2_with fail
                refine (hH1 _).mono ?_
                rintro _ w5 ⟨rfl, hw5⟩
                subst w5
                go_wp2_with fail
                refine (hH2 _).mono ?_
                rintro _ w5 ⟨rfl, hw5⟩
                subst w5
                go_wp2_with fail
                refine (hA _ (HO2.out.trans HL.out)).mono ?_
                rintro _ w6 ⟨rfl, k6⟩
                go_wp2
                go_ret
                exact ⟨rfl, (HO2.out.trans HL.out).trans k6⟩
        · have hqa := HB.at (marks_at R hja)
          have hfa := HB.fr ja
          have HBA := marks_with HB hja
          rw [← HAE.out] at HBA
          have HOA : Hid (On w _) := HO.out.setNew (i := ja) (Nat.le_refl _) (.bool true)
          obtain hb | hb | ⟨jb, hjb, rfl⟩ : b < 0 ∨ 64 ≤ b ∨ ∃ j : Nat, j < 64 ∧ b = (j : Int) := by
            by_cases h0 : b < 0
            · exact Or.inl h0
            · by_cases h1 : 64 ≤ b
              · exact Or.inr (Or.inl h1)
              · exact Or.inr (Or.inr ⟨b.toNat, by omega, by omega⟩)
          · have HBX := HBA
            have HOX := HOA
            rw [show A = S by rw [HSE.out, less_none A b hal (by omega)]] at HBX
            have HB2 : Bk _ w.heap.size (marksA S) := HBX
            go_wp2_with fail
            refine (hLi _ HOX.out).mono ?_
            rintro _ w2 ⟨xa, xc, rfl, ho, k2⟩
            have HO2 : Hid (On w w2) := HOX.out.trans k2
            have HB3 := HB2.on k2
            have hrx := list_rd ho
            clear HB2 ho k2
            go_wp2
            go_loopg [10, 11, 13] 64 (fun gg s10 s11 s13 wl => ∃ i : Nat, i ≤ 64 ∧ gg = 64 - i ∧ s13 = .int .i64 i ∧ s10 = .int .i64 (pre S i).length ∧ s11 = .int .i64 (hd1 (pre S i)) ∧ Hid (On w2 wl))
            case atStart => exact ⟨0, by omega, rfl, rfl, rfl, rfl, On.refl _⟩
            case round =>
              obtain ⟨i, hi, hk, rfl, rfl, rfl, HL⟩ := hrel
              rcases Nat.lt_or_ge i 64 with hlt | hge
              · have hcell := (HB3.on HL.out).at (marks_at S hlt)
                have hsz := (HB3.on HL.out).lt
                have hHi := fun W => hH i W
                rw [has_nat S i hlt] at hHi
                have hpl := pre_len S i
                have hst := pre_step S i
                have hh := hd1_step S i
                have hg1 := hd1_ge (pre S i)
                have hg2 := hd1_lt S i (by omega)
                have hpa := pre_at S i hlt
                obtain ⟨n, hn⟩ : ∃ n, n = (pre S i).length := ⟨_, rfl⟩
                obtain ⟨F, hFe⟩ : ∃ F, F = hd1 (pre S i) := ⟨_, rfl⟩
                rw [← hn] at hpl hpa ⊢
                rw [← hFe] at hh hg1 hg2 ⊢
                have qS : wr.drew.cell? ⟨w.heap.size, i, none⟩ = some (.bool (S.testBit i)) := hcell
                cases htb : S.testBit i
                · rw [htb] at hHi hcell hst hh qS
                  have HE1 : Hid ((pre S (i + 1)).length = n) := by show _ = _; rw [hst, hn]; simp
                  have HE2 : Hid (hd1 (pre S (i + 1)) = F) := by show _ = _; rw [hh]; simp
                  clear hst hh hpa hn hFe htb
                  go_wp2
                  refine region_fin (fun W => W.cell? ⟨w.heap.size, i, none⟩ = some (.bool false)) 99 7 (by kernel_rfl) rfl ?_
                  refine fin_take 0 (v := ?_) rfl (by kernel_rfl) (by kernel_rfl) (by kernel_rfl) (by kernel_rfl) (fun _ _ _ h => h) rfl ?_ qS ?_
                  rotate_left
                  · intro W hW
                    go_simp
                    (try with_reducible rfl)
                  simp only [Act.put, List.setIfInBounds_toArray, List.set_cons_zero, List.set_cons_succ]
                  refine fin_take 1 (v := ?_) rfl (by kernel_rfl) (by kernel_rfl) (by kernel_rfl) (by kernel_rfl) (fun _ _ _ h => h) rfl ?_ qS ?_
                  rotate_left
                  · intro W hW
                    go_simp
                    (try with_reducible rfl)
                  simp only [Act.put, List.setIfInBounds_toArray, List.set_cons_zero, List.set_cons_succ]
                  refine fin_take 3 (v := ?_) rfl (by kernel_rfl) (by kernel_rfl) (by kernel_rfl) (by kernel_rfl) (fun _ _ _ h => h) rfl ?_ qS ?_
                  rotate_left
                  · intro W hW
                    go_simp
                    (try with_reducible rfl)
                  simp only [Act.put, List.setIfInBounds_toArray, List.set_cons_zero, List.set_cons_succ]
                  refine fin_take 4 (v := ?_) rfl (by kernel_rfl) (by kernel_rfl) (by kernel_rfl) (by kernel_rfl) (fun _ _ _ h => h) rfl ?_ qS ?_
                  rotate_left
                  · intro W hW
                    go_simp
                    (try with_reducible rfl)
                  simp only [Act.put, List.setIfInBounds_toArray, List.set_cons_zero, List.set_cons_succ]
                  refine fin_take 5 (v := ?_) rfl (by kernel_rfl) (by kernel_rfl) (by kernel_rfl) (by kernel_rfl) (fun _ _ _ h => h) rfl ?_ qS ?_
                  rotate_left
                  · intro W hW
                    go_simp
                    (try with_reducible rfl)
                  simp only [Act.put, List.setIfInBounds_toArray, List.set_cons_zero, List.set_cons_succ]
                  refine fin_one 2 rfl rfl (by kernel_rfl) (fun K hK => ?_)
                  go_simp
                  refine (hHi _).mono ?_
                  rintro _ w4 ⟨rfl, hw4⟩
                  subst w4
                  refine hK.out _ _ (fun _ => qS) ?_
                  clear hK
                  refine fin_take 6 (v := ?_) rfl (by kernel_rfl) (by kernel_rfl) (by kernel_rfl) (by kernel_rfl) (fun _ _ _ h => h) rfl ?_ qS ?_
                  rotate_left
                  · intro W hW
                    go_simp
                    (try with_reducible rfl)
                  simp only [Act.put, List.setIfInBounds_toArray, List.set_cons_zero, List.set_cons_succ]
                  refine fin_done (by kernel_rfl) (NoPanic.normal ?_)
                  go_wp2
                  go_roundg (64 - (i + 1))
                  case measure => omega
                  case rel => exact ⟨i + 1, hlt, rfl, by congr 1, by rw [HE1.out], by rw [HE2.out], HL.out.drew⟩
                · have hpa2 := hpa htb
                  rw [htb] at hHi hcell hst hh qS
                  have HE1 : Hid ((pre S (i + 1)).length = n + 1) := by show _ = _; rw [hst, hn]; simp
                  have HE2 : Hid (hd1 (pre S (i + 1)) = if F < 0 then (i : Int) else F) := by show _ = _; rw [hh]; simp
                  have hnl : n < (bits64 S).length := (List.getElem?_eq_some_iff.1 hpa2).1
                  have hx2 : ((bits64 S).map fun i : Nat => (i : Int))[n]? = some (i : Int) := by rw [List.getElem?_map, hpa2]; rfl
                  have hrx2 := hrx.on HL.out
                  rw [show (bits64 S).length = ((bits64 S).map fun i : Nat => (i : Int)).length from (List.length_map _).symm] at hrx2
                  obtain ⟨g, off, rfl, hgl, u0⟩ := hrx2.at hx2
                  have hc0 : wr.cell? ⟨g, off + n, none⟩ = some (.int .i64 i) := by have := u0 0 _ rfl; rw [Nat.mul_one, Nat.add_zero] at this; exact this
                  have hc1 : wr.drew.cell? ⟨g, off + n, none⟩ = some (.int .i64 i) := hc0
                  have hl64 : (bits64 S).length ≤ 64 := cnt_le S
                  have hnl2 : ¬ (bits64 S).length ≤ n := by omega
                  clear hst hh hpa hn hFe htb hpa2 hx2 hrx2 u0
                  by_cases hF0 : F < 0
                  · rw [if_pos hF0] at HE2
                    go_wp2
                    refine region_fin (fun W => W.cell? ⟨w.heap.size, i, none⟩ = some (.bool true)) 99 7 (by kernel_rfl) rfl ?_
                    refine fin_take 0 (v := ?_) rfl (by kernel_rfl) (by kernel_rfl) (by kernel_rfl) (by kernel_rfl) (fun _ _ _ h => h) rfl ?_ qS ?_
                    rotate_left
                    · intro W hW
                      go_simp
                      (try with_reducible rfl)
                    simp only [Act.put, List.setIfInBounds_toArray, List.set_cons_zero, List.set_cons_succ]
                    refine fin_take 1 (v := ?_) rfl (by kernel_rfl) (by kernel_rfl) (by kernel_rfl) (by kernel_rfl) (fun _ _ _ h => h) rfl ?_ qS ?_
                    rotate_left
                    · intro W hW
                      go_simp
                      (try with_reducible rfl)
                    simp only [Act.put, List.setIfInBounds_toArray, List.set_cons_zero, List.set_cons_succ]
                    refine fin_take 3 (v := ?_) rfl (by kernel_rfl) (by kernel_rfl) (by kernel_rfl) (by kernel_rfl) (fun _ _ _ h => h) rfl ?_ qS ?_
                    rotate_left
                    · intro W hW
                      go_simp
                      (try with_reducible rfl)
                    simp only [Act.put, List.setIfInBounds_toArray, List.set_cons_zero, List.set_cons_succ]
                    refine fin_take 4 (v := ?_) rfl (by kernel_rfl) (by kernel_rfl) (by kernel_rfl) (by kernel_rfl) (fun _ _ _ h => h) rfl ?_ qS ?_
                    rotate_left
                    · intro W hW
                      go_simp
                      (try with_reducible rfl)
                    simp only [Act.put, List.setIfInBounds_toArray, List.set_cons_zero, List.set_cons_succ]
                    refine fin_take 5 (v := ?_) rfl (by kernel_rfl) (by kernel_rfl) (by kernel_rfl) (by kernel_rfl) (fun _ _ _ h => h) rfl ?_ qS ?_
                    rotate_left
                    · intro W hW
                      go_simp
                      (try with_reducible rfl)
                    simp only [Act.put, List.setIfInBounds_toArray, List.set_cons_zero, List.set_cons_succ]
                    refine fin_one 2 rfl rfl (by kernel_rfl) (fun K hK => ?_)
                    go_simp
                    refine (hHi _).mono ?_
                    rintro _ w4 ⟨rfl, hw4⟩
                    subst w4
                    refine hK.out _ _ (fun _ => qS) ?_
                    clear hK
                    refine fin_take 6 (v := ?_) rfl (by kernel_rfl) (by kernel_rfl) (by kernel_rfl) (by kernel_rfl) (fun _ _ _ h => h) rfl ?_ qS ?_
                    rotate_left
                    · intro W hW
                      go_simp
                      (try with_reducible rfl)
                    simp only [Act.put, List.setIfInBounds_toArray, List.set_cons_zero, List.set_cons_succ]
                    refine fin_done (by kernel_rfl) (NoPanic.normal ?_)
                    go_wp2
                    go_roundg (64 - (i + 1))
                    case measure => omega
                    case rel => exact ⟨i + 1, hlt, rfl, by congr 1, by rw [HE1.out]; congr 1, by rw [HE2.out], HL.out.drew⟩
                  · rw [if_neg hF0] at HE2
                    go_wp2
                    refine region_fin (fun W => W.cell? ⟨w.heap.size, i, none⟩ = some (.bool true)) 99 7 (by kernel_rfl) rfl ?_
                    refine fin_take 0 (v := ?_) rfl (by kernel_rfl) (by kernel_rfl) (by kernel_rfl) (by kernel_rfl) (fun _ _ _ h => h) rfl ?_ qS ?_
                    rotate_left
                    · intro W hW
                      go_simp
                      (try with_reducible rfl)
                    simp only [Act.put, List.setIfInBounds_toArray, List.set_cons_zero, List.set_cons_succ]
                    refine fin_take 1 (v := ?_) rfl (by kernel_rfl) (by kernel_rfl) (by kernel_rfl) (by kernel_rfl) (fun _ _ _ h => h) rfl ?_ qS ?_
                    rotate_left
                    · intro W hW
                      go_simp
                      (try with_reducible rfl)
                    simp only [Act.put, List.setIfInBounds_toArray, List.set_cons_zero, List.set_cons_succ]
                    refine fin_take 3 (v := ?_) rfl (by kernel_rfl) (by kernel_rfl) (by kernel_rfl) (by kernel_rfl) (fun _ _ _ h => h) rfl ?_ qS ?_
                    rotate_left
                    · intro W hW
                      go_simp
                      (try with_reducible rfl)
                    simp only [Act.put, List.setIfInBounds_toArray, List.set_cons_zero, List.set_cons_succ]
                    refine fin_take 4 (v := ?_) rfl (by kernel_rfl) (by kernel_rfl) (by kernel_rfl) (by kernel_rfl) (fun _ _ _ h => h) rfl ?_ qS ?_
                    rotate_left
                    · intro W hW
                      go_simp
                      (try with_reducible rfl)
                    simp only [Act.put, List.setIfInBounds_toArray, List.set_cons_zero, List.set_cons_succ]
                    refine fin_take 5 (v := ?_) rfl (by kernel_rfl) (by kernel_rfl) (by kernel_rfl) (by kernel_rfl) (fun _ _ _ h => h) rfl ?_ qS ?_
                    rotate_left
                    · intro W hW
                      go_simp
                      (try with_reducible rfl)
                    simp only [Act.put, List.setIfInBounds_toArray, List.set_cons_zero, List.set_cons_succ]
                    refine fin_one 2 rfl rfl (by kernel_rfl) (fun K hK => ?_)
                    go_simp
                    refine (hHi _).mono ?_
                    rintro _ w4 ⟨rfl, hw4⟩
                    subst w4
                    refine hK.out _ _ (fun _ => qS) ?_
                    clear hK
                    refine fin_take 6 (v := ?_) rfl (by kernel_rfl) (by kernel_rfl) (by kernel_rfl) (by kernel_rfl) (fun _ _ _ h => h) rfl ?_ qS ?_
                    rotate_left
                    · intro W hW
                      go_simp
                      (try with_reducible rfl)
                    simp only [Act.put, List.setIfInBounds_toArray, List.set_cons_zero, List.set_cons_succ]
                    refine fin_done (by kernel_rfl) (NoPanic.normal ?_)
                    go_wp2
                    go_roundg (64 - (i + 1))
                    case measure => omega
                    case rel => exact ⟨i + 1, hlt, rfl, by congr 1, by rw [HE1.out]; congr 1, by rw [HE2.out], HL.out.drew⟩
              · have hi64 : i = 64 := by omega
                have e1 : (pre S i).length = cnt64 S := by rw [hi64]; rfl
                have e2 : hd1 (pre S i) = firstN S := by rw [hi64, pre_all, hd1_first S hbl]
                have e3 : (bits64 S).length = cnt64 S := rfl
                have hcl := cnt_le S
                have hH1 := fun W => hH (-1) W
                have hH2 := fun W => hH 64 W
                rw [show hasI S (-1) = false by rw [has_bit]; rfl] at hH1
                rw [show hasI S 64 = false by rw [has_bit]; rfl] at hH2
                rw [e1, e2]
                rw [e3] at hrx
                simp only [e3]
                clear hH hrx e1 e2 e3 hi64
                generalize cnt64 S = C at *
                generalize firstN S = FN at *
                have hil : ¬ i < 64 := by omega
                go_wp2_with fail
                refine (hC _).mono ?_
                rintro _ w5 ⟨rfl, hw5⟩
                subst w5
                go_wp2_with fail
                refine (hF _ (HO2.out.trans HL.out)).mono ?_
                rintro _ w5 ⟨rfl, hw5⟩
                subst w5
                go_wp2_with fail
                refine (hH1 _).mono ?_
                rintro _ w5 ⟨rfl, hw5⟩
                subst w5
                go_wp2_with fail
                refine (hH2 _).mono ?_
                rintro _ w5 ⟨rfl, hw5⟩
                subst w5
                go_wp2_with fail
                refine (hA _ (HO2.out.trans HL.out)).mono ?_
                rintro _ w6 ⟨rfl, k6⟩
                go_wp2
                go_ret
                exact ⟨rfl, (HO2.out.trans HL.out).trans k6⟩
          · have HBX := HBA
            have HOX := HOA
            rw [show A = S by rw [HSE.out, less_none A b hal (by omega)]] at HBX
            have HB2 : Bk _ w.heap.size (marksA S) := HBX
            go_wp2_with fail
            refine (hLi _ HOX.out).mono ?_
            rintro _ w2 ⟨xa, xc, rfl, ho, k2⟩
            have HO2 : Hid (On w w2) := HOX.out.trans k2
            have HB3 := HB2.on k2
            have hrx := list_rd ho
            clear HB2 ho k2
            go_wp2
            go_loopg [10, 11, 13] 64 (fun gg s10 s11 s13 wl => ∃ i : Nat, i ≤ 64 ∧ gg = 64 - i ∧ s13 = .int .i64 i ∧ s10 = .int .i64 (pre S i).length ∧ s11 = .int .i64 (hd1 (pre S i)) ∧ Hid (On w2 wl))
            case atStart => exact ⟨0, by omega, rfl, rfl, rfl, rfl, On.refl _⟩
            case round =>
              obtain ⟨i, hi, hk, rfl, rfl, rfl, HL⟩ := hrel
              rcases Nat.lt_or_ge i 64 with hlt | hge
              · have hcell := (HB3.on HL.out).at (marks_at S hlt)
                have hsz := (HB3.on HL.out).lt
                have hHi := fun W => hH i W
                rw [has_nat S i hlt] at hHi
                have hpl := pre_len S i
                have hst := pre_step S i
                have hh := hd1_step S i
                have hg1 := hd1_ge (pre S i)
                have hg2 := hd1_lt S i (by omega)
                have hpa := pre_at S i hlt
                obtain ⟨n, hn⟩ : ∃ n, n = (pre S i).length := ⟨_, rfl⟩
                obtain ⟨F, hFe⟩ : ∃ F, F = hd1 (pre S i) := ⟨_, rfl⟩
                rw [← hn] at hpl hpa ⊢
                rw [← hFe] at hh hg1 hg2 ⊢
                have qS : wr.drew.cell? ⟨w.heap.size, i, none⟩ = some (.bool (S.testBit i)) := hcell
                cases htb : S.testBit i
                · rw [htb] at hHi hcell hst hh qS
                  have HE1 : Hid ((pre S (i + 1)).length = n) := by show _ = _; rw [hst, hn]; simp
                  have HE2 : Hid (hd1 (pre S (i + 1)) = F) := by show _ = _; rw [hh]; simp
                  clear hst hh hpa hn hFe htb
                  go_wp2
                  refine region_fin (fun W => W.cell? ⟨w.heap.size, i, none⟩ = some (.bool false)) 99 7 (by kernel_rfl) rfl ?_
                  refine fin_take 0 (v := ?_) rfl (by kernel_rfl) (by kernel_rfl) (by kernel_rfl) (by kernel_rfl) (fun _ _ _ h => h) rfl ?_ qS ?_
                  rotate_left
                  · intro W hW
                    go_simp
                    (try with_reducible rfl)
                  simp only [Act.put, List.setIfInBounds_toArray, List.set_cons_zero, List.set_cons_succ]
                  refine fin_take 1 (v := ?_) rfl (by kernel_rfl) (by kernel_rfl) (by kernel_rfl) (by kernel_rfl) (fun _ _ _ h => h) rfl ?_ qS ?_
                  rotate_left
                  · intro W hW
                    go_simp
                    (try with_reducible rfl)
                  simp only [Act.put, List.setIfInBounds_toArray, List.set_cons_zero, List.set_cons_succ]
                  refine fin_take 3 (v := ?_) rfl (by kernel_rfl) (by kernel_rfl) (by kernel_rfl) (by kernel_rfl) (fun _ _ _ h => h) rfl ?_ qS ?_
                  rotate_left
                  · intro W hW
                    go_simp
                    (try with_reducible rfl)
                  simp only [Act.put, List.setIfInBounds_toArray, List.set_cons_zero, List.set_cons_succ]
                  refine fin_take 4 (v := ?_) rfl (by kernel_rfl) (by kernel_rfl) (by kernel_rfl) (by kernel_rfl) (fun _ _ _ h => h) rfl ?_ qS ?_
                  rotate_left
                  · intro W hW
                    go_simp
                    (try with_reducible rfl)
                  simp only [Act.put, List.setIfInBounds_toArray, List.set_cons_zero, List.set_cons_succ]
                  refine fin_take 5 (v := ?_) rfl (by kernel_rfl) (by kernel_rfl) (by kernel_rfl) (by kernel_rfl) (fun _ _ _ h => h) rfl ?_ qS ?_
                  rotate_left
                  · intro W hW
                    go_simp
                    (try with_reducible rfl)
                  simp only [Act.put, List.setIfInBounds_toArray, List.set_cons_zero, List.set_cons_succ]
                  refine fin_one 2 rfl rfl (by kernel_rfl) (fun K hK => ?_)
                  go_simp
                  refine (hHi _).mono ?_
                  rintro _ w4 ⟨rfl, hw4⟩
                  subst w4
                  refine hK.out _ _ (fun _ => qS) ?_
                  clear hK
                  refine fin_take 6 (v := ?_) rfl (by kernel_rfl) (by kernel_rfl) (by kernel_rfl) (by kernel_rfl) (fun _ _ _ h => h) rfl ?_ qS ?_
                  rotate_left
                  · intro W hW
                    go_simp
                    (try with_reducible rfl)
                  simp only [Act.put, List.setIfInBounds_toArray, List.set_cons_zero, List.set_cons_succ]
                  refine fin_done (by kernel_rfl) (NoPanic.normal ?_)
                  go_wp2
                  go_roundg (64 - (i + 1))
                  case measure => omega
                  case rel => exact ⟨i + 1, hlt, rfl, by congr 1, by rw [HE1.out], by rw [HE2.out], HL.out.drew⟩
                · have hpa2 := hpa htb
                  rw [htb] at hHi hcell hst hh qS
                  have HE1 : Hid ((pre S (i + 1)).length = n + 1) := by show _ = _; rw [hst, hn]; simp
                  have HE2 : Hid (hd1 (pre S (i + 1)) = if F < 0 then (i : Int) else F) := by show _ = _; rw [hh]; simp
                  have hnl : n < (bits64 S).length := (List.getElem?_eq_some_iff.1 hpa2).1
                  have hx2 : ((bits64 S).map fun i : Nat => (i : Int))[n]? = some (i : Int) := by rw [List.getElem?_map, hpa2]; rfl
                  have hrx2 := hrx.on HL.out
                  rw [show (bits64 S).length = ((bits64 S).map fun i : Nat => (i : Int)).length from (List.length_map _).symm] at hrx2
                  obtain ⟨g, off, rfl, hgl, u0⟩ := hrx2.at hx2
                  have hc0 : wr.cell? ⟨g, off + n, none⟩ = some (.int .i64 i) := by have := u0 0 _ rfl; rw [Nat.mul_one, Nat.add_zero] at this; exact this
                  have hc1 : wr.drew.cell? ⟨g, off + n, none⟩ = some (.int .i64 i) := hc0
                  have hl64 : (bits64 S).length ≤ 64 := cnt_le S
                  have hnl2 : ¬ (bits64 S).length ≤ n := by omega
                  clear hst hh hpa hn hFe htb hpa2 hx2 hrx2 u0
                  by_cases hF0 : F < 0
                  · rw [if_pos hF0] at HE2
                    go_wp2
                    refine region_fin (fun W => W.cell? ⟨w.heap.size, i, none⟩ = some (.bool true)) 99 7 (by kernel_rfl) rfl ?_
                    refine fin_take 0 (v := ?_) rfl (by kernel_rfl) (by kernel_rfl) (by kernel_rfl) (by kernel_rfl) (fun _ _ _ h => h) rfl ?_ qS ?_
                    rotate_left
                    · intro W hW
                      go_simp
                      (try with_reducible rfl)
                    simp only [Act.put, List.setIfInBounds_toArray, List.set_cons_zero, List.set_cons_succ]
                    refine fin_take 1 (v := ?_) rfl (by kernel_rfl) (by kernel_rfl) (by kernel_rfl) (by kernel_rfl) (fun _ _ _ h => h) rfl ?_ qS ?_
                    rotate_left
                    · intro W hW
                      go_simp
                      (try with_reducible rfl)
                    simp only [Act.put, List.setIfInBounds_toArray, List.set_cons_zero, List.set_cons_succ]
                    refine fin_take 3 (v := ?_) rfl (by kernel_rfl) (by kernel_rfl) (by kernel_rfl) (by kernel_rfl) (fun _ _ _ h => h) rfl ?_ qS ?_
                    rotate_left
                    · intro W hW
                      go_simp
                      (try with_reducible rfl)
                    simp only [Act.put, List.setIfInBounds_toArray, List.set_cons_zero, List.set_cons_succ]
                    refine fin_take 4 (v := ?_) rfl (by kernel_rfl) (by kernel_rfl) (by kernel_rfl) (by kernel_rfl) (fun _ _ _ h => h) rfl ?_ qS ?_
                    rotate_left
                    · intro W hW
                      go_simp
                      (try with_reducible rfl)
                    simp only [Act.put, List.setIfInBounds_toArray, List.set_cons_zero, List.set_cons_succ]
                    refine fin_take 5 (v := ?_) rfl (by kernel_rfl) (by kernel_rfl) (by kernel_rfl) (by kernel_rfl) (fun _ _ _ h => h) rfl ?_ qS ?_
                    rotate_left
                    · intro W hW
                      go_simp
                      (try with_reducible rfl)
                    simp only [Act.put, List.setIfInBounds_toArray, List.set_cons_zero, List.set_cons_succ]
                    refine fin_one 2 rfl rfl (by kernel_rfl) (fun K hK => ?_)
                    go_simp
                    refine (hHi _).mono ?_
                    rintro _ w4 ⟨rfl, hw4⟩
                    subst w4
                    refine hK.out _ _ (fun _ => qS) ?_
                    clear hK
                    refine fin_take 6 (v := ?_) rfl (by kernel_rfl) (by kernel_rfl) (by kernel_rfl) (by kernel_rfl) (fun _ _ _ h => h) rfl ?_ qS ?_
                    rotate_left
                    · intro W hW
                      go_simp
                      (try with_reducible rfl)
                    simp only [Act.put, List.setIfInBounds_toArray, List.set_cons_zero, List.set_cons_succ]
                    refine fin_done (by kernel_rfl) (NoPanic.normal ?_)
                    go_wp2
                    go_roundg (64 - (i + 1))
                    case measure => omega
                    case rel => exact ⟨i + 1, hlt, rfl, by congr 1, by rw [HE1.out]; congr 1, by rw [HE2.out], HL.out.drew⟩
                  · rw [if_neg hF0] at HE2
                    go_wp2
                    refine region_fin (fun W => W.cell? ⟨w.heap.size, i, none⟩ = some (.bool true)) 99 7 (by kernel_rfl) rfl ?_
                    refine fin_take 0 (v := ?_) rfl (by kernel_rfl) (by kernel_rfl) (by kernel_rfl) (by kernel_rfl) (fun _ _ _ h => h) rfl ?_ qS ?_
                    rotate_left
                    · intro W hW
                      go_simp
                      (try with_reducible rfl)
                    simp only [Act.put, List.setIfInBounds_toArray, List.set_cons_zero, List.set_cons_succ]
                    refine fin_take 1 (v := ?_) rfl (by kernel_rfl) (by kernel_rfl) (by kernel_rfl) (by kernel_rfl) (fun _ _ _ h => h) rfl ?_ qS ?_
                    rotate_left
                    · intro W hW
                      go_simp
                      (try with_reducible rfl)
                    simp only [Act.put, List.setIfInBounds_toArray, List.set_cons_zero, List.set_cons_succ]
                    refine fin_take 3 (v := ?_) rfl (by kernel_rfl) (by kernel_rfl) (by kernel_rfl) (by kernel_rfl) (fun _ _ _ h => h) rfl ?_ qS ?_
                    rotate_left
                    · intro W hW
                      go_simp
                      (try with_reducible rfl)
                    simp only [Act.put, List.setIfInBounds_toArray, List.set_cons_zero, List.set_cons_succ]
                    refine fin_take 4 (v := ?_) rfl (by kernel_rfl) (by kernel_rfl) (by kernel_rfl) (by kernel_rfl) (fun _ _ _ h => h) rfl ?_ qS ?_
                    rotate_left
                    · intro W hW
                      go_simp
                      (try with_reducible rfl)
                    simp only [Act.put, List.setIfInBounds_toArray, List.set_cons_zero, List.set_cons_succ]
                    refine fin_take 5 (v := ?_) rfl (by kernel_rfl) (by kernel_rfl) (by kernel_rfl) (by kernel_rfl) (fun _ _ _ h => h) rfl ?_ qS ?_
                    rotate_left
                    · intro W hW
                      go_simp
                      (try with_reducible rfl)
                    simp only [Act.put, List.setIfInBounds_toArray, List.set_cons_zero, List.set_cons_succ]
                    refine fin_one 2 rfl rfl (by kernel_rfl) (fun K hK => ?_)
                    go_simp
                    refine (hHi _).mono ?_
                    rintro _ w4 ⟨rfl, hw4⟩
                    subst w4
                    refine hK.out _ _ (fun _ => qS) ?_
                    clear hK
                    refine fin_take 6 (v := ?_) rfl (by kernel_rfl) (by kernel_rfl) (by kernel_rfl) (by kernel_rfl) (fun _ _ _ h => h) rfl ?_ qS ?_
                    rotate_left
                    · intro W hW
                      go_simp
                      (try with_reducible rfl)
                    simp only [Act.put, List.setIfInBounds_toArray, List.set_cons_zero, List.set_cons_succ]
                    refine fin_done (by kernel_rfl) (NoPanic.normal ?_)
                    go_wp2
                    go_roundg (64 - (i + 1))
                    case measure => omega
                    case rel => exact ⟨i + 1, hlt, rfl, by congr 1, by rw [HE1.out]; congr 1, by rw [HE2.out], HL.out.drew⟩
              · have hi64 : i = 64 := by omega
                have e1 : (pre S i).length = cnt64 S := by rw [hi64]; rfl
                have e2 : hd1 (pre S i) = firstN S := by rw [hi64, pre_all, hd1_first S hbl]
                have e3 : (bits64 S).length = cnt64 S := rfl
                have hcl := cnt_le S
                have hH1 := fun W => hH (-1) W
                have hH2 := fun W => hH 64 W
                rw [show hasI S (-1) = false by rw [has_bit]; rfl] at hH1
                rw [show hasI S 64 = false by rw [has_bit]; rfl] at hH2
                rw [e1, e2]
                rw [e3] at hrx
                simp only [e3]
                clear hH hrx e1 e2 e3 hi64
                generalize cnt64 S = C at *
                generalize firstN S = FN at *
                have hil : ¬ i < 64 := by omega
                go_wp2_with fail
                refine (hC _).mono ?_
                rintro _ w5 ⟨rfl, hw5⟩
                subst w5
                go_wp2_with fail
                refine (hF _ (HO2.out.trans HL.out)).mono ?_
                rintro _ w5 ⟨rfl, hw5⟩
                subst w5
                go_wp2_with fail
                refine (hH1 _).mono ?_
                rintro _ w5 ⟨rfl, hw5⟩
                subst w5
                go_wp2_with fail
                refine (hH2 _).mono ?_
                rintro _ w5 ⟨rfl, hw5⟩
                subst w5
                go_wp2_with fail
                refine (hA _ (HO2.out.trans HL.out)).mono ?_
                rintro _ w6 ⟨rfl, k6⟩
                go_wp2
                go_ret
                exact ⟨rfl, (HO2.out.trans HL.out).trans k6⟩
          · have hqb := HBA.at (marks_at A hjb)
            have hfb := HBA.fr jb
            have HBX := marks_less hal HBA hjb
            rw [← HSE.out] at HBX
            have HOX : Hid (On w _) := HOA.out.setNew (i := jb) (Nat.le_refl _) (.bool false)
            have HB2 : Bk _ w.heap.size (marksA S) := HBX
            go_wp2_with fail
            refine (hLi _ HOX.out).mono ?_
            rintro _ w2 ⟨xa, xc, rfl, ho, k2⟩
            have HO2 : Hid (On w w2) := HOX.out.trans k2
            have HB3 := HB2.on k2
            have hrx := list_rd ho
            clear HB2 ho k2
            go_wp2
            go_loopg [10, 11, 13] 64 (fun gg s10 s11 s13 wl => ∃ i : Nat, i ≤ 64 ∧ gg = 64 - i ∧ s13 = .int .i64 i ∧ s10 = .int .i64 (pre S i).length ∧ s11 = .int .i64 (hd1 (pre S i)) ∧ Hid (On w2 wl))
            case atStart => exact ⟨0, by omega, rfl, rfl, rfl, rfl, On.refl _⟩
            case round =>
              obtain ⟨i, hi, hk, rfl, rfl, rfl, HL⟩ := hrel
              rcases Nat.lt_or_ge i 64 with hlt | hge
              · have hcell := (HB3.on HL.out).at (marks_at S hlt)
                have hsz := (HB3.on HL.out).lt
                have hHi := fun W => hH i W
                rw [has_nat S i hlt] at hHi
                have hpl := pre_len S i
                have hst := pre_step S i
                have hh := hd1_step S i
                have hg1 := hd1_ge (pre S i)
                have hg2 := hd1_lt S i (by omega)
                have hpa := pre_at S i hlt
                obtain ⟨n, hn⟩ : ∃ n, n = (pre S i).length := ⟨_, rfl⟩
                obtain ⟨F, hFe⟩ : ∃ F, F = hd1 (pre S i) := ⟨_, rfl⟩
                rw [← hn] at hpl hpa ⊢
                rw [← hFe] at hh hg1 hg2 ⊢
                have qS : wr.drew.cell? ⟨w.heap.size, i, none⟩ = some (.bool (S.testBit i)) := hcell
                cases htb : S.testBit i
                · rw [htb] at hHi hcell hst hh qS
                  have HE1 : Hid ((pre S (i + 1)).length = n) := by show _ = _; rw [hst, hn]; simp
                  have HE2 : Hid (hd1 (pre S (i + 1)) = F) := by show _ = _; rw [hh]; simp
                  clear hst hh hpa hn hFe htb
                  go_wp2
                  refine region_fin (fun W => W.cell? ⟨w.heap.size, i, none⟩ = some (.bool false)) 99 7 (by kernel_rfl) rfl ?_
                  refine fin_take 0 (v := ?_) rfl (by kernel_rfl) (by kernel_rfl) (by kernel_rfl) (by kernel_rfl) (fun _ _ _ h => h) rfl ?_ qS ?_
                  rotate_left
                  · intro W hW
                    go_simp
                    (try with_reducible rfl)
                  simp only [Act.put, List.setIfInBounds_toArray, List.set_cons_zero, List.set_cons_succ]
                  refine fin_take 1 (v := ?_) rfl (by kernel_rfl) (by kernel_rfl) (by kernel_rfl) (by kernel_rfl) (fun _ _ _ h => h) rfl ?_ qS ?_
                  rotate_left
                  · intro W hW
                    go_simp
                    (try with_reducible rfl)
                  simp only [Act.put, List.setIfInBounds_toArray, List.set_cons_zero, List.set_cons_succ]
                  refine fin_take 3 (v := ?_) rfl (by kernel_rfl) (by kernel_rfl) (by kernel_rfl) (by kernel_rfl) (fun _ _ _ h => h) rfl ?_ qS ?_
                  rotate_left
                  · intro W hW
                    go_simp
                    (try with_reducible rfl)
                  simp only [Act.put, List.setIfInBounds_toArray, List.set_cons_zero, List.set_cons_succ]
                  refine fin_take 4 (v := ?_) rfl (by kernel_rfl) (by kernel_rfl) (by kernel_rfl) (by kernel_rfl) (fun _ _ _ h => h) rfl ?_ qS ?_
                  rotate_left
                  · intro W hW
                    go_simp
                    (try with_reducible rfl)
                  simp only [Act.put, List.setIfInBounds_toArray, List.set_cons_zero, List.set_cons_succ]
                  refine fin_take 5 (v := ?_) rfl (by kernel_rfl) (by kernel_rfl) (by kernel_rfl) (by kernel_rfl) (fun _ _ _ h => h) rfl ?_ qS ?_
                  rotate_left
                  · intro W hW
                    go_simp
                    (try with_reducible rfl)
                  simp only [Act.put, List.setIfInBounds_toArray, List.set_cons_zero, List.set_cons_succ]
                  refine fin_one 2 rfl rfl (by kernel_rfl) (fun K hK => ?_)
                  go_simp
                  refine (hHi _).mono ?_
                  rintro _ w4 ⟨rfl, hw4⟩
                  subst w4
                  refine hK.out _ _ (fun _ => qS) ?_
                  clear hK
                  refine fin_take 6 (v := ?_) rfl (by kernel_rfl) (by kernel_rfl) (by kernel_rfl) (by kernel_rfl) (fun _ _ _ h => h) rfl ?_ qS ?_
                  rotate_left
                  · intro W hW
                    go_simp
                    (try with_reducible rfl)
                  simp only [Act.put, List.setIfInBounds_toArray, List.set_cons_zero, List.set_cons_succ]
                  refine fin_done (by kernel_rfl) (NoPanic.normal ?_)
                  go_wp2
                  go_roundg (64 - (i + 1))
                  case measure => omega
                  case rel => exact ⟨i + 1, hlt, rfl, by congr 1, by rw [HE1.out], by rw [HE2.out], HL.out.drew⟩
                · have hpa2 := hpa htb
                  rw [htb] at hHi hcell hst hh qS
                  have HE1 : Hid ((pre S (i + 1)).length = n + 1) := by show _ = _; rw [hst, hn]; simp
                  have HE2 : Hid (hd1 (pre S (i + 1)) = if F < 0 then (i : Int) else F) := by show _ = _; rw [hh]; simp
                  have hnl : n < (bits64 S).length := (List.getElem?_eq_some_iff.1 hpa2).1
                  have hx2 : ((bits64 S).map fun i : Nat => (i : Int))[n]? = some (i : Int) := by rw [List.getElem?_map, hpa2]; rfl
                  have hrx2 := hrx.on HL.out
                  rw [show (bits64 S).length = ((bits64 S).map fun i : Nat => (i : Int)).length from (List.length_map _).symm] at hrx2
                  obtain ⟨g, off, rfl, hgl, u0⟩ := hrx2.at hx2
                  have hc0 : wr.cell? ⟨g, off + n, none⟩ = some (.int .i64 i) := by have := u0 0 _ rfl; rw [Nat.mul_one, Nat.add_zero] at this; exact this
                  have hc1 : wr.drew.cell? ⟨g, off + n, none⟩ = some (.int .i64 i) := hc0
                  have hl64 : (bits64 S).length ≤ 64 := cnt_le S
                  have hnl2 : ¬ (bits64 S).length ≤ n := by omega
                  clear hst hh hpa hn hFe htb hpa2 hx2 hrx2 u0
                  by_cases hF0 : F < 0
                  · rw [if_pos hF0] at HE2
                    go_wp2
                    refine region_fin (fun W => W.cell? ⟨w.heap.size, i, none⟩ = some (.bool true)) 99 7 (by kernel_rfl) rfl ?_
                    refine fin_take 0 (v := ?_) rfl (by kernel_rfl) (by kernel_rfl) (by kernel_rfl) (by kernel_rfl) (fun _ _ _ h => h) rfl ?_ qS ?_
                    rotate_left
                    · intro W hW
                      go_simp
                      (try with_reducible rfl)
                    simp only [Act.put, List.setIfInBounds_toArray, List.set_cons_zero, List.set_cons_succ]
                    refine fin_take 1 (v := ?_) rfl (by kernel_rfl) (by kernel_rfl) (by kernel_rfl) (by kernel_rfl) (fun _ _ _ h => h) rfl ?_ qS ?_
                    rotate_left
                    · intro W hW
                      go_simp
                      (try with_reducible rfl)
                    simp only [Act.put, List.setIfInBounds_toArray, List.set_cons_zero, List.set_cons_succ]
                    refine fin_take 3 (v := ?_) rfl (by kernel_rfl) (by kernel_rfl) (by kernel_rfl) (by kernel_rfl) (fun _ _ _ h => h) rfl ?_ qS ?_
                    rotate_left
                    · intro W hW
                      go_simp
                      (try with_reducible rfl)
                    simp only [Act.put, List.setIfInBounds_toArray, List.set_cons_zero, List.set_cons_succ]
                    refine fin_take 4 (v := ?_) rfl (by kernel_rfl) (by kernel_rfl) (by kernel_rfl) (by kernel_rfl) (fun _ _ _ h => h) rfl ?_ qS ?_
                    rotate_left
                    · intro W hW
                      go_simp
                      (try with_reducible rfl)
                    simp only [Act.put, List.setIfInBounds_toArray, List.set_cons_zero, List.set_cons_succ]
                    refine fin_take 5 (v := ?_) rfl (by kernel_rfl) (by kernel_rfl) (by kernel_rfl) (by kernel_rfl) (fun _ _ _ h => h) rfl ?_ qS ?_
                    rotate_left
                    · intro W hW
                      go_simp
                      (try with_reducible rfl)
                    simp only [Act.put, List.setIfInBounds_toArray, List.set_cons_zero, List.set_cons_succ]
                    refine fin_one 2 rfl rfl (by kernel_rfl) (fun K hK => ?_)
                    go_simp
                    refine (hHi _).mono ?_
                    rintro _ w4 ⟨rfl, hw4⟩
                    subst w4
                    refine hK.out _ _ (fun _ => qS) ?_
                    clear hK
                    refine fin_take 6 (v := ?_) rfl (by kernel_rfl) (by kernel_rfl) (by kernel_rfl) (by kernel_rfl) (fun _ _ _ h => h) rfl ?_ qS ?_
                    rotate_left
                    · intro W hW
                      go_simp
                      (try with_reducible rfl)
                    simp only [Act.put, List.setIfInBounds_toArray, List.set_cons_zero, List.set_cons_succ]
                    refine fin_done (by kernel_rfl) (NoPanic.normal ?_)
                    go_wp2
                    go_roundg (64 - (i + 1))
                    case measure => omega
                    case rel => exact ⟨i + 1, hlt, rfl, by congr 1, by rw [HE1.out]; congr 1, by rw [HE2.out], HL.out.drew⟩
                  · rw [if_neg hF0] at HE2
                    go_wp2
                    refine region_fin (fun W => W.cell? ⟨w.heap.size, i, none⟩ = some (.bool true)) 99 7 (by kernel_rfl) rfl ?_
                    refine fin_take 0 (v := ?_) rfl (by kernel_rfl) (by kernel_rfl) (by kernel_rfl) (by kernel_rfl) (fun _ _ _ h => h) rfl ?_ qS ?_
                    rotate_left
                    · intro W hW
                      go_simp
                      (try with_reducible rfl)
                    simp only [Act.put, List.setIfInBounds_toArray, List.set_cons_zero, List.set_cons_succ]
                    refine fin_take 1 (v := ?_) rfl (by kernel_rfl) (by kernel_rfl) (by kernel_rfl) (by kernel_rfl) (fun _ _ _ h => h) rfl ?_ qS ?_
                    rotate_left
                    · intro W hW
                      go_simp
                      (try with_reducible rfl)
                    simp only [Act.put, List.setIfInBounds_toArray, List.set_cons_zero, List.set_cons_succ]
                    refine fin_take 3 (v := ?_) rfl (by kernel_rfl) (by kernel_rfl) (by kernel_rfl) (by kernel_rfl) (fun _ _ _ h => h) rfl ?_ qS ?_
                    rotate_left
                    · intro W hW
                      go_simp
                      (try with_reducible rfl)
                    simp only [Act.put, List.setIfInBounds_toArray, List.set_cons_zero, List.set_cons_succ]
                    refine fin_take 4 (v := ?_) rfl (by kernel_rfl) (by kernel_rfl) (by kernel_rfl) (by kernel_rfl) (fun _ _ _ h => h) rfl ?_ qS ?_
                    rotate_left
                    · intro W hW
                      go_simp
                      (try with_reducible rfl)
                    simp only [Act.put, List.setIfInBounds_toArray, List.set_cons_zero, List.set_cons_succ]
                    refine fin_take 5 (v := ?_) rfl (by kernel_rfl) (by kernel_rfl) (by kernel_rfl) (by kernel_rfl) (fun _ _ _ h => h) rfl ?_ qS ?_
                    rotate_left
                    · intro W hW
                      go_simp
                      (try with_reducible rfl)
                    simp only [Act.put, List.setIfInBounds_toArray, List.set_cons_zero, List.set_cons_succ]
                    refine fin_one 2 rfl rfl (by kernel_rfl) (fun K hK => ?_)
                    go_simp
                    refine (hHi _).mono ?_
                    rintro _ w4 ⟨rfl, hw4⟩
                    subst w4
                    refine hK.out _ _ (fun _ => qS) ?_
                    clear hK
                    refine fin_take 6 (v := ?_) rfl (by kernel_rfl) (by kernel_rfl) (by kernel_rfl) (by kernel_rfl) (fun _ _ _ h => h) rfl ?_ qS ?_
                    rotate_left
                    · intro W hW
                      go_simp
                      (try with_reducible rfl)
                    simp only [Act.put, List.setIfInBounds_toArray, List.set_cons_zero, List.set_cons_succ]
                    refine fin_done (by kernel_rfl) (NoPanic.normal ?_)
                    go_wp2
                    go_roundg (64 - (i + 1))
                    case measure => omega
                    case rel => exact ⟨i + 1, hlt, rfl, by congr 1, by rw [HE1.out]; congr 1, by rw [HE2.out], HL.out.drew⟩
              · have hi64 : i = 64 := by omega
                have e1 : (pre S i).length = cnt64 S := by rw [hi64]; rfl
                have e2 : hd1 (pre S i) = firstN S := by rw [hi64, pre_all, hd1_first S hbl]
                have e3 : (bits64 S).length = cnt64 S := rfl
                have hcl := cnt_le S
                have hH1 := fun W => hH (-1) W
                have hH2 := fun W => hH 64 W
                rw [show hasI S (-1) = false by rw [has_bit]; rfl] at hH1
                rw [show hasI S 64 = false by rw [has_bit]; rfl] at hH2
                rw [e1, e2]
                rw [e3] at hrx
                simp only [e3]
                clear hH hrx e1 e2 e3 hi64
                generalize cnt64 S = C at *
                generalize firstN S = FN at *
                have hil : ¬ i < 64 := by omega
                go_wp2_with fail
                refine (hC _).mono ?_
                rintro _ w5 ⟨rfl, hw5⟩
                subst w5
                go_wp2_with fail
                refine (hF _ (HO2.out.trans HL.out)).mono ?_
                rintro _ w5 ⟨rfl, hw5⟩
                subst w5
                go_wp2_with fail
                refine (hH1 _).mono ?_
                rintro _ w5 ⟨rfl, hw5⟩
                subst w5
                go_wp2_with fail
                refine (hH2 _).mono ?_
                rintro _ w5 ⟨rfl, hw5⟩
                subst w5
                go_wp2_with fail
                refine (hA _ (HO2.out.trans HL.out)).mono ?_
                rintro _ w6 ⟨rfl, k6⟩
                go_wp2
                go_ret
                exact ⟨rfl, (HO2.out.trans HL.out).trans k6⟩
end Go.Proofs.YtpfhfabhjnmlfaaDoor
