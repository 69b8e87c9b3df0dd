/- The document's SameFinals and Sort: for every rows of ends. -/
import Derived.Test.YteddggkelbpmaaaDoorFinK
import Derived.Test.YteddggkelbpmaaaDoorFinS
namespace Go.Proofs.YteddggkelbpmaaaDoor
open Go.RowKit

set_option maxRecDepth 8000 in
set_option maxHeartbeats 2000000 in
theorem samef_is (A B : List FinT) (a b : Option Addr) (c d : Nat) (w : World) (hA : Rd finC 20 w (.slice a A.length c) A) (hB : Rd finC 20 w (.slice b B.length d) B) :
    Calls Tryd.prog 15 #[.slice a A.length c, .slice b B.length d] w fun e w' => e = .returned (.bool (decide (A = B))) ∧ On w w' := by
  obtain ⟨_, _, _, _, ma⟩ := hA.slice
  obtain ⟨_, _, _, _, mb⟩ := hB.slice
  have HA : Hid (Rd finC 20 w (.slice a A.length c) A) := hA
  have HB : Hid (Rd finC 20 w (.slice b B.length d) B) := hB
  clear hA hB
  by_cases hl : A.length = B.length
  · obtain ⟨R, hR⟩ : ∃ R, R = decide (A = B) := ⟨_, rfl⟩
    rw [← hR]
    have HR : Hid (R = decide (A.drop 0 = B.drop 0)) := hR
    have HL : Hid (A.length = B.length) := hl
    have hlb : ((A.length : Int) != (B.length : Int)) = false := by rw [hl]; simp
    clear hR hl
    go_enter Tryd.func15, Tryd.ntmps15
    go_wp2
    go_loopg [5] A.length (fun gg s5 wq => ∃ n : Nat, n ≤ A.length ∧ gg = A.length - n ∧ s5 = .int .i64 n ∧ Hid (On w wq) ∧ Hid (R = decide (A.drop n = B.drop n)))
    case atStart => exact ⟨0, Nat.zero_le _, rfl, rfl, On.refl w, HR⟩
    case round =>
      clear HR
      obtain ⟨n, hn, hk, rfl, HO, HR⟩ := hrel
      rcases Nat.lt_or_ge n A.length with hlt | hge
      · obtain ⟨x, hx⟩ : ∃ x, A[n]? = some x := ⟨_, List.getElem?_eq_getElem hlt⟩
        obtain ⟨y, hy⟩ : ∃ y, B[n]? = some y := ⟨_, List.getElem?_eq_getElem (by have := HL.out; omega)⟩
        obtain ⟨g1, o1, rfl, hg1, _⟩ := HA.out.at hx
        obtain ⟨g2, o2, rfl, hg2, _⟩ := HB.out.at hy
        have RX : Hid (∀ W, On w W → W.rangeAt g1 (o1 + n * 20) (finC x)) := fun W k => by
          obtain ⟨g', o', e, _, hc⟩ := (HA.out.on k).at hx
          simp only [Option.some.injEq, Addr.mk.injEq] at e
          obtain ⟨rfl, rfl, _⟩ := e
          exact hc
        have RY : Hid (∀ W, On w W → W.rangeAt g2 (o2 + n * 20) (finC y)) := fun W k => by
          obtain ⟨g', o', e, _, hc⟩ := (HB.out.on k).at hy
          simp only [Option.some.injEq, Addr.mk.injEq] at e
          obtain ⟨rfl, rfl, _⟩ := e
          exact hc
        have bn0 : (0 : Int) ≤ (n : Int) := by omega
        have bn1 : (n : Int) < (A.length : Int) := by omega
        have bn2 : (n : Int) < (B.length : Int) := by have := HL.out; omega
        have S0 : On w wr.drew := HO.out.drew
        have hr := HR.out
        rw [drop_at hx, drop_at hy] at hr
        by_cases e : x = y
        · have hd : (!decide (x = y)) = false := by simp [e]
          have HR2 : Hid (R = decide (A.drop (n + 1) = B.drop (n + 1))) := by
            show _ = _
            rw [hr, e]
            simp
          have HD : Hid ((!decide (x = y)) = false) := hd
          clear hx hy hr HR e hd
          go_wp2
          refine region_fin (fun W => On w W) 99 9 (by kernel_rfl) rfl ?_
          refine fin_take 0 (v := ?_) rfl (by kernel_rfl) (by kernel_rfl) (by kernel_rfl) (by kernel_rfl) (fun _ _ _ h => h) rfl ?_ S0 ?_
          rotate_left
          · intro W hW
            go_simp
            (try with_reducible rfl)
          simp only [Act.put, List.setIfInBounds_toArray, List.set_cons_zero, List.set_cons_succ]
          refine fin_take 1 (v := ?_) rfl (by kernel_rfl) (by kernel_rfl) (by kernel_rfl) (by kernel_rfl) (fun _ _ _ h => h) rfl ?_ S0 ?_
          rotate_left
          · intro W hW
            go_simp
            (try with_reducible rfl)
          simp only [Act.put, List.setIfInBounds_toArray, List.set_cons_zero, List.set_cons_succ]
          refine fin_take 2 (v := ?_) rfl (by kernel_rfl) (by kernel_rfl) (by kernel_rfl) (by kernel_rfl) (fun _ _ _ h => h) rfl ?_ S0 ?_
          rotate_left
          · intro W hW
            go_simp
            (try with_reducible rfl)
          simp only [Act.put, List.setIfInBounds_toArray, List.set_cons_zero, List.set_cons_succ]
          refine fin_take 3 (v := .agg (finA x)) rfl (by kernel_rfl) (by kernel_rfl) (by kernel_rfl) (by kernel_rfl) (fun _ _ _ h => h) rfl (fun W hW => exec_fld rfl rfl (RX.out W hW)) S0 ?_
          simp only [Act.put, List.setIfInBounds_toArray, List.set_cons_zero, List.set_cons_succ]
          refine fin_take 4 (v := ?_) rfl (by kernel_rfl) (by kernel_rfl) (by kernel_rfl) (by kernel_rfl) (fun _ _ _ h => h) rfl ?_ S0 ?_
          rotate_left
          · intro W hW
            go_simp
            (try with_reducible rfl)
          simp only [Act.put, List.setIfInBounds_toArray, List.set_cons_zero, List.set_cons_succ]
          refine fin_take 5 (v := ?_) rfl (by kernel_rfl) (by kernel_rfl) (by kernel_rfl) (by kernel_rfl) (fun _ _ _ h => h) rfl ?_ S0 ?_
          rotate_left
          · intro W hW
            go_simp
            (try with_reducible rfl)
          simp only [Act.put, List.setIfInBounds_toArray, List.set_cons_zero, List.set_cons_succ]
          refine fin_take 6 (v := ?_) rfl (by kernel_rfl) (by kernel_rfl) (by kernel_rfl) (by kernel_rfl) (fun _ _ _ h => h) rfl ?_ S0 ?_
          rotate_left
          · intro W hW
            go_simp
            (try with_reducible rfl)
          simp only [Act.put, List.setIfInBounds_toArray, List.set_cons_zero, List.set_cons_succ]
          refine fin_take 7 (v := .agg (finA y)) rfl (by kernel_rfl) (by kernel_rfl) (by kernel_rfl) (by kernel_rfl) (fun _ _ _ h => h) rfl (fun W hW => exec_fld rfl rfl (RY.out W hW)) S0 ?_
          simp only [Act.put, List.setIfInBounds_toArray, List.set_cons_zero, List.set_cons_succ]
          refine fin_take 8 (v := .bool (!decide (x = y))) rfl (by kernel_rfl) (by kernel_rfl) (by kernel_rfl) (by kernel_rfl) (fun _ _ _ h => h) rfl (fun W hW => exec_fne rfl rfl rfl W) S0 ?_
          simp only [Act.put, List.setIfInBounds_toArray, List.set_cons_zero, List.set_cons_succ]
          refine fin_done (by kernel_rfl) (NoPanic.normal ?_)
          rw [HD.out]
          go_wp2
          go_roundg (A.length - (n + 1))
          case measure => omega
          case rel => exact ⟨n + 1, by omega, rfl, by go_num, S0, HR2⟩
        · have hd : (!decide (x = y)) = true := by simp [e]
          obtain rfl : R = false := by
            rw [hr]
            simp [e]
          have HD : Hid ((!decide (x = y)) = true) := hd
          clear hx hy hr HR e hd
          go_wp2
          refine region_fin (fun W => On w W) 99 9 (by kernel_rfl) rfl ?_
          refine fin_take 0 (v := ?_) rfl (by kernel_rfl) (by kernel_rfl) (by kernel_rfl) (by kernel_rfl) (fun _ _ _ h => h) rfl ?_ S0 ?_
          rotate_left
          · intro W hW
            go_simp
            (try with_reducible rfl)
          simp only [Act.put, List.setIfInBounds_toArray, List.set_cons_zero, List.set_cons_succ]
          refine fin_take 1 (v := ?_) rfl (by kernel_rfl) (by kernel_rfl) (by kernel_rfl) (by kernel_rfl) (fun _ _ _ h => h) rfl ?_ S0 ?_
          rotate_left
          · intro W hW
            go_simp
            (try with_reducible rfl)
          simp only [Act.put, List.setIfInBounds_toArray, List.set_cons_zero, List.set_cons_succ]
          refine fin_take 2 (v := ?_) rfl (by kernel_rfl) (by kernel_rfl) (by kernel_rfl) (by kernel_rfl) (fun _ _ _ h => h) rfl ?_ S0 ?_
          rotate_left
          · intro W hW
            go_simp
            (try with_reducible rfl)
          simp only [Act.put, List.setIfInBounds_toArray, List.set_cons_zero, List.set_cons_succ]
          refine fin_take 3 (v := .agg (finA x)) rfl (by kernel_rfl) (by kernel_rfl) (by kernel_rfl) (by kernel_rfl) (fun _ _ _ h => h) rfl (fun W hW => exec_fld rfl rfl (RX.out W hW)) S0 ?_
          simp only [Act.put, List.setIfInBounds_toArray, List.set_cons_zero, List.set_cons_succ]
          refine fin_take 4 (v := ?_) rfl (by kernel_rfl) (by kernel_rfl) (by kernel_rfl) (by kernel_rfl) (fun _ _ _ h => h) rfl ?_ S0 ?_
          rotate_left
          · intro W hW
            go_simp
            (try with_reducible rfl)
          simp only [Act.put, List.setIfInBounds_toArray, List.set_cons_zero, List.set_cons_succ]
          refine fin_take 5 (v := ?_) rfl (by kernel_rfl) (by kernel_rfl) (by kernel_rfl) (by kernel_rfl) (fun _ _ _ h => h) rfl ?_ S0 ?_
          rotate_left
          · intro W hW
            go_simp
            (try with_reducible rfl)
          simp only [Act.put, List.setIfInBounds_toArray, List.set_cons_zero, List.set_cons_succ]
          refine fin_take 6 (v := ?_) rfl (by kernel_rfl) (by kernel_rfl) (by kernel_rfl) (by kernel_rfl) (fun _ _ _ h => h) rfl ?_ S0 ?_
          rotate_left
          · intro W hW
            go_simp
            (try with_reducible rfl)
          simp only [Act.put, List.setIfInBounds_toArray, List.set_cons_zero, List.set_cons_succ]
          refine fin_take 7 (v := .agg (finA y)) rfl (by kernel_rfl) (by kernel_rfl) (by kernel_rfl) (by kernel_rfl) (fun _ _ _ h => h) rfl (fun W hW => exec_fld rfl rfl (RY.out W hW)) S0 ?_
          simp only [Act.put, List.setIfInBounds_toArray, List.set_cons_zero, List.set_cons_succ]
          refine fin_take 8 (v := .bool (!decide (x = y))) rfl (by kernel_rfl) (by kernel_rfl) (by kernel_rfl) (by kernel_rfl) (fun _ _ _ h => h) rfl (fun W hW => exec_fne rfl rfl rfl W) S0 ?_
          simp only [Act.put, List.setIfInBounds_toArray, List.set_cons_zero, List.set_cons_succ]
          refine fin_done (by kernel_rfl) (NoPanic.normal ?_)
          rw [HD.out]
          go_wp2
          go_ret
          exact ⟨rfl, S0⟩
      · obtain rfl : n = A.length := by omega
        obtain rfl : R = true := by
          rw [HR.out, List.drop_length, HL.out, List.drop_length]
          simp
        go_wp2
        go_ret
        exact ⟨rfl, HO.out⟩
  · have hR : decide (A = B) = false := decide_eq_false (fun e => hl (by rw [e]))
    rw [hR]
    have hlb : ((A.length : Int) != (B.length : Int)) = true := by simp; omega
    clear hR hl
    go_enter Tryd.func15, Tryd.ntmps15
    go_wp2
    go_ret
    exact ⟨rfl, On.refl w⟩
end Go.Proofs.YteddggkelbpmaaaDoor
