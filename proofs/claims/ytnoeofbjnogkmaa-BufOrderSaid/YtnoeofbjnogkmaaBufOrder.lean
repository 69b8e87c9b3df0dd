/- The law BufOrder, walked. -/
import Derived.Test.YtnoeofbjnogkmaaBufOrd
namespace Go.Proofs.Ytnoeofbjnogkmaa
open Go.RowKit

set_option maxHeartbeats 8000000 in
set_option maxRecDepth 8000 in
theorem bufOrder_walk (a : Option Addr) (L : List OpT) (cap : Nat) (w : World) (hr : Rd opC 3 w (.slice a L.length cap) L) : Calls Try.prog 6 #[.slice a L.length cap] w fun e w' => e = .returned (.bool true) ∧ On w w' := by
  have hz : ∀ w, (zeroValue 27).run Try.prog w = .ok (.agg (bufA bufZ)) w := fun w => (zero_of_info buf_info).1 w
  have r3 : InR 3 := inr_small (by decide) (by decide)
  have h1 := fun W => new_is 2 aw_r2 W
  have h2 := fun W => new_is 3 r3 W
  have HP0 : Hid (O1 L 0 (newB 2 aw_r2) (newB 3 r3)) := O1.zero L aw_r2 r3
  have HR : Hid (Rd opC 3 w (.slice a L.length cap) L) := hr
  obtain ⟨n, hn⟩ : ∃ n : Nat, n = min L.length 20 := ⟨_, rfl⟩
  have hmn : min (L.length : Int) 20 = (n : Int) := by omega
  have HN : Hid (n = min L.length 20) := hn
  have HA := fun W => awake15_is W
  generalize newB 2 aw_r2 = t at *
  generalize newB 3 r3 = p at *
  clear r3 hr hn
  go_enter Try.func6, Try.ntmps6
  go_wp2_with fail
  refine (h1 _).mono ?_
  rintro _ w1 ⟨rfl, k1⟩
  clear h1
  go_wp2_with fail
  refine (h2 _).mono ?_
  rintro _ w2 ⟨rfl, k2⟩
  clear h2
  have K2 : Hid (On w w2) := k1.trans k2
  obtain ⟨W4, hW4⟩ : ∃ W4, W4 = (w2.alloc (.cells (bufA bufZ) 27)).alloc (.cells (bufA bufZ) 27) := ⟨_, rfl⟩
  have HW4 : Hid (W4 = (w2.alloc (.cells (bufA bufZ) 27)).alloc (.cells (bufA bufZ) 27)) := hW4
  have M4 : Hid (OrM w W4 w2.heap.size bufZ bufZ) := by
    show OrM _ _ _ _ _
    have z1 : (w2.alloc (.cells (bufA bufZ) 27)).heap.size = w2.heap.size + 1 := by simp
    rw [hW4]
    refine ⟨(K2.out.alloc _).alloc _, K2.out.size, (Bk.new w2 _ _).alloc _, ?_⟩
    rw [← z1]
    exact Bk.new _ _ _
  have M5 : Hid (OrM w (W4.setRow w2.heap.size (bufA t)) w2.heap.size t bufZ) := M4.out.set3 t
  have M6 : Hid (OrM w ((W4.setRow w2.heap.size (bufA t)).setRow (w2.heap.size + 1) (bufA p)) w2.heap.size t p) := M5.out.set4 p
  clear k1 k2 hW4
  go_wp2_with (first
    | (rw [← HW4.out]; refine wpList_bst rfl rfl rfl (by exact rfl) M4.out.b3 ?_)
    | (refine wpList_bst rfl rfl rfl (by exact rfl) M5.out.b4 ?_))
  clear hz M4 M5 HW4 hmn K2
  generalize w2.heap.size = N at *
  go_loopg [6] n (fun gg s6 wr => ∃ i t p, i ≤ n ∧ gg = n - i ∧ s6 = .int .i64 i ∧ Hid (O1 L i t p) ∧ Hid (OrM w wr N t p))
  case atStart => exact ⟨0, t, p, Nat.zero_le _, rfl, rfl, HP0, M6⟩
  case round =>
    obtain ⟨i, t, p, hin, hg, rfl, HP, HM⟩ := hrel
    have HI : Hid (i ≤ n) := hin
    have HG : Hid (gk = n - i) := hg
    clear HP0 M6 hg hin
    rcases Nat.lt_or_ge i n with hlt | hge
    · have b1 : (i : Int) < (n : Int) := nat_lt hlt
      have hi20 : i < 20 := by have := HN.out; omega
      have hiL : i < L.length := by have := HN.out; omega
      obtain ⟨o, ho⟩ : ∃ o, L[i]? = some o := ⟨_, List.getElem?_eq_getElem hiL⟩
      obtain ⟨g, off, hae, hoa⟩ := rd_ops HR.out (Nat.lt_of_le_of_lt (Nat.zero_le _) hiL)
      subst hae
      have HOA : Hid (OpAt wr g (off + i * 3) o) := (hoa i o ho).on HM.out.on
      have he := op_in o (i := i) (Nat.le_trans (Nat.le_of_lt hi20) (by decide))
      have HP2 : Hid (O1 L (i + 1) (putB t _ he) (putB p _ he)) := HP.out.step hi20 ho he
      have had := loc3_is o.l
      have hov : wrap64 ((i : Int) + 1) = ((i + 1 : Nat) : Int) := wrapN (Nat.le_trans (Nat.le_of_lt hi20) (by decide))
      have c1 := fun W => put_is t (loc3 o.l) o.v i he W
      have c2 := fun W => put_is p (loc3 o.l) o.v i he W
      have HO0 : Hid (OpAt w g (off + i * 3) o) := hoa i o ho
      have d1 : (i : Int) < (L.length : Int) := nat_lt hiL
      have d2 : decide ((i : Int) < 0) = false := nat_nn i
      have d4 : (0 : Int) ≤ (i : Int) := nat_0 i
      have HL : Hid (i < n) := hlt
      generalize putB t _ he = tt at *
      generalize putB p _ he = pp at *
      generalize loc3 o.l = q at *
      clear he hiL hi20 hlt HP hoa ho
      go_wp2
      have S0 : On wr wr.drew := (On.refl wr).drew
      refine region_fz (fun W => On wr W) [14] 15 (by kernel_rfl) rfl ?_
      refine fz_take 0 (v := .agg (bufA t)) rfl (by kernel_rfl) (by kernel_rfl) (by kernel_rfl) (by kernel_rfl) (fun _ _ _ h => h) rfl (fun W hW => exec_bld rfl rfl (HM.out.b3.on hW)) S0 ?_
      simp only [Act.put, List.setIfInBounds_toArray, List.set_cons_zero, List.set_cons_succ]
      refine fz_take 1 (v := ?_) rfl (by kernel_rfl) (by kernel_rfl) (by kernel_rfl) (by kernel_rfl) (fun _ _ _ h => h) rfl ?_ S0 ?_
      rotate_left
      · intro W hW
        have fo := HOA.out.on hW
        have f1 := fo.l
        have f2 := fo.v
        have fl := fo.lt
        go_simp
        (try with_reducible rfl)
      simp only [Act.put, List.setIfInBounds_toArray, List.set_cons_zero, List.set_cons_succ]
      refine fz_take 2 (v := ?_) rfl (by kernel_rfl) (by kernel_rfl) (by kernel_rfl) (by kernel_rfl) (fun _ _ _ h => h) rfl ?_ S0 ?_
      rotate_left
      · intro W hW
        have fo := HOA.out.on hW
        have f1 := fo.l
        have f2 := fo.v
        have fl := fo.lt
        go_simp
        (try with_reducible rfl)
      simp only [Act.put, List.setIfInBounds_toArray, List.set_cons_zero, List.set_cons_succ]
      refine fz_take 3 (v := ?_) rfl (by kernel_rfl) (by kernel_rfl) (by kernel_rfl) (by kernel_rfl) (fun _ _ _ h => h) rfl ?_ S0 ?_
      rotate_left
      · intro W hW
        have fo := HOA.out.on hW
        have f1 := fo.l
        have f2 := fo.v
        have fl := fo.lt
        go_simp
        (try with_reducible rfl)
      simp only [Act.put, List.setIfInBounds_toArray, List.set_cons_zero, List.set_cons_succ]
      refine fz_take 4 (v := ?_) rfl (by kernel_rfl) (by kernel_rfl) (by kernel_rfl) (by kernel_rfl) (fun _ _ _ h => h) rfl ?_ S0 ?_
      rotate_left
      · intro W hW
        have fo := HOA.out.on hW
        have f1 := fo.l
        have f2 := fo.v
        have fl := fo.lt
        go_simp
        (try with_reducible rfl)
      simp only [Act.put, List.setIfInBounds_toArray, List.set_cons_zero, List.set_cons_succ]
      refine fz_take 5 (v := ?_) rfl (by kernel_rfl) (by kernel_rfl) (by kernel_rfl) (by kernel_rfl) (fun _ _ _ h => h) rfl ?_ S0 ?_
      rotate_left
      · intro W hW
        have fo := HOA.out.on hW
        have f1 := fo.l
        have f2 := fo.v
        have fl := fo.lt
        go_simp
        (try with_reducible rfl)
      simp only [Act.put, List.setIfInBounds_toArray, List.set_cons_zero, List.set_cons_succ]
      refine fz_take 6 (v := ?_) rfl (by kernel_rfl) (by kernel_rfl) (by kernel_rfl) (by kernel_rfl) (fun _ _ _ h => h) rfl ?_ S0 ?_
      rotate_left
      · intro W hW
        have fo := HOA.out.on hW
        have f1 := fo.l
        have f2 := fo.v
        have fl := fo.lt
        go_simp
        (try with_reducible rfl)
      simp only [Act.put, List.setIfInBounds_toArray, List.set_cons_zero, List.set_cons_succ]
      refine fz_take 7 (v := ?_) rfl (by kernel_rfl) (by kernel_rfl) (by kernel_rfl) (by kernel_rfl) (fun _ _ _ h => h) rfl ?_ S0 ?_
      rotate_left
      · intro W hW
        have fo := HOA.out.on hW
        have f1 := fo.l
        have f2 := fo.v
        have fl := fo.lt
        go_simp
        (try with_reducible rfl)
      simp only [Act.put, List.setIfInBounds_toArray, List.set_cons_zero, List.set_cons_succ]
      refine fz_take 8 (v := ?_) rfl (by kernel_rfl) (by kernel_rfl) (by kernel_rfl) (by kernel_rfl) (fun _ _ _ h => h) rfl ?_ S0 ?_
      rotate_left
      · intro W hW
        have fo := HOA.out.on hW
        have f1 := fo.l
        have f2 := fo.v
        have fl := fo.lt
        go_simp
        (try with_reducible rfl)
      simp only [Act.put, List.setIfInBounds_toArray, List.set_cons_zero, List.set_cons_succ]
      refine fz_take 9 (v := ?_) rfl (by kernel_rfl) (by kernel_rfl) (by kernel_rfl) (by kernel_rfl) (fun _ _ _ h => h) rfl ?_ S0 ?_
      rotate_left
      · intro W hW
        have fo := HOA.out.on hW
        have f1 := fo.l
        have f2 := fo.v
        have fl := fo.lt
        go_simp
        (try with_reducible rfl)
      simp only [Act.put, List.setIfInBounds_toArray, List.set_cons_zero, List.set_cons_succ]
      refine fz_take 10 (v := ?_) rfl (by kernel_rfl) (by kernel_rfl) (by kernel_rfl) (by kernel_rfl) (fun _ _ _ h => h) rfl ?_ S0 ?_
      rotate_left
      · intro W hW
        have fo := HOA.out.on hW
        have f1 := fo.l
        have f2 := fo.v
        have fl := fo.lt
        go_simp
        (try with_reducible rfl)
      simp only [Act.put, List.setIfInBounds_toArray, List.set_cons_zero, List.set_cons_succ]
      refine fz_take 11 (v := ?_) rfl (by kernel_rfl) (by kernel_rfl) (by kernel_rfl) (by kernel_rfl) (fun _ _ _ h => h) rfl ?_ S0 ?_
      rotate_left
      · intro W hW
        have fo := HOA.out.on hW
        have f1 := fo.l
        have f2 := fo.v
        have fl := fo.lt
        go_simp
        (try with_reducible rfl)
      simp only [Act.put, List.setIfInBounds_toArray, List.set_cons_zero, List.set_cons_succ]
      refine fz_take 12 (v := ?_) rfl (by kernel_rfl) (by kernel_rfl) (by kernel_rfl) (by kernel_rfl) (fun _ _ _ h => h) rfl ?_ S0 ?_
      rotate_left
      · intro W hW
        have fo := HOA.out.on hW
        have f1 := fo.l
        have f2 := fo.v
        have fl := fo.lt
        go_simp
        (try with_reducible rfl)
      simp only [Act.put, List.setIfInBounds_toArray, List.set_cons_zero, List.set_cons_succ]
      refine fz_one 13 rfl rfl (by kernel_rfl) (fun K hK => ?_)
      go_simp
      refine (c1 _).mono ?_
      rintro _ w5 ⟨rfl, k5⟩
      have S5 : On wr w5 := S0.trans k5
      refine hK.out _ _ (fun _ => S5) ?_
      clear hK k5
      refine fz_one 14 rfl rfl (by kernel_rfl) (fun K hK => ?_)
      refine wp_bst rfl rfl rfl (HM.out.b3.on S5) ?_
      refine hK.out _ _ (fun hq => (hq (by simp)).elim) ?_
      clear hK
      have M6 : Hid (OrM w (w5.setRow N (bufA tt)) N tt p) := (HM.out.go S5).set3 tt
      clear S5 S0 c1
      refine fz_done (by kernel_rfl) (NoPanic.normal ?_)
      have HOB : Hid (OpAt (w5.setRow N (bufA tt)) g (off + i * 3) o) := HO0.out.on M6.out.on
      go_wp2
      have S0 : On (w5.setRow N (bufA tt)) (w5.setRow N (bufA tt)).drew := (On.refl _).drew
      refine region_fz (fun W => On (w5.setRow N (bufA tt)) W) [14] 15 (by kernel_rfl) rfl ?_
      refine fz_take 0 (v := .agg (bufA p)) rfl (by kernel_rfl) (by kernel_rfl) (by kernel_rfl) (by kernel_rfl) (fun _ _ _ h => h) rfl (fun W hW => exec_bld rfl rfl (M6.out.b4.on hW)) S0 ?_
      simp only [Act.put, List.setIfInBounds_toArray, List.set_cons_zero, List.set_cons_succ]
      refine fz_take 1 (v := ?_) rfl (by kernel_rfl) (by kernel_rfl) (by kernel_rfl) (by kernel_rfl) (fun _ _ _ h => h) rfl ?_ S0 ?_
      rotate_left
      · intro W hW
        have fo := HOB.out.on hW
        have f1 := fo.l
        have f2 := fo.v
        have fl := fo.lt
        go_simp
        (try with_reducible rfl)
      simp only [Act.put, List.setIfInBounds_toArray, List.set_cons_zero, List.set_cons_succ]
      refine fz_take 2 (v := ?_) rfl (by kernel_rfl) (by kernel_rfl) (by kernel_rfl) (by kernel_rfl) (fun _ _ _ h => h) rfl ?_ S0 ?_
      rotate_left
      · intro W hW
        have fo := HOB.out.on hW
        have f1 := fo.l
        have f2 := fo.v
        have fl := fo.lt
        go_simp
        (try with_reducible rfl)
      simp only [Act.put, List.setIfInBounds_toArray, List.set_cons_zero, List.set_cons_succ]
      refine fz_take 3 (v := ?_) rfl (by kernel_rfl) (by kernel_rfl) (by kernel_rfl) (by kernel_rfl) (fun _ _ _ h => h) rfl ?_ S0 ?_
      rotate_left
      · intro W hW
        have fo := HOB.out.on hW
        have f1 := fo.l
        have f2 := fo.v
        have fl := fo.lt
        go_simp
        (try with_reducible rfl)
      simp only [Act.put, List.setIfInBounds_toArray, List.set_cons_zero, List.set_cons_succ]
      refine fz_take 4 (v := ?_) rfl (by kernel_rfl) (by kernel_rfl) (by kernel_rfl) (by kernel_rfl) (fun _ _ _ h => h) rfl ?_ S0 ?_
      rotate_left
      · intro W hW
        have fo := HOB.out.on hW
        have f1 := fo.l
        have f2 := fo.v
        have fl := fo.lt
        go_simp
        (try with_reducible rfl)
      simp only [Act.put, List.setIfInBounds_toArray, List.set_cons_zero, List.set_cons_succ]
      refine fz_take 5 (v := ?_) rfl (by kernel_rfl) (by kernel_rfl) (by kernel_rfl) (by kernel_rfl) (fun _ _ _ h => h) rfl ?_ S0 ?_
      rotate_left
      · intro W hW
        have fo := HOB.out.on hW
        have f1 := fo.l
        have f2 := fo.v
        have fl := fo.lt
        go_simp
        (try with_reducible rfl)
      simp only [Act.put, List.setIfInBounds_toArray, List.set_cons_zero, List.set_cons_succ]
      refine fz_take 6 (v := ?_) rfl (by kernel_rfl) (by kernel_rfl) (by kernel_rfl) (by kernel_rfl) (fun _ _ _ h => h) rfl ?_ S0 ?_
      rotate_left
      · intro W hW
        have fo := HOB.out.on hW
        have f1 := fo.l
        have f2 := fo.v
        have fl := fo.lt
        go_simp
        (try with_reducible rfl)
      simp only [Act.put, List.setIfInBounds_toArray, List.set_cons_zero, List.set_cons_succ]
      refine fz_take 7 (v := ?_) rfl (by kernel_rfl) (by kernel_rfl) (by kernel_rfl) (by kernel_rfl) (fun _ _ _ h => h) rfl ?_ S0 ?_
      rotate_left
      · intro W hW
        have fo := HOB.out.on hW
        have f1 := fo.l
        have f2 := fo.v
        have fl := fo.lt
        go_simp
        (try with_reducible rfl)
      simp only [Act.put, List.setIfInBounds_toArray, List.set_cons_zero, List.set_cons_succ]
      refine fz_take 8 (v := ?_) rfl (by kernel_rfl) (by kernel_rfl) (by kernel_rfl) (by kernel_rfl) (fun _ _ _ h => h) rfl ?_ S0 ?_
      rotate_left
      · intro W hW
        have fo := HOB.out.on hW
        have f1 := fo.l
        have f2 := fo.v
        have fl := fo.lt
        go_simp
        (try with_reducible rfl)
      simp only [Act.put, List.setIfInBounds_toArray, List.set_cons_zero, List.set_cons_succ]
      refine fz_take 9 (v := ?_) rfl (by kernel_rfl) (by kernel_rfl) (by kernel_rfl) (by kernel_rfl) (fun _ _ _ h => h) rfl ?_ S0 ?_
      rotate_left
      · intro W hW
        have fo := HOB.out.on hW
        have f1 := fo.l
        have f2 := fo.v
        have fl := fo.lt
        go_simp
        (try with_reducible rfl)
      simp only [Act.put, List.setIfInBounds_toArray, List.set_cons_zero, List.set_cons_succ]
      refine fz_take 10 (v := ?_) rfl (by kernel_rfl) (by kernel_rfl) (by kernel_rfl) (by kernel_rfl) (fun _ _ _ h => h) rfl ?_ S0 ?_
      rotate_left
      · intro W hW
        have fo := HOB.out.on hW
        have f1 := fo.l
        have f2 := fo.v
        have fl := fo.lt
        go_simp
        (try with_reducible rfl)
      simp only [Act.put, List.setIfInBounds_toArray, List.set_cons_zero, List.set_cons_succ]
      refine fz_take 11 (v := ?_) rfl (by kernel_rfl) (by kernel_rfl) (by kernel_rfl) (by kernel_rfl) (fun _ _ _ h => h) rfl ?_ S0 ?_
      rotate_left
      · intro W hW
        have fo := HOB.out.on hW
        have f1 := fo.l
        have f2 := fo.v
        have fl := fo.lt
        go_simp
        (try with_reducible rfl)
      simp only [Act.put, List.setIfInBounds_toArray, List.set_cons_zero, List.set_cons_succ]
      refine fz_take 12 (v := ?_) rfl (by kernel_rfl) (by kernel_rfl) (by kernel_rfl) (by kernel_rfl) (fun _ _ _ h => h) rfl ?_ S0 ?_
      rotate_left
      · intro W hW
        have fo := HOB.out.on hW
        have f1 := fo.l
        have f2 := fo.v
        have fl := fo.lt
        go_simp
        (try with_reducible rfl)
      simp only [Act.put, List.setIfInBounds_toArray, List.set_cons_zero, List.set_cons_succ]
      refine fz_one 13 rfl rfl (by kernel_rfl) (fun K hK => ?_)
      go_simp
      refine (c2 _).mono ?_
      rintro _ w6 ⟨rfl, k5⟩
      have S5 : On (w5.setRow N (bufA tt)) w6 := S0.trans k5
      refine hK.out _ _ (fun _ => S5) ?_
      clear hK k5
      refine fz_one 14 rfl rfl (by kernel_rfl) (fun K hK => ?_)
      refine wp_bst rfl rfl rfl (M6.out.b4.on S5) ?_
      refine hK.out _ _ (fun hq => (hq (by simp)).elim) ?_
      clear hK
      have M7 : Hid (OrM w (w6.setRow (N + 1) (bufA pp)) N tt pp) := (M6.out.go S5).set4 pp
      clear S5 S0 c2
      refine fz_done (by kernel_rfl) (NoPanic.normal ?_)
      go_wp2
      go_roundg (n - (i + 1))
      case measure => have := HL.out; have := HG.out; omega
      case rel => exact ⟨i + 1, tt, pp, HL.out, rfl, by go_num, HP2, M7⟩
    · obtain rfl : i = n := by have := HI.out; omega
      have b1 : decide (i < i) = false := decide_eq_false (by omega)
      have HQ : Hid (O2 L 0 t) := O2.zero HP.out HN.out
      have HQ3 : Hid (O3 L 0 0 p) := O3.zero HP.out HN.out
      clear HI HG hge HP
      go_wp2
      clear b1
      go_loopg [7] i (fun gg s7 wq => ∃ j t, j ≤ i ∧ gg = i - j ∧ s7 = .int .i64 j ∧ Hid (O2 L j t) ∧ Hid (OrM w wq N t p))
      case atStart => exact ⟨0, t, Nat.zero_le _, rfl, rfl, HQ, HM⟩
      case round =>
        obtain ⟨j, t, hin, hg, rfl, HP, HM⟩ := hrel
        have HI : Hid (j ≤ i) := hin
        have HG : Hid (gk = i - j) := hg
        clear hg hin HQ
        rcases Nat.lt_or_ge j i with hlt | hge
        · have b1 : (j : Int) < (i : Int) := nat_lt hlt
          have hi20 : j < 20 := by have := HN.out; omega
          have hiL : j < L.length := by have := HN.out; omega
          obtain ⟨o, ho⟩ : ∃ o, L[j]? = some o := ⟨_, List.getElem?_eq_getElem hiL⟩
          obtain ⟨g, off, hae, hoa⟩ := rd_ops HR.out (Nat.lt_of_le_of_lt (Nat.zero_le _) hiL)
          subst hae
          have HO0 : Hid (OpAt w g (off + j * 3) o) := hoa j o ho
          have c1 := fun W => oldest_some (HP.out.old hi20 ho) W
          have c2 := fun W => drop_is t 0 W
          have HP2 : Hid (O2 L (j + 1) (dropB t 0)) := HP.out.step hi20 ho
          have had := loc3_is o.l
          have hov : wrap64 ((j : Int) + 1) = ((j + 1 : Nat) : Int) := wrapN (Nat.le_trans (Nat.le_of_lt hi20) (by decide))
          have d1 : (j : Int) < (L.length : Int) := nat_lt hiL
          have d2 : decide ((j : Int) < 0) = false := nat_nn j
          have d4 : (0 : Int) ≤ (j : Int) := nat_0 j
          have HL : Hid (j < i) := hlt
          generalize dropB t 0 = tt at *
          generalize loc3 o.l = q at *
          clear hiL hi20 hlt HP hoa ho
          go_wp2_with (refine wpList_bld rfl rfl rfl HM.out.b3 ?_)
          refine (c1 _).mono ?_
          rintro _ w5 ⟨rfl, k5⟩
          have M5 : Hid (OrM w w5 N t p) := HM.out.go k5
          have ho5 := HO0.out.on M5.out.on
          have f1 := ho5.l
          have f2 := ho5.v
          have fl := ho5.lt
          clear k5 c1 ho5
          go_wp2_with (refine wpList_bld rfl rfl rfl M5.out.b3 ?_)
          refine (c2 _).mono ?_
          rintro _ w6 ⟨rfl, k6⟩
          have M6 : Hid (OrM w w6 N t p) := M5.out.go k6
          have M7 : Hid (OrM w (w6.setRow N (bufA tt)) N tt p) := M6.out.set3 tt
          clear k6 c2 f1 f2 fl
          go_wp2_with (refine wpList_bst rfl rfl rfl (by exact rfl) M6.out.b3 ?_)
          go_roundg (i - (j + 1))
          case measure => have := HL.out; have := HG.out; omega
          case rel => exact ⟨j + 1, tt, HL.out, rfl, by go_num, HP2, M7⟩
        · obtain rfl : j = i := by have := HI.out; omega
          have b1 : decide (j < j) = false := decide_eq_false (by omega)
          have HT0 : Hid (t.l.length = 0 ∧ (dropB t 0).l.length = 0) := HP.out.nil HN.out
          clear HI HG hge HP
          go_wp2
          clear b1
          go_loopg [12] 4 (fun gg s12 wq => ∃ c p, c ≤ 4 ∧ gg = 4 - c ∧ s12 = .int .i64 (c : Nat) ∧ Hid (O3 L c 0 p) ∧ Hid (OrM w wq N t p))
          case atStart => exact ⟨0, p, Nat.zero_le _, rfl, rfl, HQ3, HM⟩
          case round =>
            obtain ⟨c, p, hin, hg, rfl, HP, HM⟩ := hrel
            have HI : Hid (c ≤ 4) := hin
            have HG : Hid (gk = 4 - c) := hg
            clear hg hin HQ3
            rcases Nat.lt_or_ge c 4 with hlt | hge
            · have b1 : (c : Int) < 4 := by omega
              have hov : wrap64 ((c : Int) + 1) = ((c + 1 : Nat) : Int) := wrapN (Nat.le_trans (Nat.le_of_lt hlt) (by decide))
              have HL : Hid (c < 4) := hlt
              clear hlt
              go_wp2
              go_loopg [13] j (fun gg s13 wq => ∃ k p, k ≤ j ∧ gg = j - k ∧ s13 = .int .i64 (k : Nat) ∧ Hid (O3 L c k p) ∧ Hid (OrM w wq N t p))
              case atStart => exact ⟨0, p, Nat.zero_le _, rfl, rfl, HP, HM⟩
              case round =>
                obtain ⟨k, p, hin, hg, rfl, HP, HM⟩ := hrel
                have HI : Hid (k ≤ j) := hin
                have HG2 : Hid (gk = j - k) := hg
                clear hg hin
                rcases Nat.lt_or_ge k j with hlt | hge
                · have b2 : (k : Int) < (j : Int) := nat_lt hlt
                  have hi20 : k < 20 := by have := HN.out; omega
                  have hiL : k < L.length := by have := HN.out; omega
                  obtain ⟨o, ho⟩ : ∃ o, L[k]? = some o := ⟨_, List.getElem?_eq_getElem hiL⟩
                  obtain ⟨g, off, hae, hoa⟩ := rd_ops HR.out (Nat.lt_of_le_of_lt (Nat.zero_le _) hiL)
                  subst hae
                  have HO0 : Hid (OpAt w g (off + k * 3) o) := hoa k o ho
                  have ho5 := HO0.out.on HM.out.on
                  have f1 := ho5.l
                  have f2 := ho5.v
                  have fl := ho5.lt
                  have had := loc3_is o.l
                  obtain ⟨k1, hk1⟩ : ∃ k1, k1 = k + 1 := ⟨_, rfl⟩
                  have hov2 : wrap64 ((k : Int) + 1) = (k1 : Int) := wrapM (Nat.le_trans (Nat.le_of_lt hi20) (by decide)) hk1
                  have HK1 : Hid (k1 = k + 1) := hk1
                  have d1 : (k : Int) < (L.length : Int) := nat_lt hiL
                  have d2 : decide ((k : Int) < 0) = false := nat_nn k
                  have d4 : (0 : Int) ≤ (k : Int) := nat_0 k
                  have HL2 : Hid (k < j) := hlt
                  by_cases hqc : loc3 o.l = c
                  · have c1 := fun W => oldest_some (HP.out.old hi20 ho hqc) W
                    have c2 := fun W => drop_is p c W
                    have HP2 : Hid (O3 L c k1 (dropB p c)) := by show O3 _ _ _ _; rw [hk1]; exact HP.out.step hi20 ho hqc
                    rw [hqc] at had
                    generalize dropB p c = pp at *
                    clear hiL hi20 hlt HP hoa ho hk1 hqc ho5 hov
                    go_wp2_with (refine wpList_bld rfl rfl rfl HM.out.b4 ?_)
                    refine (c1 _).mono ?_
                    rintro _ w5 ⟨rfl, k5⟩
                    have M5 : Hid (OrM w w5 N t p) := HM.out.go k5
                    have ho5 := HO0.out.on M5.out.on
                    clear f1 f2 fl
                    have f1 := ho5.l
                    have f2 := ho5.v
                    have fl := ho5.lt
                    clear k5 c1 ho5
                    go_wp2_with (refine wpList_bld rfl rfl rfl M5.out.b4 ?_)
                    refine (c2 _).mono ?_
                    rintro _ w6 ⟨rfl, k6⟩
                    have M6 : Hid (OrM w w6 N t p) := M5.out.go k6
                    have M7 : Hid (OrM w (w6.setRow (N + 1) (bufA pp)) N t pp) := M6.out.set4 pp
                    clear k6 c2 f1 f2 fl
                    go_wp2_with (refine wpList_bst rfl rfl rfl (by exact rfl) M6.out.b4 ?_)
                    go_roundg (j - k1)
                    case measure => have := HL2.out; have := HG2.out; have := HK1.out; omega
                    case rel => exact ⟨k1, pp, by have := HL2.out; have := HK1.out; omega, rfl, (by first | rfl | exact congrArg (Value.int .i64) hov2), HP2, M7⟩
                  · have hcc : ((loc3 o.l : Int) != (c : Int)) = true := by simp; omega
                    have HP2 : Hid (O3 L c k1 p) := by show O3 _ _ _ _; rw [hk1]; exact HP.out.skip hi20 ho hqc
                    generalize loc3 o.l = q at *
                    clear hiL hi20 hlt HP hoa ho hk1 hqc ho5 hov
                    go_wp2
                    go_roundg (j - k1)
                    case measure => have := HL2.out; have := HG2.out; have := HK1.out; omega
                    case rel => exact ⟨k1, p, by have := HL2.out; have := HK1.out; omega, rfl, (by first | rfl | exact congrArg (Value.int .i64) hov2), HP2, HM⟩
                · obtain rfl : k = j := by have := HI.out; omega
                  have b2 : decide (k < k) = false := decide_eq_false (by omega)
                  have HP2 : Hid (O3 L (c + 1) 0 p) := HP.out.next HN.out
                  clear HI HG2 hge HP
                  go_wp2
                  go_roundg (4 - (c + 1))
                  case measure => have := HL.out; have := HG.out; omega
                  case rel => exact ⟨c + 1, p, HL.out, rfl, by go_num, HP2, HM⟩
            · obtain rfl : c = 4 := by have := HI.out; omega
              have h4 : p.l.length = 0 := HP.out.nil
              have c1 := fun W => empty_nil HT0.out.1 W
              have c2 := fun W => empty_nil h4 W
              have c3 := fun W => drop_is t 0 W
              have c4 := fun W => empty_nil HT0.out.2 W
              generalize dropB t 0 = tt at *
              clear HI HG hge HP h4 HT0
              go_wp2_with (refine wpList_bld rfl rfl rfl HM.out.b3 ?_)
              refine (c1 _).mono ?_
              rintro _ w5 ⟨rfl, k5⟩
              have M5 : Hid (OrM w w5 N t p) := HM.out.go k5
              clear k5 c1
              go_wp2_with (refine wpList_bld rfl rfl rfl M5.out.b4 ?_)
              refine (c2 _).mono ?_
              rintro _ w6 ⟨rfl, k6⟩
              have M6 : Hid (OrM w w6 N t p) := M5.out.go k6
              clear k6 c2
              go_wp2_with (refine wpList_bld rfl rfl rfl M6.out.b3 ?_)
              refine (c3 _).mono ?_
              rintro _ w7 ⟨rfl, k7⟩
              have K7 : Hid (On w w7) := M6.out.on.trans k7
              clear k7 c3
              go_wp2_with fail
              refine (c4 _).mono ?_
              rintro _ w8 ⟨rfl, k8⟩
              have K8 : Hid (On w w8) := K7.out.trans k8
              clear k8 c4
              go_wp2_with fail
              refine (HA _).mono ?_
              rintro _ w9 ⟨rfl, k9⟩
              have K9 : Hid (On w w9) := K8.out.trans k9
              clear k9
              go_wp2
              go_ret
              exact ⟨rfl, K9.out⟩
end Go.Proofs.Ytnoeofbjnogkmaa
