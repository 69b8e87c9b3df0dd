/- event.ahead, event.PO and the document's PO. -/
import Derived.Test.YtkglmhclpgfngaaEvS
import Derived.Test.YtkglmhclpgfngaaREvU
import Derived.Test.YtkglmhclpgfngaaRelL
import Derived.Test.YtkglmhclpgfngaaJ49RelP
namespace Go.Proofs.Ytkglmhclpgfngaa
open Go.RowKit

def aheadB (a b : EvT) : Bool := if decide (a.t < 0) then decide (0 ≤ b.t) else (a.t == b.t && decide (a.i < b.i))
def poIn (x : EvT) (a : Nat) : Nat → RelT → List EvT → RelT
  | _, r, [] => r
  | b, r, y :: L => poIn x a (b + 1) (if aheadB x y then addR r a b else r) L
def poOut (E : List EvT) : Nat → RelT → List EvT → RelT
  | _, r, [] => r
  | a, r, x :: L => poOut E (a + 1) (poIn x a 0 r E) L
def poR (E : List EvT) : RelT := poOut E 0 (newR E.length) E
theorem poIn_wf (x : EvT) (a : Nat) : ∀ (L : List EvT) (b : Nat) (r : RelT), Wf r → Wf (poIn x a b r L)
  | [], _, _, h => h
  | y :: L, b, r, h => by
    unfold poIn
    split
    · exact poIn_wf x a L _ _ (add_wf h a b)
    · exact poIn_wf x a L _ _ h
theorem poOut_wf (E : List EvT) : ∀ (L : List EvT) (a : Nat) (r : RelT), Wf r → Wf (poOut E a r L)
  | [], _, _, h => h
  | x :: L, a, r, h => poOut_wf E L _ _ (poIn_wf x a E 0 r h)
theorem po_wf (E : List EvT) : Wf (poR E) := poOut_wf E E 0 _ (new_wf _)
set_option maxHeartbeats 1000000 in
theorem ahead_is (a b : EvT) (w : World) : Calls Try.prog 39 #[evV a, evV b] w fun e w' => e = .returned (.bool (aheadB a b)) ∧ On w w' := by
  obtain ⟨at', ai, ak, al, ar, aw⟩ := a
  obtain ⟨bt, bi, bk, bl, br, bw⟩ := b
  unfold evV aheadB
  simp only
  by_cases h : at' < 0
  · have h' : decide (at' < 0) = true := by simp [h]
    rw [h']
    simp only [if_true]
    go_enter Try.func39, Try.ntmps39
    go_wp2
    go_ret
    exact ⟨rfl, ((On.refl w).alloc _).alloc _⟩
  · have h' : decide (at' < 0) = false := by simp [h]
    rw [h']
    simp only [Bool.false_eq_true, if_false]
    cases h2 : (at' == bt)
    all_goals
      go_enter Try.func39, Try.ntmps39
      go_wp2
      go_ret
      exact ⟨rfl, ((On.refl w).alloc _).alloc _⟩
set_option maxHeartbeats 1000000 in
theorem po_big (E : List EvT) (a : Option Addr) (c : Nat) (w : World) (hm : E.length ≤ 9223372036854775807) (hb : 64 < E.length) : Calls Try.prog 22 #[.slice a E.length c] w fun e w' => e = .returned (.agg (relA (newR 0))) ∧ On w w' := by
  obtain ⟨hz, _⟩ := zero_of_info rel_info
  have hN := fun W => new_is 0 W
  have hng : decide ((64 : Int) < (E.length : Int)) = true := by simp; omega
  generalize newR 0 = Z at *
  clear hb
  have g2 : Bk (w.alloc (.cells (relA zeroR) 54)) w.heap.size (relA zeroR) := Bk.new w _ _
  have k0 := (On.refl w).alloc (.cells (relA zeroR) 54)
  go_enter Try.func22, Try.ntmps22
  go_wp2_with fail
  refine (hN _).mono ?_
  rintro _ w1 ⟨rfl, k1⟩
  have B2 := g2.on k1
  go_wp2_with (refine wpList_st rfl rfl rfl rfl B2 ?_)
  refine bodyPost_ret (v := .agg (relA Z)) ?_ rfl ⟨rfl, (k0.trans k1).row (Nat.le_refl _) _⟩
  exact ret65 rfl rfl (B2.row _)
set_option maxHeartbeats 4000000 in
set_option maxRecDepth 8000 in
theorem po_is (E : List EvT) (a : Option Addr) (c : Nat) (w : World) (h : Rd evC 6 w (.slice a E.length c) E) (hb : E.length ≤ 64) : Calls Try.prog 22 #[.slice a E.length c] w fun e w' => e = .returned (.agg (relA (poR E))) ∧ On w w' := by
  obtain ⟨hz, _⟩ := zero_of_info rel_info
  have hN := fun W => new_is (E.length : Int) W
  have HR : Hid (Rd evC 6 w (.slice a E.length c) E) := h
  clear h
  have hng : decide ((64 : Int) < (E.length : Int)) = false := by simp; omega
  obtain ⟨U, hU⟩ : ∃ U, U = poR E := ⟨_, rfl⟩
  rw [← hU]
  have HU : Hid (U = poOut E 0 (newR E.length) (E.drop 0)) := hU
  have HW0 : Hid (Wf (newR E.length)) := new_wf _
  have hn0 : (newR E.length).n = E.length := by rw [new_n]; omega
  clear hU
  generalize newR (E.length : Int) = Z at *
  have g2 : Bk (w.alloc (.cells (relA zeroR) 54)) w.heap.size (relA zeroR) := Bk.new w _ _
  have k0 := (On.refl w).alloc (.cells (relA zeroR) 54)
  go_enter Try.func22, Try.ntmps22
  go_wp2_with fail
  refine (hN _).mono ?_
  rintro _ w1 ⟨rfl, k1⟩
  have hs1 : w.heap.size + 1 ≤ w1.heap.size := by have := k1.size; rwa [World.size_alloc] at this
  have B3 := Bk.new w1 (relA zeroR) 54
  obtain ⟨W6, hW6⟩ : ∃ W6, W6 = (w1.alloc (.cells (relA zeroR) 54)).setRow w1.heap.size (relA Z) := ⟨_, rfl⟩
  have C2 : Bk W6 w.heap.size (relA zeroR) := by rw [hW6]; exact ((g2.on k1).alloc _).rowFar (by omega) _
  have C3 : Bk W6 w1.heap.size (relA Z) := by rw [hW6]; exact B3.row _
  have K6 : On w W6 := by rw [hW6]; exact ((k0.trans k1).alloc _).row (by omega) _
  clear g2 k0 k1 hN
  go_wp2_with (refine wpList_st rfl rfl rfl rfl B3 ?_; rw [← hW6]; clear B3 hW6)
  go_loopg [15] E.length (fun gg s15 wq => ∃ (i : Nat) (r : RelT), i ≤ E.length ∧ gg = E.length - i ∧ s15 = .int .i64 i ∧ Hid (On w wq) ∧ Bk wq w.heap.size (relA zeroR) ∧ Bk wq w1.heap.size (relA r) ∧ Hid (Wf r) ∧ r.n = E.length ∧ Hid (U = poOut E i r (E.drop i)))
  case atStart => exact ⟨0, Z, Nat.zero_le _, rfl, rfl, K6, C2, C3, HW0, hn0, HU⟩
  case round =>
    clear C2 C3 K6 HU HW0 hn0
    obtain ⟨i, r, hi, hk, rfl, HO, C2, C3, HW0, hrn, HU⟩ := hrel
    rcases Nat.lt_or_ge i E.length with hlt | hge
    · obtain ⟨x, hx, hdr⟩ := drop_cons hlt
      obtain ⟨I, hI⟩ : ∃ I, I = poIn x i 0 r E := ⟨_, rfl⟩
      have HI : Hid (I = poIn x i 0 r (E.drop 0)) := hI
      have HIW : Hid (Wf I) := by rw [hI]; exact poIn_wf x i E 0 r HW0.out
      have HU2 : Hid (U = poOut E (i + 1) I (E.drop (i + 1))) := by
        show U = _
        rw [HU.out, hdr, hI]
        rfl
      have HXX : Hid (E[i]? = some x) := hx
      clear hI hdr hx HU
      go_wp2
      go_loopg [20] E.length (fun gg s20 wq => ∃ (j : Nat) (r : RelT), j ≤ E.length ∧ gg = E.length - j ∧ s20 = .int .i64 j ∧ Hid (On w wq) ∧ Bk wq w.heap.size (relA zeroR) ∧ Bk wq w1.heap.size (relA r) ∧ Hid (Wf r) ∧ r.n = E.length ∧ Hid (I = poIn x i j r (E.drop j)))
      case atStart => exact ⟨0, r, Nat.zero_le _, rfl, rfl, HO, C2, C3, HW0, hrn, HI⟩
      case round =>
        clear C2 C3 HI HO HW0 hrn
        obtain ⟨j, r, hj, hkj, rfl, HO, C2, C3, HW0, hrn, HI⟩ := hrel
        rcases Nat.lt_or_ge j E.length with hlj | hgj
        · obtain ⟨y, hy, hdr⟩ := drop_cons hlj
          obtain ⟨g, off, rfl, hg, p0, p1, p2, p3, p4, p5⟩ := rd_ev (HR.out.on HO.out) HXX.out
          obtain ⟨g', off', hge', _, q0, q1, q2, q3, q4, q5⟩ := rd_ev (HR.out.on HO.out) hy
          simp only [Option.some.injEq, Addr.mk.injEq, and_true] at hge'
          obtain ⟨rfl, rfl⟩ := hge'
          have hAh := fun W => ahead_is x y W
          unfold evV at hAh
          have bi0 : (0 : Int) ≤ (i : Int) := by omega
          have bi1 : (i : Int) < (E.length : Int) := by omega
          have bj0 : (0 : Int) ≤ (j : Int) := by omega
          have bj1 : (j : Int) < (E.length : Int) := by omega
          cases hab : aheadB x y with
          | false =>
            have HI2 : Hid (I = poIn x i (j + 1) r (E.drop (j + 1))) := by
              show I = _
              rw [HI.out, hdr, poIn, hab]
              rfl
            rw [hab] at hAh
            clear hy hdr HI hab
            have hon : ∀ W W', On wr W → On W W' → On wr W' := fun W W' h k => h.trans k
            have K0 : On wr wr.drew := On.drew (On.refl wr)
            go_upto_region 10 with fail
            refine region_fin (fun W => On wr W) 99 9 (by kernel_rfl) rfl ?_
            refine fin_take 0 (v := ?_) rfl (by kernel_rfl) (by kernel_rfl) (by kernel_rfl) (by kernel_rfl) (fun _ _ _ h => h) rfl ?_ K0 ?_
            rotate_left
            · intro W hW
              go_simp
              (try with_reducible rfl)
            simp only [Act.put, List.setIfInBounds_toArray, List.set_cons_zero, List.set_cons_succ]
            refine fin_take 1 (v := ?_) rfl (by kernel_rfl) (by kernel_rfl) (by kernel_rfl) (by kernel_rfl) (fun _ _ _ h => h) rfl ?_ K0 ?_
            rotate_left
            · intro W hW
              go_simp
              (try with_reducible rfl)
            simp only [Act.put, List.setIfInBounds_toArray, List.set_cons_zero, List.set_cons_succ]
            refine fin_take 2 (v := ?_) rfl (by kernel_rfl) (by kernel_rfl) (by kernel_rfl) (by kernel_rfl) (fun _ _ _ h => h) rfl ?_ K0 ?_
            rotate_left
            · intro W hW
              go_simp
              (try with_reducible rfl)
            simp only [Act.put, List.setIfInBounds_toArray, List.set_cons_zero, List.set_cons_succ]
            refine fin_take 3 (v := ?_) rfl (by kernel_rfl) (by kernel_rfl) (by kernel_rfl) (by kernel_rfl) (fun _ _ _ h => h) rfl ?_ K0 ?_
            rotate_left
            · intro W hW
              have fp0 := (hW.cell (p := ⟨g, off + i * 6, none⟩) hg).trans p0
              have fp1 := (hW.cell (p := ⟨g, off + i * 6 + 1, none⟩) hg).trans p1
              have fp2 := (hW.cell (p := ⟨g, off + i * 6 + 2, none⟩) hg).trans p2
              have fp3 := (hW.cell (p := ⟨g, off + i * 6 + 3, none⟩) hg).trans p3
              have fp4 := (hW.cell (p := ⟨g, off + i * 6 + 4, none⟩) hg).trans p4
              have fp5 := (hW.cell (p := ⟨g, off + i * 6 + 5, none⟩) hg).trans p5
              have fl := Nat.lt_of_lt_of_le hg hW.size
              go_simp
              (try with_reducible rfl)
            simp only [Act.put, List.setIfInBounds_toArray, List.set_cons_zero, List.set_cons_succ]
            refine fin_take 4 (v := ?_) rfl (by kernel_rfl) (by kernel_rfl) (by kernel_rfl) (by kernel_rfl) (fun _ _ _ h => h) rfl ?_ K0 ?_
            rotate_left
            · intro W hW
              go_simp
              (try with_reducible rfl)
            simp only [Act.put, List.setIfInBounds_toArray, List.set_cons_zero, List.set_cons_succ]
            refine fin_take 5 (v := ?_) rfl (by kernel_rfl) (by kernel_rfl) (by kernel_rfl) (by kernel_rfl) (fun _ _ _ h => h) rfl ?_ K0 ?_
            rotate_left
            · intro W hW
              go_simp
              (try with_reducible rfl)
            simp only [Act.put, List.setIfInBounds_toArray, List.set_cons_zero, List.set_cons_succ]
            refine fin_take 6 (v := ?_) rfl (by kernel_rfl) (by kernel_rfl) (by kernel_rfl) (by kernel_rfl) (fun _ _ _ h => h) rfl ?_ K0 ?_
            rotate_left
            · intro W hW
              go_simp
              (try with_reducible rfl)
            simp only [Act.put, List.setIfInBounds_toArray, List.set_cons_zero, List.set_cons_succ]
            refine fin_take 7 (v := ?_) rfl (by kernel_rfl) (by kernel_rfl) (by kernel_rfl) (by kernel_rfl) (fun _ _ _ h => h) rfl ?_ K0 ?_
            rotate_left
            · intro W hW
              have fq0 := (hW.cell (p := ⟨g, off + j * 6, none⟩) hg).trans q0
              have fq1 := (hW.cell (p := ⟨g, off + j * 6 + 1, none⟩) hg).trans q1
              have fq2 := (hW.cell (p := ⟨g, off + j * 6 + 2, none⟩) hg).trans q2
              have fq3 := (hW.cell (p := ⟨g, off + j * 6 + 3, none⟩) hg).trans q3
              have fq4 := (hW.cell (p := ⟨g, off + j * 6 + 4, none⟩) hg).trans q4
              have fq5 := (hW.cell (p := ⟨g, off + j * 6 + 5, none⟩) hg).trans q5
              have fl := Nat.lt_of_lt_of_le hg hW.size
              go_simp
              (try with_reducible rfl)
            simp only [Act.put, List.setIfInBounds_toArray, List.set_cons_zero, List.set_cons_succ]
            refine fin_one 8 rfl rfl (by kernel_rfl) (fun K hK => ?_)
            go_simp
            refine (hAh _).mono ?_
            rintro _ w1 ⟨rfl, kw1⟩
            have Sw1 := hon _ _ K0 kw1
            have Kw1 := K0.trans kw1
            refine hK.out _ _ (fun _ => Sw1) ?_
            clear hK
            refine fin_done (by kernel_rfl) (NoPanic.normal ?_)
            go_wp2
            go_roundg (E.length - (j + 1))
            case measure => omega
            case rel => exact ⟨j + 1, r, by omega, rfl, by go_num, HO.out.trans Kw1, C2.on Kw1, C3.on Kw1, HW0, hrn, HI2⟩
          | true =>
            have HI2 : Hid (I = poIn x i (j + 1) (addR r i j) (E.drop (j + 1))) := by
              show I = _
              rw [HI.out, hdr, poIn, hab]
              rfl
            rw [hab] at hAh
            have hadd := fun W => add_is r HW0.out.wr (i : Int) (j : Int) W
            have HW2 : Hid (Wf (addR r i j)) := add_wf HW0.out i j
            have hn2 : (addR r i j).n = E.length := by rw [add_n]; exact hrn
            clear hy hdr HI hab
            generalize addR r (i : Int) (j : Int) = A at *
            have hon : ∀ W W', On wr W → On W W' → On wr W' := fun W W' h k => h.trans k
            have K0 : On wr wr.drew := On.drew (On.refl wr)
            go_upto_region 10 with fail
            refine region_fin (fun W => On wr W) 99 9 (by kernel_rfl) rfl ?_
            refine fin_take 0 (v := ?_) rfl (by kernel_rfl) (by kernel_rfl) (by kernel_rfl) (by kernel_rfl) (fun _ _ _ h => h) rfl ?_ K0 ?_
            rotate_left
            · intro W hW
              go_simp
              (try with_reducible rfl)
            simp only [Act.put, List.setIfInBounds_toArray, List.set_cons_zero, List.set_cons_succ]
            refine fin_take 1 (v := ?_) rfl (by kernel_rfl) (by kernel_rfl) (by kernel_rfl) (by kernel_rfl) (fun _ _ _ h => h) rfl ?_ K0 ?_
            rotate_left
            · intro W hW
              go_simp
              (try with_reducible rfl)
            simp only [Act.put, List.setIfInBounds_toArray, List.set_cons_zero, List.set_cons_succ]
            refine fin_take 2 (v := ?_) rfl (by kernel_rfl) (by kernel_rfl) (by kernel_rfl) (by kernel_rfl) (fun _ _ _ h => h) rfl ?_ K0 ?_
            rotate_left
            · intro W hW
              go_simp
              (try with_reducible rfl)
            simp only [Act.put, List.setIfInBounds_toArray, List.set_cons_zero, List.set_cons_succ]
            refine fin_take 3 (v := ?_) rfl (by kernel_rfl) (by kernel_rfl) (by kernel_rfl) (by kernel_rfl) (fun _ _ _ h => h) rfl ?_ K0 ?_
            rotate_left
            · intro W hW
              have fp0 := (hW.cell (p := ⟨g, off + i * 6, none⟩) hg).trans p0
              have fp1 := (hW.cell (p := ⟨g, off + i * 6 + 1, none⟩) hg).trans p1
              have fp2 := (hW.cell (p := ⟨g, off + i * 6 + 2, none⟩) hg).trans p2
              have fp3 := (hW.cell (p := ⟨g, off + i * 6 + 3, none⟩) hg).trans p3
              have fp4 := (hW.cell (p := ⟨g, off + i * 6 + 4, none⟩) hg).trans p4
              have fp5 := (hW.cell (p := ⟨g, off + i * 6 + 5, none⟩) hg).trans p5
              have fl := Nat.lt_of_lt_of_le hg hW.size
              go_simp
              (try with_reducible rfl)
            simp only [Act.put, List.setIfInBounds_toArray, List.set_cons_zero, List.set_cons_succ]
            refine fin_take 4 (v := ?_) rfl (by kernel_rfl) (by kernel_rfl) (by kernel_rfl) (by kernel_rfl) (fun _ _ _ h => h) rfl ?_ K0 ?_
            rotate_left
            · intro W hW
              go_simp
              (try with_reducible rfl)
            simp only [Act.put, List.setIfInBounds_toArray, List.set_cons_zero, List.set_cons_succ]
            refine fin_take 5 (v := ?_) rfl (by kernel_rfl) (by kernel_rfl) (by kernel_rfl) (by kernel_rfl) (fun _ _ _ h => h) rfl ?_ K0 ?_
            rotate_left
            · intro W hW
              go_simp
              (try with_reducible rfl)
            simp only [Act.put, List.setIfInBounds_toArray, List.set_cons_zero, List.set_cons_succ]
            refine fin_take 6 (v := ?_) rfl (by kernel_rfl) (by kernel_rfl) (by kernel_rfl) (by kernel_rfl) (fun _ _ _ h => h) rfl ?_ K0 ?_
            rotate_left
            · intro W hW
              go_simp
              (try with_reducible rfl)
            simp only [Act.put, List.setIfInBounds_toArray, List.set_cons_zero, List.set_cons_succ]
            refine fin_take 7 (v := ?_) rfl (by kernel_rfl) (by kernel_rfl) (by kernel_rfl) (by kernel_rfl) (fun _ _ _ h => h) rfl ?_ K0 ?_
            rotate_left
            · intro W hW
              have fq0 := (hW.cell (p := ⟨g, off + j * 6, none⟩) hg).trans q0
              have fq1 := (hW.cell (p := ⟨g, off + j * 6 + 1, none⟩) hg).trans q1
              have fq2 := (hW.cell (p := ⟨g, off + j * 6 + 2, none⟩) hg).trans q2
              have fq3 := (hW.cell (p := ⟨g, off + j * 6 + 3, none⟩) hg).trans q3
              have fq4 := (hW.cell (p := ⟨g, off + j * 6 + 4, none⟩) hg).trans q4
              have fq5 := (hW.cell (p := ⟨g, off + j * 6 + 5, none⟩) hg).trans q5
              have fl := Nat.lt_of_lt_of_le hg hW.size
              go_simp
              (try with_reducible rfl)
            simp only [Act.put, List.setIfInBounds_toArray, List.set_cons_zero, List.set_cons_succ]
            refine fin_one 8 rfl rfl (by kernel_rfl) (fun K hK => ?_)
            go_simp
            refine (hAh _).mono ?_
            rintro _ w1 ⟨rfl, kw1⟩
            have Sw1 := hon _ _ K0 kw1
            have Kw1 := K0.trans kw1
            refine hK.out _ _ (fun _ => Sw1) ?_
            clear hK
            refine fin_done (by kernel_rfl) (NoPanic.normal ?_)
            have D2 := C2.on Kw1
            have D3 := C3.on Kw1
            have KD := HO.out.trans Kw1
            go_wp2_with (refine wpList_ld rfl rfl rfl D3 ?_)
            refine (hadd _).mono ?_
            rintro _ w5 ⟨rfl, k5⟩
            have F2 := D2.on k5
            have F3 := D3.on k5
            have KF := KD.trans k5
            go_wp2_with (refine wpList_st rfl rfl rfl rfl F3 ?_)
            go_roundg (E.length - (j + 1))
            case measure => omega
            case rel => exact ⟨j + 1, A, by omega, rfl, by go_num, KF.row (by omega) _, F2.rowFar (by omega) _, F3.row _, HW2, hn2, HI2⟩
        · obtain rfl : j = E.length := by omega
          obtain rfl : r = I := by rw [HI.out, List.drop_length]; rfl
          go_wp2
          go_roundg (E.length - (i + 1))
          case measure => omega
          case rel => exact ⟨i + 1, r, by omega, rfl, by go_num, HO, C2, C3, HW0, hrn, HU2⟩
    · obtain rfl : i = E.length := by omega
      obtain rfl : r = U := by rw [HU.out, List.drop_length]; rfl
      go_wp2_with (first | refine wpList_ld rfl rfl rfl C3 ?_ | refine wpList_st rfl rfl rfl rfl C2 ?_)
      refine bodyPost_ret (v := .agg (relA r)) ?_ rfl ⟨rfl, HO.out.row (Nat.le_refl _) _⟩
      exact ret65 rfl rfl (C2.row _)
def rposB (x y : EvT) : Bool := (decide (x.t < 0) && decide (0 ≤ y.t)) || ((decide (0 ≤ x.t) && (x.t == y.t)) && decide (x.i < y.i))
theorem rpos_ahead (x y : EvT) : rposB x y = aheadB x y := by
  unfold rposB aheadB
  by_cases h : x.t < 0
  · have h2 : ¬ 0 ≤ x.t := by omega
    simp [h, h2]
  · have h2 : 0 ≤ x.t := by omega
    simp [h, h2]
set_option maxHeartbeats 8000000 in
set_option maxRecDepth 8000 in
theorem rpo_is (E : List EvT) (a : Option Addr) (c : Nat) (w : World) (h : Rd evC 6 w (.slice a E.length c) E) (hb : E.length ≤ 64) : Calls Try.prog 25 #[.slice a E.length c] w fun e w' => e = .returned (.agg (relA (poR E))) ∧ On w w' := by
  obtain ⟨hz, _⟩ := zero_of_info rel_infow
  have hs65 : (relA zeroR).size = 65 := relA_size _
  have hne := rel_ne zeroR
  have HR : Hid (Rd evC 6 w (.slice a E.length c) E) := h
  clear h
  have hng : decide ((64 : Int) < (E.length : Int)) = false := by simp; omega
  obtain ⟨U, hU⟩ : ∃ U, U = poR E := ⟨_, rfl⟩
  rw [← hU]
  have HU : Hid (U = poOut E 0 (newR E.length) (E.drop 0)) := hU
  have HW0 : Hid (Wf (newR E.length)) := new_wf _
  have hn0 : (newR E.length).n = E.length := by rw [new_n]; omega
  have hZ : newR E.length = ⟨E.length, zeroR.f⟩ := by unfold newR zeroR; simp only [Int.toNat_natCast, RelT.mk.injEq, and_true]; omega
  clear hU
  have g2 : Bk ((w.alloc (.cells (relA zeroR) 60)).alloc (.cells (relA zeroR) 60)) w.heap.size (relA zeroR) := (Bk.new w _ _).alloc _
  have g3 : Bk ((w.alloc (.cells (relA zeroR) 60)).alloc (.cells (relA zeroR) 60)) (w.heap.size + 1) (relA zeroR) := by
    have := Bk.new (w.alloc (.cells (relA zeroR) 60)) (relA zeroR) 60
    rwa [World.size_alloc] at this
  have k0 := ((On.refl w).alloc (.cells (relA zeroR) 60)).alloc (.cells (relA zeroR) 60)
  go_enter Try.func25, Try.ntmps25
  obtain ⟨W6, hW6⟩ : ∃ W6, W6 = ((w.alloc (.cells (relA zeroR) 60)).alloc (.cells (relA zeroR) 60)).setRow (w.heap.size + 1) (relA zeroR) := ⟨_, rfl⟩
  have C2 : Bk W6 w.heap.size (relA zeroR) := by rw [hW6]; exact g2.rowFar (by omega) _
  have C3 : Bk W6 (w.heap.size + 1) (relA zeroR) := by rw [hW6]; exact g3.row _
  have K6 : On w W6 := by rw [hW6]; exact k0.row (by omega) _
  clear g2 k0
  have c0 := C3.at (relA_zero zeroR)
  have cf := C3.fr 0
  have cl := C3.lt
  have D2 : Bk (W6.setCell ⟨w.heap.size + 1, 0, none⟩ (.int .i64 E.length)) w.heap.size (relA zeroR) := C2.far (by omega) _ _
  have D3 : Bk (W6.setCell ⟨w.heap.size + 1, 0, none⟩ (.int .i64 E.length)) (w.heap.size + 1) (relA (newR E.length)) := by rw [hZ]; exact C3.setN0 E.length
  have K7 : On w (W6.setCell ⟨w.heap.size + 1, 0, none⟩ (.int .i64 E.length)) := K6.setNew (by omega) _
  clear C2 C3 K6 hZ
  generalize newR (E.length : Int) = Z at *
  go_wp2_with (refine wpList_stw rfl rfl rfl rfl g3 ?_; rw [← hW6]; clear g3 hW6)
  clear c0 cf cl hz hne hs65
  go_loopg [4] E.length (fun gg s4 wq => ∃ (i : Nat) (r : RelT), i ≤ E.length ∧ gg = E.length - i ∧ s4 = .int .i64 i ∧ Hid (On w wq) ∧ Bk wq w.heap.size (relA zeroR) ∧ Bk wq (w.heap.size + 1) (relA r) ∧ Hid (Wf r) ∧ r.n = E.length ∧ Hid (U = poOut E i r (E.drop i)))
  case atStart => exact ⟨0, Z, Nat.zero_le _, rfl, rfl, K7, D2, D3, HW0, hn0, HU⟩
  case round =>
    clear D2 D3 K7 HU HW0 hn0
    obtain ⟨i, r, hi, hk, rfl, HO, C2, C3, HW0, hrn, HU⟩ := hrel
    rcases Nat.lt_or_ge i E.length with hlt | hge
    · obtain ⟨x, hx, hdr⟩ := drop_cons hlt
      obtain ⟨I, hI⟩ : ∃ I, I = poIn x i 0 r E := ⟨_, rfl⟩
      have HI : Hid (I = poIn x i 0 r (E.drop 0)) := hI
      have HIW : Hid (Wf I) := by rw [hI]; exact poIn_wf x i E 0 r HW0.out
      have HU2 : Hid (U = poOut E (i + 1) I (E.drop (i + 1))) := by
        show U = _
        rw [HU.out, hdr, hI]
        rfl
      have HXX : Hid (E[i]? = some x) := hx
      clear hI hdr hx HU
      go_wp2
      go_loopg [5] E.length (fun gg s5 wq => ∃ (j : Nat) (r : RelT), j ≤ E.length ∧ gg = E.length - j ∧ s5 = .int .i64 j ∧ Hid (On w wq) ∧ Bk wq w.heap.size (relA zeroR) ∧ Bk wq (w.heap.size + 1) (relA r) ∧ Hid (Wf r) ∧ r.n = E.length ∧ Hid (I = poIn x i j r (E.drop j)))
      case atStart => exact ⟨0, r, Nat.zero_le _, rfl, rfl, HO, C2, C3, HW0, hrn, HI⟩
      case round =>
        clear C2 C3 HI HO HW0 hrn
        obtain ⟨j, r, hj, hkj, rfl, HO, C2, C3, HW0, hrn, HI⟩ := hrel
        rcases Nat.lt_or_ge j E.length with hlj | hgj
        · obtain ⟨y, hy, hdr⟩ := drop_cons hlj
          obtain ⟨g, off, rfl, hg, p0, p1, _, _, _, _⟩ := rd_ev (HR.out.on HO.out) HXX.out
          obtain ⟨g', off', hge', _, q0, q1, _, _, _, _⟩ := rd_ev (HR.out.on HO.out) hy
          simp only [Option.some.injEq, Addr.mk.injEq, and_true] at hge'
          obtain ⟨rfl, rfl⟩ := hge'
          have bi0 : (0 : Int) ≤ (i : Int) := by omega
          have bi1 : (i : Int) < (E.length : Int) := by omega
          have bj0 : (0 : Int) ≤ (j : Int) := by omega
          have bj1 : (j : Int) < (E.length : Int) := by omega
          have hab0 := rpos_ahead x y
          unfold rposB at hab0
          obtain ⟨xt, xi, xk, xl, xr, xw⟩ := x
          obtain ⟨yt, yi, yk, yl, yr, yw⟩ := y
          simp only at p0 p1 q0 q1 hab0
          by_cases e1 : xt < 0
          · have d1 : decide (xt < 0) = true := by simp [e1]
            have d3 : decide (0 ≤ xt) = false := by simp; omega
            clear e1
            by_cases e2 : 0 ≤ yt
            · have d2 : decide (0 ≤ yt) = true := by simp [e2]
              clear e2
              rw [d1, d2] at hab0
              have hab : aheadB ⟨xt, xi, xk, xl, xr, xw⟩ ⟨yt, yi, yk, yl, yr, yw⟩ = true := by rw [← hab0]; rfl
              have HI2 : Hid (I = poIn ⟨xt, xi, xk, xl, xr, xw⟩ i (j + 1) (addR r i j) (E.drop (j + 1))) := by
                show I = _
                rw [HI.out, hdr, poIn, hab]
                rfl
              have hadd := fun W (hB : Bk W (w.heap.size + 1) (relA r)) => wadd_is r HW0.out.wr (w.heap.size + 1) i j (by omega) (by omega) W hB
              have HW2 : Hid (Wf (addR r i j)) := add_wf HW0.out i j
              have hn2 : (addR r i j).n = E.length := by rw [add_n]; exact hrn
              clear hy hdr HI hab hab0
              generalize addR r (i : Int) (j : Int) = A at *
              generalize withI (r.f i) (j : Int) = y0 at *
              go_wp2
              go_quiet (fail)
              go_wp2_with fail
              refine (hadd _ (C3.on ((On.refl wr).drewN _))).mono ?_
              rintro _ w5 ⟨rfl, F3, hw5⟩
              have F2 : Bk w5 w.heap.size (relA zeroR) := by
                rw [hw5]
                exact Bk.far (C2.on (On.drew ((On.refl wr).drewN _))) (by omega) _ _
              have KF : On w w5 := by
                rw [hw5]
                exact On.setNew (On.drew (On.drewN HO.out _)) (by omega) _
              clear hw5
              go_wp2
              go_roundg (E.length - (j + 1))
              case measure => omega
              case rel => exact ⟨j + 1, A, by omega, rfl, by go_num, KF, F2, F3, HW2, hn2, HI2⟩
            · have d2 : decide (0 ≤ yt) = false := by simp; omega
              clear e2
              rw [d1, d2, d3] at hab0
              have hab : aheadB ⟨xt, xi, xk, xl, xr, xw⟩ ⟨yt, yi, yk, yl, yr, yw⟩ = false := by rw [← hab0]; rfl
              have HI2 : Hid (I = poIn ⟨xt, xi, xk, xl, xr, xw⟩ i (j + 1) r (E.drop (j + 1))) := by
                show I = _
                rw [HI.out, hdr, poIn, hab]
                rfl
              clear hy hdr HI hab hab0
              go_wp2
              go_quiet (fail)
              go_wp2
              go_roundg (E.length - (j + 1))
              case measure => omega
              case rel => exact ⟨j + 1, r, by omega, rfl, by go_num, On.drewN HO.out _, C2.on ((On.refl wr).drewN _), C3.on ((On.refl wr).drewN _), HW0, hrn, HI2⟩
          · have d1 : decide (xt < 0) = false := by simp; omega
            have d3 : decide (0 ≤ xt) = true := by simp; omega
            clear e1
            cases d4 : (xt == yt) with
            | false =>
              rw [d1, d3, d4] at hab0
              have hab : aheadB ⟨xt, xi, xk, xl, xr, xw⟩ ⟨yt, yi, yk, yl, yr, yw⟩ = false := by rw [← hab0]; rfl
              have HI2 : Hid (I = poIn ⟨xt, xi, xk, xl, xr, xw⟩ i (j + 1) r (E.drop (j + 1))) := by
                show I = _
                rw [HI.out, hdr, poIn, hab]
                rfl
              clear hy hdr HI hab hab0
              go_wp2
              go_quiet (fail)
              go_wp2
              go_roundg (E.length - (j + 1))
              case measure => omega
              case rel => exact ⟨j + 1, r, by omega, rfl, by go_num, On.drewN HO.out _, C2.on ((On.refl wr).drewN _), C3.on ((On.refl wr).drewN _), HW0, hrn, HI2⟩
            | true =>
              by_cases e5 : xi < yi
              · have d5 : decide (xi < yi) = true := by simp [e5]
                clear e5
                rw [d1, d3, d4, d5] at hab0
                have hab : aheadB ⟨xt, xi, xk, xl, xr, xw⟩ ⟨yt, yi, yk, yl, yr, yw⟩ = true := by rw [← hab0]; rfl
                have HI2 : Hid (I = poIn ⟨xt, xi, xk, xl, xr, xw⟩ i (j + 1) (addR r i j) (E.drop (j + 1))) := by
                  show I = _
                  rw [HI.out, hdr, poIn, hab]
                  rfl
                have hadd := fun W (hB : Bk W (w.heap.size + 1) (relA r)) => wadd_is r HW0.out.wr (w.heap.size + 1) i j (by omega) (by omega) W hB
                have HW2 : Hid (Wf (addR r i j)) := add_wf HW0.out i j
                have hn2 : (addR r i j).n = E.length := by rw [add_n]; exact hrn
                clear hy hdr HI hab hab0
                generalize addR r (i : Int) (j : Int) = A at *
                generalize withI (r.f i) (j : Int) = y0 at *
                go_wp2
                go_quiet (fail)
                go_wp2_with fail
                refine (hadd _ (C3.on ((On.refl wr).drewN _))).mono ?_
                rintro _ w5 ⟨rfl, F3, hw5⟩
                have F2 : Bk w5 w.heap.size (relA zeroR) := by
                  rw [hw5]
                  exact Bk.far (C2.on (On.drew ((On.refl wr).drewN _))) (by omega) _ _
                have KF : On w w5 := by
                  rw [hw5]
                  exact On.setNew (On.drew (On.drewN HO.out _)) (by omega) _
                clear hw5
                go_wp2
                go_roundg (E.length - (j + 1))
                case measure => omega
                case rel => exact ⟨j + 1, A, by omega, rfl, by go_num, KF, F2, F3, HW2, hn2, HI2⟩
              · have d5 : decide (xi < yi) = false := by simp; omega
                clear e5
                rw [d1, d3, d4, d5] at hab0
                have hab : aheadB ⟨xt, xi, xk, xl, xr, xw⟩ ⟨yt, yi, yk, yl, yr, yw⟩ = false := by rw [← hab0]; rfl
                have HI2 : Hid (I = poIn ⟨xt, xi, xk, xl, xr, xw⟩ i (j + 1) r (E.drop (j + 1))) := by
                  show I = _
                  rw [HI.out, hdr, poIn, hab]
                  rfl
                clear hy hdr HI hab hab0
                go_wp2
                go_quiet (fail)
                go_wp2
                go_roundg (E.length - (j + 1))
                case measure => omega
                case rel => exact ⟨j + 1, r, by omega, rfl, by go_num, On.drewN HO.out _, C2.on ((On.refl wr).drewN _), C3.on ((On.refl wr).drewN _), HW0, hrn, HI2⟩
        · obtain rfl : j = E.length := by omega
          obtain rfl : r = I := by rw [HI.out, List.drop_length]; rfl
          go_wp2
          go_roundg (E.length - (i + 1))
          case measure => omega
          case rel => exact ⟨i + 1, r, by omega, rfl, by go_num, HO, C2, C3, HW0, hrn, HU2⟩
    · obtain rfl : i = E.length := by omega
      obtain rfl : r = U := by rw [HU.out, List.drop_length]; rfl
      go_wp2_with (first | refine wpList_ldw rfl rfl rfl C3 ?_ | refine wpList_stw rfl rfl rfl rfl C2 ?_)
      refine bodyPost_ret (v := .agg (relA r)) ?_ rfl ⟨rfl, HO.out.row (Nat.le_refl _) _⟩
      exact ret65w rfl rfl (C2.row _)
end Go.Proofs.Ytkglmhclpgfngaa
