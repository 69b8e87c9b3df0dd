/- What the document's own Next answers where no word and no number begins. -/
import Derived.Test.YtacflahkofmcpaaGreatDoorRefNext
import Derived.Test.YtacflahkofmcpaaGreatDoorLexCut
import Derived.BigQuiet
namespace Go.Proofs.YtacflahkofmcpaaGreatDoor
open Go.RowKit

def ones : ByteArray := ⟨#[123, 125, 59, 58, 61, 43, 45, 42, 38, 124, 94, 60]⟩
theorem ones_has : ∀ i : Fin 12, oneN (ones[i.val]'(i.isLt)).toNat = true := by decide
theorem ones_none {c : Nat} (h : ∀ i, (hi : i < 12) → (ones[i]'hi).toNat ≠ c) : oneN c = false := by
  have h0 : 123 ≠ c := h 0 (by decide)
  have h1 : 125 ≠ c := h 1 (by decide)
  have h2 : 59 ≠ c := h 2 (by decide)
  have h3 : 58 ≠ c := h 3 (by decide)
  have h4 : 61 ≠ c := h 4 (by decide)
  have h5 : 43 ≠ c := h 5 (by decide)
  have h6 : 45 ≠ c := h 6 (by decide)
  have h7 : 42 ≠ c := h 7 (by decide)
  have h8 : 38 ≠ c := h 8 (by decide)
  have h9 : 124 ≠ c := h 9 (by decide)
  have h10 : 94 ≠ c := h 10 (by decide)
  have h11 : 60 ≠ c := h 11 (by decide)
  unfold oneN
  simp only [Bool.or_eq_false_iff, beq_eq_false_iff_ne]
  omega
theorem one_list (s : ByteArray) {p : Nat} (hp : p < s.size) : (s.extract p (p + 1)).data.toList = [s[p]] := by
  rw [cut_list, suf_lt hp]; rfl
theorem one_cut (s : ByteArray) {p i : Nat} (hp : p < s.size) (hi : i < 12) (h : (ones[i]'hi).toNat = (s[p]'hp).toNat) : ones.extract i (i + 1) = s.extract p (p + 1) := by
  apply bytes_ext
  rw [one_list s hp, one_list ones hi, UInt8.toNat_inj.1 h]
theorem two_list (s : ByteArray) {p : Nat} (hp : p + 1 < s.size) : (s.extract p (p + 1 + 1)).toList = [s[p], s[p + 1]] := by
  rw [ByteArray.toList_eq, show p + 1 + 1 = p + 2 by omega, cut_list, suf_lt (by omega), suf_lt hp]
  rfl

/-- What Next answers of the bytes at p, where no word and no number begins. -/
def sgV (s : ByteArray) (p : Nat) : Value :=
  if pairN (bN s p) (bN s (p + 1)) then .tuple #[.agg #[.int .i64 3, .string (s.extract p (p + 2)), .int .i64 p], .int .i64 ((p + 2 : Nat) : Int), .agg #[.int .i64 0, .int .i64 0]]
  else if oneN (bN s p) then .tuple #[.agg #[.int .i64 3, .string (s.extract p (p + 1)), .int .i64 p], .int .i64 ((p + 1 : Nat) : Int), .agg #[.int .i64 0, .int .i64 0]]
  else .tuple #[.agg #[.int .i64 0, .string ⟨#[]⟩, .int .i64 0], .int .i64 p, .agg #[.int .i64 4, .int .i64 p]]

def twos : Array Value := #[.string ⟨#[60, 60]⟩, .string ⟨#[62, 62]⟩, .string ⟨#[61, 61]⟩, .string ⟨#[33, 61]⟩]

section
variable (s : ByteArray) (a p : Nat) (w : World)
set_option maxHeartbeats 4000000
set_option maxRecDepth 10000
theorem rs_other (hs : s.size ≤ 140737488351232) (hp : p < s.size) (hl : letN (bN s p) = false) (hdg : digN (bN s p) = false) (h45 : bN s p ≠ 45)
    (hS : ∀ w1, Calls Tryz.prog 126 #[.string s, .int .i64 a] w1 fun e w' => e = .returned (.int .i64 p) ∧ On w1 w') :
    Calls Tryz.prog 86 #[.string s, .int .i64 a] w fun e w' => e = .returned (sgV s p) ∧ On w w' := by
  have hR0 := Rs.new w
  have hw0 : On w ((w.alloc (.cells #[.int .i64 0, .string ⟨#[]⟩, .int .i64 0] 71)).alloc (.cells #[.int .i64 0, .int .i64 0] 36)) := ((On.refl w).alloc _).alloc _
  have e1 : ((p : Int) == (s.size : Int)) = false := by rw [beq_eq_false_iff_ne]; omega
  obtain ⟨c, hc⟩ : ∃ c, (s[p]'hp).toNat = c := ⟨_, rfl⟩
  have HC : Hid (bN s p = c) := (bN_lt hp).trans hc
  have HCP : Hid ((s[p]'hp).toNat = c) := hc
  have hL : ∀ w1, Calls Tryz.prog 110 #[.int .u8 c] w1 fun e w' => e = .returned (.bool false) ∧ w' = w1 := fun w1 => by have := rletter_is c w1; rw [HC.out] at hl; rw [hl] at this; exact this
  have hG : ∀ w1, Calls Tryz.prog 111 #[.int .u8 c] w1 fun e w' => e = .returned (.bool false) ∧ w' = w1 := fun w1 => by have := rdigit_is c w1; rw [HC.out] at hdg; rw [hdg] at this; exact this
  have eq45 : ((c : Int) == 45) = false := by rw [beq_eq_false_iff_ne]; have := HC.out; omega
  clear h45
  clear hl hdg
  go_enter Tryz.func86, Tryz.ntmps86
  go_wp2_with fail
  refine (hS _).mono ?_
  rintro e w1 ⟨rfl, hw1⟩
  go_wp2_with fail
  refine (hL _).mono ?_
  rintro e w1 ⟨rfl, rfl⟩
  go_wp2_with fail
  refine (hG _).mono ?_
  rintro e w1 ⟨rfl, rfl⟩
  go_wp2_with fail
  have hR1 := hR0.on hw1
  have hon1 := hw0.trans hw1
  have hl1 : w.heap.size + 1 < w1.heap.size := hR1.lt
  have q0 := cell_new w1 twos 9 w1.heap.size 0 rfl
  have q1 := cell_new w1 twos 9 w1.heap.size 1 rfl
  have q2 := cell_new w1 twos 9 w1.heap.size 2 rfl
  have q3 := cell_new w1 twos 9 w1.heap.size 3 rfl
  have hR1' : Rs (w1.alloc (.cells twos 9)) w.heap.size := hR1.on ((On.refl _).alloc _)
  have hon1' : On w (w1.alloc (.cells twos 9)) := hon1.alloc _
  have HQ : Hid ((w1.alloc (.cells twos 9)).cell? ⟨w1.heap.size, 0, none⟩ = some (.string ⟨#[60, 60]⟩) ∧ (w1.alloc (.cells twos 9)).cell? ⟨w1.heap.size, 1, none⟩ = some (.string ⟨#[62, 62]⟩) ∧ (w1.alloc (.cells twos 9)).cell? ⟨w1.heap.size, 2, none⟩ = some (.string ⟨#[61, 61]⟩) ∧ (w1.alloc (.cells twos 9)).cell? ⟨w1.heap.size, 3, none⟩ = some (.string ⟨#[33, 61]⟩)) := ⟨q0, q1, q2, q3⟩
  clear q0 q1 q2 q3 hR0 hw0 hw1 hS hR1 hon1
  go_loopg [13] 4 (fun k v wx => ∃ i : Nat, v = .int .i64 i ∧ k = 4 - i ∧ i ≤ 4 ∧ (s.size ≤ p + 1 → i = 0) ∧ ((0 < i → ¬ (c = 60 ∧ bN s (p + 1) = 60)) ∧ (1 < i → ¬ (c = 62 ∧ bN s (p + 1) = 62)) ∧ (2 < i → ¬ (c = 61 ∧ bN s (p + 1) = 61)) ∧ (3 < i → ¬ (c = 33 ∧ bN s (p + 1) = 61))) ∧ (wx.cell? ⟨w1.heap.size, 0, none⟩ = some (.string ⟨#[60, 60]⟩) ∧ wx.cell? ⟨w1.heap.size, 1, none⟩ = some (.string ⟨#[62, 62]⟩) ∧ wx.cell? ⟨w1.heap.size, 2, none⟩ = some (.string ⟨#[61, 61]⟩) ∧ wx.cell? ⟨w1.heap.size, 3, none⟩ = some (.string ⟨#[33, 61]⟩)) ∧ Rs wx w.heap.size ∧ On w wx)
  case atStart => exact ⟨0, rfl, rfl, by omega, fun _ => rfl, ⟨fun h => absurd h (by decide), fun h => absurd h (by decide), fun h => absurd h (by decide), fun h => absurd h (by decide)⟩, HQ.out, hR1', hon1'⟩
  case round =>
    obtain ⟨i, rfl, hk, hi, hz, hnm3, ⟨c0, c1, c2, c3⟩, hR, hon⟩ := hrel
    have HN3 : Hid ((0 < i → ¬ (c = 60 ∧ bN s (p + 1) = 60)) ∧ (1 < i → ¬ (c = 62 ∧ bN s (p + 1) = 62)) ∧ (2 < i → ¬ (c = 61 ∧ bN s (p + 1) = 61)) ∧ (3 < i → ¬ (c = 33 ∧ bN s (p + 1) = 61))) := hnm3
    clear hnm3 HQ hR1' hon1'
    by_cases hpp : p + 1 < s.size
    · have HTL := two_list s hpp
      have HT2 : Hid ((s.extract p (p + 1 + 1)).toList = [s[p], s[p + 1]]) := HTL
      clear HTL
      have hbb : p + 1 + 1 ≤ s.size := by omega
      obtain ⟨X, hX⟩ : ∃ X, s.extract p (p + 1 + 1) = X := ⟨_, rfl⟩
      have HXX : Hid (s.extract p (p + 1 + 1) = X) := hX
      clear hX
      have t0 := hR.t0
      have t1 := hR.t1
      have t2 := hR.t2
      have e0 := hR.e0
      have e1' := hR.e1
      have ft0 := hR.ft 0
      have ft1 := hR.ft 1
      have ft2 := hR.ft 2
      have fe0 := hR.fe 0
      have fe1 := hR.fe 1
      rcases (show i = 0 ∨ i = 1 ∨ i = 2 ∨ i = 3 ∨ i = 4 from by omega) with h | h | h | h | h
      · subst h
        by_cases hm : c = 60 ∧ bN s (p + 1) = 60
        · have hX2 : s.extract p (p + 1 + 1) = ⟨#[60, 60]⟩ := by
            apply bytes_ext
            rw [← ByteArray.toList_eq, HT2.out]
            have g1 : s[p] = 60 := UInt8.toNat_inj.1 (by rw [HCP.out, hm.1]; rfl)
            have g2 : s[p + 1] = 60 := UInt8.toNat_inj.1 (by rw [← bN_lt hpp, hm.2]; rfl)
            rw [g1, g2]
          have HX2 : Hid (s.extract p (p + 1 + 1) = ⟨#[60, 60]⟩) := hX2
          have HM : Hid (c = 60 ∧ bN s (p + 1) = 60) := hm
          clear hm HXX hX2
          have hcmp : ((s.extract p (p + 1 + 1)).toList == [60, 60]) = true := by rw [HX2.out, ByteArray.toList_eq]; rfl
          go_wp2_with fail
          go_region
          all_goals (go_wp2_with fail)
          all_goals (try simp only [Exit.inBlock, Exit.then])
          refine bodyPost_ret (v := .tuple #[.agg #[.int .i64 3, .string ⟨#[60, 60]⟩, .int .i64 p], .int .i64 ((p : Int) + 1 + 1), .agg #[.int .i64 0, .int .i64 0]]) ?_ rfl ⟨?_, ?_⟩
          · rw [results_c3 rfl]
            go_simp
          · unfold sgV
            have h1 : pairN (bN s p) (bN s (p + 1)) = true := by rw [HC.out, HM.out.1, HM.out.2]; rfl
            rw [h1, ← HX2.out]
            rfl
          · exact (((((hon.setNew (Nat.le_refl _) _).setNew (Nat.le_refl _) _).setNew (Nat.le_refl _) _).setNew (Nat.le_succ _) _).setNew (Nat.le_succ _) _).drew
        · have hcmp : ((s.extract p (p + 1 + 1)).toList == [60, 60]) = false := by
            rw [HT2.out, beq_eq_false_iff_ne]
            intro h
            obtain ⟨g1, g2⟩ := List.cons.inj h
            obtain ⟨g2, _⟩ := List.cons.inj g2
            refine hm ⟨?_, ?_⟩
            · rw [← HCP.out, g1]; rfl
            · rw [bN_lt hpp, g2]; rfl
          have HM : Hid (¬ (c = 60 ∧ bN s (p + 1) = 60)) := hm
          clear hm HXX
          go_wp2_with fail
          go_region
          all_goals (go_wp2_with fail)
          go_roundg (4 - 1)
          case measure => omega
          case rel => exact ⟨1, rfl, rfl, by omega, fun h => absurd h (by omega), ⟨fun _ => HM.out, fun h => absurd h (by decide), fun h => absurd h (by decide), fun h => absurd h (by decide)⟩, ⟨c0, c1, c2, c3⟩, ⟨hR.t, hR.e⟩, hon.drew⟩
      · subst h
        by_cases hm : c = 62 ∧ bN s (p + 1) = 62
        · have hX2 : s.extract p (p + 1 + 1) = ⟨#[62, 62]⟩ := by
            apply bytes_ext
            rw [← ByteArray.toList_eq, HT2.out]
            have g1 : s[p] = 62 := UInt8.toNat_inj.1 (by rw [HCP.out, hm.1]; rfl)
            have g2 : s[p + 1] = 62 := UInt8.toNat_inj.1 (by rw [← bN_lt hpp, hm.2]; rfl)
            rw [g1, g2]
          have HX2 : Hid (s.extract p (p + 1 + 1) = ⟨#[62, 62]⟩) := hX2
          have HM : Hid (c = 62 ∧ bN s (p + 1) = 62) := hm
          clear hm HXX hX2
          have hcmp : ((s.extract p (p + 1 + 1)).toList == [62, 62]) = true := by rw [HX2.out, ByteArray.toList_eq]; rfl
          go_wp2_with fail
          go_region
          all_goals (go_wp2_with fail)
          all_goals (try simp only [Exit.inBlock, Exit.then])
          refine bodyPost_ret (v := .tuple #[.agg #[.int .i64 3, .string ⟨#[62, 62]⟩, .int .i64 p], .int .i64 ((p : Int) + 1 + 1), .agg #[.int .i64 0, .int .i64 0]]) ?_ rfl ⟨?_, ?_⟩
          · rw [results_c3 rfl]
            go_simp
          · unfold sgV
            have h1 : pairN (bN s p) (bN s (p + 1)) = true := by rw [HC.out, HM.out.1, HM.out.2]; rfl
            rw [h1, ← HX2.out]
            rfl
          · exact (((((hon.setNew (Nat.le_refl _) _).setNew (Nat.le_refl _) _).setNew (Nat.le_refl _) _).setNew (Nat.le_succ _) _).setNew (Nat.le_succ _) _).drew
        · have hcmp : ((s.extract p (p + 1 + 1)).toList == [62, 62]) = false := by
            rw [HT2.out, beq_eq_false_iff_ne]
            intro h
            obtain ⟨g1, g2⟩ := List.cons.inj h
            obtain ⟨g2, _⟩ := List.cons.inj g2
            refine hm ⟨?_, ?_⟩
            · rw [← HCP.out, g1]; rfl
            · rw [bN_lt hpp, g2]; rfl
          have HM : Hid (¬ (c = 62 ∧ bN s (p + 1) = 62)) := hm
          clear hm HXX
          go_wp2_with fail
          go_region
          all_goals (go_wp2_with fail)
          go_roundg (4 - 2)
          case measure => omega
          case rel => exact ⟨2, rfl, rfl, by omega, fun h => absurd h (by omega), ⟨fun _ => HN3.out.1 (by decide), fun _ => HM.out, fun h => absurd h (by decide), fun h => absurd h (by decide)⟩, ⟨c0, c1, c2, c3⟩, ⟨hR.t, hR.e⟩, hon.drew⟩
      · subst h
        by_cases hm : c = 61 ∧ bN s (p + 1) = 61
        · have hX2 : s.extract p (p + 1 + 1) = ⟨#[61, 61]⟩ := by
            apply bytes_ext
            rw [← ByteArray.toList_eq, HT2.out]
            have g1 : s[p] = 61 := UInt8.toNat_inj.1 (by rw [HCP.out, hm.1]; rfl)
            have g2 : s[p + 1] = 61 := UInt8.toNat_inj.1 (by rw [← bN_lt hpp, hm.2]; rfl)
            rw [g1, g2]
          have HX2 : Hid (s.extract p (p + 1 + 1) = ⟨#[61, 61]⟩) := hX2
          have HM : Hid (c = 61 ∧ bN s (p + 1) = 61) := hm
          clear hm HXX hX2
          have hcmp : ((s.extract p (p + 1 + 1)).toList == [61, 61]) = true := by rw [HX2.out, ByteArray.toList_eq]; rfl
          go_wp2_with fail
          go_region
          all_goals (go_wp2_with fail)
          all_goals (try simp only [Exit.inBlock, Exit.then])
          refine bodyPost_ret (v := .tuple #[.agg #[.int .i64 3, .string ⟨#[61, 61]⟩, .int .i64 p], .int .i64 ((p : Int) + 1 + 1), .agg #[.int .i64 0, .int .i64 0]]) ?_ rfl ⟨?_, ?_⟩
          · rw [results_c3 rfl]
            go_simp
          · unfold sgV
            have h1 : pairN (bN s p) (bN s (p + 1)) = true := by rw [HC.out, HM.out.1, HM.out.2]; rfl
            rw [h1, ← HX2.out]
            rfl
          · exact (((((hon.setNew (Nat.le_refl _) _).setNew (Nat.le_refl _) _).setNew (Nat.le_refl _) _).setNew (Nat.le_succ _) _).setNew (Nat.le_succ _) _).drew
        · have hcmp : ((s.extract p (p + 1 + 1)).toList == [61, 61]) = false := by
            rw [HT2.out, beq_eq_false_iff_ne]
            intro h
            obtain ⟨g1, g2⟩ := List.cons.inj h
            obtain ⟨g2, _⟩ := List.cons.inj g2
            refine hm ⟨?_, ?_⟩
            · rw [← HCP.out, g1]; rfl
            · rw [bN_lt hpp, g2]; rfl
          have HM : Hid (¬ (c = 61 ∧ bN s (p + 1) = 61)) := hm
          clear hm HXX
          go_wp2_with fail
          go_region
          all_goals (go_wp2_with fail)
          go_roundg (4 - 3)
          case measure => omega
          case rel => exact ⟨3, rfl, rfl, by omega, fun h => absurd h (by omega), ⟨fun _ => HN3.out.1 (by decide), fun _ => HN3.out.2.1 (by decide), fun _ => HM.out, fun h => absurd h (by decide)⟩, ⟨c0, c1, c2, c3⟩, ⟨hR.t, hR.e⟩, hon.drew⟩
      · subst h
        by_cases hm : c = 33 ∧ bN s (p + 1) = 61
        · have hX2 : s.extract p (p + 1 + 1) = ⟨#[33, 61]⟩ := by
            apply bytes_ext
            rw [← ByteArray.toList_eq, HT2.out]
            have g1 : s[p] = 33 := UInt8.toNat_inj.1 (by rw [HCP.out, hm.1]; rfl)
            have g2 : s[p + 1] = 61 := UInt8.toNat_inj.1 (by rw [← bN_lt hpp, hm.2]; rfl)
            rw [g1, g2]
          have HX2 : Hid (s.extract p (p + 1 + 1) = ⟨#[33, 61]⟩) := hX2
          have HM : Hid (c = 33 ∧ bN s (p + 1) = 61) := hm
          clear hm HXX hX2
          have hcmp : ((s.extract p (p + 1 + 1)).toList == [33, 61]) = true := by rw [HX2.out, ByteArray.toList_eq]; rfl
          go_wp2_with fail
          go_region
          all_goals (go_wp2_with fail)
          all_goals (try simp only [Exit.inBlock, Exit.then])
          refine bodyPost_ret (v := .tuple #[.agg #[.int .i64 3, .string ⟨#[33, 61]⟩, .int .i64 p], .int .i64 ((p : Int) + 1 + 1), .agg #[.int .i64 0, .int .i64 0]]) ?_ rfl ⟨?_, ?_⟩
          · rw [results_c3 rfl]
            go_simp
          · unfold sgV
            have h1 : pairN (bN s p) (bN s (p + 1)) = true := by rw [HC.out, HM.out.1, HM.out.2]; rfl
            rw [h1, ← HX2.out]
            rfl
          · exact (((((hon.setNew (Nat.le_refl _) _).setNew (Nat.le_refl _) _).setNew (Nat.le_refl _) _).setNew (Nat.le_succ _) _).setNew (Nat.le_succ _) _).drew
        · have hcmp : ((s.extract p (p + 1 + 1)).toList == [33, 61]) = false := by
            rw [HT2.out, beq_eq_false_iff_ne]
            intro h
            obtain ⟨g1, g2⟩ := List.cons.inj h
            obtain ⟨g2, _⟩ := List.cons.inj g2
            refine hm ⟨?_, ?_⟩
            · rw [← HCP.out, g1]; rfl
            · rw [bN_lt hpp, g2]; rfl
          have HM : Hid (¬ (c = 33 ∧ bN s (p + 1) = 61)) := hm
          clear hm HXX
          go_wp2_with fail
          go_region
          all_goals (go_wp2_with fail)
          go_roundg (4 - 4)
          case measure => omega
          case rel => exact ⟨4, rfl, rfl, by omega, fun h => absurd h (by omega), ⟨fun _ => HN3.out.1 (by decide), fun _ => HN3.out.2.1 (by decide), fun _ => HN3.out.2.2.1 (by decide), fun _ => HM.out⟩, ⟨c0, c1, c2, c3⟩, ⟨hR.t, hR.e⟩, hon.drew⟩
      · subst h
        have hpn : pairN (bN s p) (bN s (p + 1)) = false := by
          have g1 := HN3.out.1 (by decide)
          have g2 := HN3.out.2.1 (by decide)
          have g3 := HN3.out.2.2.1 (by decide)
          have g4 := HN3.out.2.2.2 (by decide)
          rw [HC.out]
          unfold pairN
          simp only [Bool.or_eq_false_iff, Bool.and_eq_false_iff, beq_eq_false_iff_ne]
          omega
        clear t0 t1 t2 e0 e1' ft0 ft1 ft2 fe0 fe1 HXX HT2
        have HPN : Hid (pairN (bN s p) (bN s (p + 1)) = false) := hpn
        clear hpn
        go_wp2_with fail
        go_loopg [15] 12 (fun k v wy => ∃ i : Nat, v = .int .i64 i ∧ k = 12 - i ∧ i ≤ 12 ∧ (∀ j, (hj : j < 12) → j < i → (ones[j]'hj).toNat ≠ c) ∧ Rs wy w.heap.size ∧ On w wy)
        case atStart => exact ⟨0, rfl, rfl, by omega, fun j hj h => (by omega), hR, hon⟩
        case round =>
          obtain ⟨i4, rfl, hk4, hi4, hnm, hR4, hon4⟩ := hrel
          have HNM : Hid (∀ j, (hj : j < 12) → j < i4 → (ones[j]'hj).toNat ≠ c) := hnm
          clear hnm hR hon
          have t0 := hR4.t0
          have t1 := hR4.t1
          have t2 := hR4.t2
          have e0 := hR4.e0
          have e1' := hR4.e1
          have ft0 := hR4.ft 0
          have ft1 := hR4.ft 1
          have ft2 := hR4.ft 2
          have fe0 := hR4.fe 0
          have fe1 := hR4.fe 1
          by_cases hlt4 : i4 < 12
          · have HE : Hid ((ones[i4]'hlt4).toNat = ((⟨#[123, 125, 59, 58, 61, 43, 45, 42, 38, 124, 94, 60]⟩ : ByteArray)[i4]'hlt4).toNat) := rfl
            obtain ⟨e4, he4⟩ : ∃ e4, ((⟨#[123, 125, 59, 58, 61, 43, 45, 42, 38, 124, 94, 60]⟩ : ByteArray)[i4]'hlt4).toNat = e4 := ⟨_, rfl⟩
            have HE4 : Hid ((ones[i4]'hlt4).toNat = e4) := HE.out.trans he4
            clear HE
            by_cases hec : e4 = c
            · have heq : ((e4 : Int) == (c : Int)) = true := by rw [hec]; simp
              have HEC : Hid (e4 = c) := hec
              clear hec
              go_wp2_with fail
              (try simp only [Exit.inBlock, Exit.then])
              refine bodyPost_ret (v := .tuple #[.agg #[.int .i64 3, .string ((⟨#[123, 125, 59, 58, 61, 43, 45, 42, 38, 124, 94, 60]⟩ : ByteArray).extract i4 (i4 + 1)), .int .i64 p], .int .i64 ((p : Int) + 1), .agg #[.int .i64 0, .int .i64 0]]) ?_ rfl ⟨?_, ?_⟩
              · rw [results_c3 rfl]
                go_simp
              · have h1 : oneN (bN s p) = true := by
                  rw [HC.out, ← HEC.out, ← HE4.out]
                  exact ones_has ⟨i4, hlt4⟩
                have h2 : (⟨#[123, 125, 59, 58, 61, 43, 45, 42, 38, 124, 94, 60]⟩ : ByteArray).extract i4 (i4 + 1) = s.extract p (p + 1) := one_cut s hp hlt4 (by rw [HE4.out, HEC.out, HCP.out])
                rw [h2]
                unfold sgV
                rw [HPN.out, h1]
                rfl
              · exact ((((hon4.setNew (Nat.le_refl _) _).setNew (Nat.le_refl _) _).setNew (Nat.le_refl _) _).setNew (Nat.le_succ _) _).setNew (Nat.le_succ _) _
            · have heq : ((e4 : Int) == (c : Int)) = false := by rw [beq_eq_false_iff_ne]; omega
              go_wp2_with fail
              go_roundg (12 - (i4 + 1))
              case measure => omega
              case rel =>
                refine ⟨i4 + 1, by go_num, rfl, by omega, fun j hj h => ?_, hR4, hon4⟩
                by_cases hj4 : j = i4
                · subst hj4; rw [HE4.out]; exact hec
                · exact HNM.out j hj (by omega)
          · go_wp2_with fail
            (try simp only [Exit.inBlock, Exit.then])
            refine bodyPost_ret (v := .tuple #[.agg #[.int .i64 0, .string ⟨#[]⟩, .int .i64 0], .int .i64 p, .agg #[.int .i64 4, .int .i64 p]]) ?_ rfl ⟨?_, ?_⟩
            · rw [results_c3 rfl]
              go_simp
            · have h1 : oneN (bN s p) = false := by
                rw [HC.out]
                exact ones_none (fun j hj => HNM.out j hj (by omega))
              unfold sgV
              rw [HPN.out, h1]
              rfl
            · exact ((((hon4.setNew (Nat.le_refl _) _).setNew (Nat.le_refl _) _).setNew (Nat.le_refl _) _).setNew (Nat.le_succ _) _).setNew (Nat.le_succ _) _
    · have hi0 : i = 0 := hz (by omega)
      subst hi0
      have hpn : pairN (bN s p) (bN s (p + 1)) = false := by
        rw [bN_ge (show s.size ≤ p + 1 by omega)]
        simp [pairN]
      have HPN : Hid (pairN (bN s p) (bN s (p + 1)) = false) := hpn
      clear hpn
      go_wp2_with fail
      go_loopg [15] 12 (fun k v wy => ∃ i : Nat, v = .int .i64 i ∧ k = 12 - i ∧ i ≤ 12 ∧ (∀ j, (hj : j < 12) → j < i → (ones[j]'hj).toNat ≠ c) ∧ Rs wy w.heap.size ∧ On w wy)
      case atStart => exact ⟨0, rfl, rfl, by omega, fun j hj h => (by omega), hR, hon⟩
      case round =>
        obtain ⟨i4, rfl, hk4, hi4, hnm, hR4, hon4⟩ := hrel
        have HNM : Hid (∀ j, (hj : j < 12) → j < i4 → (ones[j]'hj).toNat ≠ c) := hnm
        clear hnm hR hon
        have t0 := hR4.t0
        have t1 := hR4.t1
        have t2 := hR4.t2
        have e0 := hR4.e0
        have e1' := hR4.e1
        have ft0 := hR4.ft 0
        have ft1 := hR4.ft 1
        have ft2 := hR4.ft 2
        have fe0 := hR4.fe 0
        have fe1 := hR4.fe 1
        by_cases hlt4 : i4 < 12
        · have HE : Hid ((ones[i4]'hlt4).toNat = ((⟨#[123, 125, 59, 58, 61, 43, 45, 42, 38, 124, 94, 60]⟩ : ByteArray)[i4]'hlt4).toNat) := rfl
          obtain ⟨e4, he4⟩ : ∃ e4, ((⟨#[123, 125, 59, 58, 61, 43, 45, 42, 38, 124, 94, 60]⟩ : ByteArray)[i4]'hlt4).toNat = e4 := ⟨_, rfl⟩
          have HE4 : Hid ((ones[i4]'hlt4).toNat = e4) := HE.out.trans he4
          clear HE
          by_cases hec : e4 = c
          · have heq : ((e4 : Int) == (c : Int)) = true := by rw [hec]; simp
            have HEC : Hid (e4 = c) := hec
            clear hec
            go_wp2_with fail
            (try simp only [Exit.inBlock, Exit.then])
            refine bodyPost_ret (v := .tuple #[.agg #[.int .i64 3, .string ((⟨#[123, 125, 59, 58, 61, 43, 45, 42, 38, 124, 94, 60]⟩ : ByteArray).extract i4 (i4 + 1)), .int .i64 p], .int .i64 ((p : Int) + 1), .agg #[.int .i64 0, .int .i64 0]]) ?_ rfl ⟨?_, ?_⟩
            · rw [results_c3 rfl]
              go_simp
            · have h1 : oneN (bN s p) = true := by
                rw [HC.out, ← HEC.out, ← HE4.out]
                exact ones_has ⟨i4, hlt4⟩
              have h2 : (⟨#[123, 125, 59, 58, 61, 43, 45, 42, 38, 124, 94, 60]⟩ : ByteArray).extract i4 (i4 + 1) = s.extract p (p + 1) := one_cut s hp hlt4 (by rw [HE4.out, HEC.out, HCP.out])
              rw [h2]
              unfold sgV
              rw [HPN.out, h1]
              rfl
            · exact ((((hon4.setNew (Nat.le_refl _) _).setNew (Nat.le_refl _) _).setNew (Nat.le_refl _) _).setNew (Nat.le_succ _) _).setNew (Nat.le_succ _) _
          · have heq : ((e4 : Int) == (c : Int)) = false := by rw [beq_eq_false_iff_ne]; omega
            go_wp2_with fail
            go_roundg (12 - (i4 + 1))
            case measure => omega
            case rel =>
              refine ⟨i4 + 1, by go_num, rfl, by omega, fun j hj h => ?_, hR4, hon4⟩
              by_cases hj4 : j = i4
              · subst hj4; rw [HE4.out]; exact hec
              · exact HNM.out j hj (by omega)
        · go_wp2_with fail
          (try simp only [Exit.inBlock, Exit.then])
          refine bodyPost_ret (v := .tuple #[.agg #[.int .i64 0, .string ⟨#[]⟩, .int .i64 0], .int .i64 p, .agg #[.int .i64 4, .int .i64 p]]) ?_ rfl ⟨?_, ?_⟩
          · rw [results_c3 rfl]
            go_simp
          · have h1 : oneN (bN s p) = false := by
              rw [HC.out]
              exact ones_none (fun j hj => HNM.out j hj (by omega))
            unfold sgV
            rw [HPN.out, h1]
            rfl
          · exact ((((hon4.setNew (Nat.le_refl _) _).setNew (Nat.le_refl _) _).setNew (Nat.le_refl _) _).setNew (Nat.le_succ _) _).setNew (Nat.le_succ _) _

theorem rs_last (hs : s.size ≤ 140737488351232) (hp : p < s.size) (hl : letN (bN s p) = false) (hdg : digN (bN s p) = false) (h45 : bN s p = 45) (hp1 : s.size ≤ p + 1)
    (hS : ∀ w1, Calls Tryz.prog 126 #[.string s, .int .i64 a] w1 fun e w' => e = .returned (.int .i64 p) ∧ On w1 w') :
    Calls Tryz.prog 86 #[.string s, .int .i64 a] w fun e w' => e = .returned (sgV s p) ∧ On w w' := by
  have hR0 := Rs.new w
  have hw0 : On w ((w.alloc (.cells #[.int .i64 0, .string ⟨#[]⟩, .int .i64 0] 71)).alloc (.cells #[.int .i64 0, .int .i64 0] 36)) := ((On.refl w).alloc _).alloc _
  have e1 : ((p : Int) == (s.size : Int)) = false := by rw [beq_eq_false_iff_ne]; omega
  obtain ⟨c, hc⟩ : ∃ c, (s[p]'hp).toNat = c := ⟨_, rfl⟩
  have HC : Hid (bN s p = c) := (bN_lt hp).trans hc
  have HCP : Hid ((s[p]'hp).toNat = c) := hc
  have hL : ∀ w1, Calls Tryz.prog 110 #[.int .u8 c] w1 fun e w' => e = .returned (.bool false) ∧ w' = w1 := fun w1 => by have := rletter_is c w1; rw [HC.out] at hl; rw [hl] at this; exact this
  have hG : ∀ w1, Calls Tryz.prog 111 #[.int .u8 c] w1 fun e w' => e = .returned (.bool false) ∧ w' = w1 := fun w1 => by have := rdigit_is c w1; rw [HC.out] at hdg; rw [hdg] at this; exact this
  have eq45 : ((c : Int) == 45) = true := by rw [← HC.out, h45]; rfl
  have hnl : ¬ ((p : Int) + 1 < s.size) := by omega
  clear h45
  clear hl hdg
  go_enter Tryz.func86, Tryz.ntmps86
  go_wp2_with fail
  refine (hS _).mono ?_
  rintro e w1 ⟨rfl, hw1⟩
  go_wp2_with fail
  refine (hL _).mono ?_
  rintro e w1 ⟨rfl, rfl⟩
  go_wp2_with fail
  refine (hG _).mono ?_
  rintro e w1 ⟨rfl, rfl⟩
  go_wp2_with fail
  have hR1 := hR0.on hw1
  have hon1 := hw0.trans hw1
  have hl1 : w.heap.size + 1 < w1.heap.size := hR1.lt
  have q0 := cell_new w1 twos 9 w1.heap.size 0 rfl
  have q1 := cell_new w1 twos 9 w1.heap.size 1 rfl
  have q2 := cell_new w1 twos 9 w1.heap.size 2 rfl
  have q3 := cell_new w1 twos 9 w1.heap.size 3 rfl
  have hR1' : Rs (w1.alloc (.cells twos 9)) w.heap.size := hR1.on ((On.refl _).alloc _)
  have hon1' : On w (w1.alloc (.cells twos 9)) := hon1.alloc _
  have HQ : Hid ((w1.alloc (.cells twos 9)).cell? ⟨w1.heap.size, 0, none⟩ = some (.string ⟨#[60, 60]⟩) ∧ (w1.alloc (.cells twos 9)).cell? ⟨w1.heap.size, 1, none⟩ = some (.string ⟨#[62, 62]⟩) ∧ (w1.alloc (.cells twos 9)).cell? ⟨w1.heap.size, 2, none⟩ = some (.string ⟨#[61, 61]⟩) ∧ (w1.alloc (.cells twos 9)).cell? ⟨w1.heap.size, 3, none⟩ = some (.string ⟨#[33, 61]⟩)) := ⟨q0, q1, q2, q3⟩
  clear q0 q1 q2 q3 hR0 hw0 hw1 hS hR1 hon1
  go_loopg [13] 4 (fun k v wx => ∃ i : Nat, v = .int .i64 i ∧ k = 4 - i ∧ i ≤ 4 ∧ (s.size ≤ p + 1 → i = 0) ∧ ((0 < i → ¬ (c = 60 ∧ bN s (p + 1) = 60)) ∧ (1 < i → ¬ (c = 62 ∧ bN s (p + 1) = 62)) ∧ (2 < i → ¬ (c = 61 ∧ bN s (p + 1) = 61)) ∧ (3 < i → ¬ (c = 33 ∧ bN s (p + 1) = 61))) ∧ (wx.cell? ⟨w1.heap.size, 0, none⟩ = some (.string ⟨#[60, 60]⟩) ∧ wx.cell? ⟨w1.heap.size, 1, none⟩ = some (.string ⟨#[62, 62]⟩) ∧ wx.cell? ⟨w1.heap.size, 2, none⟩ = some (.string ⟨#[61, 61]⟩) ∧ wx.cell? ⟨w1.heap.size, 3, none⟩ = some (.string ⟨#[33, 61]⟩)) ∧ Rs wx w.heap.size ∧ On w wx)
  case atStart => exact ⟨0, rfl, rfl, by omega, fun _ => rfl, ⟨fun h => absurd h (by decide), fun h => absurd h (by decide), fun h => absurd h (by decide), fun h => absurd h (by decide)⟩, HQ.out, hR1', hon1'⟩
  case round =>
    obtain ⟨i, rfl, hk, hi, hz, hnm3, ⟨c0, c1, c2, c3⟩, hR, hon⟩ := hrel
    have HN3 : Hid ((0 < i → ¬ (c = 60 ∧ bN s (p + 1) = 60)) ∧ (1 < i → ¬ (c = 62 ∧ bN s (p + 1) = 62)) ∧ (2 < i → ¬ (c = 61 ∧ bN s (p + 1) = 61)) ∧ (3 < i → ¬ (c = 33 ∧ bN s (p + 1) = 61))) := hnm3
    clear hnm3 HQ hR1' hon1'
    by_cases hpp : p + 1 < s.size
    · exact absurd hpp (by omega)
    · have hi0 : i = 0 := hz (by omega)
      subst hi0
      have hpn : pairN (bN s p) (bN s (p + 1)) = false := by
        rw [bN_ge (show s.size ≤ p + 1 by omega)]
        simp [pairN]
      have HPN : Hid (pairN (bN s p) (bN s (p + 1)) = false) := hpn
      clear hpn
      go_wp2_with fail
      go_loopg [15] 12 (fun k v wy => ∃ i : Nat, v = .int .i64 i ∧ k = 12 - i ∧ i ≤ 12 ∧ (∀ j, (hj : j < 12) → j < i → (ones[j]'hj).toNat ≠ c) ∧ Rs wy w.heap.size ∧ On w wy)
      case atStart => exact ⟨0, rfl, rfl, by omega, fun j hj h => (by omega), hR, hon⟩
      case round =>
        obtain ⟨i4, rfl, hk4, hi4, hnm, hR4, hon4⟩ := hrel
        have HNM : Hid (∀ j, (hj : j < 12) → j < i4 → (ones[j]'hj).toNat ≠ c) := hnm
        clear hnm hR hon
        have t0 := hR4.t0
        have t1 := hR4.t1
        have t2 := hR4.t2
        have e0 := hR4.e0
        have e1' := hR4.e1
        have ft0 := hR4.ft 0
        have ft1 := hR4.ft 1
        have ft2 := hR4.ft 2
        have fe0 := hR4.fe 0
        have fe1 := hR4.fe 1
        by_cases hlt4 : i4 < 12
        · have HE : Hid ((ones[i4]'hlt4).toNat = ((⟨#[123, 125, 59, 58, 61, 43, 45, 42, 38, 124, 94, 60]⟩ : ByteArray)[i4]'hlt4).toNat) := rfl
          obtain ⟨e4, he4⟩ : ∃ e4, ((⟨#[123, 125, 59, 58, 61, 43, 45, 42, 38, 124, 94, 60]⟩ : ByteArray)[i4]'hlt4).toNat = e4 := ⟨_, rfl⟩
          have HE4 : Hid ((ones[i4]'hlt4).toNat = e4) := HE.out.trans he4
          clear HE
          by_cases hec : e4 = c
          · have heq : ((e4 : Int) == (c : Int)) = true := by rw [hec]; simp
            have HEC : Hid (e4 = c) := hec
            clear hec
            go_wp2_with fail
            (try simp only [Exit.inBlock, Exit.then])
            refine bodyPost_ret (v := .tuple #[.agg #[.int .i64 3, .string ((⟨#[123, 125, 59, 58, 61, 43, 45, 42, 38, 124, 94, 60]⟩ : ByteArray).extract i4 (i4 + 1)), .int .i64 p], .int .i64 ((p : Int) + 1), .agg #[.int .i64 0, .int .i64 0]]) ?_ rfl ⟨?_, ?_⟩
            · rw [results_c3 rfl]
              go_simp
            · have h1 : oneN (bN s p) = true := by
                rw [HC.out, ← HEC.out, ← HE4.out]
                exact ones_has ⟨i4, hlt4⟩
              have h2 : (⟨#[123, 125, 59, 58, 61, 43, 45, 42, 38, 124, 94, 60]⟩ : ByteArray).extract i4 (i4 + 1) = s.extract p (p + 1) := one_cut s hp hlt4 (by rw [HE4.out, HEC.out, HCP.out])
              rw [h2]
              unfold sgV
              rw [HPN.out, h1]
              rfl
            · exact ((((hon4.setNew (Nat.le_refl _) _).setNew (Nat.le_refl _) _).setNew (Nat.le_refl _) _).setNew (Nat.le_succ _) _).setNew (Nat.le_succ _) _
          · have heq : ((e4 : Int) == (c : Int)) = false := by rw [beq_eq_false_iff_ne]; omega
            go_wp2_with fail
            go_roundg (12 - (i4 + 1))
            case measure => omega
            case rel =>
              refine ⟨i4 + 1, by go_num, rfl, by omega, fun j hj h => ?_, hR4, hon4⟩
              by_cases hj4 : j = i4
              · subst hj4; rw [HE4.out]; exact hec
              · exact HNM.out j hj (by omega)
        · go_wp2_with fail
          (try simp only [Exit.inBlock, Exit.then])
          refine bodyPost_ret (v := .tuple #[.agg #[.int .i64 0, .string ⟨#[]⟩, .int .i64 0], .int .i64 p, .agg #[.int .i64 4, .int .i64 p]]) ?_ rfl ⟨?_, ?_⟩
          · rw [results_c3 rfl]
            go_simp
          · have h1 : oneN (bN s p) = false := by
              rw [HC.out]
              exact ones_none (fun j hj => HNM.out j hj (by omega))
            unfold sgV
            rw [HPN.out, h1]
            rfl
          · exact ((((hon4.setNew (Nat.le_refl _) _).setNew (Nat.le_refl _) _).setNew (Nat.le_refl _) _).setNew (Nat.le_succ _) _).setNew (Nat.le_succ _) _

theorem rs_minus (hs : s.size ≤ 140737488351232) (hp : p < s.size) (hl : letN (bN s p) = false) (hdg : digN (bN s p) = false) (h45 : bN s p = 45) (hp1 : p + 1 < s.size) (hd1 : digN (bN s (p + 1)) = false)
    (hS : ∀ w1, Calls Tryz.prog 126 #[.string s, .int .i64 a] w1 fun e w' => e = .returned (.int .i64 p) ∧ On w1 w') :
    Calls Tryz.prog 86 #[.string s, .int .i64 a] w fun e w' => e = .returned (sgV s p) ∧ On w w' := by
  have hR0 := Rs.new w
  have hw0 : On w ((w.alloc (.cells #[.int .i64 0, .string ⟨#[]⟩, .int .i64 0] 71)).alloc (.cells #[.int .i64 0, .int .i64 0] 36)) := ((On.refl w).alloc _).alloc _
  have e1 : ((p : Int) == (s.size : Int)) = false := by rw [beq_eq_false_iff_ne]; omega
  obtain ⟨c, hc⟩ : ∃ c, (s[p]'hp).toNat = c := ⟨_, rfl⟩
  have HC : Hid (bN s p = c) := (bN_lt hp).trans hc
  have HCP : Hid ((s[p]'hp).toNat = c) := hc
  have hL : ∀ w1, Calls Tryz.prog 110 #[.int .u8 c] w1 fun e w' => e = .returned (.bool false) ∧ w' = w1 := fun w1 => by have := rletter_is c w1; rw [HC.out] at hl; rw [hl] at this; exact this
  have hG : ∀ w1, Calls Tryz.prog 111 #[.int .u8 c] w1 fun e w' => e = .returned (.bool false) ∧ w' = w1 := fun w1 => by have := rdigit_is c w1; rw [HC.out] at hdg; rw [hdg] at this; exact this
  have eq45 : ((c : Int) == 45) = true := by rw [← HC.out, h45]; rfl
  obtain ⟨d, hd⟩ : ∃ d, (s[p + 1]'hp1).toNat = d := ⟨_, rfl⟩
  rw [bN_lt hp1, hd] at hd1
  have hG1 : ∀ w1, Calls Tryz.prog 111 #[.int .u8 d] w1 fun e w' => e = .returned (.bool false) ∧ w' = w1 := fun w1 => by have := rdigit_is d w1; rw [hd1] at this; exact this
  clear h45 hd1
  clear hl hdg
  go_enter Tryz.func86, Tryz.ntmps86
  go_wp2_with fail
  refine (hS _).mono ?_
  rintro e w1 ⟨rfl, hw1⟩
  go_wp2_with fail
  refine (hL _).mono ?_
  rintro e w1 ⟨rfl, rfl⟩
  go_wp2_with fail
  refine (hG _).mono ?_
  rintro e w1 ⟨rfl, rfl⟩
  go_wp2_with fail
  refine (hG1 _).mono ?_
  rintro e w1 ⟨rfl, rfl⟩
  go_wp2_with fail
  have hR1 := hR0.on hw1
  have hon1 := hw0.trans hw1
  have hl1 : w.heap.size + 1 < w1.heap.size := hR1.lt
  have q0 := cell_new w1 twos 9 w1.heap.size 0 rfl
  have q1 := cell_new w1 twos 9 w1.heap.size 1 rfl
  have q2 := cell_new w1 twos 9 w1.heap.size 2 rfl
  have q3 := cell_new w1 twos 9 w1.heap.size 3 rfl
  have hR1' : Rs (w1.alloc (.cells twos 9)) w.heap.size := hR1.on ((On.refl _).alloc _)
  have hon1' : On w (w1.alloc (.cells twos 9)) := hon1.alloc _
  have HQ : Hid ((w1.alloc (.cells twos 9)).cell? ⟨w1.heap.size, 0, none⟩ = some (.string ⟨#[60, 60]⟩) ∧ (w1.alloc (.cells twos 9)).cell? ⟨w1.heap.size, 1, none⟩ = some (.string ⟨#[62, 62]⟩) ∧ (w1.alloc (.cells twos 9)).cell? ⟨w1.heap.size, 2, none⟩ = some (.string ⟨#[61, 61]⟩) ∧ (w1.alloc (.cells twos 9)).cell? ⟨w1.heap.size, 3, none⟩ = some (.string ⟨#[33, 61]⟩)) := ⟨q0, q1, q2, q3⟩
  clear q0 q1 q2 q3 hR0 hw0 hw1 hS hR1 hon1
  go_loopg [13] 4 (fun k v wx => ∃ i : Nat, v = .int .i64 i ∧ k = 4 - i ∧ i ≤ 4 ∧ (s.size ≤ p + 1 → i = 0) ∧ ((0 < i → ¬ (c = 60 ∧ bN s (p + 1) = 60)) ∧ (1 < i → ¬ (c = 62 ∧ bN s (p + 1) = 62)) ∧ (2 < i → ¬ (c = 61 ∧ bN s (p + 1) = 61)) ∧ (3 < i → ¬ (c = 33 ∧ bN s (p + 1) = 61))) ∧ (wx.cell? ⟨w1.heap.size, 0, none⟩ = some (.string ⟨#[60, 60]⟩) ∧ wx.cell? ⟨w1.heap.size, 1, none⟩ = some (.string ⟨#[62, 62]⟩) ∧ wx.cell? ⟨w1.heap.size, 2, none⟩ = some (.string ⟨#[61, 61]⟩) ∧ wx.cell? ⟨w1.heap.size, 3, none⟩ = some (.string ⟨#[33, 61]⟩)) ∧ Rs wx w.heap.size ∧ On w wx)
  case atStart => exact ⟨0, rfl, rfl, by omega, fun _ => rfl, ⟨fun h => absurd h (by decide), fun h => absurd h (by decide), fun h => absurd h (by decide), fun h => absurd h (by decide)⟩, HQ.out, hR1', hon1'⟩
  case round =>
    obtain ⟨i, rfl, hk, hi, hz, hnm3, ⟨c0, c1, c2, c3⟩, hR, hon⟩ := hrel
    have HN3 : Hid ((0 < i → ¬ (c = 60 ∧ bN s (p + 1) = 60)) ∧ (1 < i → ¬ (c = 62 ∧ bN s (p + 1) = 62)) ∧ (2 < i → ¬ (c = 61 ∧ bN s (p + 1) = 61)) ∧ (3 < i → ¬ (c = 33 ∧ bN s (p + 1) = 61))) := hnm3
    clear hnm3 HQ hR1' hon1'
    by_cases hpp : p + 1 < s.size
    · have HTL := two_list s hpp
      have HT2 : Hid ((s.extract p (p + 1 + 1)).toList = [s[p], s[p + 1]]) := HTL
      clear HTL
      have hbb : p + 1 + 1 ≤ s.size := by omega
      obtain ⟨X, hX⟩ : ∃ X, s.extract p (p + 1 + 1) = X := ⟨_, rfl⟩
      have HXX : Hid (s.extract p (p + 1 + 1) = X) := hX
      clear hX
      have t0 := hR.t0
      have t1 := hR.t1
      have t2 := hR.t2
      have e0 := hR.e0
      have e1' := hR.e1
      have ft0 := hR.ft 0
      have ft1 := hR.ft 1
      have ft2 := hR.ft 2
      have fe0 := hR.fe 0
      have fe1 := hR.fe 1
      rcases (show i = 0 ∨ i = 1 ∨ i = 2 ∨ i = 3 ∨ i = 4 from by omega) with h | h | h | h | h
      · subst h
        by_cases hm : c = 60 ∧ bN s (p + 1) = 60
        · have hX2 : s.extract p (p + 1 + 1) = ⟨#[60, 60]⟩ := by
            apply bytes_ext
            rw [← ByteArray.toList_eq, HT2.out]
            have g1 : s[p] = 60 := UInt8.toNat_inj.1 (by rw [HCP.out, hm.1]; rfl)
            have g2 : s[p + 1] = 60 := UInt8.toNat_inj.1 (by rw [← bN_lt hpp, hm.2]; rfl)
            rw [g1, g2]
          have HX2 : Hid (s.extract p (p + 1 + 1) = ⟨#[60, 60]⟩) := hX2
          have HM : Hid (c = 60 ∧ bN s (p + 1) = 60) := hm
          clear hm HXX hX2
          have hcmp : ((s.extract p (p + 1 + 1)).toList == [60, 60]) = true := by rw [HX2.out, ByteArray.toList_eq]; rfl
          go_wp2_with fail
          go_region
          all_goals (go_wp2_with fail)
          all_goals (try simp only [Exit.inBlock, Exit.then])
          refine bodyPost_ret (v := .tuple #[.agg #[.int .i64 3, .string ⟨#[60, 60]⟩, .int .i64 p], .int .i64 ((p : Int) + 1 + 1), .agg #[.int .i64 0, .int .i64 0]]) ?_ rfl ⟨?_, ?_⟩
          · rw [results_c3 rfl]
            go_simp
          · unfold sgV
            have h1 : pairN (bN s p) (bN s (p + 1)) = true := by rw [HC.out, HM.out.1, HM.out.2]; rfl
            rw [h1, ← HX2.out]
            rfl
          · exact (((((hon.setNew (Nat.le_refl _) _).setNew (Nat.le_refl _) _).setNew (Nat.le_refl _) _).setNew (Nat.le_succ _) _).setNew (Nat.le_succ _) _).drew
        · have hcmp : ((s.extract p (p + 1 + 1)).toList == [60, 60]) = false := by
            rw [HT2.out, beq_eq_false_iff_ne]
            intro h
            obtain ⟨g1, g2⟩ := List.cons.inj h
            obtain ⟨g2, _⟩ := List.cons.inj g2
            refine hm ⟨?_, ?_⟩
            · rw [← HCP.out, g1]; rfl
            · rw [bN_lt hpp, g2]; rfl
          have HM : Hid (¬ (c = 60 ∧ bN s (p + 1) = 60)) := hm
          clear hm HXX
          go_wp2_with fail
          go_region
          all_goals (go_wp2_with fail)
          go_roundg (4 - 1)
          case measure => omega
          case rel => exact ⟨1, rfl, rfl, by omega, fun h => absurd h (by omega), ⟨fun _ => HM.out, fun h => absurd h (by decide), fun h => absurd h (by decide), fun h => absurd h (by decide)⟩, ⟨c0, c1, c2, c3⟩, ⟨hR.t, hR.e⟩, hon.drew⟩
      · subst h
        by_cases hm : c = 62 ∧ bN s (p + 1) = 62
        · have hX2 : s.extract p (p + 1 + 1) = ⟨#[62, 62]⟩ := by
            apply bytes_ext
            rw [← ByteArray.toList_eq, HT2.out]
            have g1 : s[p] = 62 := UInt8.toNat_inj.1 (by rw [HCP.out, hm.1]; rfl)
            have g2 : s[p + 1] = 62 := UInt8.toNat_inj.1 (by rw [← bN_lt hpp, hm.2]; rfl)
            rw [g1, g2]
          have HX2 : Hid (s.extract p (p + 1 + 1) = ⟨#[62, 62]⟩) := hX2
          have HM : Hid (c = 62 ∧ bN s (p + 1) = 62) := hm
          clear hm HXX hX2
          have hcmp : ((s.extract p (p + 1 + 1)).toList == [62, 62]) = true := by rw [HX2.out, ByteArray.toList_eq]; rfl
          go_wp2_with fail
          go_region
          all_goals (go_wp2_with fail)
          all_goals (try simp only [Exit.inBlock, Exit.then])
          refine bodyPost_ret (v := .tuple #[.agg #[.int .i64 3, .string ⟨#[62, 62]⟩, .int .i64 p], .int .i64 ((p : Int) + 1 + 1), .agg #[.int .i64 0, .int .i64 0]]) ?_ rfl ⟨?_, ?_⟩
          · rw [results_c3 rfl]
            go_simp
          · unfold sgV
            have h1 : pairN (bN s p) (bN s (p + 1)) = true := by rw [HC.out, HM.out.1, HM.out.2]; rfl
            rw [h1, ← HX2.out]
            rfl
          · exact (((((hon.setNew (Nat.le_refl _) _).setNew (Nat.le_refl _) _).setNew (Nat.le_refl _) _).setNew (Nat.le_succ _) _).setNew (Nat.le_succ _) _).drew
        · have hcmp : ((s.extract p (p + 1 + 1)).toList == [62, 62]) = false := by
            rw [HT2.out, beq_eq_false_iff_ne]
            intro h
            obtain ⟨g1, g2⟩ := List.cons.inj h
            obtain ⟨g2, _⟩ := List.cons.inj g2
            refine hm ⟨?_, ?_⟩
            · rw [← HCP.out, g1]; rfl
            · rw [bN_lt hpp, g2]; rfl
          have HM : Hid (¬ (c = 62 ∧ bN s (p + 1) = 62)) := hm
          clear hm HXX
          go_wp2_with fail
          go_region
          all_goals (go_wp2_with fail)
          go_roundg (4 - 2)
          case measure => omega
          case rel => exact ⟨2, rfl, rfl, by omega, fun h => absurd h (by omega), ⟨fun _ => HN3.out.1 (by decide), fun _ => HM.out, fun h => absurd h (by decide), fun h => absurd h (by decide)⟩, ⟨c0, c1, c2, c3⟩, ⟨hR.t, hR.e⟩, hon.drew⟩
      · subst h
        by_cases hm : c = 61 ∧ bN s (p + 1) = 61
        · have hX2 : s.extract p (p + 1 + 1) = ⟨#[61, 61]⟩ := by
            apply bytes_ext
            rw [← ByteArray.toList_eq, HT2.out]
            have g1 : s[p] = 61 := UInt8.toNat_inj.1 (by rw [HCP.out, hm.1]; rfl)
            have g2 : s[p + 1] = 61 := UInt8.toNat_inj.1 (by rw [← bN_lt hpp, hm.2]; rfl)
            rw [g1, g2]
          have HX2 : Hid (s.extract p (p + 1 + 1) = ⟨#[61, 61]⟩) := hX2
          have HM : Hid (c = 61 ∧ bN s (p + 1) = 61) := hm
          clear hm HXX hX2
          have hcmp : ((s.extract p (p + 1 + 1)).toList == [61, 61]) = true := by rw [HX2.out, ByteArray.toList_eq]; rfl
          go_wp2_with fail
          go_region
          all_goals (go_wp2_with fail)
          all_goals (try simp only [Exit.inBlock, Exit.then])
          refine bodyPost_ret (v := .tuple #[.agg #[.int .i64 3, .string ⟨#[61, 61]⟩, .int .i64 p], .int .i64 ((p : Int) + 1 + 1), .agg #[.int .i64 0, .int .i64 0]]) ?_ rfl ⟨?_, ?_⟩
          · rw [results_c3 rfl]
            go_simp
          · unfold sgV
            have h1 : pairN (bN s p) (bN s (p + 1)) = true := by rw [HC.out, HM.out.1, HM.out.2]; rfl
            rw [h1, ← HX2.out]
            rfl
          · exact (((((hon.setNew (Nat.le_refl _) _).setNew (Nat.le_refl _) _).setNew (Nat.le_refl _) _).setNew (Nat.le_succ _) _).setNew (Nat.le_succ _) _).drew
        · have hcmp : ((s.extract p (p + 1 + 1)).toList == [61, 61]) = false := by
            rw [HT2.out, beq_eq_false_iff_ne]
            intro h
            obtain ⟨g1, g2⟩ := List.cons.inj h
            obtain ⟨g2, _⟩ := List.cons.inj g2
            refine hm ⟨?_, ?_⟩
            · rw [← HCP.out, g1]; rfl
            · rw [bN_lt hpp, g2]; rfl
          have HM : Hid (¬ (c = 61 ∧ bN s (p + 1) = 61)) := hm
          clear hm HXX
          go_wp2_with fail
          go_region
          all_goals (go_wp2_with fail)
          go_roundg (4 - 3)
          case measure => omega
          case rel => exact ⟨3, rfl, rfl, by omega, fun h => absurd h (by omega), ⟨fun _ => HN3.out.1 (by decide), fun _ => HN3.out.2.1 (by decide), fun _ => HM.out, fun h => absurd h (by decide)⟩, ⟨c0, c1, c2, c3⟩, ⟨hR.t, hR.e⟩, hon.drew⟩
      · subst h
        by_cases hm : c = 33 ∧ bN s (p + 1) = 61
        · have hX2 : s.extract p (p + 1 + 1) = ⟨#[33, 61]⟩ := by
            apply bytes_ext
            rw [← ByteArray.toList_eq, HT2.out]
            have g1 : s[p] = 33 := UInt8.toNat_inj.1 (by rw [HCP.out, hm.1]; rfl)
            have g2 : s[p + 1] = 61 := UInt8.toNat_inj.1 (by rw [← bN_lt hpp, hm.2]; rfl)
            rw [g1, g2]
          have HX2 : Hid (s.extract p (p + 1 + 1) = ⟨#[33, 61]⟩) := hX2
          have HM : Hid (c = 33 ∧ bN s (p + 1) = 61) := hm
          clear hm HXX hX2
          have hcmp : ((s.extract p (p + 1 + 1)).toList == [33, 61]) = true := by rw [HX2.out, ByteArray.toList_eq]; rfl
          go_wp2_with fail
          go_region
          all_goals (go_wp2_with fail)
          all_goals (try simp only [Exit.inBlock, Exit.then])
          refine bodyPost_ret (v := .tuple #[.agg #[.int .i64 3, .string ⟨#[33, 61]⟩, .int .i64 p], .int .i64 ((p : Int) + 1 + 1), .agg #[.int .i64 0, .int .i64 0]]) ?_ rfl ⟨?_, ?_⟩
          · rw [results_c3 rfl]
            go_simp
          · unfold sgV
            have h1 : pairN (bN s p) (bN s (p + 1)) = true := by rw [HC.out, HM.out.1, HM.out.2]; rfl
            rw [h1, ← HX2.out]
            rfl
          · exact (((((hon.setNew (Nat.le_refl _) _).setNew (Nat.le_refl _) _).setNew (Nat.le_refl _) _).setNew (Nat.le_succ _) _).setNew (Nat.le_succ _) _).drew
        · have hcmp : ((s.extract p (p + 1 + 1)).toList == [33, 61]) = false := by
            rw [HT2.out, beq_eq_false_iff_ne]
            intro h
            obtain ⟨g1, g2⟩ := List.cons.inj h
            obtain ⟨g2, _⟩ := List.cons.inj g2
            refine hm ⟨?_, ?_⟩
            · rw [← HCP.out, g1]; rfl
            · rw [bN_lt hpp, g2]; rfl
          have HM : Hid (¬ (c = 33 ∧ bN s (p + 1) = 61)) := hm
          clear hm HXX
          go_wp2_with fail
          go_region
          all_goals (go_wp2_with fail)
          go_roundg (4 - 4)
          case measure => omega
          case rel => exact ⟨4, rfl, rfl, by omega, fun h => absurd h (by omega), ⟨fun _ => HN3.out.1 (by decide), fun _ => HN3.out.2.1 (by decide), fun _ => HN3.out.2.2.1 (by decide), fun _ => HM.out⟩, ⟨c0, c1, c2, c3⟩, ⟨hR.t, hR.e⟩, hon.drew⟩
      · subst h
        have hpn : pairN (bN s p) (bN s (p + 1)) = false := by
          have g1 := HN3.out.1 (by decide)
          have g2 := HN3.out.2.1 (by decide)
          have g3 := HN3.out.2.2.1 (by decide)
          have g4 := HN3.out.2.2.2 (by decide)
          rw [HC.out]
          unfold pairN
          simp only [Bool.or_eq_false_iff, Bool.and_eq_false_iff, beq_eq_false_iff_ne]
          omega
        clear t0 t1 t2 e0 e1' ft0 ft1 ft2 fe0 fe1 HXX HT2
        have HPN : Hid (pairN (bN s p) (bN s (p + 1)) = false) := hpn
        clear hpn
        go_wp2_with fail
        go_loopg [15] 12 (fun k v wy => ∃ i : Nat, v = .int .i64 i ∧ k = 12 - i ∧ i ≤ 12 ∧ (∀ j, (hj : j < 12) → j < i → (ones[j]'hj).toNat ≠ c) ∧ Rs wy w.heap.size ∧ On w wy)
        case atStart => exact ⟨0, rfl, rfl, by omega, fun j hj h => (by omega), hR, hon⟩
        case round =>
          obtain ⟨i4, rfl, hk4, hi4, hnm, hR4, hon4⟩ := hrel
          have HNM : Hid (∀ j, (hj : j < 12) → j < i4 → (ones[j]'hj).toNat ≠ c) := hnm
          clear hnm hR hon
          have t0 := hR4.t0
          have t1 := hR4.t1
          have t2 := hR4.t2
          have e0 := hR4.e0
          have e1' := hR4.e1
          have ft0 := hR4.ft 0
          have ft1 := hR4.ft 1
          have ft2 := hR4.ft 2
          have fe0 := hR4.fe 0
          have fe1 := hR4.fe 1
          by_cases hlt4 : i4 < 12
          · have HE : Hid ((ones[i4]'hlt4).toNat = ((⟨#[123, 125, 59, 58, 61, 43, 45, 42, 38, 124, 94, 60]⟩ : ByteArray)[i4]'hlt4).toNat) := rfl
            obtain ⟨e4, he4⟩ : ∃ e4, ((⟨#[123, 125, 59, 58, 61, 43, 45, 42, 38, 124, 94, 60]⟩ : ByteArray)[i4]'hlt4).toNat = e4 := ⟨_, rfl⟩
            have HE4 : Hid ((ones[i4]'hlt4).toNat = e4) := HE.out.trans he4
            clear HE
            by_cases hec : e4 = c
            · have heq : ((e4 : Int) == (c : Int)) = true := by rw [hec]; simp
              have HEC : Hid (e4 = c) := hec
              clear hec
              go_wp2_with fail
              (try simp only [Exit.inBlock, Exit.then])
              refine bodyPost_ret (v := .tuple #[.agg #[.int .i64 3, .string ((⟨#[123, 125, 59, 58, 61, 43, 45, 42, 38, 124, 94, 60]⟩ : ByteArray).extract i4 (i4 + 1)), .int .i64 p], .int .i64 ((p : Int) + 1), .agg #[.int .i64 0, .int .i64 0]]) ?_ rfl ⟨?_, ?_⟩
              · rw [results_c3 rfl]
                go_simp
              · have h1 : oneN (bN s p) = true := by
                  rw [HC.out, ← HEC.out, ← HE4.out]
                  exact ones_has ⟨i4, hlt4⟩
                have h2 : (⟨#[123, 125, 59, 58, 61, 43, 45, 42, 38, 124, 94, 60]⟩ : ByteArray).extract i4 (i4 + 1) = s.extract p (p + 1) := one_cut s hp hlt4 (by rw [HE4.out, HEC.out, HCP.out])
                rw [h2]
                unfold sgV
                rw [HPN.out, h1]
                rfl
              · exact ((((hon4.setNew (Nat.le_refl _) _).setNew (Nat.le_refl _) _).setNew (Nat.le_refl _) _).setNew (Nat.le_succ _) _).setNew (Nat.le_succ _) _
            · have heq : ((e4 : Int) == (c : Int)) = false := by rw [beq_eq_false_iff_ne]; omega
              go_wp2_with fail
              go_roundg (12 - (i4 + 1))
              case measure => omega
              case rel =>
                refine ⟨i4 + 1, by go_num, rfl, by omega, fun j hj h => ?_, hR4, hon4⟩
                by_cases hj4 : j = i4
                · subst hj4; rw [HE4.out]; exact hec
                · exact HNM.out j hj (by omega)
          · go_wp2_with fail
            (try simp only [Exit.inBlock, Exit.then])
            refine bodyPost_ret (v := .tuple #[.agg #[.int .i64 0, .string ⟨#[]⟩, .int .i64 0], .int .i64 p, .agg #[.int .i64 4, .int .i64 p]]) ?_ rfl ⟨?_, ?_⟩
            · rw [results_c3 rfl]
              go_simp
            · have h1 : oneN (bN s p) = false := by
                rw [HC.out]
                exact ones_none (fun j hj => HNM.out j hj (by omega))
              unfold sgV
              rw [HPN.out, h1]
              rfl
            · exact ((((hon4.setNew (Nat.le_refl _) _).setNew (Nat.le_refl _) _).setNew (Nat.le_refl _) _).setNew (Nat.le_succ _) _).setNew (Nat.le_succ _) _
    · exact absurd hp1 hpp

end
end Go.Proofs.YtacflahkofmcpaaGreatDoor
