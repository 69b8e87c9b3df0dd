/- Registers, locations, numbers, operands and names, as the parser takes them. -/
import Derived.Test.YtacflahkofmcpaaGreatDoorJ04OpW
import Derived.Test.YtacflahkofmcpaaGreatDoorShelfClone
import Derived.BigQuiet
namespace Go.Proofs.YtacflahkofmcpaaGreatDoor
open Go.RowKit

set_option maxHeartbeats 400000 in
theorem registerOf_is (x : ByteArray) (w : World) :
    Calls Tryz.prog 157 #[.string x] w fun e w' => e = .returned (.tuple #[.int .u8 (regV x), .bool (regB x)]) ∧ w' = w := by
  by_cases h2 : x.size = 2
  · have e2 : ((x.size : Int) != 2) = false := by rw [h2]; rfl
    have l0 : 0 < x.size := by omega
    have l1 : 1 < x.size := by omega
    have b0 := bN_lt l0
    have b1 := bN_lt l1
    by_cases h0 : bN x 0 = 114
    · have q0 : (((x[0]).toNat : Int) != 114) = false := by rw [← b0, h0]; rfl
      by_cases h1 : 48 ≤ bN x 1 ∧ bN x 1 ≤ 51
      · have hB : regB x = true := by unfold regB; simp [h2, h0, h1]
        have hV : regV x = (bN x 1 : Int) - 48 := by unfold regV; rw [hB]; rfl
        rw [hB, hV]
        have hw : IntKind.u8.wrap (((x[1]).toNat : Int) - 48) = (bN x 1 : Int) - 48 := by rw [← b1, IntKind.wrap_u8]; omega
        have hq : (((bN x 1 : Int) - 48) / 4 != 0) = false := by rw [bne_eq_false_iff_eq]; omega
        clear h0 hB hV b0 b1 h1
        go_enter Tryz.func157, Tryz.ntmps157
        go_wp2
        go_ret2
        exact ⟨rfl, rfl⟩
      · have hB : regB x = false := by unfold regB; simp [h1]
        have hV : regV x = 0 := by unfold regV; rw [hB]; rfl
        rw [hB, hV]
        have h255 := bN_255 x 1
        have hq : ((((x[1]).toNat : Int) - 48) % 256 / 4 != 0) = true := by rw [← b1, bne_iff_ne]; omega
        clear h0 hB hV b0 b1 h1 h255
        go_enter Tryz.func157, Tryz.ntmps157
        go_wp2
        go_ret2
        exact ⟨rfl, rfl⟩
    · have q0 : (((x[0]).toNat : Int) != 114) = true := by rw [← b0]; simp; omega
      have hB : regB x = false := by unfold regB; simp [h0]
      have hV : regV x = 0 := by unfold regV; rw [hB]; rfl
      rw [hB, hV]
      clear h0 hB hV b0 b1
      go_enter Tryz.func157, Tryz.ntmps157
      go_wp2
      go_ret2
      exact ⟨rfl, rfl⟩
  · have e2 : ((x.size : Int) != 2) = true := by simp; omega
    have hB : regB x = false := by unfold regB; simp [h2]
    have hV : regV x = 0 := by unfold regV; rw [hB]; rfl
    rw [hB, hV]
    clear h2 hB hV
    go_enter Tryz.func157, Tryz.ntmps157
    go_wp2
    go_ret2
    exact ⟨rfl, rfl⟩

set_option maxHeartbeats 400000 in
theorem locationOf_is (k q : Nat) (x : ByteArray) (w : World) :
    Calls Tryz.prog 153 #[.agg #[.int .i64 k, .string x, .int .i64 q]] w fun e w' => e = .returned (.tuple #[.int .u8 (locV k x), .bool (locB k x)]) ∧ On w w' := by
  by_cases h1 : k = 1
  · have e1 : ((k : Int) != 1) = false := by rw [h1]; rfl
    by_cases h2 : x.size = 1
    · have e2 : ((x.size : Int) != 1) = false := by rw [h2]; rfl
      have l0 : 0 < x.size := by omega
      have b0 := bN_lt l0
      have hB : locB k x = true := by unfold locB; simp [h1, h2]
      have hV : locV k x = ((x[0]).toNat : Int) := by unfold locV; rw [hB, ← b0]; rfl
      rw [hB, hV]
      clear h1 hB hV b0
      go_enter Tryz.func153, Tryz.ntmps153
      go_wp2
      go_ret2
      exact ⟨rfl, (On.refl _).alloc _⟩
    · have e2 : ((x.size : Int) != 1) = true := by simp; omega
      have hB : locB k x = false := by unfold locB; simp [h2]
      have hV : locV k x = 0 := by unfold locV; rw [hB]; rfl
      rw [hB, hV]
      clear h1 h2 hB hV
      go_enter Tryz.func153, Tryz.ntmps153
      go_wp2
      go_ret2
      exact ⟨rfl, (On.refl _).alloc _⟩
  · have e1 : ((k : Int) != 1) = true := by simp; omega
    have hB : locB k x = false := by unfold locB; simp [h1]
    have hV : locV k x = 0 := by unfold locV; rw [hB]; rfl
    rw [hB, hV]
    clear h1 hB hV
    go_enter Tryz.func153, Tryz.ntmps153
    go_wp2
    go_ret2
    exact ⟨rfl, (On.refl _).alloc _⟩

theorem tokX_size {s : ByteArray} {S : St} (h : s.size ≤ 4000) : (tokX s S).size ≤ 4000 := by
  cases S with
  | ok a => simp only [tokX, tx]; rw [ByteArray.size_extract]; omega
  | error e => exact Nat.zero_le _

section
variable (w : World) (p l : Nat) (s : ByteArray) (S : St)
set_option maxHeartbeats 400000
theorem named_is (v : Int) (ok : Bool) (h0 : 0 ≤ v) (h1 : v ≤ 255) (hok : ok = true → ∃ a, S = .ok a) (h : Px w p l s S) :
    Calls Tryz.prog 154 #[.pointer (some ⟨p, 0, none⟩), .int .u8 v, .bool ok] w fun e w' => e = .returned (.int .i64 (namedP s v ok S).1) ∧ Px w' p l s (namedP s v ok S).2 ∧ Wp p l w w' := by
  have c1 := h.c1
  unfold namedP
  cases ok with
  | true =>
    simp only [if_true]
    obtain ⟨a, rfl⟩ := hok rfl
    have hN := next_px w p l s a h
    clear h
    go_enter Tryz.func154, Tryz.ntmps154
    go_wp2_with (go_at_call 30; refine hN.mono ?_; rintro e w1 ⟨rfl, h1, hw1⟩)
    go_ret
    exact ⟨rfl, h1, hw1⟩
  | false =>
    simp only [Bool.false_eq_true, if_false]
    by_cases hk : tokK s S = 1
    · have hq : ((tokK s S : Int) == 1) = true := by rw [hk]; rfl
      rw [if_pos hk]
      have hF := fail_is w p l s S 7 h (by decide)
      clear hk h hok
      go_enter Tryz.func154, Tryz.ntmps154
      go_wp2_with (go_at_call 115; refine hF.mono ?_; rintro e w1 ⟨rfl, h1, hw1⟩)
      go_ret
      exact ⟨rfl, h1, hw1⟩
    · have hq : ((tokK s S : Int) == 1) = false := by rw [beq_eq_false_iff_ne]; omega
      rw [if_neg hk]
      have hF := fail_is w p l s S 6 h (by decide)
      clear hk h hok
      go_enter Tryz.func154, Tryz.ntmps154
      go_wp2_with (go_at_call 115; refine hF.mono ?_; rintro e w1 ⟨rfl, h1, hw1⟩)
      go_ret
      exact ⟨rfl, h1, hw1⟩

theorem regV_bd (x : ByteArray) : 0 ≤ regV x ∧ regV x ≤ 255 := by
  unfold regV
  split
  · rename_i h; unfold regB at h; simp at h; omega
  · omega
theorem locV_bd (k : Nat) (x : ByteArray) : 0 ≤ locV k x ∧ locV k x ≤ 255 := by
  have := bN_255 x 0
  unfold locV
  split <;> omega
theorem regB_nil : regB ⟨#[]⟩ = false := by decide
theorem locB_nil : locB 0 ⟨#[]⟩ = false := by decide
theorem regB_ok {S : St} (h : regB (tokX s S) = true) : ∃ a, S = .ok a := by
  cases S with
  | ok a => exact ⟨a, rfl⟩
  | error e => simp only [tokX, regB_nil] at h; cases h
theorem locB_ok {S : St} (h : locB (tokK s S) (tokX s S) = true) : ∃ a, S = .ok a := by
  cases S with
  | ok a => exact ⟨a, rfl⟩
  | error e => simp only [tokX, tokK, locB_nil] at h; cases h
theorem pB_nil : pB ⟨#[]⟩ = false := by decide
theorem pB_ok {S : St} (h : pB (tokX s S) = true) : ∃ a, S = .ok a := by
  cases S with
  | ok a => exact ⟨a, rfl⟩
  | error e => simp only [tokX, pB_nil] at h; cases h

theorem register_is (h : Px w p l s S) :
    Calls Tryz.prog 121 #[.pointer (some ⟨p, 0, none⟩)] w fun e w' => e = .returned (.int .i64 (regP s S).1) ∧ Px w' p l s (regP s S).2 ∧ Wp p l w w' := by
  have c2 := h.c2
  have hR := registerOf_is (tokX s S) w
  obtain ⟨b0, b1⟩ := regV_bd (tokX s S)
  have hN := named_is w p l s S (regV (tokX s S)) (regB (tokX s S)) b0 b1 (regB_ok s) h
  unfold regP
  clear h b0 b1
  go_enter Tryz.func121, Tryz.ntmps121
  go_wp2_with (first | (go_at_call 157; refine hR.mono ?_; rintro e w1 ⟨rfl, rfl⟩) | (go_at_call 154; refine hN.mono ?_; rintro e w2 ⟨rfl, h2, hw2⟩))
  go_ret
  exact ⟨rfl, h2, hw2⟩

theorem location_is (h : Px w p l s S) :
    Calls Tryz.prog 117 #[.pointer (some ⟨p, 0, none⟩)] w fun e w' => e = .returned (.int .i64 (locP s S).1) ∧ Px w' p l s (locP s S).2 ∧ Wp p l w w' := by
  have c1 := h.c1
  have c2 := h.c2
  have c3 := h.c3
  have hR := locationOf_is (tokK s S) (tokP s S) (tokX s S) w
  obtain ⟨b0, b1⟩ := locV_bd (tokK s S) (tokX s S)
  have hN := fun w1 (k : On w w1) => named_is w1 p l s S (locV (tokK s S) (tokX s S)) (locB (tokK s S) (tokX s S)) b0 b1 (locB_ok s) (h.on k)
  unfold locP
  clear h b0 b1
  go_enter Tryz.func117, Tryz.ntmps117
  go_wp2_with (first | (go_at_call 153; refine hR.mono ?_; rintro e w1 ⟨rfl, k1⟩) | (go_at_call 154; refine (hN _ k1).mono ?_; rintro e w2 ⟨rfl, h2, hw2⟩))
  go_ret
  exact ⟨rfl, h2, (Wp.of_on k1).trans hw2⟩

theorem number_is (h : Px w p l s S) :
    Calls Tryz.prog 118 #[.pointer (some ⟨p, 0, none⟩)] w fun e w' => e = .returned (.int .i64 (numP s S).1) ∧ Px w' p l s (numP s S).2 ∧ Wp p l w w' := by
  have c2 := h.c2
  have hP := parse_is (tokX s S) (by have := tokX_size (S := S) h.sz; omega) w h.lw
  unfold numP
  cases hb : pB (tokX s S) with
  | true =>
    rw [hb] at hP
    simp only [if_true]
    obtain ⟨a, rfl⟩ := pB_ok s hb
    have hN := fun w1 (k : On w w1) => next_px w1 p l s a (h.on k)
    clear h hb
    go_enter Tryz.func118, Tryz.ntmps118
    go_wp2_with (first | (go_at_call 155; refine hP.mono ?_; rintro e w1 ⟨rfl, k1⟩) | (go_at_call 30; refine (hN _ k1).mono ?_; rintro e w2 ⟨rfl, h2, hw2⟩))
    go_ret
    exact ⟨rfl, h2, (Wp.of_on k1).trans hw2⟩
  | false =>
    rw [hb] at hP
    simp only [Bool.false_eq_true, if_false]
    have hN := fun w1 (k : On w w1) => fail_is w1 p l s S 6 (h.on k) (by decide)
    clear h hb
    go_enter Tryz.func118, Tryz.ntmps118
    go_wp2_with (first | (go_at_call 155; refine hP.mono ?_; rintro e w1 ⟨rfl, k1⟩) | (go_at_call 115; refine (hN _ k1).mono ?_; rintro e w2 ⟨rfl, h2, hw2⟩))
    go_ret
    exact ⟨rfl, h2, (Wp.of_on k1).trans hw2⟩

theorem numberUpTo_is (m : Int) (c : Nat) (hc : c ≠ 0) (h : Px w p l s S) :
    Calls Tryz.prog 156 #[.pointer (some ⟨p, 0, none⟩), .int .i64 m, .int .i64 c] w fun e w' => e = .returned (.int .i64 (uptoP s m c S).1) ∧ Px w' p l s (uptoP s m c S).2 ∧ Wp p l w w' := by
  have c2 := h.c2
  have hP := parse_is (tokX s S) (by have := tokX_size (S := S) h.sz; omega) w h.lw
  unfold uptoP
  cases hb : pB (tokX s S) with
  | false =>
    rw [hb] at hP
    have ho : outB s m S = false := by unfold outB; rw [hb]; rfl
    rw [ho]
    simp only [Bool.false_eq_true, if_false]
    have hN := fun w1 (k : On w w1) => number_is w1 p l s S (h.on k)
    clear h hb ho
    go_enter Tryz.func156, Tryz.ntmps156
    go_wp2_with (first | (go_at_call 155; refine hP.mono ?_; rintro e w1 ⟨rfl, k1⟩) | (go_at_call 118; refine (hN _ k1).mono ?_; rintro e w2 ⟨rfl, h2, hw2⟩))
    all_goals (try go_ret)
    all_goals exact ⟨rfl, h2, (Wp.of_on k1).trans hw2⟩
  | true =>
    rw [hb] at hP
    have hN := fun w1 (k : On w w1) => number_is w1 p l s S (h.on k)
    have hF := fun w1 (k : On w w1) => fail_is w1 p l s S c (h.on k) hc
    by_cases hn : pN (tokX s S) < 0
    · have ho : outB s m S = true := by unfold outB; rw [hb]; simp [hn]
      have q1 : decide (pN (tokX s S) < 0) = true := by simp [hn]
      rw [ho]
      simp only [if_true]
      clear h hb ho hN hc
      go_enter Tryz.func156, Tryz.ntmps156
      go_wp2_with (first | (go_at_call 155; refine hP.mono ?_; rintro e w1 ⟨rfl, k1⟩) | (go_at_call 115; refine (hF _ k1).mono ?_; rintro e w2 ⟨rfl, h2, hw2⟩))
      all_goals (try go_ret)
      all_goals exact ⟨rfl, h2, (Wp.of_on k1).trans hw2⟩
    · have q1 : decide (pN (tokX s S) < 0) = false := by simp; omega
      by_cases hm : m < pN (tokX s S)
      · have ho : outB s m S = true := by unfold outB; rw [hb]; simp [hm]
        have q2 : decide (m < pN (tokX s S)) = true := by simp [hm]
        rw [ho]
        simp only [if_true]
        clear h hb ho hN hc hn
        go_enter Tryz.func156, Tryz.ntmps156
        go_wp2_with (first | (go_at_call 155; refine hP.mono ?_; rintro e w1 ⟨rfl, k1⟩) | (go_at_call 115; refine (hF _ k1).mono ?_; rintro e w2 ⟨rfl, h2, hw2⟩))
        all_goals (try go_ret)
        all_goals exact ⟨rfl, h2, (Wp.of_on k1).trans hw2⟩
      · have ho : outB s m S = false := by unfold outB; rw [hb]; simp [hn, hm]
        have q2 : decide (m < pN (tokX s S)) = false := by simp; omega
        rw [ho]
        simp only [Bool.false_eq_true, if_false]
        clear h hb ho hF hc hn hm
        go_enter Tryz.func156, Tryz.ntmps156
        go_wp2_with (first | (go_at_call 155; refine hP.mono ?_; rintro e w1 ⟨rfl, k1⟩) | (go_at_call 118; refine (hN _ k1).mono ?_; rintro e w2 ⟨rfl, h2, hw2⟩))
        all_goals (try go_ret)
        all_goals exact ⟨rfl, h2, (Wp.of_on k1).trans hw2⟩

/-- An operand's value. -/
def opdA (o : Opd) : Value := .agg #[.int .i64 o.r, .int .i64 o.v]

theorem results_cell {fn : Func} {q : Tmp} {ty : TypeId} (h : fn.results = #[.cell q ty]) (tmps : Array Value) (P : Program) (w : World) :
    (results fn tmps).run P w = ((asAddr (tmps.getD q undef)).run P w).andThen fun a w₁ => (loadVar ty a).run P w₁ := by
  simp only [results, h]
  simp [Sem.run_bind, Result.andThen]

theorem operand_is (h : Px w p l s S) :
    Calls Tryz.prog 119 #[.pointer (some ⟨p, 0, none⟩)] w fun e w' => e = .returned (opdA (opdP s S).1) ∧ Px w' p l s (opdP s S).2 ∧ Wp p l w w' := by
  have hx : ∀ o, Px (w.alloc o) p l s S := fun o => h.alloc o
  have c1 := h.c1
  have hlp := h.lp
  have hll := h.ll
  unfold opdP
  by_cases hk : tokK s S = 2
  · have hq : ((tokK s S : Int) == 2) = true := by rw [hk]; rfl
    rw [if_pos hk]
    clear h hk
    go_enter Tryz.func119, Tryz.ntmps119
    go_wp2_with fail
    refine (number_is _ p l s S (hx _)).mono ?_
    rintro e w1 ⟨rfl, h1, hw1⟩
    have b1 := hw1.block w.heap.size (by simp) (by omega) (by omega)
    rw [heap_alloc_new] at b1
    have dc0 : w1.cell? ⟨w.heap.size, 0, none⟩ = some (.int .i64 0) := by simp [World.cell?, b1]
    have dc1 : w1.cell? ⟨w.heap.size, 1, none⟩ = some (.int .i64 0) := by simp [World.cell?, b1]
    have df0 : w1.frozen? ⟨w.heap.size, 0, none⟩ = false := by simp [World.frozen?, b1]
    have df1 : w1.frozen? ⟨w.heap.size, 1, none⟩ = false := by simp [World.frozen?, b1]
    have hW : Wp p l w w1 := ((Wp.refl p l w).alloc _).trans hw1
    clear b1 hw1 hx
    go_wp2
    (try simp only [Exit.inBlock, Exit.then])
    refine bodyPost_ret (v := opdA ⟨-1, (numP s S).1⟩) ?_ rfl ⟨rfl, (h1.setFar hlp hll _).setFar hlp hll _, (hW.setNew (Nat.le_refl _) _).setNew (Nat.le_refl _) _⟩
    rw [results_cell rfl]
    unfold opdA
    go_simp
  · have hq : ((tokK s S : Int) == 2) = false := by rw [beq_eq_false_iff_ne]; omega
    rw [if_neg hk]
    clear h hk
    go_enter Tryz.func119, Tryz.ntmps119
    go_wp2_with fail
    refine (register_is _ p l s S (hx _)).mono ?_
    rintro e w1 ⟨rfl, h1, hw1⟩
    have b1 := hw1.block w.heap.size (by simp) (by omega) (by omega)
    rw [heap_alloc_new] at b1
    have dc0 : w1.cell? ⟨w.heap.size, 0, none⟩ = some (.int .i64 0) := by simp [World.cell?, b1]
    have dc1 : w1.cell? ⟨w.heap.size, 1, none⟩ = some (.int .i64 0) := by simp [World.cell?, b1]
    have df0 : w1.frozen? ⟨w.heap.size, 0, none⟩ = false := by simp [World.frozen?, b1]
    have df1 : w1.frozen? ⟨w.heap.size, 1, none⟩ = false := by simp [World.frozen?, b1]
    have hW : Wp p l w w1 := ((Wp.refl p l w).alloc _).trans hw1
    clear b1 hw1 hx
    go_wp2
    (try simp only [Exit.inBlock, Exit.then])
    refine bodyPost_ret (v := opdA ⟨(regP s S).1, 0⟩) ?_ rfl ⟨rfl, (h1.setFar hlp hll _).setFar hlp hll _, (hW.setNew (Nat.le_refl _) _).setNew (Nat.le_refl _) _⟩
    rw [results_cell rfl]
    unfold opdA
    go_simp

theorem name_is (h : Px w p l s S) :
    Calls Tryz.prog 74 #[.pointer (some ⟨p, 0, none⟩)] w fun e w' => e = .returned (.string (nameP s S).1) ∧ Px w' p l s (nameP s S).2 ∧ Wp p l w w' := by
  have c1 := h.c1
  have c2 := h.c2
  unfold nameP
  by_cases hk : tokK s S = 1
  · have hq : ((tokK s S : Int) != 1) = false := by rw [hk]; rfl
    rw [if_pos hk]
    obtain ⟨a, rfl⟩ : ∃ a, S = .ok a := by
      cases S with
      | ok a => exact ⟨a, rfl⟩
      | error e => simp [tokK] at hk
    have hC : Calls Tryz.prog 116 #[.string (tokX s (.ok a))] w fun e w' => e = .returned (.string (tokX s (.ok a))) ∧ On w w' := by
      have hS := Any.stringslite_Clone Tryz.laysM316 (tokX s (.ok a)) w (by have := tokX_size (S := .ok a) h.sz; omega)
      go_enter Tryz.func116, Tryz.ntmps116
      go_wp2_with (go_at_call 152; refine hS.mono ?_; rintro e w1 ⟨rfl, k1⟩)
      go_ret
      exact ⟨rfl, k1⟩
    have hN := fun w1 (k : On w w1) => next_px w1 p l s a (h.on k)
    clear h hk
    go_enter Tryz.func74, Tryz.ntmps74
    go_wp2_with (first | (go_at_call 116; refine hC.mono ?_; rintro e w1 ⟨rfl, k1⟩) | (go_at_call 30; refine (hN _ k1).mono ?_; rintro e w2 ⟨rfl, h2, hw2⟩))
    go_ret
    exact ⟨rfl, h2, (Wp.of_on k1).trans hw2⟩
  · have hq : ((tokK s S : Int) != 1) = true := by simp; omega
    rw [if_neg hk]
    have hF := fail_is w p l s S 6 h (by decide)
    clear h hk
    go_enter Tryz.func74, Tryz.ntmps74
    go_wp2_with (go_at_call 115; refine hF.mono ?_; rintro e w1 ⟨rfl, h1, hw1⟩)
    go_ret
    exact ⟨rfl, h1, hw1⟩
end
end Go.Proofs.YtacflahkofmcpaaGreatDoor
