/- The program's package order: bound, free, needsOf, slices.Clone; rows in memory. -/
import Derived.Test.YtohngifmbnlmmaaDoorOrdP
import Derived.Test.YtohngifmbnlmmaaDoorRegFin3
namespace Go.Proofs.YtohngifmbnlmmaaDoor
open Go.RowKit

def wordC (x : Nat) : List Value := [.int .u64 x]
def boundI (m : Int) : Nat := min m.toNat 100000
set_option maxHeartbeats 1000000 in
theorem bound_is (m : Int) (w : World) : Calls Tryd.prog 24 #[.int .i64 m] w fun e w' => e = .returned (.int .i64 (boundI m)) ∧ w' = w := by
  by_cases h0 : m < 0
  · have e : boundI m = 0 := by unfold boundI; omega
    rw [e]
    go_enter Tryd.func24, Tryd.ntmps24
    go_wp2
    go_ret
    exact ⟨rfl, rfl⟩
  · by_cases h1 : 100000 < m
    · have e : boundI m = 100000 := by unfold boundI; omega
      rw [e]
      go_enter Tryd.func24, Tryd.ntmps24
      go_wp2
      go_ret
      exact ⟨rfl, rfl⟩
    · have e : ((boundI m : Nat) : Int) = m := by unfold boundI; omega
      rw [e]
      go_enter Tryd.func24, Tryd.ntmps24
      go_wp2
      go_ret
      exact ⟨rfl, rfl⟩
abbrev DL2D (DL : List Nat) : Nat → Nat := fun a => DL.getD a 0
set_option maxHeartbeats 4000000 in
set_option maxRecDepth 8000 in
theorem free_is (DL : List Nat) (v : Value) (t : Nat) (w : World) (h : Rd wordC 1 w v DL) (hl : DL.length ≤ 64) (hx : ∀ x ∈ DL, x < 18446744073709551616) (ht : t < 18446744073709551616) (hd : Dt w) :
    Calls Tryd.prog 33 #[v, .int .u64 t] w fun e w' => e = .returned (.int .u64 (freeN DL.length (DL2D DL) t)) ∧ w' = w := by
  obtain ⟨ao, cc, rfl, hcap, hmax⟩ := h.slice
  have HR : Hid (Rd wordC 1 w (.slice ao DL.length cc) DL) := h
  have HX : Hid (∀ x ∈ DL, x < 18446744073709551616) := hx
  have HD : Hid (Dt w) := hd
  clear h hx hd hcap
  have hup := fun W => upto_is DL.length W
  have hul : uptoI DL.length < 18446744073709551616 := by
    have : uptoI DL.length < 2 ^ 64 := Nat.lt_pow_two_of_testBit _ fun i hi => by
      rw [upto_bit DL.length i hl]
      simp; omega
    simpa using this
  have hW0 := u64_andNot_nat (uptoI DL.length) t hul ht
  have HB0 : Hid (∀ a ∈ bits64 (uptoI DL.length &&& (18446744073709551615 - t)), a < DL.length) := fun a ha => by
    have := ((mem64 _ _).1 ha).2
    rw [wait_bit _ _ _ hl ht] at this
    simp only [Bool.and_eq_true, decide_eq_true_eq] at this
    exact this.1
  have hWl : uptoI DL.length &&& (18446744073709551615 - t) < 18446744073709551616 := Nat.lt_of_le_of_lt Nat.and_le_left hul
  obtain ⟨F, hF⟩ : ∃ F, F = freeN DL.length (DL2D DL) t := ⟨_, rfl⟩
  rw [← hF]
  have HF : Hid (F = (bits64 (uptoI DL.length &&& (18446744073709551615 - t))).foldl (fun m (a : Nat) => if DL2D DL a &&& (18446744073709551615 - t) = 0 then withI m (a : Int) else m) 0) := hF
  clear hF
  generalize (uptoI DL.length &&& (18446744073709551615 - t)) = W0 at *
  generalize uptoI DL.length = U at *
  go_enter Tryd.func33, Tryd.ntmps33
  go_wp2_with fail
  refine (hup _).mono ?_
  rintro _ w1 ⟨rfl, hw1⟩
  subst w1
  go_wp2
  clear hup hW0
  go_loopg [5, 6] W0 (fun gg s5 s6 wr => ∃ r m : Nat, gg = r ∧ s6 = .int .u64 r ∧ s5 = .int .u64 m ∧ r < 18446744073709551616 ∧ m < 18446744073709551616 ∧ wr = w ∧ Hid (∀ a ∈ bits64 r, a < DL.length) ∧ Hid (F = (bits64 r).foldl (fun m (a : Nat) => if DL2D DL a &&& (18446744073709551615 - t) = 0 then withI m (a : Int) else m) m))
  case atStart => exact ⟨W0, 0, rfl, rfl, rfl, hWl, by decide, rfl, HB0, HF⟩
  case round =>
    clear HB0 HF hWl hul
    obtain ⟨r, m, hg, rfl, rfl, hr, hm, hwr, HB, HF⟩ := hrel
    subst hwr
    by_cases h0 : r = 0
    · subst h0
      have e : F = m := by rw [HF.out, b64_zero]; rfl
      subst e
      clear HF
      go_wp2
      go_ret
      exact ⟨rfl, rfl⟩
    · obtain ⟨hk, hb, hless⟩ := rise64 r h0 hr
      have hT := first_is r hr _ HD.out
      have hf : firstN r = (Lib.ctz 64 r : Nat) := by unfold firstN; rw [if_neg h0]
      rw [hf] at hT
      have hand := and_less r hr h0
      have hr2 : (r &&& (r - 1)) < 18446744073709551616 := by omega
      have hr0 : ((r : Int) == 0) = false := by simpa using (by omega : ¬ (r : Int) = 0)
      have hkn : Lib.ctz 64 r < DL.length := HB.out _ (by rw [hb]; simp)
      have HB2 : Hid (∀ a ∈ bits64 (r &&& (r - 1)), a < DL.length) := fun a ha => HB.out a (by rw [hb]; simp [ha])
      have HF1 := HF.out
      rw [hb, List.foldl_cons] at HF1
      clear HF HB hb hf
      generalize r &&& (r - 1) = r2 at *
      generalize Lib.ctz 64 r = k at *
      obtain ⟨x, hx⟩ : ∃ x, DL[k]? = some x := ⟨_, List.getElem?_eq_getElem hkn⟩
      have hDk : DL2D DL k = x := by unfold DL2D; rw [List.getD_eq_getElem?_getD, hx]; rfl
      have hxl := HX.out x (List.mem_of_getElem? hx)
      obtain ⟨g, off, rfl, hgs, u0⟩ := HR.out.at hx
      have hc0 := u0 0 _ rfl
      simp only [Nat.mul_one, Nat.add_zero] at hc0
      have han := u64_andNot_nat x t hxl ht
      rw [hDk] at HF1
      clear u0 hx hDk
      by_cases hy : x &&& (18446744073709551615 - t) = 0
      · rw [if_pos hy] at HF1
        rw [hy] at han
        have HF2 : Hid (F = _) := HF1
        have hwi := fun W => with_is m k hm W
        have hwl := with_lt m (k : Int) hm
        clear HF1 hy
        generalize withI m (k : Int) = m2 at *
        go_wp2_with fail
        refine hT.mono ?_
        rintro _ w2 ⟨rfl, hw2⟩
        subst w2
        go_wp2_with fail
        refine (hwi _).mono ?_
        rintro _ w2 ⟨rfl, hw2⟩
        subst w2
        go_wp2
        go_roundg r2
        case measure => omega
        case rel => exact ⟨r2, m2, rfl, rfl, rfl, hr2, hwl, rfl, HB2, HF2⟩
      · rw [if_neg hy] at HF1
        have HF2 : Hid (F = _) := HF1
        have hy0 : (((x &&& (18446744073709551615 - t) : Nat) : Int) == 0) = false := by simpa using (by omega : ¬ (((x &&& (18446744073709551615 - t) : Nat) : Int) = 0))
        clear HF1 hy
        generalize x &&& (18446744073709551615 - t) = y at *
        go_wp2_with fail
        refine hT.mono ?_
        rintro _ w2 ⟨rfl, hw2⟩
        subst w2
        go_wp2
        go_roundg r2
        case measure => omega
        case rel => exact ⟨r2, m, rfl, rfl, rfl, hr2, hm, rfl, HB2, HF2⟩
/-- What must stand ahead of each. -/
def needL (r : RelT) : List Nat := (List.range r.n).map (fun a => (invR r).f a)
theorem need_len (r : RelT) : (needL r).length = r.n := by simp [needL]
theorem need_D {r : RelT} (hr : Wf r) (a : Nat) : DL2D (needL r) a = (invR r).f a := by
  unfold DL2D needL
  rw [List.getD_eq_getElem?_getD, List.getElem?_map]
  by_cases h : a < r.n
  · rw [List.getElem?_range h]
    rfl
  · rw [List.getElem?_eq_none (by simpa using h)]
    have : (invR r).f a = 0 := Nat.eq_of_testBit_eq fun b => by
      rw [Nat.zero_testBit]
      exact (inv_wf hr).off (Or.inl (by rw [inv_n hr]; omega))
    rw [this]
    rfl
end Go.Proofs.YtohngifmbnlmmaaDoor
