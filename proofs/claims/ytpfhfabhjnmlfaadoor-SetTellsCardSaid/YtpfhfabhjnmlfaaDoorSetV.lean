/- Few numbers in one word: Of, Upto, Next. -/
import Derived.Test.YtpfhfabhjnmlfaaDoorSetW
namespace Go.Proofs.YtpfhfabhjnmlfaaDoor
open Go.RowKit

def intC (i : Int) : List Value := [.int .i64 i]
def ofI (s : Nat) (L : List Int) : Nat := L.foldl withI s
theorem of_lt : ∀ (L : List Int) (s : Nat), s < 18446744073709551616 → ofI s L < 18446744073709551616
  | [], _, h => h
  | i :: L, s, h => of_lt L _ (with_lt s i h)
theorem drop_at {α : Type} {L : List α} {n : Nat} (h : n < L.length) : ∃ x, L[n]? = some x ∧ L.drop n = x :: L.drop (n + 1) :=
  ⟨L[n], List.getElem?_eq_getElem h, List.drop_eq_getElem_cons h⟩
set_option maxHeartbeats 4000000 in
theorem of_is (L : List Int) (v : Value) (w : World) (h : Rd intC 1 w v L) :
    Calls Tryd.prog 14 #[v] w fun e w' => e = .returned (.int .u64 (ofI 0 L)) ∧ w' = w := by
  obtain ⟨a, c, rfl, hc, hm⟩ := h.slice
  have HR : Hid (Rd intC 1 w (.slice a L.length c) L) := h
  clear h
  obtain ⟨R, hR⟩ : ∃ R, R = ofI 0 L := ⟨_, rfl⟩
  rw [← hR]
  have HR2 : Hid (R = ofI 0 (L.drop 0)) := hR
  clear hR
  go_enter Tryd.func14, Tryd.ntmps14
  go_wp2
  go_loopg [3, 8] L.length (fun gg s3 s8 wr => ∃ n s : Nat, n ≤ L.length ∧ gg = L.length - n ∧ s8 = .int .i64 n ∧ s3 = .int .u64 s ∧ s < 18446744073709551616 ∧ wr = w ∧ Hid (R = ofI s (L.drop n)))
  case atStart => exact ⟨0, 0, Nat.zero_le _, rfl, rfl, rfl, by decide, rfl, HR2⟩
  case round =>
    clear HR2
    obtain ⟨n, s, hn, hk, rfl, rfl, hs, rfl, HB⟩ := hrel
    rcases Nat.lt_or_ge n L.length with hlt | hge
    · obtain ⟨x, hx, hd⟩ := drop_at hlt
      obtain ⟨g, off, rfl, hg, u0⟩ := HR.out.at hx
      have hc0 := u0 0 _ rfl
      simp only [Nat.mul_one, Nat.add_zero] at hc0
      have HB2 : Hid (R = ofI (withI s x) (L.drop (n + 1))) := by
        show R = _
        rw [HB.out, hd]
        rfl
      have hw := with_lt s x hs
      have e : bits .or .u64 (s : Int) ((bitI x : Nat) : Int) = ((withI s x : Nat) : Int) := u64_or_nat s _ hs (bit_lt x)
      have hb := fun W => bit_is x W
      generalize withI s x = s2 at *
      generalize bitI x = bx at *
      clear HB hd u0 hx
      go_wp2_with fail
      refine (hb _).mono ?_
      rintro _ _ ⟨rfl, rfl⟩
      go_wp2
      go_roundg (L.length - (n + 1))
      case measure => omega
      case rel => exact ⟨n + 1, s2, by omega, rfl, by congr 1, rfl, hw, rfl, HB2⟩
    · obtain rfl : n = L.length := by omega
      have e : R = s := by rw [HB.out, List.drop_length]; rfl
      subst e
      clear HB
      go_wp2
      go_ret
      exact ⟨rfl, rfl⟩
theorem less_val (i : Int) (h0 : 0 ≤ i) (h1 : i < 64) : IntKind.u64.wrap (IntKind.u64.wrap (2 ^ i.toNat) - 1) = ((2 ^ i.toNat - 1 : Nat) : Int) := by
  have e : bitI i = 2 ^ i.toNat := by unfold bitI; rw [if_pos ⟨h0, h1⟩]
  have hl := bit_lt i
  rw [bit_val i h0 h1, e, IntKind.wrap_u64]
  rw [e] at hl
  have hp : 0 < 2 ^ i.toNat := Nat.two_pow_pos _
  omega
set_option maxHeartbeats 1000000 in
theorem upto_is (n : Int) (w : World) :
    Calls Tryd.prog 17 #[.int .i64 n] w fun e w' => e = .returned (.int .u64 (uptoI n)) ∧ w' = w := by
  by_cases h0 : n < 0
  · have e : uptoI n = 0 := by unfold uptoI; rw [if_pos h0]
    rw [e]
    go_enter Tryd.func17, Tryd.ntmps17
    go_wp2
    go_ret
    exact ⟨rfl, rfl⟩
  · by_cases h1 : 64 ≤ n
    · have e : uptoI n = 18446744073709551615 := by unfold uptoI; rw [if_neg h0, if_pos h1]
      rw [e]
      obtain rfl | h2 : n = 64 ∨ 64 < n := by omega
      · go_enter Tryd.func17, Tryd.ntmps17
        go_wp2
        go_ret
        exact ⟨rfl, rfl⟩
      go_enter Tryd.func17, Tryd.ntmps17
      go_wp2
      go_ret
      exact ⟨rfl, rfl⟩
    · have e : uptoI n = 2 ^ n.toNat - 1 := by unfold uptoI; rw [if_neg h0, if_neg h1]
      rw [e]
      have hv := less_val n (by omega) (by omega)
      go_enter Tryd.func17, Tryd.ntmps17
      go_wp2
      go_ret
      exact ⟨rfl, rfl⟩
def carN (s : Nat) : Nat := (s + (s &&& (18446744073709551616 - s) % 18446744073709551616)) % 18446744073709551616
theorem car_lt (s : Nat) : carN s < 18446744073709551616 := Nat.mod_lt _ (by decide)
theorem car_val (s : Nat) (hs : s < 18446744073709551616) : IntKind.u64.wrap ((s : Int) + bits .and .u64 (s : Int) (IntKind.u64.wrap (-(s : Int)))) = ((carN s : Nat) : Int) := by
  have e : IntKind.u64.wrap (-(s : Int)) = (((18446744073709551616 - s) % 18446744073709551616 : Nat) : Int) := by rw [IntKind.wrap_u64]; omega
  rw [e, u64_and_nat s _ hs (Nat.mod_lt _ (by decide)), IntKind.wrap_u64]
  unfold carN
  omega
set_option maxHeartbeats 1000000 in
theorem next_is (s : Nat) (hs : s < 18446744073709551616) (w : World) (hd : Dt w) :
    Calls Tryd.prog 16 #[.int .u64 s] w fun e w' => e = .returned (.int .u64 (nextN s)) ∧ w' = w := by
  have hF := fun W (k : On w W) => first_is s hs W (hd.on k)
  have hc := car_val s hs
  have hl := car_lt s
  have hN : nextN s = if carN s = 0 then 0 else carN s ||| ((s ^^^ carN s) / 2 ^ Lib.ctz 64 s) / 4 := rfl
  rw [hN]
  have hz : s = 0 → carN s = 0 := fun h => by subst h; rfl
  generalize carN s = c at *
  clear hN
  by_cases h0 : c = 0
  · subst h0
    rw [if_pos rfl]
    go_enter Tryd.func16, Tryd.ntmps16
    go_wp2
    go_ret
    exact ⟨rfl, rfl⟩
  · rw [if_neg h0]
    have hc0 : ((c : Int) == 0) = false := by simpa using (by omega : ¬ (c : Int) = 0)
    have hs0 : s ≠ 0 := fun h => h0 (hz h)
    obtain ⟨_, hk⟩ := Lib.lowest_bit 64 s hs0 (by omega)
    have hf : firstN s = (Lib.ctz 64 s : Nat) := by unfold firstN; rw [if_neg hs0]
    rw [hf] at hF
    have hx := u64_xor_nat s c hs hl
    have hxl : s ^^^ c < 18446744073709551616 := Nat.xor_lt_two_pow (n := 64) hs hl
    generalize Lib.ctz 64 s = k at *
    generalize s ^^^ c = x at *
    have hsh : (x : Int) / 2 ^ k / 4 = ((x / 2 ^ k / 4 : Nat) : Int) := by push_cast; rfl
    have hle : x / 2 ^ k / 4 < 18446744073709551616 := Nat.lt_of_le_of_lt (Nat.le_trans (Nat.div_le_self _ _) (Nat.div_le_self _ _)) hxl
    generalize x / 2 ^ k / 4 = y at *
    have hor := u64_or_nat c y hl hle
    generalize c ||| y = z at *
    clear hz hf hs0 hd
    go_enter Tryd.func16, Tryd.ntmps16
    go_wp2_with fail
    refine (hF _ (On.refl _)).mono ?_
    rintro _ _ ⟨rfl, rfl⟩
    go_wp2
    go_ret
    exact ⟨rfl, rfl⟩
end Go.Proofs.YtpfhfabhjnmlfaaDoor
