/- Relations: Closure, Acyclic. -/
import Derived.Test.YtohngifmbnlmmaaDoorRelH
namespace Go.Proofs.YtohngifmbnlmmaaDoor
open Go.RowKit

def cloG (r : RelT) (b a : Nat) : Nat := if hasI (r.f a) b then r.f a ||| r.f b else r.f a
/-- b turns of the closure's outer loop. -/
def cloN (r : RelT) : Nat → RelT
  | 0 => r
  | b + 1 => uptoR (cloN r b) (cloG (cloN r b) b) r.n
theorem cloN_n (r : RelT) : ∀ b, (cloN r b).n = r.n
  | 0 => rfl
  | b + 1 => cloN_n r b
theorem cloG_lt {r : RelT} (h : ∀ a, r.f a < 18446744073709551616) (b a : Nat) : cloG r b a < 18446744073709551616 := by
  unfold cloG
  split
  · exact Nat.or_lt_two_pow (n := 64) (h a) (h b)
  · exact h a
theorem cloN_lt {r : RelT} (h : Wr r) : ∀ b a, (cloN r b).f a < 18446744073709551616
  | 0, a => h.w a
  | b + 1, a => by
    show (if a < r.n then cloG (cloN r b) b a else (cloN r b).f a) < _
    split
    · exact cloG_lt (cloN_lt h b) b a
    · exact cloN_lt h b a
def closeR (r : RelT) : RelT := cloN r r.n
theorem close_n (r : RelT) : (closeR r).n = r.n := cloN_n r _
theorem close_wr {r : RelT} (h : Wr r) : Wr (closeR r) := ⟨by rw [close_n]; exact h.n, cloN_lt h _⟩
theorem cloG_self (r : RelT) (b : Nat) : cloG r b b = r.f b := by
  unfold cloG
  split
  · rw [Nat.or_self]
  · rfl
set_option maxHeartbeats 2000000 in
theorem close_is (r : RelT) (hr : Wr r) (w : World) : Calls Tryd.prog 29 #[.agg (relA r)] w fun e w' => e = .returned (.agg (relA (closeR r))) ∧ On w w' := by
  obtain ⟨hz, _⟩ := zero_of_info rel_info
  have h1 : Bk ((w.alloc (.cells (relA r) 27)).alloc (.cells (relA zeroR) 27)) w.heap.size (relA r) := (Bk.new w (relA r) 27).alloc _
  have h2 : Bk ((w.alloc (.cells (relA r) 27)).alloc (.cells (relA zeroR) 27)) (w.heap.size + 1) (relA zeroR) := by
    have := Bk.new (w.alloc (.cells (relA r) 27)) (relA zeroR) 27
    rwa [World.size_alloc] at this
  have k0 := ((On.refl w).alloc (.cells (relA r) 27)).alloc (.cells (relA zeroR) 27)
  have hc0 := h1.at (relA_zero r)
  have hn := hr.n
  have hlts := cloN_lt hr
  have hNs := cloN_n r
  obtain ⟨K, hK⟩ : ∃ K, K = closeR r := ⟨_, rfl⟩
  rw [← hK]
  have HK : Hid (K = cloN r r.n) := hK
  clear hK
  have hstep : ∀ b, cloN r (b + 1) = uptoR (cloN r b) (cloG (cloN r b) b) r.n := fun _ => rfl
  obtain ⟨n, hnn⟩ : ∃ n, n = r.n := ⟨_, rfl⟩
  rw [← hnn] at hc0 hn HK hNs hstep
  have hNs' : Hid (∀ b, (cloN r b).n = n) := hNs
  have hstep' : Hid (∀ b, cloN r (b + 1) = uptoR (cloN r b) (cloG (cloN r b) b) n) := hstep
  clear hNs hstep hnn
  go_enter Tryd.func29, Tryd.ntmps29
  go_wp2
  go_loopg [7] n (fun gg s7 wr => ∃ b : Nat, b ≤ n ∧ gg = n - b ∧ s7 = .int .i64 b ∧ Hid (On w wr) ∧ Bk wr w.heap.size (relA (cloN r b)) ∧ Bk wr (w.heap.size + 1) (relA zeroR))
  case atStart => exact ⟨0, Nat.zero_le _, rfl, rfl, k0, h1, h2⟩
  case round =>
    clear h1 h2 k0 hc0
    obtain ⟨b, hi, hk, rfl, HO, D1, D2⟩ := hrel
    rcases Nat.lt_or_ge b n with hlt | hge
    · have hb6 : b < 64 := by omega
      have hc := D1.at (relA_zero _)
      rw [hNs'.out b] at hc
      have hcl := D1.lt
      have hlb := hlts b
      have HS : Hid (cloN r (b + 1) = uptoR (cloN r b) (cloG (cloN r b) b) n) := hstep'.out b
      clear hlts
      obtain ⟨C, hC⟩ : ∃ C, C = cloN r b := ⟨_, rfl⟩
      rw [← hC] at HS D1 hlb
      clear hC
      go_wp2
      clear hc hcl
      go_loopg [12] n (fun gi s12 wi => ∃ a : Nat, a ≤ n ∧ gi = n - a ∧ s12 = .int .i64 a ∧ Hid (On w wi) ∧ Bk wi w.heap.size (relA (uptoR C (cloG C b) a)) ∧ Bk wi (w.heap.size + 1) (relA zeroR))
      case atStart => exact ⟨0, Nat.zero_le _, rfl, rfl, HO, by rw [uptoR_zero]; exact D1, D2⟩
      case round =>
        clear HO D1 D2
        obtain ⟨a, hai, hak, rfl, HO, D1, D2⟩ := hrel
        rcases Nat.lt_or_ge a n with hal | hag
        · have ha6 : a < 64 := by omega
          have HHb := fun W => has_is (C.f a) b (hlb a) W
          have hca := D1.at (relA_at _ ha6)
          rw [uptoR_at] at hca
          have hl1 := D1.lt
          have st := uptoR_step C (cloG C b) a
          have sk := uptoR_skip C (cloG C b) a
          cases hb : hasI (C.f a) b with
          | true =>
            rw [hb] at HHb
            have hcb := D1.at (relA_at _ hb6)
            have hbb : (uptoR C (cloG C b) a).f b = C.f b := by
              show (if b < a then cloG C b b else C.f b) = _
              rw [cloG_self]
              split <;> rfl
            rw [hbb] at hcb
            have e : bits .or .u64 ((C.f a : Nat) : Int) ((C.f b : Nat) : Int) = ((cloG C b a : Nat) : Int) := by
              rw [u64_or_nat _ _ (hlb a) (hlb b)]
              unfold cloG
              rw [hb]
              rfl
            have hcf := D1.fr (1 + a)
            have D1' := D1.drew.set1 ha6 (cloG C b a)
            rw [st] at D1'
            have D2' := D2.drew.far (N := w.heap.size) (by omega) (1 + a) (.int .u64 (cloG C b a))
            have HO' : Hid (On w _) := HO.out.drew.setNew (N := w.heap.size) (i := 1 + a) (by omega) (.int .u64 (cloG C b a))
            clear hb D1 D2 HO st sk hbb hlb
            generalize cloG C b a = y at *
            generalize C.f a = x at *
            generalize C.f b = z at *
            go_wp2_with fail
            refine (HHb _).mono ?_
            rintro _ w2 ⟨rfl, hw2⟩
            subst w2
            go_wp2
            go_region
            go_wp2
            go_roundg (n - (a + 1))
            case measure => omega
            case rel => exact ⟨a + 1, hal, rfl, by congr 1, HO', D1', D2'⟩
          | false =>
            rw [hb] at HHb
            have sk' := sk (by unfold cloG; rw [hb]; rfl)
            rw [← sk'] at D1
            clear hb st sk sk' hlb
            generalize C.f a = x at *
            go_wp2_with fail
            refine (HHb _).mono ?_
            rintro _ w2 ⟨rfl, hw2⟩
            subst w2
            go_wp2
            go_roundg (n - (a + 1))
            case measure => omega
            case rel => exact ⟨a + 1, hal, rfl, by congr 1, HO, D1, D2⟩
        · obtain rfl : a = n := by omega
          rw [← HS.out] at D1
          go_wp2
          go_roundg (a - (b + 1))
          case measure => omega
          case rel => exact ⟨b + 1, hlt, rfl, by congr 1, HO, D1, D2⟩
    · obtain rfl : b = n := by omega
      rw [← HK.out] at D1
      go_wp2_with (first | refine wpList_ld rfl rfl rfl D1 ?_ | refine wpList_st rfl rfl rfl rfl D2 ?_)
      refine bodyPost_ret (v := .agg (relA K)) ?_ rfl ⟨rfl, HO.out.row (by omega) _⟩
      exact ret65 rfl rfl (D2.row _)
/-- No number below n leads to itself. -/
def noSelf (r : RelT) : Nat → Bool
  | 0 => true
  | n + 1 => noSelf r n && !hasI (r.f n) n
def acycR (r : RelT) : Bool := noSelf (closeR r) r.n
theorem noSelf_mono (r : RelT) (i : Nat) : ∀ n, i < n → hasI (r.f i) i = true → noSelf r n = false
  | 0, h, _ => by omega
  | n + 1, h, hb => by
    unfold noSelf
    by_cases he : i = n
    · subst he; rw [hb]; simp
    · rw [noSelf_mono r i n (by omega) hb]; rfl
set_option maxHeartbeats 2000000 in
theorem acyc_is (r : RelT) (hr : Wr r) (w : World) : Calls Tryd.prog 12 #[.agg (relA r)] w fun e w' => e = .returned (.bool (acycR r)) ∧ On w w' := by
  obtain ⟨hz, _⟩ := zero_of_info rel_info
  have h1 := Bk.new w (relA r) 27
  have k0 := (On.refl w).alloc (.cells (relA r) 27)
  have hcl := fun W => close_is r hr W
  have hcw := (close_wr hr).w
  have hcn := close_n r
  have hn := hr.n
  obtain ⟨T, hT⟩ : ∃ T, T = acycR r := ⟨_, rfl⟩
  rw [← hT]
  have HT : Hid (T = noSelf (closeR r) r.n) := hT
  clear hT
  generalize closeR r = C at *
  generalize r.n = n at *
  go_enter Tryd.func12, Tryd.ntmps12
  go_wp2_with (refine wpList_ld rfl rfl rfl h1 ?_)
  refine (hcl _).mono ?_
  rintro _ w1 ⟨rfl, k1⟩
  have B3 := Bk.new w1 (relA zeroR) 27
  have C3 := B3.row (relA C)
  have hs1 : w.heap.size ≤ w1.heap.size := by have := (k0.trans k1).size; omega
  have KC := ((k0.trans k1).alloc (.cells (relA zeroR) 27)).row (N := w1.heap.size) (by omega) (relA C)
  obtain ⟨W, hW⟩ : ∃ W, W = (w1.alloc (.cells (relA zeroR) 27)).setRow w1.heap.size (relA C) := ⟨_, rfl⟩
  rw [← hW] at C3 KC
  have hc := C3.at (relA_zero C)
  rw [hcn] at hc
  have hcl := C3.lt
  go_wp2_with (first | (refine wpList_st rfl rfl rfl rfl B3 ?_; rw [← hW]; clear B3 hW))
  go_loopg [9] n (fun gg s9 wr => ∃ a : Nat, a ≤ n ∧ gg = n - a ∧ s9 = .int .i64 a ∧ Hid (On w wr) ∧ Bk wr w1.heap.size (relA C) ∧ noSelf C a = true)
  case atStart => exact ⟨0, Nat.zero_le _, rfl, rfl, KC, C3, rfl⟩
  case round =>
    clear C3 KC hc hcl
    obtain ⟨a, hi, hk, rfl, HO, D1, hns⟩ := hrel
    have HNS : Hid (noSelf C a = true) := hns
    clear hns
    rcases Nat.lt_or_ge a n with hlt | hge
    · have ha6 : a < 64 := by omega
      have hca := D1.at (relA_at _ ha6)
      have hl := D1.lt
      have HHb := fun W => has_is (C.f a) a (hcw a) W
      cases hb : hasI (C.f a) a with
      | true =>
        rw [hb] at HHb
        have HF : Hid (T = false) := by show T = false; rw [HT.out]; exact noSelf_mono C a n hlt hb
        clear hb hcw
        generalize C.f a = x at *
        go_wp2_with fail
        refine (HHb _).mono ?_
        rintro _ w2 ⟨rfl, hw2⟩
        subst w2
        go_wp2
        go_ret
        exact ⟨by rw [HF.out]; rfl, HO.out⟩
      | false =>
        rw [hb] at HHb
        have HN2 : noSelf C (a + 1) = true := by unfold noSelf; rw [HNS.out, hb]; rfl
        have HN3 : Hid (noSelf C (a + 1) = true) := HN2
        clear hb hcw HN2
        generalize C.f a = x at *
        go_wp2_with fail
        refine (HHb _).mono ?_
        rintro _ w2 ⟨rfl, hw2⟩
        subst w2
        go_wp2
        go_roundg (n - (a + 1))
        case measure => omega
        case rel => exact ⟨a + 1, hlt, rfl, by congr 1, HO, D1, HN3.out⟩
    · obtain rfl : a = n := by omega
      have HF : Hid (T = true) := by show T = true; rw [HT.out]; exact HNS.out
      go_wp2
      go_ret
      exact ⟨by rw [HF.out]; rfl, HO.out⟩
end Go.Proofs.YtohngifmbnlmmaaDoor
