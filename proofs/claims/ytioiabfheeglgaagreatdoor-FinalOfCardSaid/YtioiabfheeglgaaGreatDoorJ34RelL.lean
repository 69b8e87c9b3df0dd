/- A relation made of pairs leads among its numbers alone. -/
import Derived.Test.YtioiabfheeglgaaGreatDoorJ33RelP
namespace Go.Proofs.YtioiabfheeglgaaGreatDoor
open Go.RowKit

theorem ofL_wf : ∀ (L : List (Int × Int)) (r : RelT), Wf r → Wf (ofL r L)
 | [], _, h => h
 | p :: L, _, h => ofL_wf L _ (add_wf h p.1 p.2)
theorem of_wf (n : Int) (L : List (Int × Int)) : Wf (ofR n L) := ofL_wf _ _ (new_wf n)
theorem ofL_H : ∀ (U : List (Int × Int)) (r : RelT), Wf r → ∀ x y : Nat, H (ofL r U) x y = true ↔ H r x y = true ∨ (((x : Int), (y : Int)) ∈ U ∧ x < r.n ∧ y < r.n)
 | [], r, _, x, y => by show H r x y = true ↔ _; simp
 | p :: U, r, hw, x, y => by
  have ih := ofL_H U (addR r p.1 p.2) (add_wf hw _ _) x y
  show H (ofL (addR r p.1 p.2) U) x y = true ↔ _
  rw [ih, add_H hw, add_n]
  simp only [Bool.or_eq_true, Bool.and_eq_true, decide_eq_true_eq, List.mem_cons]
  constructor
  ·
   rintro ((h | ⟨⟨⟨h1, h2⟩, h3⟩, h4⟩) | ⟨h1, h2⟩)
   ·
    exact Or.inl h
   ·
    obtain ⟨k, hk, hkn⟩ := over_spec h1
    obtain ⟨l, hl, hln⟩ := over_spec h2
    exact Or.inr ⟨Or.inl (by cases p; simp only [Prod.mk.injEq]; exact ⟨h3, h4⟩), by omega, by omega⟩
   ·
    exact Or.inr ⟨Or.inr h1, h2⟩
  ·
   rintro (h | ⟨rfl | h1, h2, h3⟩)
   ·
    exact Or.inl (Or.inl h)
   ·
    exact Or.inl (Or.inr ⟨⟨⟨by unfold overR; simp; omega, by unfold overR; simp; omega⟩, rfl⟩, rfl⟩)
   ·
    exact Or.inr ⟨h1, h2, h3⟩
end Go.Proofs.YtioiabfheeglgaaGreatDoor

namespace Go.Proofs.YtioiabfheeglgaaGreatDoor
open Go.RowKit

set_option maxHeartbeats 2000000 in
theorem wclose_is (r : RelT) (hr : Wr r) (w : World) : Calls Tryz.prog 63 #[.agg (relA r)] w fun e w' => e = .returned (.agg (relA (closeR r))) ∧ On w w' := by
 obtain ⟨hz, _⟩ := zero_of_info rel_infow
 have h1 : Bk ((w.alloc (.cells (relA r) 103)).alloc (.cells (relA zeroR) 103)) w.heap.size (relA r) := (Bk.new w (relA r) 103).alloc _
 have h2 : Bk ((w.alloc (.cells (relA r) 103)).alloc (.cells (relA zeroR) 103)) (w.heap.size + 1) (relA zeroR) := by
  have := Bk.new (w.alloc (.cells (relA r) 103)) (relA zeroR) 103
  rwa [World.size_alloc] at this
 have k0 := ((On.refl w).alloc (.cells (relA r) 103)).alloc (.cells (relA zeroR) 103)
 have hn := hr.n
 have hlts := cloN_lt hr
 have hNs := cloN_n r
 obtain ⟨K, hK⟩ : ∃ K, K = closeR r := ⟨_, rfl⟩
 rw [← hK]
 have HK : Hid (K = cloN r r.n) := hK
 clear hK
 have hstep : ∀ b, cloN r (b + 1) = uptoR (cloN r b) (cloG (cloN r b) b) r.n := fun _ => rfl
 obtain ⟨n, hnn⟩ : ∃ n, n = r.n := ⟨_, rfl⟩
 rw [← hnn] at hn HK hNs hstep
 have hNs' : Hid (∀ b, (cloN r b).n = n) := hNs
 have hstep' : Hid (∀ b, cloN r (b + 1) = uptoR (cloN r b) (cloG (cloN r b) b) n) := hstep
 clear hNs hstep hnn
 go_enter Tryz.func63, Tryz.ntmps63
 go_wp2
 go_loopg [3] n (fun gg s3 wr => ∃ b : Nat, b ≤ n ∧ gg = n - b ∧ s3 = .int .i64 b ∧ Hid (On w wr) ∧ Bk wr w.heap.size (relA (cloN r b)) ∧ Bk wr (w.heap.size + 1) (relA zeroR))
 case atStart => exact ⟨0, Nat.zero_le _, rfl, rfl, k0, h1, h2⟩
 case round =>
  clear h1 h2 k0
  obtain ⟨b, hi, hk, rfl, HO, D1, D2⟩ := hrel
  have hc := D1.at (relA_zero _)
  rw [hNs'.out b] at hc
  have hcl := D1.lt
  rcases Nat.lt_or_ge b n with hlt | hge
  ·
   have hb6 : b < 64 := by omega
   have hlb := hlts b
   have HS : Hid (cloN r (b + 1) = uptoR (cloN r b) (cloG (cloN r b) b) n) := hstep'.out b
   have HCN : Hid ((cloN r b).n = n) := hNs'.out b
   clear hlts
   obtain ⟨C, hC⟩ : ∃ C, C = cloN r b := ⟨_, rfl⟩
   rw [← hC] at HS D1 hlb HCN
   clear hC
   go_wp2
   clear hc hcl
   go_loopg [4] n (fun gi s4 wi => ∃ a : Nat, a ≤ n ∧ gi = n - a ∧ s4 = .int .i64 a ∧ Hid (On w wi) ∧ Bk wi w.heap.size (relA (uptoR C (cloG C b) a)) ∧ Bk wi (w.heap.size + 1) (relA zeroR))
   case atStart => exact ⟨0, Nat.zero_le _, rfl, rfl, HO, by rw [uptoR_zero]; exact D1, D2⟩
   case round =>
    clear HO D1 D2
    obtain ⟨a, hai, hak, rfl, HO, D1, D2⟩ := hrel
    have hc := D1.at (relA_zero _)
    rw [show (uptoR C (cloG C b) a).n = n from HCN.out] at hc
    have hcl := D1.lt
    rcases Nat.lt_or_ge a n with hal | hag
    ·
     have ha6 : a < 64 := by omega
     have hlu : ∀ j, (uptoR C (cloG C b) a).f j < 18446744073709551616 := fun j => by
      show (if j < a then cloG C b j else C.f j) < _
      split
      ·
       exact cloG_lt hlb b j
      ·
       exact hlb j
     have HHb := fun W h => whas_is (uptoR C (cloG C b) a) ⟨by show C.n ≤ 64; rw [HCN.out]; exact hn, hlu⟩ w.heap.size a b ha6 hb6 W h
     rw [uptoR_at] at HHb
     have st := uptoR_step C (cloG C b) a
     have sk := uptoR_skip C (cloG C b) a
     have hin := hasI_nat (C.f a) b hb6
     cases hb : (C.f a).testBit b with
     | true =>
      rw [hb] at HHb hin
      have hca := D1.at (relA_at _ ha6)
      rw [uptoR_at] at hca
      have hcb := D1.at (relA_at _ hb6)
      have hbb : (uptoR C (cloG C b) a).f b = C.f b := by
       show (if b < a then cloG C b b else C.f b) = _
       rw [cloG_self]
       split <;> rfl
      rw [hbb] at hcb
      have e : bits .or .u64 ((C.f a : Nat) : Int) ((C.f b : Nat) : Int) = ((cloG C b a : Nat) : Int) := by
       rw [u64_or_nat _ _ (hlb a) (hlb b)]
       unfold cloG
       rw [hin]
       rfl
      have hcf := D1.fr (1 + a)
      have D1' := D1.drew.set1 ha6 (cloG C b a)
      rw [st] at D1'
      have D2' := D2.drew.far (N := w.heap.size) (by omega) (1 + a) (.int .u64 (cloG C b a))
      have HO' : Hid (On w _) := HO.out.drew.setNew (N := w.heap.size) (i := 1 + a) (by omega) (.int .u64 (cloG C b a))
      have HH2 := HHb _ D1
      clear hb D1 D2 HO st sk hbb hlb hlu HHb hin
      generalize cloG C b a = y at *
      generalize C.f a = x at *
      generalize C.f b = z at *
      go_wp2_with fail
      refine HH2.mono ?_
      rintro _ w2 ⟨rfl, hw2⟩
      subst w2
      go_wp2
      go_region
      go_wp2
      go_roundg (n - (a + 1))
      case measure => omega
      case rel => exact ⟨a + 1, hal, rfl, by congr 1, HO', D1', D2'⟩
     | false =>
      rw [hb] at HHb hin
      have sk' := sk (by unfold cloG; rw [hin]; rfl)
      have HH2 := HHb _ D1
      rw [← sk'] at D1
      clear hb st sk sk' hlb hlu HHb hin
      go_wp2_with fail
      refine HH2.mono ?_
      rintro _ w2 ⟨rfl, hw2⟩
      subst w2
      go_wp2
      go_roundg (n - (a + 1))
      case measure => omega
      case rel => exact ⟨a + 1, hal, rfl, by congr 1, HO, D1, D2⟩
    ·
     obtain rfl : a = n := by omega
     rw [← HS.out] at D1
     go_wp2
     go_roundg (a - (b + 1))
     case measure => omega
     case rel => exact ⟨b + 1, hlt, rfl, by congr 1, HO, D1, D2⟩
  ·
   obtain rfl : b = n := by omega
   rw [← HK.out] at D1
   go_wp2_with (first | refine wpList_ldw rfl rfl rfl D1 ?_ | refine wpList_stw rfl rfl rfl rfl D2 ?_)
   refine bodyPost_ret (v := .agg (relA K)) ?_ rfl ⟨rfl, HO.out.row (by omega) _⟩
   exact ret65w rfl rfl (D2.row _)
set_option maxHeartbeats 2000000 in
theorem wacyc_is (r : RelT) (hr : Wr r) (w : World) : Calls Tryz.prog 49 #[.agg (relA r)] w fun e w' => e = .returned (.bool (acycR r)) ∧ On w w' := by
 obtain ⟨hz, _⟩ := zero_of_info rel_infow
 have h1 := Bk.new w (relA r) 103
 have k0 := (On.refl w).alloc (.cells (relA r) 103)
 have hcl := fun W => wclose_is r hr W
 have hcw := close_wr hr
 have hn := hr.n
 obtain ⟨T, hT⟩ : ∃ T, T = acycR r := ⟨_, rfl⟩
 rw [← hT]
 have HT : Hid (T = noSelf (closeR r) r.n) := hT
 clear hT
 generalize closeR r = C at *
 have hrn : (relA r)[0]? = some (.int .i64 r.n) := relA_zero r
 have HRN : Hid ((relA r)[0]? = some (.int .i64 r.n)) := hrn
 clear hrn
 generalize r.n = n at *
 go_enter Tryz.func49, Tryz.ntmps49
 go_wp2_with (refine wpList_ldw rfl rfl rfl h1 ?_)
 refine (hcl _).mono ?_
 rintro _ w1 ⟨rfl, k1⟩
 have B3 := Bk.new w1 (relA zeroR) 103
 have hs1 : w.heap.size < w1.heap.size := (h1.on k1).lt
 have KC := ((k0.trans k1).alloc (.cells (relA zeroR) 103)).row (N := w1.heap.size) (by omega) (relA C)
 obtain ⟨W, hW⟩ : ∃ W, W = (w1.alloc (.cells (relA zeroR) 103)).setRow w1.heap.size (relA C) := ⟨_, rfl⟩
 have C3 : Bk W w1.heap.size (relA C) := by rw [hW]; exact B3.row _
 have R3 : Bk W w.heap.size (relA r) := by rw [hW]; exact ((h1.on k1).alloc _).rowFar (by omega) _
 rw [← hW] at KC
 have HW : Hid (W = (w1.alloc (.cells (relA zeroR) 103)).setRow w1.heap.size (relA C)) := hW
 clear hW
 go_wp2_with (first | (refine wpList_stw rfl rfl rfl rfl B3 ?_; rw [← HW.out]; clear B3 HW))
 go_loopg [4] n (fun gg s4 wr => ∃ a : Nat, a ≤ n ∧ gg = n - a ∧ s4 = .int .i64 a ∧ Hid (On w wr) ∧ Bk wr w1.heap.size (relA C) ∧ Bk wr w.heap.size (relA r) ∧ noSelf C a = true)
 case atStart => exact ⟨0, Nat.zero_le _, rfl, rfl, KC, C3, R3, rfl⟩
 case round =>
  clear C3 KC R3
  obtain ⟨a, hi, hk, rfl, HO, D1, D2, hns⟩ := hrel
  have HNS : Hid (noSelf C a = true) := hns
  clear hns
  have hc := D2.at HRN.out
  have hl2 := D2.lt
  rcases Nat.lt_or_ge a n with hlt | hge
  ·
   have ha6 : a < 64 := by omega
   have HHb := whas_is C hcw w1.heap.size a a ha6 ha6 _ D1
   have hin := hasI_nat (C.f a) a ha6
   cases hb : (C.f a).testBit a with
   | true =>
    rw [hb] at HHb hin
    have HF : Hid (T = false) := by show T = false; rw [HT.out]; exact noSelf_mono C a n hlt hin
    clear hb hin
    go_wp2_with fail
    refine HHb.mono ?_
    rintro _ w2 ⟨rfl, hw2⟩
    subst w2
    go_wp2
    go_ret
    exact ⟨by rw [HF.out]; rfl, HO.out⟩
   | false =>
    rw [hb] at HHb hin
    have HN2 : noSelf C (a + 1) = true := by unfold noSelf; rw [HNS.out, hin]; rfl
    have HN3 : Hid (noSelf C (a + 1) = true) := HN2
    clear hb hin HN2
    go_wp2_with fail
    refine HHb.mono ?_
    rintro _ w2 ⟨rfl, hw2⟩
    subst w2
    go_wp2
    go_roundg (n - (a + 1))
    case measure => omega
    case rel => exact ⟨a + 1, hlt, rfl, by congr 1, HO, D1, D2, HN3.out⟩
  ·
   obtain rfl : a = n := by omega
   have HF : Hid (T = true) := by show T = true; rw [HT.out]; exact HNS.out
   go_wp2
   go_ret
   exact ⟨by rw [HF.out]; rfl, HO.out⟩
end Go.Proofs.YtioiabfheeglgaaGreatDoor
