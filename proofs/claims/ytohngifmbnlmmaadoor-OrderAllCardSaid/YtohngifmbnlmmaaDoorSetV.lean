/- Few numbers in one word: Of, Upto, Next. -/
import Derived.Test.YtohngifmbnlmmaaDoorSetW
import Derived.Test.YtohngifmbnlmmaaDoorSetU
import Derived.Test.YtohngifmbnlmmaaDoorWaC
namespace Go.Proofs.YtohngifmbnlmmaaDoor
open Go.RowKit

def ofI (s : Nat) (L : List Int) : Nat := L.foldl withI s
theorem of_lt : ∀ (L : List Int) (s : Nat), s < 18446744073709551616 → ofI s L < 18446744073709551616
  | [], _, h => h
  | i :: L, s, h => of_lt L _ (with_lt s i h)
theorem drop_at {α : Type} {L : List α} {n : Nat} (h : n < L.length) : ∃ x, L[n]? = some x ∧ L.drop n = x :: L.drop (n + 1) :=
  ⟨L[n], List.getElem?_eq_getElem h, List.drop_eq_getElem_cons h⟩
set_option maxHeartbeats 4000000 in
theorem of_is (L : List Int) (v : Value) (w : World) (h : Rd intC 1 w v L) :
    Calls Tryd.prog 44 #[v] w fun e w' => e = .returned (.int .u64 (ofI 0 L)) ∧ w' = w := by
  obtain ⟨a, c, rfl, hc, hm⟩ := h.slice
  have HR : Hid (Rd intC 1 w (.slice a L.length c) L) := h
  clear h
  obtain ⟨R, hR⟩ : ∃ R, R = ofI 0 L := ⟨_, rfl⟩
  rw [← hR]
  have HR2 : Hid (R = ofI 0 (L.drop 0)) := hR
  clear hR
  go_enter Tryd.func44, Tryd.ntmps44
  go_wp2
  go_loopg [3, 8] L.length (fun gg s3 s8 wr => ∃ n s : Nat, n ≤ L.length ∧ gg = L.length - n ∧ s8 = .int .i64 n ∧ s3 = .int .u64 s ∧ s < 18446744073709551616 ∧ wr = w ∧ Hid (R = ofI s (L.drop n)))
  case atStart => exact ⟨0, 0, Nat.zero_le _, rfl, rfl, rfl, by decide, rfl, HR2⟩
  case round =>
    clear HR2
    obtain ⟨n, s, hn, hk, rfl, rfl, hs, rfl, HB⟩ := hrel
    rcases Nat.lt_or_ge n L.length with hlt | hge
    · obtain ⟨x, hx, hd⟩ := drop_at hlt
      obtain ⟨g, off, rfl, hg, u0⟩ := HR.out.at hx
      have hc0 := u0 0 _ rfl
      simp only [Nat.mul_one, Nat.add_zero] at hc0
      have HB2 : Hid (R = ofI (withI s x) (L.drop (n + 1))) := by
        show R = _
        rw [HB.out, hd]
        rfl
      have hw := with_lt s x hs
      have e : bits .or .u64 (s : Int) ((bitI x : Nat) : Int) = ((withI s x : Nat) : Int) := u64_or_nat s _ hs (bit_lt x)
      have hb := fun W => bit_is x W
      generalize withI s x = s2 at *
      generalize bitI x = bx at *
      clear HB hd u0 hx
      go_wp2_with fail
      refine (hb _).mono ?_
      rintro _ _ ⟨rfl, rfl⟩
      go_wp2
      go_roundg (L.length - (n + 1))
      case measure => omega
      case rel => exact ⟨n + 1, s2, by omega, rfl, by congr 1, rfl, hw, rfl, HB2⟩
    · obtain rfl : n = L.length := by omega
      have e : R = s := by rw [HB.out, List.drop_length]; rfl
      subst e
      clear HB
      go_wp2
      go_ret
      exact ⟨rfl, rfl⟩
end Go.Proofs.YtohngifmbnlmmaaDoor
