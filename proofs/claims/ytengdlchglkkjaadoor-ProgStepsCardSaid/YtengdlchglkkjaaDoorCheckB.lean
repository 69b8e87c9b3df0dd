/- The parts of well.Check: what begins twice, what leads nowhere. -/
import Derived.Test.YtengdlchglkkjaaDoorCheckA
namespace Go.Proofs.YtengdlchglkkjaaDoor
open Go.RowKit

set_option maxHeartbeats 2000000 in
set_option maxRecDepth 8000 in
theorem twice_is (L : List InitT) (a : Option Addr) (c : Nat) (w : World) (h : Rd iniC 2 w (.slice a L.length c) L) :
    Calls Tryd.prog 30 #[.slice a L.length c] w fun e w' => e = .returned (.bool (twiceFrom 0 L)) ∧ On w w' := by
  obtain ⟨_, _, _, _, hm⟩ := h.slice
  have HR : Hid (Rd iniC 2 w (.slice a L.length c) L) := h
  clear h
  obtain ⟨B, hB⟩ : ∃ B, B = twiceFrom 0 L := ⟨_, rfl⟩
  rw [← hB]
  have HB : Hid (B = twiceFrom 0 (L.drop 0)) := hB
  clear hB
  go_enter Tryd.func30, Tryd.ntmps30
  go_wp2
  go_loopg [3, 9] L.length (fun gg s3 s9 wr => ∃ n s : Nat, n ≤ L.length ∧ gg = L.length - n ∧ s9 = .int .i64 n ∧ s3 = .int .u32 s ∧ s < 67108864 ∧ Hid (On w wr) ∧ Hid (B = twiceFrom s (L.drop n)))
  case atStart => exact ⟨0, 0, Nat.zero_le _, rfl, rfl, rfl, by decide, On.refl w, HB⟩
  case round =>
    clear HB
    obtain ⟨n, s, hn, hk, rfl, rfl, hs, HO, HB⟩ := hrel
    rcases Nat.lt_or_ge n L.length with hlt | hge
    · obtain ⟨x, hx⟩ : ∃ x, L[n]? = some x := ⟨_, List.getElem?_eq_getElem hlt⟩
      obtain ⟨g, off, rfl, hg, hcell⟩ := (HR.out.on HO.out).at hx
      have u0 : wr.cell? ⟨g, off + n * 2, none⟩ = _ := hcell 0 _ rfl
      have u1 : wr.cell? ⟨g, off + n * 2 + 1, none⟩ = _ := hcell 1 _ rfl
      have hd : Hid (L.drop n = x :: L.drop (n + 1)) := drop_at hx
      have hW := fun W => with_is s x.l hs W
      have hwl := withL_lt hs x.l
      clear hx hcell
      have HB2 : Hid (B = if withL s x.l == s then true else twiceFrom (withL s x.l) (L.drop (n + 1))) := by
        show B = _
        rw [HB.out, hd.out, twiceFrom]
      generalize withL s x.l = s' at *
      by_cases h1 : s' = s
      · have hb : B = true := by rw [HB2.out, h1]; simp
        subst hb
        subst h1
        go_wp2_with (go_at_call 57; refine (hW _).mono ?_; rintro e w1 ⟨rfl, rfl⟩)
        go_ret
        exact ⟨rfl, HO.out.trans (by repeat' (first | exact On.refl _ | refine On.alloc ?_ _ | refine On.setNew ?_ (Nat.le_refl _) _))⟩
      · have hb : Hid (B = twiceFrom s' (L.drop (n + 1))) := by
          show B = _
          rw [HB2.out]; simp [h1]
        have hne : ((s' : Int) == s) = false := by simpa using (by omega : ¬ (s' : Int) = s)
        go_wp2_with (go_at_call 57; refine (hW _).mono ?_; rintro e w1 ⟨rfl, rfl⟩)
        go_roundg (L.length - (n + 1))
        case measure => omega
        case rel => exact ⟨n + 1, s', by omega, rfl, by go_num, rfl, hwl, HO.out.trans (by repeat' (first | exact On.refl _ | refine On.alloc ?_ _ | refine On.setNew ?_ (Nat.le_refl _) _)), hb⟩
    · have hb : B = false := by rw [HB.out, List.drop_of_length_le hge]; rfl
      subst hb
      go_wp2
      go_ret
      exact ⟨rfl, HO.out⟩

set_option maxHeartbeats 4000000 in
set_option maxRecDepth 8000 in
theorem skips_is (L : List InsT) (a : Option Addr) (c : Nat) (w : World) (h : Rd insC 9 w (.slice a L.length c) L) :
    Calls Tryd.prog 58 #[.slice a L.length c] w fun e w' => e = .returned (.bool (skipBad L)) ∧ On w w' := by
  obtain ⟨_, _, _, _, hm⟩ := h.slice
  have HR : Hid (Rd insC 9 w (.slice a L.length c) L) := h
  clear h
  obtain ⟨B, hB⟩ : ∃ B, B = skipBad L := ⟨_, rfl⟩
  rw [← hB]
  have HB : Hid (B = skipBad (L.drop 0)) := hB
  clear hB
  go_enter Tryd.func58, Tryd.ntmps58
  go_wp2
  go_loopg [8] L.length (fun gg s8 wr => ∃ n : Nat, n ≤ L.length ∧ gg = L.length - n ∧ s8 = .int .i64 n ∧ Hid (On w wr) ∧ Hid (B = skipBad (L.drop n)))
  case atStart => exact ⟨0, Nat.zero_le _, rfl, rfl, On.refl w, HB⟩
  case round =>
    clear HB
    obtain ⟨n, hn, hk, rfl, HO, HB⟩ := hrel
    rcases Nat.lt_or_ge n L.length with hlt | hge
    · obtain ⟨x, hx⟩ : ∃ x, L[n]? = some x := ⟨_, List.getElem?_eq_getElem hlt⟩
      obtain ⟨g, off, rfl, hg, hcell⟩ := (HR.out.on HO.out).at hx
      have hd : Hid (L.drop n = x :: L.drop (n + 1)) := drop_at hx
      obtain ⟨k, r, l, ⟨ar, av⟩, o, ⟨br, bv⟩, m⟩ := x
      have u0 : wr.cell? ⟨g, off + n * 9, none⟩ = _ := hcell 0 _ rfl
      have u1 : wr.cell? ⟨g, off + n * 9 + 1, none⟩ = _ := hcell 1 _ rfl
      have u2 : wr.cell? ⟨g, off + n * 9 + 2, none⟩ = _ := hcell 2 _ rfl
      have u3 : wr.cell? ⟨g, off + n * 9 + 3, none⟩ = _ := hcell 3 _ rfl
      have u4 : wr.cell? ⟨g, off + n * 9 + 4, none⟩ = _ := hcell 4 _ rfl
      have u5 : wr.cell? ⟨g, off + n * 9 + 5, none⟩ = _ := hcell 5 _ rfl
      have u6 : wr.cell? ⟨g, off + n * 9 + 6, none⟩ = _ := hcell 6 _ rfl
      have u7 : wr.cell? ⟨g, off + n * 9 + 7, none⟩ = _ := hcell 7 _ rfl
      have u8 : wr.cell? ⟨g, off + n * 9 + 8, none⟩ = _ := hcell 8 _ rfl
      simp only at u0 u1 u2 u3 u4 u5 u6 u7 u8
      clear hx hcell
      have HB2 : Hid (B = ((k == 6 && (m == 0 || decide (((L.drop (n + 1)).length : Int) < m))) || skipBad (L.drop (n + 1)))) := by
        show B = _
        rw [HB.out, hd.out, skipBad]
      have hlen : (L.drop (n + 1)).length = L.length - (n + 1) := List.length_drop
      clear HB hd
      by_cases h6 : k = 6
      · subst h6
        by_cases h0 : m = 0
        · have hb : B = true := by rw [HB2.out, h0]; rfl
          subst hb
          subst h0
          go_wp2
          go_ret
          exact ⟨rfl, HO.out.trans (by repeat' (first | exact On.refl _ | refine On.alloc ?_ _ | refine On.setNew ?_ (Nat.le_refl _) _))⟩
        · have m0 : (m == 0) = false := by simpa using h0
          by_cases hlm : ((L.length : Int) - n - 1 < m)
          · have hb : B = true := by
              rw [HB2.out, m0, hlen, decide_eq_true (by omega)]; rfl
            subst hb
            clear HB2 hlen
            go_wp2
            go_ret
            exact ⟨rfl, HO.out.trans (by repeat' (first | exact On.refl _ | refine On.alloc ?_ _ | refine On.setNew ?_ (Nat.le_refl _) _))⟩
          · have hb : Hid (B = skipBad (L.drop (n + 1))) := by
              show B = _
              rw [HB2.out, m0, hlen, decide_eq_false (by omega)]; rfl
            clear HB2 hlen
            go_wp2
            go_roundg (L.length - (n + 1))
            case measure => omega
            case rel => exact ⟨n + 1, by omega, rfl, by go_num, HO.out.trans (by repeat' (first | exact On.refl _ | refine On.alloc ?_ _ | refine On.setNew ?_ (Nat.le_refl _) _)), hb⟩
      · have k6 : (k == 6) = false := by simpa using h6
        have hb : Hid (B = skipBad (L.drop (n + 1))) := by
          show B = _
          rw [HB2.out, k6]; rfl
        clear HB2 hlen
        go_wp2
        go_roundg (L.length - (n + 1))
        case measure => omega
        case rel => exact ⟨n + 1, by omega, rfl, by go_num, HO.out.trans (by repeat' (first | exact On.refl _ | refine On.alloc ?_ _ | refine On.setNew ?_ (Nat.le_refl _) _)), hb⟩
    · have hb : B = false := by rw [HB.out, List.drop_of_length_le hge]; rfl
      subst hb
      go_wp2
      go_ret
      exact ⟨rfl, HO.out⟩
end Go.Proofs.YtengdlchglkkjaaDoor
