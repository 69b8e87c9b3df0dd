/- print.Same for any two tests that lie in memory. -/
import Derived.Test.YtacflahkofmcpaaGreatDoorJ14LexCut
import Derived.DeepKeys
import Derived.Laws.StructEq
import Derived.BigQuiet
namespace Go.Proofs.YtacflahkofmcpaaGreatDoor.Wl
open Go.RowKit

def eqL {α : Type} (f : α → α → Bool) : List α → List α → Bool
  | [], [] => true
  | x :: L, y :: M => f x y && eqL f L M
  | _, _ => false
theorem eqL_len {α : Type} {f : α → α → Bool} : ∀ (L M : List α), L.length ≠ M.length → eqL f L M = false
  | [], [], h => absurd rfl h
  | [], _ :: _, _ => rfl
  | _ :: _, [], _ => rfl
  | x :: L, y :: M, h => by
    unfold eqL
    rw [eqL_len L M (fun e => h (by simp [e])), Bool.and_false]
theorem eqL_self {α : Type} {f : α → α → Bool} (hf : ∀ x, f x x = true) : ∀ L : List α, eqL f L L = true
  | [] => rfl
  | x :: L => by unfold eqL; rw [hf, eqL_self hf L]; rfl
def iniE2 (x y : InitT) : Bool := x.l == y.l && x.v == y.v
def insE2 (x y : InsT) : Bool := x.k == y.k && (x.r == y.r && (x.l == y.l && (x.a.r == y.a.r && (x.a.v == y.a.v && (x.o == y.o && (x.b.r == y.b.r && (x.b.v == y.b.v && x.n == y.n)))))))
def atmE2 (x y : AtomT) : Bool := x.t == y.t && (x.r == y.r && (x.l == y.l && x.v == y.v))
def sameT (a b : TestT) : Bool := (a.name.toList == b.name.toList) && (eqL iniE2 a.ini b.ini && (eqL (eqL insE2) a.thr b.thr && ((a.cond.k == b.cond.k) && eqL (eqL atmE2) a.cond.any b.cond.any)))
theorem eqVIni (w : World) (x0 x1 y0 y1 : Int) :
    (Op.equalIn 10000 55 (.agg #[.int .i64 x0, .int .i64 x1]) (.agg #[.int .i64 y0, .int .i64 y1])).run Tryz.prog w = .ok (x0 == y0 && x1 == y1) w := by
  go_simp
  by_cases h0 : x0 = y0
  · by_cases h1 : x1 = y1
    · simp [h0, h1]
    · simp [h0, h1]
  · simp [h0]
set_option maxHeartbeats 4000000 in
theorem sEqIni_is (L M : List InitT) (a b : Option Addr) (c d : Nat) (w : World) (h : Rd iniC 2 w (.slice a L.length c) L) (h' : Rd iniC 2 w (.slice b M.length d) M) :
    Calls Tryz.prog 50 #[.slice a L.length c, .slice b M.length d] w fun e w' => e = .returned (.bool (eqL iniE2 L M)) ∧ On w w' := by
  obtain ⟨_, _, _, _, hm⟩ := h.slice
  obtain ⟨_, _, _, _, hm'⟩ := h'.slice
  have HA : Hid (Rd iniC 2 w (.slice a L.length c) L) := h
  have HB : Hid (Rd iniC 2 w (.slice b M.length d) M) := h'
  obtain ⟨R, hR⟩ : ∃ R, R = eqL iniE2 L M := ⟨_, rfl⟩
  rw [← hR]
  clear h h'
  by_cases hl : L.length = M.length
  · have HR : Hid (R = eqL iniE2 (L.drop 0) (M.drop 0)) := hR
    have HL : Hid (L.length = M.length) := hl
    have dn : ((L.length : Int) != (M.length : Int)) = false := by rw [hl]; simp
    clear hR hl
    have hE := fun W => eqVIni W
    go_enter Tryz.func50, Tryz.ntmps50
    go_wp2
    go_loopg [13] L.length (fun gg s13 wq => ∃ n : Nat, n ≤ L.length ∧ gg = L.length - n ∧ s13 = .int .i64 n ∧ Hid (On w wq) ∧ Hid (R = eqL iniE2 (L.drop n) (M.drop n)))
    case atStart => exact ⟨0, Nat.zero_le _, rfl, rfl, On.refl w, HR⟩
    case round =>
      clear HR
      obtain ⟨n, hn, hk, rfl, HO, HR⟩ := hrel
      rcases Nat.lt_or_ge n L.length with hlt | hge
      · have hltM : n < M.length := by have := HL.out; omega
        obtain ⟨x, hx⟩ : ∃ x, L[n]? = some x := ⟨_, List.getElem?_eq_getElem hlt⟩
        obtain ⟨y, hy⟩ : ∃ y, M[n]? = some y := ⟨_, List.getElem?_eq_getElem hltM⟩
        obtain ⟨g1, o1, rfl, hg1, hc1⟩ := (HA.out.on HO.out).at hx
        obtain ⟨g2, o2, rfl, hg2, hc2⟩ := (HB.out.on HO.out).at hy
        have p0 : wr.cell? ⟨g1, o1 + n * 2, none⟩ = _ := hc1 0 _ rfl
        have q0 : wr.cell? ⟨g2, o2 + n * 2, none⟩ = _ := hc2 0 _ rfl
        have p1 : wr.cell? ⟨g1, o1 + n * 2 + 1, none⟩ = _ := hc1 1 _ rfl
        have q1 : wr.cell? ⟨g2, o2 + n * 2 + 1, none⟩ = _ := hc2 1 _ rfl
        have hr := HR.out
        rw [drop_at hx, drop_at hy, eqL] at hr
        have bn0 : (0 : Int) ≤ (n : Int) := by omega
        have bn1 : (n : Int) < (L.length : Int) := by omega
        have bn2 : (n : Int) < (M.length : Int) := by omega
        have hEx := fun W => hE W x.l x.v y.l y.v
        have eXY : (x.l == y.l && x.v == y.v) = iniE2 x y := rfl
        rw [eXY] at hEx
        cases hxy : iniE2 x y with
        | true =>
          rw [hxy] at hEx hr
          have HR2 : Hid (R = eqL iniE2 (L.drop (n + 1)) (M.drop (n + 1))) := hr
          clear hx hy hE hc1 hc2 hr HR eXY hxy
          go_wp2
          go_quiet (fail)
          go_wp2
          go_roundg (L.length - (n + 1))
          case measure => omega
          case rel => exact ⟨n + 1, by omega, rfl, by go_num, On.drewN HO.out _, HR2⟩
        | false =>
          rw [hxy] at hEx hr
          obtain rfl : R = false := hr
          clear hx hy hE hc1 hc2 HR eXY hxy
          go_wp2
          go_quiet (fail)
          go_wp2
          go_ret
          exact ⟨rfl, On.drewN HO.out _⟩
      · obtain rfl : n = L.length := by omega
        obtain rfl : R = true := by rw [HR.out, List.drop_length, HL.out, List.drop_length]; rfl
        go_wp2
        go_ret
        exact ⟨rfl, HO.out⟩
  · obtain rfl : R = false := by rw [hR, eqL_len L M hl]
    have dn : ((L.length : Int) != (M.length : Int)) = true := by simp; omega
    clear hR
    go_enter Tryz.func50, Tryz.ntmps50
    go_wp2
    go_ret
    exact ⟨rfl, On.refl w⟩
theorem eqVIns (w : World) (x0 x1 x2 x3 x4 x5 x6 x7 x8 y0 y1 y2 y3 y4 y5 y6 y7 y8 : Int) :
    (Op.equalIn 10000 52 (.agg #[.int .i64 x0, .int .i64 x1, .int .i64 x2, .int .i64 x3, .int .i64 x4, .int .i64 x5, .int .i64 x6, .int .i64 x7, .int .i64 x8]) (.agg #[.int .i64 y0, .int .i64 y1, .int .i64 y2, .int .i64 y3, .int .i64 y4, .int .i64 y5, .int .i64 y6, .int .i64 y7, .int .i64 y8])).run Tryz.prog w = .ok (x0 == y0 && (x1 == y1 && (x2 == y2 && (x3 == y3 && (x4 == y4 && (x5 == y5 && (x6 == y6 && (x7 == y7 && x8 == y8)))))))) w := by
  have ea := Tryz.isAgg50
  have ez := Tryz.sizeOf50
  go_simp
  by_cases h0 : x0 = y0
  · by_cases h1 : x1 = y1
    · by_cases h2 : x2 = y2
      · by_cases h3 : x3 = y3
        · by_cases h4 : x4 = y4
          · by_cases h5 : x5 = y5
            · by_cases h6 : x6 = y6
              · by_cases h7 : x7 = y7
                · by_cases h8 : x8 = y8
                  · simp [h0, h1, h2, h3, h4, h5, h6, h7, h8]
                  · simp [h0, h1, h2, h3, h4, h5, h6, h7, h8]
                · simp [h0, h1, h2, h3, h4, h5, h6, h7]
              · simp [h0, h1, h2, h3, h4, h5, h6]
            · simp [h0, h1, h2, h3, h4, h5]
          · simp [h0, h1, h2, h3, h4]
        · simp [h0, h1, h2, h3]
      · simp [h0, h1, h2]
    · simp [h0, h1]
  · simp [h0]
set_option maxHeartbeats 4000000 in
theorem sEqIns_is (L M : List InsT) (a b : Option Addr) (c d : Nat) (w : World) (h : Rd insC 9 w (.slice a L.length c) L) (h' : Rd insC 9 w (.slice b M.length d) M) :
    Calls Tryz.prog 52 #[.slice a L.length c, .slice b M.length d] w fun e w' => e = .returned (.bool (eqL insE2 L M)) ∧ On w w' := by
  obtain ⟨_, _, _, _, hm⟩ := h.slice
  obtain ⟨_, _, _, _, hm'⟩ := h'.slice
  have HA : Hid (Rd insC 9 w (.slice a L.length c) L) := h
  have HB : Hid (Rd insC 9 w (.slice b M.length d) M) := h'
  obtain ⟨R, hR⟩ : ∃ R, R = eqL insE2 L M := ⟨_, rfl⟩
  rw [← hR]
  clear h h'
  by_cases hl : L.length = M.length
  · have HR : Hid (R = eqL insE2 (L.drop 0) (M.drop 0)) := hR
    have HL : Hid (L.length = M.length) := hl
    have dn : ((L.length : Int) != (M.length : Int)) = false := by rw [hl]; simp
    clear hR hl
    have hE := fun W => eqVIns W
    go_enter Tryz.func52, Tryz.ntmps52
    go_wp2
    go_loopg [13] L.length (fun gg s13 wq => ∃ n : Nat, n ≤ L.length ∧ gg = L.length - n ∧ s13 = .int .i64 n ∧ Hid (On w wq) ∧ Hid (R = eqL insE2 (L.drop n) (M.drop n)))
    case atStart => exact ⟨0, Nat.zero_le _, rfl, rfl, On.refl w, HR⟩
    case round =>
      clear HR
      obtain ⟨n, hn, hk, rfl, HO, HR⟩ := hrel
      rcases Nat.lt_or_ge n L.length with hlt | hge
      · have hltM : n < M.length := by have := HL.out; omega
        obtain ⟨x, hx⟩ : ∃ x, L[n]? = some x := ⟨_, List.getElem?_eq_getElem hlt⟩
        obtain ⟨y, hy⟩ : ∃ y, M[n]? = some y := ⟨_, List.getElem?_eq_getElem hltM⟩
        obtain ⟨g1, o1, rfl, hg1, hc1⟩ := (HA.out.on HO.out).at hx
        obtain ⟨g2, o2, rfl, hg2, hc2⟩ := (HB.out.on HO.out).at hy
        have p0 : wr.cell? ⟨g1, o1 + n * 9, none⟩ = _ := hc1 0 _ rfl
        have q0 : wr.cell? ⟨g2, o2 + n * 9, none⟩ = _ := hc2 0 _ rfl
        have p1 : wr.cell? ⟨g1, o1 + n * 9 + 1, none⟩ = _ := hc1 1 _ rfl
        have q1 : wr.cell? ⟨g2, o2 + n * 9 + 1, none⟩ = _ := hc2 1 _ rfl
        have p2 : wr.cell? ⟨g1, o1 + n * 9 + 2, none⟩ = _ := hc1 2 _ rfl
        have q2 : wr.cell? ⟨g2, o2 + n * 9 + 2, none⟩ = _ := hc2 2 _ rfl
        have p3 : wr.cell? ⟨g1, o1 + n * 9 + 3, none⟩ = _ := hc1 3 _ rfl
        have q3 : wr.cell? ⟨g2, o2 + n * 9 + 3, none⟩ = _ := hc2 3 _ rfl
        have p4 : wr.cell? ⟨g1, o1 + n * 9 + 4, none⟩ = _ := hc1 4 _ rfl
        have q4 : wr.cell? ⟨g2, o2 + n * 9 + 4, none⟩ = _ := hc2 4 _ rfl
        have p5 : wr.cell? ⟨g1, o1 + n * 9 + 5, none⟩ = _ := hc1 5 _ rfl
        have q5 : wr.cell? ⟨g2, o2 + n * 9 + 5, none⟩ = _ := hc2 5 _ rfl
        have p6 : wr.cell? ⟨g1, o1 + n * 9 + 6, none⟩ = _ := hc1 6 _ rfl
        have q6 : wr.cell? ⟨g2, o2 + n * 9 + 6, none⟩ = _ := hc2 6 _ rfl
        have p7 : wr.cell? ⟨g1, o1 + n * 9 + 7, none⟩ = _ := hc1 7 _ rfl
        have q7 : wr.cell? ⟨g2, o2 + n * 9 + 7, none⟩ = _ := hc2 7 _ rfl
        have p8 : wr.cell? ⟨g1, o1 + n * 9 + 8, none⟩ = _ := hc1 8 _ rfl
        have q8 : wr.cell? ⟨g2, o2 + n * 9 + 8, none⟩ = _ := hc2 8 _ rfl
        have hr := HR.out
        rw [drop_at hx, drop_at hy, eqL] at hr
        have bn0 : (0 : Int) ≤ (n : Int) := by omega
        have bn1 : (n : Int) < (L.length : Int) := by omega
        have bn2 : (n : Int) < (M.length : Int) := by omega
        have hEx := fun W => hE W x.k x.r x.l x.a.r x.a.v x.o x.b.r x.b.v x.n y.k y.r y.l y.a.r y.a.v y.o y.b.r y.b.v y.n
        have eXY : (x.k == y.k && (x.r == y.r && (x.l == y.l && (x.a.r == y.a.r && (x.a.v == y.a.v && (x.o == y.o && (x.b.r == y.b.r && (x.b.v == y.b.v && x.n == y.n)))))))) = insE2 x y := rfl
        rw [eXY] at hEx
        cases hxy : insE2 x y with
        | true =>
          rw [hxy] at hEx hr
          have HR2 : Hid (R = eqL insE2 (L.drop (n + 1)) (M.drop (n + 1))) := hr
          clear hx hy hE hc1 hc2 hr HR eXY hxy
          go_wp2
          go_quiet (fail)
          go_wp2
          go_roundg (L.length - (n + 1))
          case measure => omega
          case rel => exact ⟨n + 1, by omega, rfl, by go_num, On.drewN HO.out _, HR2⟩
        | false =>
          rw [hxy] at hEx hr
          obtain rfl : R = false := hr
          clear hx hy hE hc1 hc2 HR eXY hxy
          go_wp2
          go_quiet (fail)
          go_wp2
          go_ret
          exact ⟨rfl, On.drewN HO.out _⟩
      · obtain rfl : n = L.length := by omega
        obtain rfl : R = true := by rw [HR.out, List.drop_length, HL.out, List.drop_length]; rfl
        go_wp2
        go_ret
        exact ⟨rfl, HO.out⟩
  · obtain rfl : R = false := by rw [hR, eqL_len L M hl]
    have dn : ((L.length : Int) != (M.length : Int)) = true := by simp; omega
    clear hR
    go_enter Tryz.func52, Tryz.ntmps52
    go_wp2
    go_ret
    exact ⟨rfl, On.refl w⟩
theorem eqVAtm (w : World) (x0 x1 x2 x3 y0 y1 y2 y3 : Int) :
    (Op.equalIn 10000 58 (.agg #[.int .i64 x0, .int .i64 x1, .int .i64 x2, .int .i64 x3]) (.agg #[.int .i64 y0, .int .i64 y1, .int .i64 y2, .int .i64 y3])).run Tryz.prog w = .ok (x0 == y0 && (x1 == y1 && (x2 == y2 && x3 == y3))) w := by
  go_simp
  by_cases h0 : x0 = y0
  · by_cases h1 : x1 = y1
    · by_cases h2 : x2 = y2
      · by_cases h3 : x3 = y3
        · simp [h0, h1, h2, h3]
        · simp [h0, h1, h2, h3]
      · simp [h0, h1, h2]
    · simp [h0, h1]
  · simp [h0]
set_option maxHeartbeats 4000000 in
theorem sEqAtm_is (L M : List AtomT) (a b : Option Addr) (c d : Nat) (w : World) (h : Rd atomC 4 w (.slice a L.length c) L) (h' : Rd atomC 4 w (.slice b M.length d) M) :
    Calls Tryz.prog 54 #[.slice a L.length c, .slice b M.length d] w fun e w' => e = .returned (.bool (eqL atmE2 L M)) ∧ On w w' := by
  obtain ⟨_, _, _, _, hm⟩ := h.slice
  obtain ⟨_, _, _, _, hm'⟩ := h'.slice
  have HA : Hid (Rd atomC 4 w (.slice a L.length c) L) := h
  have HB : Hid (Rd atomC 4 w (.slice b M.length d) M) := h'
  obtain ⟨R, hR⟩ : ∃ R, R = eqL atmE2 L M := ⟨_, rfl⟩
  rw [← hR]
  clear h h'
  by_cases hl : L.length = M.length
  · have HR : Hid (R = eqL atmE2 (L.drop 0) (M.drop 0)) := hR
    have HL : Hid (L.length = M.length) := hl
    have dn : ((L.length : Int) != (M.length : Int)) = false := by rw [hl]; simp
    clear hR hl
    have hE := fun W => eqVAtm W
    go_enter Tryz.func54, Tryz.ntmps54
    go_wp2
    go_loopg [13] L.length (fun gg s13 wq => ∃ n : Nat, n ≤ L.length ∧ gg = L.length - n ∧ s13 = .int .i64 n ∧ Hid (On w wq) ∧ Hid (R = eqL atmE2 (L.drop n) (M.drop n)))
    case atStart => exact ⟨0, Nat.zero_le _, rfl, rfl, On.refl w, HR⟩
    case round =>
      clear HR
      obtain ⟨n, hn, hk, rfl, HO, HR⟩ := hrel
      rcases Nat.lt_or_ge n L.length with hlt | hge
      · have hltM : n < M.length := by have := HL.out; omega
        obtain ⟨x, hx⟩ : ∃ x, L[n]? = some x := ⟨_, List.getElem?_eq_getElem hlt⟩
        obtain ⟨y, hy⟩ : ∃ y, M[n]? = some y := ⟨_, List.getElem?_eq_getElem hltM⟩
        obtain ⟨g1, o1, rfl, hg1, hc1⟩ := (HA.out.on HO.out).at hx
        obtain ⟨g2, o2, rfl, hg2, hc2⟩ := (HB.out.on HO.out).at hy
        have p0 : wr.cell? ⟨g1, o1 + n * 4, none⟩ = _ := hc1 0 _ rfl
        have q0 : wr.cell? ⟨g2, o2 + n * 4, none⟩ = _ := hc2 0 _ rfl
        have p1 : wr.cell? ⟨g1, o1 + n * 4 + 1, none⟩ = _ := hc1 1 _ rfl
        have q1 : wr.cell? ⟨g2, o2 + n * 4 + 1, none⟩ = _ := hc2 1 _ rfl
        have p2 : wr.cell? ⟨g1, o1 + n * 4 + 2, none⟩ = _ := hc1 2 _ rfl
        have q2 : wr.cell? ⟨g2, o2 + n * 4 + 2, none⟩ = _ := hc2 2 _ rfl
        have p3 : wr.cell? ⟨g1, o1 + n * 4 + 3, none⟩ = _ := hc1 3 _ rfl
        have q3 : wr.cell? ⟨g2, o2 + n * 4 + 3, none⟩ = _ := hc2 3 _ rfl
        have hr := HR.out
        rw [drop_at hx, drop_at hy, eqL] at hr
        have bn0 : (0 : Int) ≤ (n : Int) := by omega
        have bn1 : (n : Int) < (L.length : Int) := by omega
        have bn2 : (n : Int) < (M.length : Int) := by omega
        have hEx := fun W => hE W x.t x.r x.l x.v y.t y.r y.l y.v
        have eXY : (x.t == y.t && (x.r == y.r && (x.l == y.l && x.v == y.v))) = atmE2 x y := rfl
        rw [eXY] at hEx
        cases hxy : atmE2 x y with
        | true =>
          rw [hxy] at hEx hr
          have HR2 : Hid (R = eqL atmE2 (L.drop (n + 1)) (M.drop (n + 1))) := hr
          clear hx hy hE hc1 hc2 hr HR eXY hxy
          go_wp2
          go_quiet (fail)
          go_wp2
          go_roundg (L.length - (n + 1))
          case measure => omega
          case rel => exact ⟨n + 1, by omega, rfl, by go_num, On.drewN HO.out _, HR2⟩
        | false =>
          rw [hxy] at hEx hr
          obtain rfl : R = false := hr
          clear hx hy hE hc1 hc2 HR eXY hxy
          go_wp2
          go_quiet (fail)
          go_wp2
          go_ret
          exact ⟨rfl, On.drewN HO.out _⟩
      · obtain rfl : n = L.length := by omega
        obtain rfl : R = true := by rw [HR.out, List.drop_length, HL.out, List.drop_length]; rfl
        go_wp2
        go_ret
        exact ⟨rfl, HO.out⟩
  · obtain rfl : R = false := by rw [hR, eqL_len L M hl]
    have dn : ((L.length : Int) != (M.length : Int)) = true := by simp; omega
    clear hR
    go_enter Tryz.func54, Tryz.ntmps54
    go_wp2
    go_ret
    exact ⟨rfl, On.refl w⟩
set_option maxHeartbeats 4000000 in
theorem sFnIns_is (L M : List (List InsT)) (a b : Option Addr) (c d : Nat) (w : World) (h : Rd2 insC 9 w (.slice a L.length c) L) (h' : Rd2 insC 9 w (.slice b M.length d) M) :
    Calls Tryz.prog 51 #[.slice a L.length c, .slice b M.length d, .func (.func 52) #[] #[]] w fun e w' => e = .returned (.bool (eqL (eqL insE2) L M)) ∧ On w w' := by
  obtain ⟨_, _, _, _, hm⟩ := h.slice
  obtain ⟨_, _, _, _, hm'⟩ := h'.slice
  have HA : Hid (Rd2 insC 9 w (.slice a L.length c) L) := h
  have HB : Hid (Rd2 insC 9 w (.slice b M.length d) M) := h'
  obtain ⟨R, hR⟩ : ∃ R, R = eqL (eqL insE2) L M := ⟨_, rfl⟩
  rw [← hR]
  clear h h'
  by_cases hl : L.length = M.length
  · have HR : Hid (R = eqL (eqL insE2) (L.drop 0) (M.drop 0)) := hR
    have HL : Hid (L.length = M.length) := hl
    have dn : ((L.length : Int) != (M.length : Int)) = false := by rw [hl]; simp
    clear hR hl
    go_enter Tryz.func51, Tryz.ntmps51
    go_wp2
    go_loopg [17] L.length (fun gg s17 wq => ∃ n : Nat, n ≤ L.length ∧ gg = L.length - n ∧ s17 = .int .i64 n ∧ Hid (On w wq) ∧ Hid (R = eqL (eqL insE2) (L.drop n) (M.drop n)))
    case atStart => exact ⟨0, Nat.zero_le _, rfl, rfl, On.refl w, HR⟩
    case round =>
      clear HR
      obtain ⟨n, hn, hk, rfl, HO, HR⟩ := hrel
      rcases Nat.lt_or_ge n L.length with hlt | hge
      · have hltM : n < M.length := by have := HL.out; omega
        obtain ⟨x, hx⟩ : ∃ x, L[n]? = some x := ⟨_, List.getElem?_eq_getElem hlt⟩
        obtain ⟨y, hy⟩ : ∃ y, M[n]? = some y := ⟨_, List.getElem?_eq_getElem hltM⟩
        obtain ⟨g1, o1, rfl, hg1, ax, cx, hcx, _, rx⟩ := (HA.out.on HO.out).row hx
        obtain ⟨g2, o2, rfl, hg2, ay, cy, hcy, _, ry⟩ := (HB.out.on HO.out).row hy
        have hS := sEqIns_is x y ax ay cx cy wr rx ry
        have hr := HR.out
        rw [drop_at hx, drop_at hy, eqL] at hr
        have bn0 : (0 : Int) ≤ (n : Int) := by omega
        have bn1 : (n : Int) < (L.length : Int) := by omega
        have bn2 : (n : Int) < (M.length : Int) := by omega
        cases hxy : eqL insE2 x y with
        | true =>
          rw [hxy] at hS hr
          have HR2 : Hid (R = eqL (eqL insE2) (L.drop (n + 1)) (M.drop (n + 1))) := hr
          clear hx hy hr HR hxy rx ry
          go_wp2_with fail
          refine hS.mono ?_
          rintro _ w1 ⟨rfl, k1⟩
          go_wp2
          go_roundg (L.length - (n + 1))
          case measure => omega
          case rel => exact ⟨n + 1, by omega, rfl, by go_num, HO.out.trans k1, HR2⟩
        | false =>
          rw [hxy] at hS hr
          obtain rfl : R = false := hr
          clear hx hy HR hxy rx ry
          go_wp2_with fail
          refine hS.mono ?_
          rintro _ w1 ⟨rfl, k1⟩
          go_wp2
          go_ret
          exact ⟨rfl, HO.out.trans k1⟩
      · obtain rfl : n = L.length := by omega
        obtain rfl : R = true := by rw [HR.out, List.drop_length, HL.out, List.drop_length]; rfl
        go_wp2
        go_ret
        exact ⟨rfl, HO.out⟩
  · obtain rfl : R = false := by rw [hR, eqL_len L M hl]
    have dn : ((L.length : Int) != (M.length : Int)) = true := by simp; omega
    clear hR
    go_enter Tryz.func51, Tryz.ntmps51
    go_wp2
    go_ret
    exact ⟨rfl, On.refl w⟩
set_option maxHeartbeats 4000000 in
theorem sFnAtm_is (L M : List (List AtomT)) (a b : Option Addr) (c d : Nat) (w : World) (h : Rd2 atomC 4 w (.slice a L.length c) L) (h' : Rd2 atomC 4 w (.slice b M.length d) M) :
    Calls Tryz.prog 53 #[.slice a L.length c, .slice b M.length d, .func (.func 54) #[] #[]] w fun e w' => e = .returned (.bool (eqL (eqL atmE2) L M)) ∧ On w w' := by
  obtain ⟨_, _, _, _, hm⟩ := h.slice
  obtain ⟨_, _, _, _, hm'⟩ := h'.slice
  have HA : Hid (Rd2 atomC 4 w (.slice a L.length c) L) := h
  have HB : Hid (Rd2 atomC 4 w (.slice b M.length d) M) := h'
  obtain ⟨R, hR⟩ : ∃ R, R = eqL (eqL atmE2) L M := ⟨_, rfl⟩
  rw [← hR]
  clear h h'
  by_cases hl : L.length = M.length
  · have HR : Hid (R = eqL (eqL atmE2) (L.drop 0) (M.drop 0)) := hR
    have HL : Hid (L.length = M.length) := hl
    have dn : ((L.length : Int) != (M.length : Int)) = false := by rw [hl]; simp
    clear hR hl
    go_enter Tryz.func53, Tryz.ntmps53
    go_wp2
    go_loopg [17] L.length (fun gg s17 wq => ∃ n : Nat, n ≤ L.length ∧ gg = L.length - n ∧ s17 = .int .i64 n ∧ Hid (On w wq) ∧ Hid (R = eqL (eqL atmE2) (L.drop n) (M.drop n)))
    case atStart => exact ⟨0, Nat.zero_le _, rfl, rfl, On.refl w, HR⟩
    case round =>
      clear HR
      obtain ⟨n, hn, hk, rfl, HO, HR⟩ := hrel
      rcases Nat.lt_or_ge n L.length with hlt | hge
      · have hltM : n < M.length := by have := HL.out; omega
        obtain ⟨x, hx⟩ : ∃ x, L[n]? = some x := ⟨_, List.getElem?_eq_getElem hlt⟩
        obtain ⟨y, hy⟩ : ∃ y, M[n]? = some y := ⟨_, List.getElem?_eq_getElem hltM⟩
        obtain ⟨g1, o1, rfl, hg1, ax, cx, hcx, _, rx⟩ := (HA.out.on HO.out).row hx
        obtain ⟨g2, o2, rfl, hg2, ay, cy, hcy, _, ry⟩ := (HB.out.on HO.out).row hy
        have hS := sEqAtm_is x y ax ay cx cy wr rx ry
        have hr := HR.out
        rw [drop_at hx, drop_at hy, eqL] at hr
        have bn0 : (0 : Int) ≤ (n : Int) := by omega
        have bn1 : (n : Int) < (L.length : Int) := by omega
        have bn2 : (n : Int) < (M.length : Int) := by omega
        cases hxy : eqL atmE2 x y with
        | true =>
          rw [hxy] at hS hr
          have HR2 : Hid (R = eqL (eqL atmE2) (L.drop (n + 1)) (M.drop (n + 1))) := hr
          clear hx hy hr HR hxy rx ry
          go_wp2_with fail
          refine hS.mono ?_
          rintro _ w1 ⟨rfl, k1⟩
          go_wp2
          go_roundg (L.length - (n + 1))
          case measure => omega
          case rel => exact ⟨n + 1, by omega, rfl, by go_num, HO.out.trans k1, HR2⟩
        | false =>
          rw [hxy] at hS hr
          obtain rfl : R = false := hr
          clear hx hy HR hxy rx ry
          go_wp2_with fail
          refine hS.mono ?_
          rintro _ w1 ⟨rfl, k1⟩
          go_wp2
          go_ret
          exact ⟨rfl, HO.out.trans k1⟩
      · obtain rfl : n = L.length := by omega
        obtain rfl : R = true := by rw [HR.out, List.drop_length, HL.out, List.drop_length]; rfl
        go_wp2
        go_ret
        exact ⟨rfl, HO.out⟩
  · obtain rfl : R = false := by rw [hR, eqL_len L M hl]
    have dn : ((L.length : Int) != (M.length : Int)) = true := by simp; omega
    clear hR
    go_enter Tryz.func53, Tryz.ntmps53
    go_wp2
    go_ret
    exact ⟨rfl, On.refl w⟩
end Go.Proofs.YtacflahkofmcpaaGreatDoor.Wl
