/- Rows of things that have some cells each: where a thing's cells lie. -/
import Derived.Test.YtacflahkofmcpaaGreatDoorJ16RefLoc
import Derived.BigQuiet
namespace Go.Proofs.YtacflahkofmcpaaGreatDoor
open Go.RowKit

theorem flat_at {α : Type} (C : α → List Value) (n : Nat) (hC : ∀ x, (C x).length = n) : ∀ (L : List α) (k j : Nat) (x : α), L[k]? = some x → j < n → (L.flatMap C)[k * n + j]? = (C x)[j]?
  | [], k, j, x, h, _ => by simp at h
  | y :: L, 0, j, x, h, hj => by
    simp only [List.getElem?_cons_zero, Option.some.injEq] at h
    subst h
    rw [List.flatMap_cons, Nat.zero_mul, Nat.zero_add, List.getElem?_append_left (by rw [hC]; exact hj)]
  | y :: L, k + 1, j, x, h, hj => by
    rw [List.getElem?_cons_succ] at h
    rw [List.flatMap_cons, List.getElem?_append_right (by rw [hC, Nat.succ_mul]; omega), hC]
    have e : (k + 1) * n + j - n = k * n + j := by rw [Nat.succ_mul]; omega
    rw [e]
    exact flat_at C n hC L k j x h hj
theorem own_cells2 {w : World} {base k n : Nat} {e : TypeId} {v : Value} {xs : List Value} (h : w.ownsRow base e k v n xs) (hn : 0 < n) :
    ∃ g cap, v = .slice (some ⟨g, 0, none⟩) n cap ∧ n ≤ cap ∧ base ≤ g ∧ g < w.heap.size ∧ ∀ i u, xs[i]? = some u → w.cell? ⟨g, i, none⟩ = some u := by
  rcases h.2 with ⟨_, h0⟩ | ⟨g, cap, cur, hv, hb, hh, hc, _, _, ht⟩
  · omega
  · refine ⟨g, cap, hv, hc, hb, lt_of_block hh, fun i u hi => ?_⟩
    rw [← ht, List.getElem?_take] at hi
    split at hi
    · simp only [World.cell?, hh]
      simpa using hi
    · cases hi
theorem own_flat {α : Type} {C : α → List Value} {n : Nat} (hC : ∀ x, (C x).length = n) {w : World} {base : Nat} {e : TypeId} {a : Option Addr} {m c : Nat} {L : List α} (h : w.ownsRow base e n (.slice a m c) L.length (L.flatMap C)) (hL : 0 < L.length) :
    ∃ g, a = some ⟨g, 0, none⟩ ∧ m = L.length ∧ L.length ≤ c ∧ base ≤ g ∧ g < w.heap.size ∧ ∀ (k j : Nat) (x : α) (u : Value), L[k]? = some x → (C x)[j]? = some u → w.cell? ⟨g, k * n + j, none⟩ = some u := by
  obtain ⟨g, cap, hv, hc, hb, hg, hcell⟩ := own_cells2 h hL
  simp only [Value.slice.injEq] at hv
  obtain ⟨rfl, rfl, rfl⟩ := hv
  refine ⟨g, rfl, rfl, hc, hb, hg, fun k j x u hk hu => hcell _ _ ?_⟩
  have hj : j < n := by
    have := (List.getElem?_eq_some_iff.1 hu).1
    rw [hC] at this
    exact this
  rw [flat_at C n hC L k j x hk hj, hu]
theorem own_len {w : World} {base k n : Nat} {e : TypeId} {a : Option Addr} {m c : Nat} {xs : List Value} (h : w.ownsRow base e k (.slice a m c) n xs) : m = n := by
  rcases h.2 with ⟨hv, h0⟩ | ⟨g, cap, cur, hv, _⟩
  · simp only [Value.slice.injEq] at hv
    rw [hv.2.1, h0]
  · simp only [Value.slice.injEq] at hv
    exact hv.2.1
end Go.Proofs.YtacflahkofmcpaaGreatDoor

namespace Go.Proofs.YtacflahkofmcpaaGreatDoor
open Go.RowKit

theorem On.drewN {w w' : World} (h : On w w') (n : Nat) : On w (w'.drewN n) := ⟨h.os, h.tape, h.output, h.size, h.block⟩
theorem atomC_len (x : AtomT) : (atomC x).length = 4 := rfl
theorem own_max {w : World} {base k n : Nat} {e : TypeId} {v : Value} {xs : List Value} (h : w.ownsRow base e k v n xs) : n ≤ 9223372036854775807 := by
  rcases h.2 with ⟨_, h0⟩ | ⟨g, cap, cur, hv, hb, hh, hc, hm, _⟩
  · omega
  · exact Nat.le_trans hc hm
theorem own_on {w w' : World} {base k n : Nat} {e : TypeId} {v : Value} {xs : List Value} (h : w.ownsRow base e k v n xs) (o : On w w') : w'.ownsRow base e k v n xs := by
  refine ⟨h.1, ?_⟩
  rcases h.2 with h2 | ⟨g, cap, cur, hv, hb, hh, r⟩
  · exact Or.inl h2
  · exact Or.inr ⟨g, cap, cur, hv, hb, (o.block g (lt_of_block hh)).trans hh, r⟩
theorem Own2.on {α : Type} {C : α → List Value} {k : Nat} {eo ei : TypeId} {w w' : World} {base : Nat} {v : Value} {LL : List (List α)} (h : Own2 C k eo ei w base v LL) (o : On w w') : Own2 C k eo ei w' base v LL := by
  obtain ⟨vs, h1, h2, h3⟩ := h
  exact ⟨vs, h1, own_on h2 o, fun i u L a b => own_on (h3 i u L a b) o⟩
theorem Own2.len {α : Type} {C : α → List Value} {k : Nat} {eo ei : TypeId} {w : World} {base : Nat} {a : Option Addr} {m c : Nat} {LL : List (List α)} (h : Own2 C k eo ei w base (.slice a m c) LL) : m = LL.length ∧ LL.length ≤ 9223372036854775807 := by
  obtain ⟨vs, h1, h2, h3⟩ := h
  exact ⟨own_len h2, own_max h2⟩
/-- The row at a place. -/
theorem Own2.row {α : Type} {C : α → List Value} {k : Nat} {eo ei : TypeId} {w : World} {base : Nat} {a : Option Addr} {m c : Nat} {LL : List (List α)} (h : Own2 C k eo ei w base (.slice a m c) LL) {i : Nat} {L : List α} (hi : LL[i]? = some L) :
    ∃ g, a = some ⟨g, 0, none⟩ ∧ m ≤ c ∧ g < w.heap.size ∧ ∃ a' c', w.cell? ⟨g, i, none⟩ = some (.slice a' L.length c') ∧ w.ownsRow base ei k (.slice a' L.length c') L.length (L.flatMap C) := by
  obtain ⟨vs, h1, h2, h3⟩ := h
  have hlt : i < LL.length := (List.getElem?_eq_some_iff.1 hi).1
  obtain ⟨g, cap, hv, hc, _, hg, hcell⟩ := own_cells2 h2 (by omega)
  simp only [Value.slice.injEq] at hv
  obtain ⟨rfl, rfl, rfl⟩ := hv
  obtain ⟨u, hu⟩ : ∃ u, vs[i]? = some u := ⟨_, List.getElem?_eq_getElem (by omega)⟩
  have h4 := h3 i u L hu hi
  obtain ⟨a', m', c', rfl⟩ := own_slice h4
  obtain rfl := own_len h4
  exact ⟨g, rfl, hc, hg, a', c', hcell i _ hu, h4⟩

set_option maxHeartbeats 2000000 in
set_option maxRecDepth 8000 in
theorem sameCond_is (w : World) (k : Int) (LL : List (List AtomT)) (a1 a2 : Option Addr) (m1 m2 c1 c2 b1 b2 : Nat) (o1 : AnyAt w b1 (.slice a1 m1 c1) LL) (o2 : AnyAt w b2 (.slice a2 m2 c2) LL) :
    Calls Tryz.prog 33 #[.agg #[.int .i64 k, .slice a1 m1 c1], .agg #[.int .i64 k, .slice a2 m2 c2]] w fun e w' => e = .returned (.bool true) ∧ On w w' := by
  obtain ⟨e1, hmax⟩ := o1.len
  obtain ⟨e2, _⟩ := o2.len
  subst e1
  subst e2
  have HO1 : Hid (AnyAt w b1 (.slice a1 LL.length c1) LL) := o1
  have HO2 : Hid (AnyAt w b2 (.slice a2 LL.length c2) LL) := o2
  have hkk : ((k : Int) != k) = false := by simp
  have hmm : ((LL.length : Int) != LL.length) = false := by simp
  clear o1 o2
  go_enter Tryz.func33, Tryz.ntmps33
  go_wp2
  go_loopg [5] LL.length (fun kk i wr => ∃ n : Nat, n ≤ LL.length ∧ kk = LL.length - n ∧ i = .int .i64 n ∧ On w wr ∧ Bk wr w.heap.size #[.int .i64 k, .slice a1 LL.length c1] ∧ Bk wr (w.heap.size + 1) #[.int .i64 k, .slice a2 LL.length c2])
  case atStart => exact ⟨0, Nat.zero_le _, rfl, rfl, ((On.refl w).alloc _).alloc _, (Bk.new w _ _).alloc _, Bk.new2 w _ _ _⟩
  case round =>
    obtain ⟨n, hn, hk, rfl, hon, hb1, hb2⟩ := hrel
    obtain ⟨W, hW⟩ : ∃ W, W = wr := ⟨_, rfl⟩
    subst hW
    have x0 : W.cell? ⟨w.heap.size, 1, none⟩ = some (.slice a1 LL.length c1) := hb1.at rfl
    have y0 : W.cell? ⟨w.heap.size + 1, 1, none⟩ = some (.slice a2 LL.length c2) := hb2.at rfl
    have xl := hb1.lt
    have yl := hb2.lt
    rcases Nat.lt_or_ge n LL.length with hlt | hge
    · obtain ⟨L, hL⟩ : ∃ L, LL[n]? = some L := ⟨_, List.getElem?_eq_getElem hlt⟩
      obtain ⟨g1, rfl, hc1, hg1, r1, d1, q1, s1⟩ := (HO1.out.on hon).row hL
      obtain ⟨g2, rfl, hc2, hg2, r2, d2, q2, s2⟩ := (HO2.out.on hon).row hL
      have hLm := own_max s1
      have hll : ((L.length : Int) != L.length) = false := by simp
      have HON : Hid (On w W) := hon
      have HB1 : Hid (Bk W w.heap.size #[.int .i64 k, .slice (some ⟨g1, 0, none⟩) LL.length c1]) := hb1
      have HB2 : Hid (Bk W (w.heap.size + 1) #[.int .i64 k, .slice (some ⟨g2, 0, none⟩) LL.length c2]) := hb2
      have HS1 : Hid (W.ownsRow b1 58 4 (.slice r1 L.length d1) L.length (L.flatMap atomC)) := s1
      have HS2 : Hid (W.ownsRow b2 58 4 (.slice r2 L.length d2) L.length (L.flatMap atomC)) := s2
      clear hon s1 s2 hb1 hb2
      go_wp2
      go_quiet (fail)
      go_wp2
      go_loopg [6] L.length (fun kk i wq => ∃ j : Nat, j ≤ L.length ∧ kk = L.length - j ∧ i = .int .i64 j ∧ On W wq)
      case atStart => exact ⟨0, Nat.zero_le _, rfl, rfl, (On.refl W).drewN _⟩
      case round =>
        obtain ⟨j, hj, hkj, rfl, hoj⟩ := hrel
        have x1 := (hoj.cell (p := ⟨w.heap.size, 1, none⟩) xl).trans x0
        have y1 := (hoj.cell (p := ⟨w.heap.size + 1, 1, none⟩) yl).trans y0
        have z1 := (hoj.cell (p := ⟨g1, n, none⟩) hg1).trans q1
        have z2 := (hoj.cell (p := ⟨g2, n, none⟩) hg2).trans q2
        have xl' := Nat.lt_of_lt_of_le xl hoj.size
        have yl' := Nat.lt_of_lt_of_le yl hoj.size
        have hg1' := Nat.lt_of_lt_of_le hg1 hoj.size
        have hg2' := Nat.lt_of_lt_of_le hg2 hoj.size
        clear x0 y0 q1 q2
        rcases Nat.lt_or_ge j L.length with hlj | hgj
        · obtain ⟨A, hA⟩ : ∃ A, L[j]? = some A := ⟨_, List.getElem?_eq_getElem hlj⟩
          obtain ⟨p1, rfl, _, hp1, _, hq1, cell1⟩ := own_flat atomC_len (own_on HS1.out hoj) (by omega)
          obtain ⟨p2, rfl, _, hp2, _, hq2, cell2⟩ := own_flat atomC_len (own_on HS2.out hoj) (by omega)
          have u0 : wr.cell? ⟨p1, j * 4, none⟩ = _ := cell1 j 0 A _ hA rfl
          have u1 := cell1 j 1 A _ hA rfl
          have u2 := cell1 j 2 A _ hA rfl
          have u3 := cell1 j 3 A _ hA rfl
          have v0 : wr.cell? ⟨p2, j * 4, none⟩ = _ := cell2 j 0 A _ hA rfl
          have v1 := cell2 j 1 A _ hA rfl
          have v2 := cell2 j 2 A _ hA rfl
          have v3 := cell2 j 3 A _ hA rfl
          have HOJ : Hid (On W wr) := hoj
          clear cell1 cell2 hoj
          have e0 : ((A.t : Int) == A.t) = true := by simp
          have e1 : ((A.r : Int) == A.r) = true := by simp
          have e2 : ((A.l : Int) == A.l) = true := by simp
          have e3 : ((A.v : Int) == A.v) = true := by simp
          go_wp2
          go_quiet (fail)
          go_wp2
          go_roundg (L.length - (j + 1))
          case measure => omega
          case rel => exact ⟨j + 1, by omega, rfl, by go_num, HOJ.out.drewN _⟩
        · go_wp2
          go_roundg (LL.length - (n + 1))
          case measure => omega
          case rel => exact ⟨n + 1, by omega, rfl, by go_num, HON.out.trans hoj, HB1.out.on hoj, HB2.out.on hoj⟩
    · go_wp2
      go_ret
      exact ⟨rfl, hon⟩
end Go.Proofs.YtacflahkofmcpaaGreatDoor
