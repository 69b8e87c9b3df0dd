/- What the document's Same answers of two tests that are the same. -/
import Derived.Test.YtacflahkofmcpaaGreatDoorJ24SameW
import Derived.Test.YtacflahkofmcpaaGreatDoorRefTree
import Derived.Test.YtacflahkofmcpaaGreatDoorRefLook
namespace Go.Proofs.YtacflahkofmcpaaGreatDoor
open Go.RowKit

theorem iniC_len (x : InitT) : (iniC x).length = 2 := rfl
theorem insC_len (x : InsT) : (insC x).length = 9 := rfl

set_option maxHeartbeats 4000000 in
set_option maxRecDepth 8000 in
theorem same_is (w : World) (t : TestT) (v u : Value) (b1 b2 : Nat) (p1 : TestAt w b1 v t) (p2 : TestAt w b2 u t) :
    Calls Tryz.prog 12 #[v, u] w fun e w' => e = .returned (.bool true) ∧ On w w' := by
  obtain ⟨a1, m1, c1, a2, m2, c2, a3, m3, c3, rfl, i1, i2, i3⟩ := p1
  obtain ⟨x1, n1, d1, x2, n2, d2, x3, n3, d3, rfl, j1, j2, j3⟩ := p2
  obtain ⟨nm, li, lt, ⟨k, la⟩⟩ := t
  simp only at i1 i2 i3 j1 j2 j3 ⊢
  have e1 := own_len i1
  have e2 := own_len j1
  have hm1 := own_max i1
  obtain ⟨e3, hm2⟩ := i2.len
  obtain ⟨e4, _⟩ := j2.len
  subst e1; subst e2; subst e3; subst e4
  have hnn : (nm.toList != nm.toList) = false := by simp
  have hl1 : ((li.length : Int) != li.length) = false := by simp
  have hl2 : ((lt.length : Int) != lt.length) = false := by simp
  have hC := fun W (o : On w W) => sameCond_is W k la a3 x3 m3 n3 c3 d3 b1 b2 (i3.on o) (j3.on o)
  have I1 : Hid (w.ownsRow b1 55 2 (.slice a1 li.length c1) li.length (li.flatMap iniC)) := i1
  have J1 : Hid (w.ownsRow b2 55 2 (.slice x1 li.length d1) li.length (li.flatMap iniC)) := j1
  have I2 : Hid (ThrAt w b1 (.slice a2 lt.length c2) lt) := i2
  have J2 : Hid (ThrAt w b2 (.slice x2 lt.length d2) lt) := j2
  clear i1 i2 i3 j1 j2 j3
  go_enter Tryz.func12, Tryz.ntmps12
  go_wp2_with fail
  refine (hC _ (((On.refl w).alloc _).alloc _)).mono ?_
  rintro e W ⟨rfl, kW⟩
  have hon0 : On w W := (((On.refl w).alloc _).alloc _).trans kW
  have hb1 := ((Bk.new w #[.string nm, .slice a1 li.length c1, .slice a2 lt.length c2, .int .i64 k, .slice a3 m3 c3] 28).alloc (.cells #[.string nm, .slice x1 li.length d1, .slice x2 lt.length d2, .int .i64 k, .slice x3 n3 d3] 28)).on kW
  have hb2 := (Bk.new2 w (.cells #[.string nm, .slice a1 li.length c1, .slice a2 lt.length c2, .int .i64 k, .slice a3 m3 c3] 28) #[.string nm, .slice x1 li.length d1, .slice x2 lt.length d2, .int .i64 k, .slice x3 n3 d3] 28).on kW
  have u1 : W.cell? ⟨w.heap.size, 1, none⟩ = some (.slice a1 li.length c1) := hb1.at rfl
  have u2 : W.cell? ⟨w.heap.size, 2, none⟩ = some (.slice a2 lt.length c2) := hb1.at rfl
  have z1 : W.cell? ⟨w.heap.size + 1, 1, none⟩ = some (.slice x1 li.length d1) := hb2.at rfl
  have z2 : W.cell? ⟨w.heap.size + 1, 2, none⟩ = some (.slice x2 lt.length d2) := hb2.at rfl
  have xl := hb1.lt
  have yl := hb2.lt
  have HON0 : Hid (On w W) := hon0
  clear hC hb1 hb2 kW hon0
  go_wp2
  go_loopg [5] li.length (fun kk i wr => ∃ n : Nat, n ≤ li.length ∧ kk = li.length - n ∧ i = .int .i64 n ∧ On W wr)
  case atStart => exact ⟨0, Nat.zero_le _, rfl, rfl, On.refl _⟩
  case round =>
    obtain ⟨n, hn, hk, rfl, hon⟩ := hrel
    have u1' := (hon.cell (p := ⟨w.heap.size, 1, none⟩) xl).trans u1
    have z1' := (hon.cell (p := ⟨w.heap.size + 1, 1, none⟩) yl).trans z1
    have xl' := Nat.lt_of_lt_of_le xl hon.size
    have yl' := Nat.lt_of_lt_of_le yl hon.size
    rcases Nat.lt_or_ge n li.length with hlt | hge
    · obtain ⟨A, hA⟩ : ∃ A, li[n]? = some A := ⟨_, List.getElem?_eq_getElem hlt⟩
      obtain ⟨p1, rfl, _, hp1, _, hq1, cell1⟩ := own_flat iniC_len (own_on I1.out (HON0.out.trans hon)) (by omega)
      obtain ⟨p2, rfl, _, hp2, _, hq2, cell2⟩ := own_flat iniC_len (own_on J1.out (HON0.out.trans hon)) (by omega)
      have s0 : wr.cell? ⟨p1, n * 2, none⟩ = _ := cell1 n 0 A _ hA rfl
      have s1 := cell1 n 1 A _ hA rfl
      have r0 : wr.cell? ⟨p2, n * 2, none⟩ = _ := cell2 n 0 A _ hA rfl
      have r1 := cell2 n 1 A _ hA rfl
      have e0 : ((A.l : Int) == A.l) = true := by simp
      have e1 : ((A.v : Int) == A.v) = true := by simp
      have HOJ : Hid (On W wr) := hon
      clear cell1 cell2 hon u1 z1 u2 z2
      go_wp2
      go_quiet (fail)
      go_wp2
      go_roundg (li.length - (n + 1))
      case measure => omega
      case rel => exact ⟨n + 1, by omega, rfl, by go_num, HOJ.out.drewN _⟩
    · obtain ⟨W1, hW1⟩ : ∃ W1, W1 = wr := ⟨_, rfl⟩
      subst hW1
      have v2 := (hon.cell (p := ⟨w.heap.size, 2, none⟩) xl).trans u2
      have y2 := (hon.cell (p := ⟨w.heap.size + 1, 2, none⟩) yl).trans z2
      have HON1 : Hid (On w W1) := HON0.out.trans hon
      have hdf : decide (n < li.length) = false := by simp; omega
      clear u1 z1 u2 z2 hon
      go_wp2
      go_loopg [6] lt.length (fun kk i wr => ∃ n : Nat, n ≤ lt.length ∧ kk = lt.length - n ∧ i = .int .i64 n ∧ On W1 wr)
      case atStart => exact ⟨0, Nat.zero_le _, rfl, rfl, On.refl _⟩
      case round =>
        obtain ⟨n, hn, hk, rfl, hon⟩ := hrel
        obtain ⟨W2, hW2⟩ : ∃ W2, W2 = wr := ⟨_, rfl⟩
        subst hW2
        have v2' := (hon.cell (p := ⟨w.heap.size, 2, none⟩) xl').trans v2
        have y2' := (hon.cell (p := ⟨w.heap.size + 1, 2, none⟩) yl').trans y2
        have xl2 := Nat.lt_of_lt_of_le xl' hon.size
        have yl2 := Nat.lt_of_lt_of_le yl' hon.size
        have HON2 : Hid (On w W2) := HON1.out.trans hon
        have HO12 : Hid (On W1 W2) := hon
        clear hon
        rcases Nat.lt_or_ge n lt.length with hlt | hge
        · obtain ⟨L, hL⟩ : ∃ L, lt[n]? = some L := ⟨_, List.getElem?_eq_getElem hlt⟩
          obtain ⟨g1, rfl, hc1, hg1, q1, f1, k1, s1⟩ := (I2.out.on HON2.out).row hL
          obtain ⟨g2, rfl, hc2, hg2, q2, f2, k2, s2⟩ := (J2.out.on HON2.out).row hL
          have hLm := own_max s1
          have hll : ((L.length : Int) != L.length) = false := by simp
          have HS1 : Hid (W2.ownsRow b1 52 9 (.slice q1 L.length f1) L.length (L.flatMap insC)) := s1
          have HS2 : Hid (W2.ownsRow b2 52 9 (.slice q2 L.length f2) L.length (L.flatMap insC)) := s2
          clear s1 s2
          go_wp2
          go_quiet (fail)
          go_wp2
          go_loopg [7] L.length (fun kk i wq => ∃ j : Nat, j ≤ L.length ∧ kk = L.length - j ∧ i = .int .i64 j ∧ On W2 wq)
          case atStart => exact ⟨0, Nat.zero_le _, rfl, rfl, (On.refl W2).drewN _⟩
          case round =>
            obtain ⟨j, hj, hkj, rfl, hoj⟩ := hrel
            have x1 := (hoj.cell (p := ⟨w.heap.size, 2, none⟩) xl2).trans v2'
            have y1 := (hoj.cell (p := ⟨w.heap.size + 1, 2, none⟩) yl2).trans y2'
            have w1 := (hoj.cell (p := ⟨g1, n, none⟩) hg1).trans k1
            have w2 := (hoj.cell (p := ⟨g2, n, none⟩) hg2).trans k2
            have xl3 := Nat.lt_of_lt_of_le xl2 hoj.size
            have yl3 := Nat.lt_of_lt_of_le yl2 hoj.size
            have hg1' := Nat.lt_of_lt_of_le hg1 hoj.size
            have hg2' := Nat.lt_of_lt_of_le hg2 hoj.size
            rcases Nat.lt_or_ge j L.length with hlj | hgj
            · obtain ⟨A, hA⟩ : ∃ A, L[j]? = some A := ⟨_, List.getElem?_eq_getElem hlj⟩
              obtain ⟨p1, rfl, _, hp1, _, hq1, cell1⟩ := own_flat insC_len (own_on HS1.out hoj) (by omega)
              obtain ⟨p2, rfl, _, hp2, _, hq2, cell2⟩ := own_flat insC_len (own_on HS2.out hoj) (by omega)
              have s0 : wr.cell? ⟨p1, j * 9, none⟩ = _ := cell1 j 0 A _ hA rfl
              have s1 := cell1 j 1 A _ hA rfl
              have s2 := cell1 j 2 A _ hA rfl
              have s3 := cell1 j 3 A _ hA rfl
              have s4 := cell1 j 4 A _ hA rfl
              have s5 := cell1 j 5 A _ hA rfl
              have s6 := cell1 j 6 A _ hA rfl
              have s7 := cell1 j 7 A _ hA rfl
              have s8 := cell1 j 8 A _ hA rfl
              have r0 : wr.cell? ⟨p2, j * 9, none⟩ = _ := cell2 j 0 A _ hA rfl
              have r1 := cell2 j 1 A _ hA rfl
              have r2 := cell2 j 2 A _ hA rfl
              have r3 := cell2 j 3 A _ hA rfl
              have r4 := cell2 j 4 A _ hA rfl
              have r5 := cell2 j 5 A _ hA rfl
              have r6 := cell2 j 6 A _ hA rfl
              have r7 := cell2 j 7 A _ hA rfl
              have r8 := cell2 j 8 A _ hA rfl
              have e0 : ((A.k : Int) == A.k) = true := by simp
              have e1 : ((A.r : Int) == A.r) = true := by simp
              have e2 : ((A.l : Int) == A.l) = true := by simp
              have e3 : ((A.a.r : Int) == A.a.r) = true := by simp
              have e4 : ((A.a.v : Int) == A.a.v) = true := by simp
              have e5 : ((A.o : Int) == A.o) = true := by simp
              have e6 : ((A.b.r : Int) == A.b.r) = true := by simp
              have e7 : ((A.b.v : Int) == A.b.v) = true := by simp
              have e8 : ((A.n : Int) == A.n) = true := by simp
              have HOJ : Hid (On W2 wr) := hoj
              clear cell1 cell2 hoj k1 k2 v2' y2' v2 y2
              go_wp2
              go_quiet (fail)
              go_wp2
              go_roundg (L.length - (j + 1))
              case measure => omega
              case rel => exact ⟨j + 1, by omega, rfl, by go_num, HOJ.out.drewN _⟩
            · clear k1 k2 v2' y2' v2 y2
              go_wp2
              go_roundg (lt.length - (n + 1))
              case measure => omega
              case rel => exact ⟨n + 1, by omega, rfl, by go_num, HO12.out.trans hoj⟩
        · clear v2 y2
          go_wp2
          go_ret
          exact ⟨rfl, HON2.out⟩
end Go.Proofs.YtacflahkofmcpaaGreatDoor

namespace Go.Proofs.YtacflahkofmcpaaGreatDoor
open Go.RowKit

set_option maxHeartbeats 1000000 in
set_option maxRecDepth 8000 in
theorem rtree_long (w : World) (s : ByteArray) (hs : 4000 < s.size) (hz : s.size ≤ 140737488351232) :
    Calls Tryz.prog 13 #[.string s] w (ParsePost w (noTest, 2, 4000)) := by
  have hlen : (4000 : Int) < (s.size : Int) := by omega
  go_enter Tryz.func13, Tryz.ntmps13
  go_wp2
  (try simp only [Exit.inBlock, Exit.then])
  refine bodyPost_ret (v := .tuple #[.agg z5, .agg #[.int .i64 2, .int .i64 4000]]) ?_ rfl ⟨_, rfl, no_test _ _, ?_⟩
  · rw [results_cells2 rfl]
    go_simp
  · have ON := On.refl w
    repeat' (first | with_reducible exact ON | with_reducible refine On.drew ?_ | with_reducible refine On.setNew ?_ (by omega) _ | with_reducible refine On.alloc ?_ _)
theorem rtree_is (w : World) (s : ByteArray) (hz : s.size ≤ 140737488351232) :
    Calls Tryz.prog 13 #[.string s] w (ParsePost w (parseP s)) := by
  unfold parseP
  by_cases h : 4000 < s.size
  · rw [if_pos h]; exact rtree_long w s h hz
  · rw [if_neg h]; exact rtree_short w s look_ok (by omega)
end Go.Proofs.YtacflahkofmcpaaGreatDoor
