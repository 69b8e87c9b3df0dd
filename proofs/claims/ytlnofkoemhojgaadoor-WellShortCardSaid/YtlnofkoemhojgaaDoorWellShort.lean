/- WellShort: the law's walk. -/
import Derived.Test.YtlnofkoemhojgaaDoorSmallC
import Derived.Test.YtlnofkoemhojgaaDoorShortP
import Derived.Test.YtlnofkoemhojgaaDoorAwake5
import Derived.Test.YtlnofkoemhojgaaDoorRdBk
namespace Go.Proofs.YtlnofkoemhojgaaDoor
open Go.RowKit

theorem Rd.take {α : Type} {C : α → List Value} {k : Nat} {w : World} {a : Option Addr} {c : Nat} {L : List α} (h : Rd C k w (.slice a L.length c) L) {m : Nat} (hm : m ≤ L.length) : Rd C k w (.slice a m c) (L.take m) := by
  obtain ⟨a', c', hv, hc, hmx, hr⟩ := h
  simp only [Value.slice.injEq] at hv
  obtain ⟨rfl, _, rfl⟩ := hv
  have hl : (L.take m).length = m := by rw [List.length_take]; omega
  refine ⟨a, c, by rw [hl], by omega, by omega, fun h0 => ?_⟩
  obtain ⟨g, off, ha, hg, hcell⟩ := hr (by omega)
  refine ⟨g, off, ha, hg, fun i x j u hi hj => hcell i x j u ?_ hj⟩
  rw [List.getElem?_take] at hi
  split at hi
  · exact hi
  · cases hi
theorem Rd2.take {α : Type} {C : α → List Value} {k : Nat} {w : World} {a : Option Addr} {c : Nat} {LL : List (List α)} (h : Rd2 C k w (.slice a LL.length c) LL) {m : Nat} (hm : m ≤ LL.length) : Rd2 C k w (.slice a m c) (LL.take m) := by
  obtain ⟨vs, h1, h2, h3⟩ := h
  rw [← h1] at h2
  refine ⟨vs.take m, by simp [h1], h2.take (by omega), fun i u L hi hL => h3 i u L ?_ ?_⟩
  · rw [List.getElem?_take] at hi
    split at hi
    · exact hi
    · cases hi
  · rw [List.getElem?_take] at hL
    split at hL
    · exact hL
    · cases hL
set_option maxHeartbeats 4000000 in
set_option maxRecDepth 8000 in
theorem wellShort_go (zs : List Int) (a : Option Addr) (cap : Nat) (w : World) (lw : Lw w) (hd : Db w) (hz : zs.length ≤ 9223372036854775807) (hr : Rd intC 1 w (.slice a zs.length cap) zs) :
    Calls Tryd.prog 5 #[.slice a zs.length cap] w fun e w' => e = .returned (.bool true) ∧ On w w' := by
  obtain ⟨hn, hok⟩ := thrOf_ok zs 12
  go_enter Tryd.func5, Tryd.ntmps5
  go_wp2_with fail
  refine (small_is zs a cap 12 w hz hr).mono ?_
  rintro e w1 ⟨v, rfl, ⟨a1, c1, a2, c2, a3, c3, rfl, hI, hT, hA⟩, k1⟩
  have R1 : Rd iniC 2 w1 (.slice a1 (iniOf zs).length c1) (iniOf zs) := Rd.own (fun _ => rfl) hI
  have R2 : Rd2 insC 9 w1 (.slice a2 (thrOf zs 12).1.length c2) (thrOf zs 12).1 := hT.rd (fun _ => rfl)
  obtain ⟨_, _, hv, hcap, _⟩ := R2.slice
  simp only [Value.slice.injEq] at hv
  obtain ⟨rfl, _, rfl⟩ := hv
  have KW : Hid (On w w1) := k1
  have tsz : (ByteArray.mk #[116]).size ≤ 9223372036854775807 := by decide
  have hN2 : 2 ≤ (thrOf zs 12).1.length ∧ (thrOf zs 12).1.length ≤ 3 := by omega
  have hok' : ∀ L ∈ (thrOf zs 12).1.take ((thrOf zs 12).1.length - 1), (L.all insOk = true ∧ L.length ≤ 6 ∧ (∀ i ∈ L, xyz i.l)) ∧ skipBad L = false := fun L hL => hok L (List.mem_of_mem_take hL)
  have hlt : ((thrOf zs 12).1.take ((thrOf zs 12).1.length - 1)).length = (thrOf zs 12).1.length - 1 := by rw [List.length_take]; omega
  have Y1 := short_yes zs (thrOf zs 12).1 (by omega) (by omega) hok
  have Y2 := short_yes zs ((thrOf zs 12).1.take ((thrOf zs 12).1.length - 1)) (by omega) (by omega) hok'
  have Y3 := short_none zs
  have Y4 := short_far zs ((thrOf zs 12).1.take ((thrOf zs 12).1.length - 1)) (by omega) (by omega) hok'
  have R3 := R2.take (m := (thrOf zs 12).1.length - 1) (Nat.sub_le _ _)
  clear hI hT hA k1 hr hok hok' hn
  simp only [smallP]
  generalize (condOf (nxtV zs (thrOf zs 12).2)).k = kk
  generalize (condOf (nxtV zs (thrOf zs 12).2)).any.length = ka
  generalize (thrOf zs 12).1.take ((thrOf zs 12).1.length - 1) = TM at *
  generalize (thrOf zs 12).1 = TL at *
  generalize iniOf zs = I at *
  obtain ⟨m, hm⟩ : ∃ m, m = TL.length - 1 := ⟨_, rfl⟩
  rw [← hm] at R3 hlt
  have hmI : ((TL.length : Int) - 1) = (m : Int) := by omega
  have hmc : m ≤ c2 := by omega
  have hm3 : m ≤ 3 := by omega
  have HL : Hid (TM.length = m) := hlt
  have C1 := fun W (k : On w1 W) => check_is ⟨⟨#[116]⟩, I, TL, ⟨0, []⟩⟩ (.agg #[.string ⟨#[116]⟩, .slice a1 I.length c1, .slice a2 TL.length c2, .int .i64 0, .slice none 0 0]) W (lw.on (KW.out.trans k)) ⟨a1, c1, a2, c2, none, 0, rfl, tsz, R1.on k, R2.on k, Rd2.nil _ _ _⟩
  have C2 := fun W (k : On w1 W) => check_is ⟨⟨#[116]⟩, I, TM, ⟨0, []⟩⟩ (.agg #[.string ⟨#[116]⟩, .slice a1 I.length c1, .slice a2 m c2, .int .i64 0, .slice none 0 0]) W (lw.on (KW.out.trans k)) ⟨a1, c1, a2, c2, none, 0, by rw [hlt]; rfl, tsz, R1.on k, by rw [hlt]; exact R3.on k, Rd2.nil _ _ _⟩
  have C3 := fun W (k : On w1 W) => check_is ⟨⟨#[116]⟩, I, [], ⟨0, []⟩⟩ (.agg #[.string ⟨#[116]⟩, .slice a1 I.length c1, .slice none 0 0, .int .i64 0, .slice none 0 0]) W (lw.on (KW.out.trans k)) ⟨a1, c1, none, 0, none, 0, rfl, tsz, R1.on k, Rd2.nil _ _ _, Rd2.nil _ _ _⟩
  have C4 := fun W (k : On w1 W) (N : Nat) (hA : Rd2 atomC 4 W (.slice (some ⟨N, 0, none⟩) 1 1) [[⟨(m : Int), 0, 0, 0⟩]]) => check_is ⟨⟨#[116]⟩, I, TM, ⟨1, [[⟨(m : Int), 0, 0, 0⟩]]⟩⟩ (.agg #[.string ⟨#[116]⟩, .slice a1 I.length c1, .slice a2 m c2, .int .i64 1, .slice (some ⟨N, 0, none⟩) 1 1]) W (lw.on (KW.out.trans k)) ⟨a1, c1, a2, c2, _, 1, by rw [hlt]; rfl, tsz, R1.on k, by rw [hlt]; exact R3.on k, hA⟩
  rw [hlt] at Y4
  simp only [Y1] at C1
  simp only [Y2] at C2
  simp only [Y3] at C3
  simp only [Y4] at C4
  have hAw := fun (W : World) (k : On w1 W) => awake5_is W (lw.on (KW.out.trans k)) (hd.on (KW.out.trans k))
  clear Y1 Y2 Y3 Y4 R1 R2 R3 hlt hm lw hd hN2 tsz
  generalize I.length = mi at *
  go_wp2_with fail
  refine (C1 _ ((On.refl w1).alloc _)).mono ?_
  rintro e w2 ⟨rfl, k2⟩
  have B2 := (Bk.new w1 _ _).on k2
  have K2 : Hid (On w1 w2) := ((On.refl w1).alloc _).trans k2
  have y0 := B2.at (i := 0) rfl
  have y1 := B2.at (i := 1) rfl
  have y2 := B2.at (i := 2) rfl
  have y3 := B2.at (i := 3) rfl
  have y4 := B2.at (i := 4) rfl
  have fr := fun i => B2.fr i
  have yl := B2.lt
  have yl1 := Nat.lt_succ_of_lt yl
  have yl2 := Nat.lt_succ_of_lt yl1
  have yl3 := Nat.lt_succ_of_lt yl2
  have yl4 := Nat.lt_succ_of_lt yl3
  clear C1 k2
  obtain ⟨X, hX⟩ : ∃ X, X = w2.setCell ⟨w1.heap.size, 2, none⟩ (.slice a2 m c2) := ⟨_, rfl⟩
  have hXs : X.heap.size = w2.heap.size := by rw [hX, size_set]
  obtain ⟨W3, hW3⟩ : ∃ W3, W3 = (((X.alloc (.cells #[.string ⟨#[116]⟩, .slice a1 mi c1, .slice none 0 0, .int .i64 0, .slice none 0 0] 29)).alloc (.cells #[.string ⟨#[116]⟩, .slice a1 mi c1, .slice a2 m c2, .int .i64 1, .slice (some ⟨w2.heap.size + 1 + 1 + 1, 0, none⟩) 1 1] 29)).alloc (.cells #[.int .i64 (m : Int), .int .i64 0, .int .i64 0, .int .i64 0] 46)).alloc (.cells #[.slice (some ⟨w2.heap.size + 1 + 1, 0, none⟩) 1 1] 47) := ⟨_, rfl⟩
  have K3 : Hid (On w1 W3) := by
    show On w1 W3
    rw [hW3, hX]
    exact ((((K2.out.setNew (Nat.le_refl _) _).alloc _).alloc _).alloc _).alloc _
  have U3 : Bk W3 w2.heap.size #[.string ⟨#[116]⟩, .slice a1 mi c1, .slice none 0 0, .int .i64 0, .slice none 0 0] := by
    have := Bk.new X #[.string ⟨#[116]⟩, .slice a1 mi c1, .slice none 0 0, .int .i64 0, .slice none 0 0] 29
    rw [hXs] at this
    rw [hW3]
    exact ((this.alloc _).alloc _).alloc _
  have V3 : Bk W3 (w2.heap.size + 1) #[.string ⟨#[116]⟩, .slice a1 mi c1, .slice a2 m c2, .int .i64 1, .slice (some ⟨w2.heap.size + 1 + 1 + 1, 0, none⟩) 1 1] := by
    have := Bk.new (X.alloc (.cells #[.string ⟨#[116]⟩, .slice a1 mi c1, .slice none 0 0, .int .i64 0, .slice none 0 0] 29)) #[.string ⟨#[116]⟩, .slice a1 mi c1, .slice a2 m c2, .int .i64 1, .slice (some ⟨w2.heap.size + 1 + 1 + 1, 0, none⟩) 1 1] 29
    rw [World.size_alloc, hXs] at this
    rw [hW3]
    exact (this.alloc _).alloc _
  have A3 : Rd2 atomC 4 W3 (.slice (some ⟨w2.heap.size + 1 + 1 + 1, 0, none⟩) 1 1) [[⟨(m : Int), 0, 0, 0⟩]] := by
    have q1 := Bk.new ((X.alloc (.cells #[.string ⟨#[116]⟩, .slice a1 mi c1, .slice none 0 0, .int .i64 0, .slice none 0 0] 29)).alloc (.cells #[.string ⟨#[116]⟩, .slice a1 mi c1, .slice a2 m c2, .int .i64 1, .slice (some ⟨w2.heap.size + 1 + 1 + 1, 0, none⟩) 1 1] 29)) #[.int .i64 (m : Int), .int .i64 0, .int .i64 0, .int .i64 0] 46
    rw [World.size_alloc, World.size_alloc, hXs] at q1
    have q2 := Bk.new (((X.alloc (.cells #[.string ⟨#[116]⟩, .slice a1 mi c1, .slice none 0 0, .int .i64 0, .slice none 0 0] 29)).alloc (.cells #[.string ⟨#[116]⟩, .slice a1 mi c1, .slice a2 m c2, .int .i64 1, .slice (some ⟨w2.heap.size + 1 + 1 + 1, 0, none⟩) 1 1] 29)).alloc (.cells #[.int .i64 (m : Int), .int .i64 0, .int .i64 0, .int .i64 0] 46)) #[.slice (some ⟨w2.heap.size + 1 + 1, 0, none⟩) 1 1] 47
    rw [World.size_alloc, World.size_alloc, World.size_alloc, hXs] at q2
    have q1' := q1.alloc (.cells #[.slice (some ⟨w2.heap.size + 1 + 1, 0, none⟩) 1 1] 47)
    rw [← hW3] at q2 q1'
    have hq := Rd.bk (C := atomC) (k := 4) (fun _ => rfl) (L := ([⟨(m : Int), 0, 0, 0⟩] : List AtomT)) q1' 1 (by simp) (by simp)
    exact Rd2.one (L := ([⟨(m : Int), 0, 0, 0⟩] : List AtomT)) rfl q2 hq
  have D2 := fun (W : World) (hW : W = W3) => hW ▸ C2 W3 K3.out
  rw [hW3, hX] at D2
  clear C2 K2 B2
  go_wp2_with fail
  refine (D2 _ ?_).mono ?_
  · rfl
  rintro e w4 ⟨rfl, k4'⟩
  have k4 : On W3 w4 := by rw [hW3, hX]; exact k4'
  clear k4' D2 y0 y1 y2 y3 y4 fr yl yl1 yl2 yl3 yl4
  have U4 := U3.on k4
  have V4 := V3.on k4
  have A4 := A3.on k4
  have K4 : Hid (On w1 w4) := K3.out.trans k4
  have u0 := U4.at (i := 0) rfl
  have u1 := U4.at (i := 1) rfl
  have u2 := U4.at (i := 2) rfl
  have u3 := U4.at (i := 3) rfl
  have u4 := U4.at (i := 4) rfl
  have ul := U4.lt
  clear U3 V3 A3 k4 hW3 hX hXs K3
  go_wp2_with fail
  refine (C3 _ K4.out).mono ?_
  rintro e w5 ⟨rfl, k5⟩
  have V5 := V4.on k5
  have A5 := A4.on k5
  have K5 : Hid (On w1 w5) := K4.out.trans k5
  have v0 := V5.at (i := 0) rfl
  have v1 := V5.at (i := 1) rfl
  have v2 := V5.at (i := 2) rfl
  have v3 := V5.at (i := 3) rfl
  have v4 := V5.at (i := 4) rfl
  have vl := V5.lt
  clear u0 u1 u2 u3 u4 ul U4 V4 A4 K4 k5 C3
  go_wp2_with fail
  refine (C4 _ K5.out _ A5).mono ?_
  rintro e w6 ⟨rfl, k6⟩
  have K6 : Hid (On w1 w6) := K5.out.trans k6
  clear v0 v1 v2 v3 v4 vl V5 A5 C4 k6
  go_wp2_with fail
  refine (hAw _ K6.out).mono ?_
  rintro e w7 ⟨rfl, k7⟩
  go_wp2
  go_ret
  exact ⟨rfl, KW.out.trans (K6.out.trans k7)⟩
end Go.Proofs.YtlnofkoemhojgaaDoor
