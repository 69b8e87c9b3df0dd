/- The walk of the law ProgEnds. -/
import Derived.Test.YtjjmkacfkjkhgaaDoorEndsP
import Derived.Test.YtjjmkacfkjkhgaaDoorOfW
import Derived.Test.YtjjmkacfkjkhgaaDoorAwake6
import Derived.Test.YtjjmkacfkjkhgaaDoorEqs2
namespace Go.Proofs.YtjjmkacfkjkhgaaDoor
open Go.RowKit

theorem thread_at {LL : List (List InsT)} {t : Nat} {L : List InsT} (h : LL[t]? = some L) : threadP LL (t : Int) = L := by
  unfold threadP
  rw [if_pos (Int.natCast_nonneg t), Int.toNat_natCast, List.getD_eq_getElem?_getD, h]
  rfl
set_option maxHeartbeats 16000000 in
set_option maxRecDepth 8000 in
theorem progEnds_walk (ao : Option Addr) (zs : List Int) (cap : Nat) (bo : Option Addr) (vs : List Int) (capb : Nat) (w : World) (hz : zs.length ≤ 9223372036854775807) (hr : Rd intC 1 w (.slice ao zs.length cap) zs) (hzb : vs.length ≤ 9223372036854775807) (hrb : Rd intC 1 w (.slice bo vs.length capb) vs) (hw : Lw w ∧ Db w) :
    Calls Tryd.prog 7 #[.slice ao zs.length cap, .slice bo vs.length capb] w fun e w' => e = .returned (.bool true) ∧ On w w' := by
  obtain ⟨lw, hd⟩ := hw
  have hA := fun W (k : On w W) => awake6_is W (lw.on k) (hd.on k)
  have hO := of_is zs ao cap 12 w hz hr
  have hk : ∀ L ∈ ofT zs 12, kOk L := by
    intro L hL
    obtain ⟨M, hM, rfl⟩ := List.mem_map.1 hL
    exact kOk_rpl ((thrOf_ok zs 12).2 M hM).1.1
  have HB : Hid (Rd intC 1 w (.slice bo vs.length capb) vs) := hrb
  have HK : Hid (∀ L ∈ ofT zs 12, kOk L) := hk
  clear hk lw hd hrb
  generalize ofT zs 12 = LL at *
  generalize iniVals (locsR (smallP zs 12)) (smallP zs 12).ini = IN at *
  generalize locsR (smallP zs 12) = LT at *
  clear hr hz
  generalize zs.length = mz at *
  go_enter Tryd.func7, Tryd.ntmps7
  go_wp2_with fail
  refine hO.mono ?_
  rintro e w1 ⟨pv, rfl, hP, k1⟩
  have K1 : Hid (On w w1) := k1
  have hSt := fun t W (k : On w1 W) => start_is LL t pv W (hP.rd.on k)
  have hNx := fun t l W (k : On w1 W) => pnext_is LL t l pv W (hP.rd.on k)
  have hAf0 := fun t l rv W (k : On w1 W) => after_is LL t l rv pv W (hP.rd.on k)
  obtain ⟨a1, c1, a2, c2, a3, c3, rfl, r1, r2, r3⟩ := hP.ex
  obtain ⟨_, _, _, _, hm3⟩ := r3.slice
  have R3 : Hid (Rd2 insC 9 w1 (.slice a3 LL.length c3) LL) := r3
  have bp : ∀ cs T, Bk (w1.alloc (.cells cs T)) w1.heap.size cs := fun cs T => Bk.new w1 cs T
  clear hO hP r1 r2 r3 k1
  go_wp2
  go_loopg [6] LL.length (fun gg s6 wq => ∃ t : Nat, t ≤ LL.length ∧ gg = LL.length - t ∧ s6 = .int .i64 t ∧ Hid (On w1 wq) ∧ Bk wq w1.heap.size #[.slice a1 LT.length c1, .slice a2 IN.length c2, .slice a3 LL.length c3])
  case atStart => exact ⟨0, Nat.zero_le _, rfl, rfl, (On.refl w1).alloc _, bp _ _⟩
  case round =>
    clear bp
    obtain ⟨t, ht, hgt, rfl, HO, PB⟩ := hrel
    have p0 := PB.at (i := 0) rfl
    have p1 := PB.at (i := 1) rfl
    have p2 := PB.at (i := 2) rfl
    have pl := PB.lt
    rcases Nat.lt_or_ge t LL.length with hlt | hge
    · obtain ⟨L, hL⟩ : ∃ L, LL[t]? = some L := ⟨_, List.getElem?_eq_getElem hlt⟩
      have hth := thread_at hL
      have hkL : Hid (kOk L) := HK.out L (List.mem_of_getElem? hL)
      have hSt1 := hSt (t : Int) wr HO.out
      have hNx1 := fun l W k => hNx (t : Int) l W k
      have hAf1 := fun l rv W k => hAf0 (t : Int) l rv W k
      rw [hth] at hSt1
      simp only [hth] at hNx1 hAf1
      obtain ⟨f1, f2, f3⟩ := start_facts L
      obtain ⟨⟨pc0, q0, q1, q2, q3⟩, hst⟩ : ∃ l0, startP L = l0 := ⟨_, rfl⟩
      rw [hst] at hSt1 f1 f2 f3
      simp only at f1 f2
      have HN0 : Hid (normP L ⟨pc0, q0, q1, q2, q3⟩) := f3
      obtain ⟨g3, off3, rfl, hg3, ax, cx, hrc, hxm, _⟩ := R3.out.row hL
      have HX : Hid (w1.cell? ⟨g3, off3 + t, none⟩ = some (.slice ax L.length cx)) := hrc
      unfold locV at hSt1
      clear hSt hNx hAf0 hst f3 hL hrc hth
      go_wp2_with fail
      refine hSt1.mono ?_
      rintro e w2 ⟨rfl, k2⟩
      have P2 := PB.on k2
      have O2 : Hid (On w1 w2) := HO.out.trans k2
      have bx : ∀ cs T, Bk (w2.alloc (.cells cs T)) w2.heap.size cs := fun cs T => Bk.new w2 cs T
      have hw12 : w1.heap.size < w2.heap.size := P2.lt
      clear hSt1 k2 p0 p1 p2
      go_wp2
      clear PB pl HO
      go_loopg [8] L.length (fun gg s8 wq => ∃ (n : Nat) (pc r0 r1 r2 r3 : Int), gg = L.length - n ∧ s8 = .int .i64 n ∧ Hid (On w1 wq) ∧ Bk wq w1.heap.size #[.slice a1 LT.length c1, .slice a2 IN.length c2, .slice (some ⟨g3, off3, none⟩) LL.length c3] ∧ Bk wq w2.heap.size #[.int .i64 pc, .int .i64 r0, .int .i64 r1, .int .i64 r2, .int .i64 r3] ∧ (n : Int) ≤ pc ∧ 0 ≤ pc ∧ pc ≤ L.length ∧ Hid (normP L ⟨pc, r0, r1, r2, r3⟩))
      case atStart => exact ⟨0, pc0, q0, q1, q2, q3, rfl, rfl, O2.out.alloc _, P2.alloc _, bx _ _, f1, f1, f2, HN0⟩
      case round =>
        clear HN0 bx P2 O2
        obtain ⟨n, pc, r0, r1, r2, r3, hgn, rfl, HO, PB, XB, b1, b2, b3, HN⟩ := hrel
        have p0 := PB.at (i := 0) rfl
        have p1 := PB.at (i := 1) rfl
        have p2 := PB.at (i := 2) rfl
        have pl := PB.lt
        have x0 := XB.at (i := 0) rfl
        have x1 := XB.at (i := 1) rfl
        have x2 := XB.at (i := 2) rfl
        have x3 := XB.at (i := 3) rfl
        have x4 := XB.at (i := 4) rfl
        have xl := XB.lt
        have hN1 := hNx1 ⟨pc, r0, r1, r2, r3⟩ wr HO.out
        have hAf := fun W rv (k : On w1 W) => hAf1 ⟨pc, r0, r1, r2, r3⟩ rv W k
        unfold locV at hN1
        have hAf' : ∀ W rv, On w1 W → Calls Tryd.prog 17 #[.agg #[.slice a1 LT.length c1, .slice a2 IN.length c2, .slice (some ⟨g3, off3, none⟩) LL.length c3], .int .i64 (t : Int), .agg #[.int .i64 pc, .int .i64 r0, .int .i64 r1, .int .i64 r2, .int .i64 r3], .int .i64 rv] W fun e w' => e = .returned (locV (afterP L ⟨pc, r0, r1, r2, r3⟩ rv)) ∧ On W w' := hAf
        clear hAf
        cases hx : nextP L ⟨pc, r0, r1, r2, r3⟩ with
        | none =>
          rw [hx] at hN1
          have hpc : pc = (L.length : Int) := next_end hkL.out HN.out b2 b3 hx
          have hneq : (pc != (L.length : Int)) = false := by rw [hpc]; simp
          have hA5 := fun W (k : On w1 W) => hAf' W 5 k
          rw [after_none 5 hx] at hA5
          unfold locV at hA5
          unfold nextV insV insZ at hN1
          simp only [Option.getD_none, Option.isSome_none] at hN1
          have hqL := fun W => eqLoc_same W pc r0 r1 r2 r3
          clear hx hpc hNx1 hAf1 hAf'
          go_wp2_with fail
          refine hN1.mono ?_
          rintro e w4 ⟨rfl, k4⟩
          obtain ⟨w5, hw5⟩ : ∃ w5, w5 = w4.alloc (.cells #[.int .i64 0, .int .i64 0, .int .i64 0, .int .i64 0, .int .i64 0, .int .i64 0, .int .i64 0, .int .i64 0, .int .i64 0] 37) := ⟨_, rfl⟩
          have k45 : On wr w5 := by rw [hw5]; exact k4.alloc _
          have P5 := PB.on k45
          have X5 := XB.on k45
          have O5 : Hid (On w1 w5) := HO.out.trans k45
          have hkS : ∀ W, On w5 W → W.cell? ⟨w1.heap.size, 0, none⟩ = some (.slice a1 LT.length c1) ∧ W.cell? ⟨w1.heap.size, 1, none⟩ = some (.slice a2 IN.length c2) ∧ W.cell? ⟨w1.heap.size, 2, none⟩ = some (.slice (some ⟨g3, off3, none⟩) LL.length c3) ∧ W.cell? ⟨g3, off3 + t, none⟩ = some (.slice ax L.length cx) ∧ W.cell? ⟨w2.heap.size, 0, none⟩ = some (.int .i64 pc) ∧ W.cell? ⟨w2.heap.size, 1, none⟩ = some (.int .i64 r0) ∧ W.cell? ⟨w2.heap.size, 2, none⟩ = some (.int .i64 r1) ∧ W.cell? ⟨w2.heap.size, 3, none⟩ = some (.int .i64 r2) ∧ W.cell? ⟨w2.heap.size, 4, none⟩ = some (.int .i64 r3) := fun W k => ⟨(P5.on k).at (i := 0) rfl, (P5.on k).at (i := 1) rfl, (P5.on k).at (i := 2) rfl, ((O5.out.trans k).cell (p := ⟨g3, off3 + t, none⟩) hg3).trans HX.out, (X5.on k).at (i := 0) rfl, (X5.on k).at (i := 1) rfl, (X5.on k).at (i := 2) rfl, (X5.on k).at (i := 3) rfl, (X5.on k).at (i := 4) rfl⟩
          obtain ⟨d0, d1, d2, d3, d4, d5, d6, d7, d8⟩ := hkS w5 (On.refl w5)
          have bt0 : (0 : Int) ≤ (t : Int) := by omega
          have bt1 : (t : Int) < (LL.length : Int) := by omega
          clear hN1 k4 p0 p1 p2 x0 x1 x2 x3 x4
          go_wp2
          rw [← hw5]
          clear hw5
          go_region_held3 (fun W => W.cell? ⟨w1.heap.size, 0, none⟩ = some (.slice a1 LT.length c1) ∧ W.cell? ⟨w1.heap.size, 1, none⟩ = some (.slice a2 IN.length c2) ∧ W.cell? ⟨w1.heap.size, 2, none⟩ = some (.slice (some ⟨g3, off3, none⟩) LL.length c3) ∧ W.cell? ⟨g3, off3 + t, none⟩ = some (.slice ax L.length cx) ∧ W.cell? ⟨w2.heap.size, 0, none⟩ = some (.int .i64 pc) ∧ W.cell? ⟨w2.heap.size, 1, none⟩ = some (.int .i64 r0) ∧ W.cell? ⟨w2.heap.size, 2, none⟩ = some (.int .i64 r1) ∧ W.cell? ⟨w2.heap.size, 3, none⟩ = some (.int .i64 r2) ∧ W.cell? ⟨w2.heap.size, 4, none⟩ = some (.int .i64 r3)) (go_keep) (first | (go_at_call 17; refine (hA5 _ (On.drew O5.out)).mono ?_; rintro e w6 ⟨rfl, k6⟩; have k56 := On.trans (On.drew (On.refl w5)) k6; have S6 := hkS _ k56))
          go_wp2
          go_roundg (LL.length - (t + 1))
          case measure => omega
          case rel => exact ⟨t + 1, by omega, rfl, by go_num, O5.out.trans k56, P5.on k56⟩
        | some x =>
          rw [hx] at hN1
          obtain ⟨k5, k6⟩ := next_kind hx
          obtain ⟨_, hpl⟩ := next_at hx
          simp only at hpl
          have hnl : n < L.length := by omega
          unfold nextV insV at hN1
          simp only [Option.getD_some, Option.isSome_some] at hN1
          clear hNx1 hAf1
          go_wp2_with fail
          refine hN1.mono ?_
          rintro e w4 ⟨rfl, k4⟩
          have P4 := PB.on k4
          have X4 := XB.on k4
          have O4 : Hid (On w1 w4) := HO.out.trans k4
          have rc : w4.cell? ⟨g3, off3 + t, none⟩ = some (.slice ax L.length cx) := (O4.out.cell (p := ⟨g3, off3 + t, none⟩) hg3).trans HX.out
          have g34 : g3 < w4.heap.size := Nat.lt_of_lt_of_le hg3 O4.out.size
          have kZ : ∀ A, On w4 (w4.alloc A) := fun A => (On.refl w4).alloc A
          have kY : ∀ A, On w1 (w4.alloc A) := fun A => O4.out.alloc A
          clear hN1 p0 p1 p2 x0 x1 x2 x3 x4 pl xl
          have p0 := P4.at (i := 0) rfl
          have p1 := P4.at (i := 1) rfl
          have p2 := P4.at (i := 2) rfl
          have pl := P4.lt
          have x0 := X4.at (i := 0) rfl
          have x1 := X4.at (i := 1) rfl
          have x2 := X4.at (i := 2) rfl
          have x3 := X4.at (i := 3) rfl
          have x4 := X4.at (i := 4) rfl
          have xl := X4.lt
          have hAf := hAf'
          clear hAf'
          rcases Nat.eq_zero_or_pos vs.length with hv0 | hv0
          · have hvz : ¬ 0 < vs.length := by omega
            clear hv0
            go_wp2_with fail
            refine (hAf _ 0 (kY _)).mono ?_
            rintro e w5 ⟨rfl, k5⟩
            obtain ⟨⟨p5, s0, s1, s2, s3⟩, h5⟩ : ∃ l5, afterP L ⟨pc, r0, r1, r2, r3⟩ 0 = l5 := ⟨_, rfl⟩
            rw [h5]
            have hf5 := after_facts 0 hx
            rw [h5] at hf5
            simp only at hf5
            obtain ⟨f1, f2, f3⟩ := hf5
            have kT : On w4 w5 := (kZ _).trans k5
            have X5 := (X4.on kT)
            have P5 := (P4.on kT)
            have O5 : Hid (On w1 w5) := O4.out.trans kT
            have e0 := X5.at (i := 0) rfl
            have e1 := X5.at (i := 1) rfl
            have e2 := X5.at (i := 2) rfl
            have e3 := X5.at (i := 3) rfl
            have e4 := X5.at (i := 4) rfl
            have ef := fun j => X5.fr j
            have el := X5.lt
            have HN5 : Hid (normP L ⟨p5, s0, s1, s2, s3⟩) := f3
            have hle : ¬ p5 ≤ pc := by omega
            unfold locV
            clear h5 f3
            go_wp2
            go_roundg (L.length - (n + 1))
            case measure => omega
            case rel => exact ⟨n + 1, p5, s0, s1, s2, s3, rfl, by go_num, ((((((O5.out.setNew (by omega) _).setNew (by omega) _).setNew (by omega) _).setNew (by omega) _).setNew (by omega) _).alloc _), (P5.far5 (by omega) _ _ _ _ _).alloc _, (X5.set5 _ _ _ _ _).alloc _, by omega, by omega, by omega, HN5⟩
          · obtain ⟨u, hu⟩ : ∃ u, vs[n % vs.length]? = some u := ⟨_, List.getElem?_eq_getElem (Nat.mod_lt _ hv0)⟩
            obtain ⟨gv, ov, rfl, hgv, hcv⟩ := (HB.out.on (K1.out.trans O4.out)).at hu
            obtain ⟨nm, hnm2, hnm, hnl2⟩ : ∃ nm : Nat, nm = n % vs.length ∧ (n : Int) % (vs.length : Int) = (nm : Int) ∧ nm < vs.length := ⟨_, rfl, (Int.natCast_emod _ _).symm, Nat.mod_lt _ hv0⟩
            have qv : w4.cell? ⟨gv, ov + nm, none⟩ = some (.int .i64 u) := by have := hcv 0 _ rfl; rw [← hnm2, Nat.mul_one, Nat.add_zero] at this; exact this
            have hvne : ((vs.length : Int) == 0) = false := by rw [beq_eq_false_iff_ne]; omega
            clear hcv hu hnm2
            go_wp2_with fail
            refine (hAf _ u (kY _)).mono ?_
            rintro e w5 ⟨rfl, k5⟩
            obtain ⟨⟨p5, s0, s1, s2, s3⟩, h5⟩ : ∃ l5, afterP L ⟨pc, r0, r1, r2, r3⟩ u = l5 := ⟨_, rfl⟩
            rw [h5]
            have hf5 := after_facts u hx
            rw [h5] at hf5
            simp only at hf5
            obtain ⟨f1, f2, f3⟩ := hf5
            have kT : On w4 w5 := (kZ _).trans k5
            have X5 := (X4.on kT)
            have P5 := (P4.on kT)
            have O5 : Hid (On w1 w5) := O4.out.trans kT
            have e0 := X5.at (i := 0) rfl
            have e1 := X5.at (i := 1) rfl
            have e2 := X5.at (i := 2) rfl
            have e3 := X5.at (i := 3) rfl
            have e4 := X5.at (i := 4) rfl
            have ef := fun j => X5.fr j
            have el := X5.lt
            have HN5 : Hid (normP L ⟨p5, s0, s1, s2, s3⟩) := f3
            have hle : ¬ p5 ≤ pc := by omega
            unfold locV
            clear h5 f3
            go_wp2
            go_roundg (L.length - (n + 1))
            case measure => omega
            case rel => exact ⟨n + 1, p5, s0, s1, s2, s3, rfl, by go_num, ((((((O5.out.setNew (by omega) _).setNew (by omega) _).setNew (by omega) _).setNew (by omega) _).setNew (by omega) _).alloc _), (P5.far5 (by omega) _ _ _ _ _).alloc _, (X5.set5 _ _ _ _ _).alloc _, by omega, by omega, by omega, HN5⟩
    · obtain rfl : t = LL.length := by omega
      go_wp2_with (go_at_call 14; refine (hA _ (K1.out.trans HO.out)).mono ?_; rintro e w3 ⟨rfl, k3⟩)
      go_ret
      exact ⟨rfl, (K1.out.trans HO.out).trans k3⟩
end Go.Proofs.YtjjmkacfkjkhgaaDoor
