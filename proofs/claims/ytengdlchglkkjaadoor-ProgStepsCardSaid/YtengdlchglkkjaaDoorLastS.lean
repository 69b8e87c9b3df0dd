/- A Local as an argument. -/
import Derived.Test.YtengdlchglkkjaaDoorArgLift
import Derived.OpenShut
import Derived.Test.YtengdlchglkkjaaDoorFineX
import Derived.Test.YtengdlchglkkjaaDoorMathAB
import Derived.Deep.DeepCutAuto
import Derived.Test.YtengdlchglkkjaaDoorSmallC
namespace Go.Proofs.YtengdlchglkkjaaDoor
open Go.RowKit

theorem cLoc' : Tryd.prog.cellsOf 48 = 5 := by kernel_rfl
theorem cArr' : Tryd.prog.cellsOf 46 = 4 := by kernel_rfl
section
variable {H : Type} {enc : TypeId × Value → H} {w : World} {base : Nat} {sp : Nat → Bool} {held : Bool}
theorem local_of (n : Nat) (cs : List Value) (x : DataW H × List MemPlace) (h : DataW.trod enc Tryd.prog w base sp held n 48 cs = some x) : ∃ p0 p1 p2 p3 p4 : Int, cs = [.int .i64 p0, .int .i64 p1, .int .i64 p2, .int .i64 p3, .int .i64 p4] := by
  have hl := trod_len Tryd.underlying48 h
  rw [cLoc'] at hl
  obtain ⟨c0, c1, c2, c3, c4, rfl⟩ := five hl
  obtain ⟨p0, _, e0⟩ := field_int Tryd.underlying48 h 0 3 0 rfl Tryd.underlying3 cInt'
  obtain ⟨m, y, hy⟩ := trod_field Tryd.underlying48 h 1 46 1 rfl
  rw [cArr'] at hy
  obtain ⟨xs, m', rfl, _, _, hxl, hel⟩ := DataW.trod_array Tryd.underlying46 hy
  have key : ∀ i, i < 4 → ∃ p : Int, ((([c0, c1, c2, c3, c4].drop 1).take 4).drop i).take 1 = [.int .i64 p] := by
    intro i hi
    have hf := hel i hi
    rw [cI64', Nat.mul_one, List.getElem?_eq_getElem (by omega)] at hf
    obtain ⟨p, hp, _⟩ := DataW.trod_int Tryd.underlying2 hf
    exact ⟨p, hp⟩
  obtain ⟨p1, e1⟩ := key 0 (by decide)
  obtain ⟨p2, e2⟩ := key 1 (by decide)
  obtain ⟨p3, e3⟩ := key 2 (by decide)
  obtain ⟨p4, e4⟩ := key 3 (by decide)
  simp at e0 e1 e2 e3 e4
  subst e0; subst e1; subst e2; subst e3; subst e4
  exact ⟨p0, p1, p2, p3, p4, rfl⟩
end
end Go.Proofs.YtengdlchglkkjaaDoor

namespace Go.Proofs.YtengdlchglkkjaaDoor
open Go.RowKit

set_option maxHeartbeats 16000000 in
set_option maxRecDepth 8000 in
theorem progSteps_go (t : TestT) (v : Value) (ao : Option Addr) (zs : List Int) (cap : Nat) (th : Int) (av : Option Addr) (vs : List Int) (cv : Nat) (p0 p1 p2 p3 p4 : Int) (w : World) (ht : TestRd w v t) (hv : Rd intC 1 w (.slice av vs.length cv) vs) (hw : Lw w ∧ Db w)
    (hS : ∀ W, On w W → Calls Tryd.prog 8 #[.slice ao zs.length cap, .int .i64 12] W fun e w' => ∃ v, e = .returned v ∧ TOwn w' W.heap.size v (smallP zs 12) ∧ On W w') :
    Calls Tryd.prog 5 #[v, .slice ao zs.length cap, .int .i64 th, .slice av vs.length cv, .agg #[.int .i64 p0, .int .i64 p1, .int .i64 p2, .int .i64 p3, .int .i64 p4]] w fun e w' => e = .returned (.bool true) ∧ On w w' := by
  obtain ⟨lw, hd⟩ := hw
  have hA := fun W (k : On w W) => awake6_is W (lw.on k) (hd.on k)
  have hF := fun W (k : On w W) => few_is t v W (ht.on k)
  have hC := fun W (k : On w W) => rcheck_is t v W (ht.on k)
  have hSn : (smallP zs 12).name.size ≤ 9223372036854775807 := by show (ByteArray.mk #[116]).size ≤ _; decide
  have hSc := small_check (l := zs) (most := 12)
  obtain ⟨a1, c1, a2, c2, a3, c3, hve, _, _, _, _⟩ := ht.ex
  subst hve
  obtain ⟨nm, hnm⟩ : ∃ nm, nm = t.name := ⟨_, rfl⟩
  obtain ⟨n1, hn1⟩ : ∃ n1, n1 = t.ini.length := ⟨_, rfl⟩
  obtain ⟨n2, hn2⟩ : ∃ n2, n2 = t.thr.length := ⟨_, rfl⟩
  obtain ⟨n3, hn3⟩ : ∃ n3, n3 = t.cond.any.length := ⟨_, rfl⟩
  obtain ⟨kk, hkk⟩ : ∃ kk, kk = t.cond.k := ⟨_, rfl⟩
  rw [← hnm, ← hn1, ← hn2, ← hn3, ← hkk] at hF hC ht ⊢
  have HTR : Hid (TestRd w (.agg #[.string nm, .slice a1 n1 c1, .slice a2 n2 c2, .int .i64 kk, .slice a3 n3 c3]) t) := ht
  clear ht hnm hn1 hn2 hn3 hkk
  obtain ⟨W00, hW00⟩ : ∃ W00, W00 = (w.alloc (.cells #[.string nm, .slice a1 n1 c1, .slice a2 n2 c2, .int .i64 kk, .slice a3 n3 c3] 28)).alloc (.cells #[.int .i64 p0, .int .i64 p1, .int .i64 p2, .int .i64 p3, .int .i64 p4] 48) := ⟨_, rfl⟩
  have K00 : On w W00 := by rw [hW00]; exact ((On.refl w).alloc _).alloc _
  have TB00 : Bk W00 w.heap.size #[.string nm, .slice a1 n1 c1, .slice a2 n2 c2, .int .i64 kk, .slice a3 n3 c3] := by rw [hW00]; exact (Bk.new w _ _).alloc _
  have RB00 : Bk W00 (w.heap.size + 1) #[.int .i64 p0, .int .i64 p1, .int .i64 p2, .int .i64 p3, .int .i64 p4] := by
    rw [hW00]
    have := Bk.new (w.alloc (.cells #[.string nm, .slice a1 n1 c1, .slice a2 n2 c2, .int .i64 kk, .slice a3 n3 c3] 28)) #[.int .i64 p0, .int .i64 p1, .int .i64 p2, .int .i64 p3, .int .i64 p4] 48
    rwa [World.size_alloc] at this
  obtain ⟨W00, hW00⟩ : ∃ W00, W00 = (w.alloc (.cells #[.string nm, .slice a1 n1 c1, .slice a2 n2 c2, .int .i64 kk, .slice a3 n3 c3] 28)).alloc (.cells #[.int .i64 p0, .int .i64 p1, .int .i64 p2, .int .i64 p3, .int .i64 p4] 48) := ⟨_, rfl⟩
  have K00 : On w W00 := by rw [hW00]; exact ((On.refl w).alloc _).alloc _
  have TB00 : Bk W00 w.heap.size #[.string nm, .slice a1 n1 c1, .slice a2 n2 c2, .int .i64 kk, .slice a3 n3 c3] := by rw [hW00]; exact (Bk.new w _ _).alloc _
  have RB00 : Bk W00 (w.heap.size + 1) #[.int .i64 p0, .int .i64 p1, .int .i64 p2, .int .i64 p3, .int .i64 p4] := by
    rw [hW00]
    have := Bk.new (w.alloc (.cells #[.string nm, .slice a1 n1 c1, .slice a2 n2 c2, .int .i64 kk, .slice a3 n3 c3] 28)) #[.int .i64 p0, .int .i64 p1, .int .i64 p2, .int .i64 p3, .int .i64 p4] 48
    rwa [World.size_alloc] at this
  obtain ⟨W00, hW00⟩ : ∃ W00, W00 = (w.alloc (.cells #[.string nm, .slice a1 n1 c1, .slice a2 n2 c2, .int .i64 kk, .slice a3 n3 c3] 28)).alloc (.cells #[.int .i64 p0, .int .i64 p1, .int .i64 p2, .int .i64 p3, .int .i64 p4] 48) := ⟨_, rfl⟩
  have K00 : On w W00 := by rw [hW00]; exact ((On.refl w).alloc _).alloc _
  have TB00 : Bk W00 w.heap.size #[.string nm, .slice a1 n1 c1, .slice a2 n2 c2, .int .i64 kk, .slice a3 n3 c3] := by rw [hW00]; exact (Bk.new w _ _).alloc _
  have RB00 : Bk W00 (w.heap.size + 1) #[.int .i64 p0, .int .i64 p1, .int .i64 p2, .int .i64 p3, .int .i64 p4] := by
    rw [hW00]
    have := Bk.new (w.alloc (.cells #[.string nm, .slice a1 n1 c1, .slice a2 n2 c2, .int .i64 kk, .slice a3 n3 c3] 28)) #[.int .i64 p0, .int .i64 p1, .int .i64 p2, .int .i64 p3, .int .i64 p4] 48
    rwa [World.size_alloc] at this
  obtain ⟨W00, hW00⟩ : ∃ W00, W00 = (w.alloc (.cells #[.string nm, .slice a1 n1 c1, .slice a2 n2 c2, .int .i64 kk, .slice a3 n3 c3] 28)).alloc (.cells #[.int .i64 p0, .int .i64 p1, .int .i64 p2, .int .i64 p3, .int .i64 p4] 48) := ⟨_, rfl⟩
  have K00 : On w W00 := by rw [hW00]; exact ((On.refl w).alloc _).alloc _
  have TB00 : Bk W00 w.heap.size #[.string nm, .slice a1 n1 c1, .slice a2 n2 c2, .int .i64 kk, .slice a3 n3 c3] := by rw [hW00]; exact (Bk.new w _ _).alloc _
  have RB00 : Bk W00 (w.heap.size + 1) #[.int .i64 p0, .int .i64 p1, .int .i64 p2, .int .i64 p3, .int .i64 p4] := by
    rw [hW00]
    have := Bk.new (w.alloc (.cells #[.string nm, .slice a1 n1 c1, .slice a2 n2 c2, .int .i64 kk, .slice a3 n3 c3] 28)) #[.int .i64 p0, .int .i64 p1, .int .i64 p2, .int .i64 p3, .int .i64 p4] 48
    rwa [World.size_alloc] at this
  obtain ⟨W00, hW00⟩ : ∃ W00, W00 = (w.alloc (.cells #[.string nm, .slice a1 n1 c1, .slice a2 n2 c2, .int .i64 kk, .slice a3 n3 c3] 28)).alloc (.cells #[.int .i64 p0, .int .i64 p1, .int .i64 p2, .int .i64 p3, .int .i64 p4] 48) := ⟨_, rfl⟩
  have K00 : On w W00 := by rw [hW00]; exact ((On.refl w).alloc _).alloc _
  have TB00 : Bk W00 w.heap.size #[.string nm, .slice a1 n1 c1, .slice a2 n2 c2, .int .i64 kk, .slice a3 n3 c3] := by rw [hW00]; exact (Bk.new w _ _).alloc _
  have RB00 : Bk W00 (w.heap.size + 1) #[.int .i64 p0, .int .i64 p1, .int .i64 p2, .int .i64 p3, .int .i64 p4] := by
    rw [hW00]
    have := Bk.new (w.alloc (.cells #[.string nm, .slice a1 n1 c1, .slice a2 n2 c2, .int .i64 kk, .slice a3 n3 c3] 28)) #[.int .i64 p0, .int .i64 p1, .int .i64 p2, .int .i64 p3, .int .i64 p4] 48
    rwa [World.size_alloc] at this
  obtain ⟨W00, hW00⟩ : ∃ W00, W00 = (w.alloc (.cells #[.string nm, .slice a1 n1 c1, .slice a2 n2 c2, .int .i64 kk, .slice a3 n3 c3] 28)).alloc (.cells #[.int .i64 p0, .int .i64 p1, .int .i64 p2, .int .i64 p3, .int .i64 p4] 48) := ⟨_, rfl⟩
  have K00 : On w W00 := by rw [hW00]; exact ((On.refl w).alloc _).alloc _
  have TB00 : Bk W00 w.heap.size #[.string nm, .slice a1 n1 c1, .slice a2 n2 c2, .int .i64 kk, .slice a3 n3 c3] := by rw [hW00]; exact (Bk.new w _ _).alloc _
  have RB00 : Bk W00 (w.heap.size + 1) #[.int .i64 p0, .int .i64 p1, .int .i64 p2, .int .i64 p3, .int .i64 p4] := by
    rw [hW00]
    have := Bk.new (w.alloc (.cells #[.string nm, .slice a1 n1 c1, .slice a2 n2 c2, .int .i64 kk, .slice a3 n3 c3] 28)) #[.int .i64 p0, .int .i64 p1, .int .i64 p2, .int .i64 p3, .int .i64 p4] 48
    rwa [World.size_alloc] at this
  obtain ⟨W00, hW00⟩ : ∃ W00, W00 = (w.alloc (.cells #[.string nm, .slice a1 n1 c1, .slice a2 n2 c2, .int .i64 kk, .slice a3 n3 c3] 28)).alloc (.cells #[.int .i64 p0, .int .i64 p1, .int .i64 p2, .int .i64 p3, .int .i64 p4] 48) := ⟨_, rfl⟩
  have K00 : On w W00 := by rw [hW00]; exact ((On.refl w).alloc _).alloc _
  have TB00 : Bk W00 w.heap.size #[.string nm, .slice a1 n1 c1, .slice a2 n2 c2, .int .i64 kk, .slice a3 n3 c3] := by rw [hW00]; exact (Bk.new w _ _).alloc _
  have RB00 : Bk W00 (w.heap.size + 1) #[.int .i64 p0, .int .i64 p1, .int .i64 p2, .int .i64 p3, .int .i64 p4] := by
    rw [hW00]
    have := Bk.new (w.alloc (.cells #[.string nm, .slice a1 n1 c1, .slice a2 n2 c2, .int .i64 kk, .slice a3 n3 c3] 28)) #[.int .i64 p0, .int .i64 p1, .int .i64 p2, .int .i64 p3, .int .i64 p4] 48
    rwa [World.size_alloc] at this
  obtain ⟨W00, hW00⟩ : ∃ W00, W00 = (w.alloc (.cells #[.string nm, .slice a1 n1 c1, .slice a2 n2 c2, .int .i64 kk, .slice a3 n3 c3] 28)).alloc (.cells #[.int .i64 p0, .int .i64 p1, .int .i64 p2, .int .i64 p3, .int .i64 p4] 48) := ⟨_, rfl⟩
  have K00 : On w W00 := by rw [hW00]; exact ((On.refl w).alloc _).alloc _
  have TB00 : Bk W00 w.heap.size #[.string nm, .slice a1 n1 c1, .slice a2 n2 c2, .int .i64 kk, .slice a3 n3 c3] := by rw [hW00]; exact (Bk.new w _ _).alloc _
  have RB00 : Bk W00 (w.heap.size + 1) #[.int .i64 p0, .int .i64 p1, .int .i64 p2, .int .i64 p3, .int .i64 p4] := by
    rw [hW00]
    have := Bk.new (w.alloc (.cells #[.string nm, .slice a1 n1 c1, .slice a2 n2 c2, .int .i64 kk, .slice a3 n3 c3] 28)) #[.int .i64 p0, .int .i64 p1, .int .i64 p2, .int .i64 p3, .int .i64 p4] 48
    rwa [World.size_alloc] at this
  obtain ⟨W00, hW00⟩ : ∃ W00, W00 = (w.alloc (.cells #[.string nm, .slice a1 n1 c1, .slice a2 n2 c2, .int .i64 kk, .slice a3 n3 c3] 28)).alloc (.cells #[.int .i64 p0, .int .i64 p1, .int .i64 p2, .int .i64 p3, .int .i64 p4] 48) := ⟨_, rfl⟩
  have K00 : On w W00 := by rw [hW00]; exact ((On.refl w).alloc _).alloc _
  have TB00 : Bk W00 w.heap.size #[.string nm, .slice a1 n1 c1, .slice a2 n2 c2, .int .i64 kk, .slice a3 n3 c3] := by rw [hW00]; exact (Bk.new w _ _).alloc _
  have RB00 : Bk W00 (w.heap.size + 1) #[.int .i64 p0, .int .i64 p1, .int .i64 p2, .int .i64 p3, .int .i64 p4] := by
    rw [hW00]
    have := Bk.new (w.alloc (.cells #[.string nm, .slice a1 n1 c1, .slice a2 n2 c2, .int .i64 kk, .slice a3 n3 c3] 28)) #[.int .i64 p0, .int .i64 p1, .int .i64 p2, .int .i64 p3, .int .i64 p4] 48
    rwa [World.size_alloc] at this
  go_enter Tryd.func5, Tryd.ntmps5
  go_upto_region 1 with fail
  rw [← hW00]
  clear hW00
  go_cut [32] (fun u32 wc => ∃ bb : Bool, u32 = .bool bb ∧ On w wc ∧ Bk wc w.heap.size #[.string nm, .slice a1 n1 c1, .slice a2 n2 c2, .int .i64 kk, .slice a3 n3 c3] ∧ Bk wc (w.heap.size + 1) #[.int .i64 p0, .int .i64 p1, .int .i64 p2, .int .i64 p3, .int .i64 p4] ∧ (bb = false → checkT t = 0))
  case first =>
    have x0 := TB00.at (i := 0) rfl
    have x1 := TB00.at (i := 1) rfl
    have x2 := TB00.at (i := 2) rfl
    have x3 := TB00.at (i := 3) rfl
    have x4 := TB00.at (i := 4) rfl
    have xl := TB00.lt
    go_wp2_with fail
    refine (hF _ K00).mono ?_
    rintro _ w1 ⟨b, rfl, k1⟩
    have K1 : On w w1 := K00.trans k1
    have TB1 := TB00.on k1
    have RB1 := RB00.on k1
    clear x0 x1 x2 x3 x4 xl
    have x0 := TB1.at (i := 0) rfl
    have x1 := TB1.at (i := 1) rfl
    have x2 := TB1.at (i := 2) rfl
    have x3 := TB1.at (i := 3) rfl
    have x4 := TB1.at (i := 4) rfl
    have xl := TB1.lt
    cases b
    · go_wp2
      go_meet
      case rel => exact ⟨true, rfl, K1, TB1, RB1, fun h => by cases h⟩
    · go_wp2_with fail
      refine (hC _ K1).mono ?_
      rintro _ w2 ⟨rfl, k2⟩
      by_cases hc : checkT t = 0
      · have hcb : (checkT t != 0) = false := by rw [hc]; rfl
        have hcH : Hid (checkT t = 0) := hc
        clear hc
        generalize (checkT t) = ct at *
        go_wp2
        go_meet
        case rel => exact ⟨false, rfl, K1.trans k2, TB1.on k2, RB1.on k2, fun _ => hcH.out⟩
      · have hcb : (checkT t != 0) = true := by simpa using hc
        clear hc
        go_wp2
        go_meet
        case rel => exact ⟨true, rfl, K1.trans k2, TB1.on k2, RB1.on k2, fun h => by cases h⟩
  case rest =>
    obtain ⟨bb, rfl, K2, TB2, RB2, hcb⟩ := hcut
    clear TB00 RB00 K00 hF hC
    go_upto_if 32 with fail
    go_cut [] (fun wd => ∃ (U : TestT) (fn : ByteArray) (b1 b2 b3 : Option Addr) (o1 o2 o3 f1 f2 f3 : Nat) (fk : Int), On w wd ∧ Bk wd w.heap.size #[.string fn, .slice b1 o1 f1, .slice b2 o2 f2, .int .i64 fk, .slice b3 o3 f3] ∧ Bk wd (w.heap.size + 1) #[.int .i64 p0, .int .i64 p1, .int .i64 p2, .int .i64 p3, .int .i64 p4] ∧ TestRd wd (.agg #[.string fn, .slice b1 o1 f1, .slice b2 o2 f2, .int .i64 fk, .slice b3 o3 f3]) U ∧ checkT U = 0)
    case first =>
      cases bb
      · go_wp2
        go_meet
        case rel => exact ⟨t, nm, a1, a2, a3, n1, n2, n3, c1, c2, c3, kk, K2, TB2, RB2, HTR.out.on K2, by first | exact hcb rfl | exact hcb trivial⟩
      · go_wp2_with fail
        refine (hS _ K2).mono ?_
        rintro _ w3 ⟨u, rfl, hu, k3⟩
        have TB3 := TB2.on k3
        have RB3 := RB2.on k3
        have K3 : On w w3 := K2.trans k3
        have hw1 : w.heap.size < wc.heap.size := TB2.lt
        obtain ⟨d1, e1, d2, e2, d3, e3, rfl, hI, hT, hAn⟩ := hu
        have hTW := fun (ps : List Value) => (⟨d1, e1, d2, e2, d3, e3, rfl, hSn, Rd.own (fun _ => rfl) (own_puts ps w3 0 hI hw1), (Own2.puts ps w3 0 hT hw1).rd (fun _ => rfl), (Own2.puts ps w3 0 hAn hw1).rd (fun _ => rfl)⟩ : TestRd (putCells w3 w.heap.size 0 ps) (.agg #[.string (smallP zs 12).name, .slice d1 (smallP zs 12).ini.length e1, .slice d2 (smallP zs 12).thr.length e2, .int .i64 (smallP zs 12).cond.k, .slice d3 (smallP zs 12).cond.any.length e3]) (smallP zs 12))
        clear hI hT hAn
        have hgen : ∃ SM : TestT, SM = smallP zs 12 := ⟨_, rfl⟩
        generalize (smallP zs 12).name = sn at *
        generalize (smallP zs 12).ini.length = s1 at *
        generalize (smallP zs 12).thr.length = s2 at *
        generalize (smallP zs 12).cond.any.length = s3 at *
        generalize (smallP zs 12).cond.k = sk at *
        have x0 := TB3.at (i := 0) rfl
        have x1 := TB3.at (i := 1) rfl
        have x2 := TB3.at (i := 2) rfl
        have x3 := TB3.at (i := 3) rfl
        have x4 := TB3.at (i := 4) rfl
        have xf := fun i => TB3.fr i
        have xl := TB3.lt
        go_wp2
        go_meet
        case rel => exact ⟨smallP zs 12, sn, d1, d2, d3, s1, s2, s3, e1, e2, e3, sk, (by show On w _; repeat' (first | with_reducible refine On.setNew ?_ (Nat.le_refl _) _ | with_reducible exact K3)), TB3.set5 _ _ _ _ _, RB3.far5 (by omega) _ _ _ _ _, hTW [.string sn, .slice d1 s1 e1, .slice d2 s2 e2, .int .i64 sk, .slice d3 s3 e3], hSc⟩
    case rest =>
      obtain ⟨U, fn, b1, b2, b3, o1, o2, o3, f1, f2, f3, fk, KW, TB, RB, TR, hc⟩ := hcut
      clear HTR hcb TB2 RB2 K2 hS
      have x0 := TB.at (i := 0) rfl
      have x1 := TB.at (i := 1) rfl
      have x2 := TB.at (i := 2) rfl
      have x3 := TB.at (i := 3) rfl
      have x4 := TB.at (i := 4) rfl
      have xl := TB.lt
      go_wp2_with fail
      refine (rcomp_ok U _ _ TR hc).mono ?_
      rintro _ w4 ⟨pv, rfl, hp, k4⟩
      have hfi := fine_of U hc
      have hp1 := hp
      obtain ⟨q0, r0, q1, r1, q2, r2, rfl, _, _, _⟩ := hp
      generalize ltOf U = LT at *
      generalize inOf U = IN at *
      generalize llOf U = LL at *
      have hStA := fun W (k : On w4 W) => start_is LL th _ W ((hp1.on k).rd)
      have hStB := fun W (k : On w4 W) => rstart_is LL th _ W ((hp1.on k).rd) hfi
      have hNxA := fun (l : LocT) W (k : On w4 W) => pnext_is LL th l _ W ((hp1.on k).rd)
      have hNxB := fun (l : LocT) W (k : On w4 W) => rnext_is LL th l _ W ((hp1.on k).rd) hfi
      have hAfA := fun (l : LocT) (rv : Int) W (k : On w4 W) => after_is LL th l rv _ W ((hp1.on k).rd)
      have hAfB := fun (l : LocT) (rv : Int) W (k : On w4 W) => rafter_is LL th l rv _ W ((hp1.on k).rd) hfi
      generalize threadP LL th = TH at *
      clear hp1 hfi
      generalize LT.length = l0 at *
      generalize IN.length = l1 at *
      generalize LL.length = l2 at *
      have KW4 : On w w4 := KW.trans k4
      have HV : Hid (Rd intC 1 w (.slice av vs.length cv) vs) := hv
      have R4 := RB.on k4
      obtain ⟨W5, hW5⟩ : ∃ W5, W5 = w4.alloc (.cells #[.slice q0 l0 r0, .slice q1 l1 r1, .slice q2 l2 r2] 40) := ⟨_, rfl⟩
      have k45 : On w4 W5 := by rw [hW5]; exact (On.refl w4).alloc _
      have PB5 : Bk W5 w4.heap.size #[.slice q0 l0 r0, .slice q1 l1 r1, .slice q2 l2 r2] := by rw [hW5]; exact Bk.new w4 _ _
      have R5 := R4.on k45
      have KW5 : On w W5 := KW4.trans k45
      have hS : ∀ W, On W5 W → W.cell? ⟨w4.heap.size, 0, none⟩ = some (.slice q0 l0 r0) ∧ W.cell? ⟨w4.heap.size, 1, none⟩ = some (.slice q1 l1 r1) ∧ W.cell? ⟨w4.heap.size, 2, none⟩ = some (.slice q2 l2 r2) := fun W k => ⟨(PB5.on k).at (i := 0) rfl, (PB5.on k).at (i := 1) rfl, (PB5.on k).at (i := 2) rfl⟩
      obtain ⟨⟨g0, g1, g2, g3, g4⟩, hX⟩ : ∃ X, startP TH = X := ⟨_, rfl⟩
      rw [hX] at hStA hStB
      unfold locV at hStA hStB
      simp only at hStA hStB
      clear hX
      have hSt1 := fun W (k : On W5 W) => hStA W (k45.trans k)
      have hSt2 := fun W (k : On W5 W) => hStB W (k45.trans k)
      clear hStA hStB
      go_upto_region 4 with fail
      rw [← hW5]
      clear hW5
      go_cut [12, 13] (fun u12 u13 wc => ∃ N1 N2 : Nat, u12 = .pointer (some ⟨N1, 0, none⟩) ∧ u13 = .pointer (some ⟨N2, 0, none⟩) ∧ W5.heap.size ≤ N1 ∧ W5.heap.size ≤ N2 ∧ N1 ≠ N2 ∧ On W5 wc ∧ Bk wc N1 #[.int .i64 g0, .int .i64 g1, .int .i64 g2, .int .i64 g3, .int .i64 g4] ∧ Bk wc N2 #[.int .i64 g0, .int .i64 g1, .int .i64 g2, .int .i64 g3, .int .i64 g4])
      case first =>
        refine region_fz (fun W => W.cell? ⟨w4.heap.size, 0, none⟩ = some (.slice q0 l0 r0) ∧ W.cell? ⟨w4.heap.size, 1, none⟩ = some (.slice q1 l1 r1) ∧ W.cell? ⟨w4.heap.size, 2, none⟩ = some (.slice q2 l2 r2)) [8, 9] 10 (by kernel_rfl) rfl ?_
        obtain ⟨V0, hV0⟩ : ∃ V0, V0 = W5.drew := ⟨_, rfl⟩
        rw [← hV0]
        have kV0 : On W5 V0 := by rw [hV0]; exact (On.refl W5).drew
        have szV0 := kV0.size
        clear hV0
        have qS := hS _ kV0
        refine fz_take 0 (v := ?_) rfl (by kernel_rfl) (by kernel_rfl) (by kernel_rfl) (by kernel_rfl) (fun _ _ _ h => h) rfl ?_ qS ?_
        rotate_left
        · intro W hW
          go_simp
          (try with_reducible rfl)
        simp only [Act.put, List.setIfInBounds_toArray, List.set_cons_zero, List.set_cons_succ]
        refine fz_take 1 (v := ?_) rfl (by kernel_rfl) (by kernel_rfl) (by kernel_rfl) (by kernel_rfl) (fun _ _ _ h => h) rfl ?_ qS ?_
        rotate_left
        · intro W hW
          go_simp
          (try with_reducible rfl)
        simp only [Act.put, List.setIfInBounds_toArray, List.set_cons_zero, List.set_cons_succ]
        refine fz_take 3 (v := ?_) rfl (by kernel_rfl) (by kernel_rfl) (by kernel_rfl) (by kernel_rfl) (fun _ _ _ h => h) rfl ?_ qS ?_
        rotate_left
        · intro W hW
          go_simp
          (try with_reducible rfl)
        simp only [Act.put, List.setIfInBounds_toArray, List.set_cons_zero, List.set_cons_succ]
        refine fz_take 4 (v := ?_) rfl (by kernel_rfl) (by kernel_rfl) (by kernel_rfl) (by kernel_rfl) (fun _ _ _ h => h) rfl ?_ qS ?_
        rotate_left
        · intro W hW
          go_simp
          (try with_reducible rfl)
        simp only [Act.put, List.setIfInBounds_toArray, List.set_cons_zero, List.set_cons_succ]
        refine fz_three 2 6 7 rfl rfl rfl rfl rfl rfl (by kernel_rfl) (fun K hK => ?_) (fun K hK => ?_) (fun K hK => ?_)
        · go_simp
          refine (hSt1 _ kV0).mono ?_
          rintro _ V2 ⟨rfl, kk⟩
          have kV2 : On W5 V2 := kV0.trans kk
          have szV2 := kk.size
          refine hK.out _ _ (fun _ => hS _ kV2) ?_
          clear hK
          refine fz_three 5 6 7 rfl rfl rfl rfl rfl rfl (by kernel_rfl) (fun K hK => ?_) (fun K hK => ?_) (fun K hK => ?_)
          · go_simp
            refine (hSt2 _ kV2).mono ?_
            rintro _ V25 ⟨rfl, kk⟩
            have kV25 : On W5 V25 := kV2.trans kk
            have szV25 := kk.size
            refine hK.out _ _ (fun _ => hS _ kV25) ?_
            clear hK
            refine fz_two 6 7 rfl rfl rfl rfl (by kernel_rfl) (fun K hK => ?_) (fun K hK => ?_)
            · go_simp
              obtain ⟨V256, hV256⟩ : ∃ V256, V256 = V25.alloc (.cells #[.int .i64 0, .int .i64 0, .int .i64 0, .int .i64 0, .int .i64 0] 48) := ⟨_, rfl⟩
              rw [← hV256]
              have kk : On V25 V256 := by rw [hV256]; exact (On.refl V25).alloc _
              have B12V256 : Bk V256 V25.heap.size #[.int .i64 0, .int .i64 0, .int .i64 0, .int .i64 0, .int .i64 0] := by rw [hV256]; exact Bk.new V25 _ _
              have szV256 : V25.heap.size < V256.heap.size := by rw [hV256]; simp
              clear hV256
              have kV256 : On W5 V256 := kV25.trans kk
              refine hK.out _ _ (fun _ => hS _ kV256) ?_
              clear hK
              refine fz_one 7 rfl rfl (by kernel_rfl) (fun K hK => ?_)
              go_simp
              obtain ⟨V2567, hV2567⟩ : ∃ V2567, V2567 = V256.alloc (.cells #[.int .i64 0, .int .i64 0, .int .i64 0, .int .i64 0, .int .i64 0] 48) := ⟨_, rfl⟩
              rw [← hV2567]
              have kk : On V256 V2567 := by rw [hV2567]; exact (On.refl V256).alloc _
              have B13V2567 : Bk V2567 V256.heap.size #[.int .i64 0, .int .i64 0, .int .i64 0, .int .i64 0, .int .i64 0] := by rw [hV2567]; exact Bk.new V256 _ _
              have szV2567 : V256.heap.size < V2567.heap.size := by rw [hV2567]; simp
              clear hV2567
              have kV2567 : On W5 V2567 := kV256.trans kk
              refine hK.out _ _ (fun _ => hS _ kV2567) ?_
              clear hK
              have B12V2567 := B12V256.on kk
              have hS8 := hS _ kV2567
              have x0 := B12V2567.at (i := 0) rfl
              have x1 := B12V2567.at (i := 1) rfl
              have x2 := B12V2567.at (i := 2) rfl
              have x3 := B12V2567.at (i := 3) rfl
              have x4 := B12V2567.at (i := 4) rfl
              have xf := fun i => B12V2567.fr i
              have xl := B12V2567.lt
              have y0 := B13V2567.at (i := 0) rfl
              have y1 := B13V2567.at (i := 1) rfl
              have y2 := B13V2567.at (i := 2) rfl
              have y3 := B13V2567.at (i := 3) rfl
              have y4 := B13V2567.at (i := 4) rfl
              have yf := fun i => B13V2567.fr i
              have yl := B13V2567.lt
              have hne : V25.heap.size ≠ V256.heap.size := by omega
              have hne' : V256.heap.size ≠ V25.heap.size := by omega
              have hN1 : W5.heap.size ≤ V25.heap.size := by omega
              have hN2 : W5.heap.size ≤ V256.heap.size := by omega
              refine fz_one 8 rfl rfl (by kernel_rfl) (fun K hK => ?_)
              go_simp
              refine hK.out _ _ (fun h => absurd (by decide) h) ?_
              clear hK
              refine fz_one 9 rfl rfl (by kernel_rfl) (fun K hK => ?_)
              go_simp
              refine hK.out _ _ (fun h => absurd (by decide) h) ?_
              clear hK
              refine fz_done (by kernel_rfl) (NoPanic.normal ?_)
              go_wp2
              go_meet
              case rel => exact ⟨V25.heap.size, V256.heap.size, rfl, rfl, hN1, hN2, hne, (by show On W5 _; repeat' (first | with_reducible refine On.setNew ?_ (by omega) _ | with_reducible exact kV2567)), (B12V2567.set5 _ _ _ _ _).far5 hne' _ _ _ _ _, (B13V2567.far5 hne _ _ _ _ _).set5 _ _ _ _ _⟩
            · go_simp
              obtain ⟨V257, hV257⟩ : ∃ V257, V257 = V25.alloc (.cells #[.int .i64 0, .int .i64 0, .int .i64 0, .int .i64 0, .int .i64 0] 48) := ⟨_, rfl⟩
              rw [← hV257]
              have kk : On V25 V257 := by rw [hV257]; exact (On.refl V25).alloc _
              have B13V257 : Bk V257 V25.heap.size #[.int .i64 0, .int .i64 0, .int .i64 0, .int .i64 0, .int .i64 0] := by rw [hV257]; exact Bk.new V25 _ _
              have szV257 : V25.heap.size < V257.heap.size := by rw [hV257]; simp
              clear hV257
              have kV257 : On W5 V257 := kV25.trans kk
              refine hK.out _ _ (fun _ => hS _ kV257) ?_
              clear hK
              refine fz_one 6 rfl rfl (by kernel_rfl) (fun K hK => ?_)
              go_simp
              obtain ⟨V2576, hV2576⟩ : ∃ V2576, V2576 = V257.alloc (.cells #[.int .i64 0, .int .i64 0, .int .i64 0, .int .i64 0, .int .i64 0] 48) := ⟨_, rfl⟩
              rw [← hV2576]
              have kk : On V257 V2576 := by rw [hV2576]; exact (On.refl V257).alloc _
              have B12V2576 : Bk V2576 V257.heap.size #[.int .i64 0, .int .i64 0, .int .i64 0, .int .i64 0, .int .i64 0] := by rw [hV2576]; exact Bk.new V257 _ _
              have szV2576 : V257.heap.size < V2576.heap.size := by rw [hV2576]; simp
              clear hV2576
              have kV2576 : On W5 V2576 := kV257.trans kk
              refine hK.out _ _ (fun _ => hS _ kV2576) ?_
              clear hK
              have B13V2576 := B13V257.on kk
              have hS8 := hS _ kV2576
              have x0 := B12V2576.at (i := 0) rfl
              have x1 := B12V2576.at (i := 1) rfl
              have x2 := B12V2576.at (i := 2) rfl
              have x3 := B12V2576.at (i := 3) rfl
              have x4 := B12V2576.at (i := 4) rfl
              have xf := fun i => B12V2576.fr i
              have xl := B12V2576.lt
              have y0 := B13V2576.at (i := 0) rfl
              have y1 := B13V2576.at (i := 1) rfl
              have y2 := B13V2576.at (i := 2) rfl
              have y3 := B13V2576.at (i := 3) rfl
              have y4 := B13V2576.at (i := 4) rfl
              have yf := fun i => B13V2576.fr i
              have yl := B13V2576.lt
              have hne : V257.heap.size ≠ V25.heap.size := by omega
              have hne' : V25.heap.size ≠ V257.heap.size := by omega
              have hN1 : W5.heap.size ≤ V257.heap.size := by omega
              have hN2 : W5.heap.size ≤ V25.heap.size := by omega
              refine fz_one 8 rfl rfl (by kernel_rfl) (fun K hK => ?_)
              go_simp
              refine hK.out _ _ (fun h => absurd (by decide) h) ?_
              clear hK
              refine fz_one 9 rfl rfl (by kernel_rfl) (fun K hK => ?_)
              go_simp
              refine hK.out _ _ (fun h => absurd (by decide) h) ?_
              clear hK
              refine fz_done (by kernel_rfl) (NoPanic.normal ?_)
              go_wp2
              go_meet
              case rel => exact ⟨V257.heap.size, V25.heap.size, rfl, rfl, hN1, hN2, hne, (by show On W5 _; repeat' (first | with_reducible refine On.setNew ?_ (by omega) _ | with_reducible exact kV2576)), (B12V2576.set5 _ _ _ _ _).far5 hne' _ _ _ _ _, (B13V2576.far5 hne _ _ _ _ _).set5 _ _ _ _ _⟩
          · go_simp
            obtain ⟨V26, hV26⟩ : ∃ V26, V26 = V2.alloc (.cells #[.int .i64 0, .int .i64 0, .int .i64 0, .int .i64 0, .int .i64 0] 48) := ⟨_, rfl⟩
            rw [← hV26]
            have kk : On V2 V26 := by rw [hV26]; exact (On.refl V2).alloc _
            have B12V26 : Bk V26 V2.heap.size #[.int .i64 0, .int .i64 0, .int .i64 0, .int .i64 0, .int .i64 0] := by rw [hV26]; exact Bk.new V2 _ _
            have szV26 : V2.heap.size < V26.heap.size := by rw [hV26]; simp
            clear hV26
            have kV26 : On W5 V26 := kV2.trans kk
            refine hK.out _ _ (fun _ => hS _ kV26) ?_
            clear hK
            refine fz_two 5 7 rfl rfl rfl rfl (by kernel_rfl) (fun K hK => ?_) (fun K hK => ?_)
            · go_simp
              refine (hSt2 _ kV26).mono ?_
              rintro _ V265 ⟨rfl, kk⟩
              have kV265 : On W5 V265 := kV26.trans kk
              have szV265 := kk.size
              refine hK.out _ _ (fun _ => hS _ kV265) ?_
              clear hK
              have B12V265 := B12V26.on kk
              refine fz_one 7 rfl rfl (by kernel_rfl) (fun K hK => ?_)
              go_simp
              obtain ⟨V2657, hV2657⟩ : ∃ V2657, V2657 = V265.alloc (.cells #[.int .i64 0, .int .i64 0, .int .i64 0, .int .i64 0, .int .i64 0] 48) := ⟨_, rfl⟩
              rw [← hV2657]
              have kk : On V265 V2657 := by rw [hV2657]; exact (On.refl V265).alloc _
              have B13V2657 : Bk V2657 V265.heap.size #[.int .i64 0, .int .i64 0, .int .i64 0, .int .i64 0, .int .i64 0] := by rw [hV2657]; exact Bk.new V265 _ _
              have szV2657 : V265.heap.size < V2657.heap.size := by rw [hV2657]; simp
              clear hV2657
              have kV2657 : On W5 V2657 := kV265.trans kk
              refine hK.out _ _ (fun _ => hS _ kV2657) ?_
              clear hK
              have B12V2657 := B12V265.on kk
              have hS8 := hS _ kV2657
              have x0 := B12V2657.at (i := 0) rfl
              have x1 := B12V2657.at (i := 1) rfl
              have x2 := B12V2657.at (i := 2) rfl
              have x3 := B12V2657.at (i := 3) rfl
              have x4 := B12V2657.at (i := 4) rfl
              have xf := fun i => B12V2657.fr i
              have xl := B12V2657.lt
              have y0 := B13V2657.at (i := 0) rfl
              have y1 := B13V2657.at (i := 1) rfl
              have y2 := B13V2657.at (i := 2) rfl
              have y3 := B13V2657.at (i := 3) rfl
              have y4 := B13V2657.at (i := 4) rfl
              have yf := fun i => B13V2657.fr i
              have yl := B13V2657.lt
              have hne : V2.heap.size ≠ V265.heap.size := by omega
              have hne' : V265.heap.size ≠ V2.heap.size := by omega
              have hN1 : W5.heap.size ≤ V2.heap.size := by omega
              have hN2 : W5.heap.size ≤ V265.heap.size := by omega
              refine fz_one 8 rfl rfl (by kernel_rfl) (fun K hK => ?_)
              go_simp
              refine hK.out _ _ (fun h => absurd (by decide) h) ?_
              clear hK
              refine fz_one 9 rfl rfl (by kernel_rfl) (fun K hK => ?_)
              go_simp
              refine hK.out _ _ (fun h => absurd (by decide) h) ?_
              clear hK
              refine fz_done (by kernel_rfl) (NoPanic.normal ?_)
              go_wp2
              go_meet
              case rel => exact ⟨V2.heap.size, V265.heap.size, rfl, rfl, hN1, hN2, hne, (by show On W5 _; repeat' (first | with_reducible refine On.setNew ?_ (by omega) _ | with_reducible exact kV2657)), (B12V2657.set5 _ _ _ _ _).far5 hne' _ _ _ _ _, (B13V2657.far5 hne _ _ _ _ _).set5 _ _ _ _ _⟩
            · go_simp
              obtain ⟨V267, hV267⟩ : ∃ V267, V267 = V26.alloc (.cells #[.int .i64 0, .int .i64 0, .int .i64 0, .int .i64 0, .int .i64 0] 48) := ⟨_, rfl⟩
              rw [← hV267]
              have kk : On V26 V267 := by rw [hV267]; exact (On.refl V26).alloc _
              have B13V267 : Bk V267 V26.heap.size #[.int .i64 0, .int .i64 0, .int .i64 0, .int .i64 0, .int .i64 0] := by rw [hV267]; exact Bk.new V26 _ _
              have szV267 : V26.heap.size < V267.heap.size := by rw [hV267]; simp
              clear hV267
              have kV267 : On W5 V267 := kV26.trans kk
              refine hK.out _ _ (fun _ => hS _ kV267) ?_
              clear hK
              have B12V267 := B12V26.on kk
              refine fz_one 5 rfl rfl (by kernel_rfl) (fun K hK => ?_)
              go_simp
              refine (hSt2 _ kV267).mono ?_
              rintro _ V2675 ⟨rfl, kk⟩
              have kV2675 : On W5 V2675 := kV267.trans kk
              have szV2675 := kk.size
              refine hK.out _ _ (fun _ => hS _ kV2675) ?_
              clear hK
              have B13V2675 := B13V267.on kk
              have B12V2675 := B12V267.on kk
              have hS8 := hS _ kV2675
              have x0 := B12V2675.at (i := 0) rfl
              have x1 := B12V2675.at (i := 1) rfl
              have x2 := B12V2675.at (i := 2) rfl
              have x3 := B12V2675.at (i := 3) rfl
              have x4 := B12V2675.at (i := 4) rfl
              have xf := fun i => B12V2675.fr i
              have xl := B12V2675.lt
              have y0 := B13V2675.at (i := 0) rfl
              have y1 := B13V2675.at (i := 1) rfl
              have y2 := B13V2675.at (i := 2) rfl
              have y3 := B13V2675.at (i := 3) rfl
              have y4 := B13V2675.at (i := 4) rfl
              have yf := fun i => B13V2675.fr i
              have yl := B13V2675.lt
              have hne : V2.heap.size ≠ V26.heap.size := by omega
              have hne' : V26.heap.size ≠ V2.heap.size := by omega
              have hN1 : W5.heap.size ≤ V2.heap.size := by omega
              have hN2 : W5.heap.size ≤ V26.heap.size := by omega
              refine fz_one 8 rfl rfl (by kernel_rfl) (fun K hK => ?_)
              go_simp
              refine hK.out _ _ (fun h => absurd (by decide) h) ?_
              clear hK
              refine fz_one 9 rfl rfl (by kernel_rfl) (fun K hK => ?_)
              go_simp
              refine hK.out _ _ (fun h => absurd (by decide) h) ?_
              clear hK
              refine fz_done (by kernel_rfl) (NoPanic.normal ?_)
              go_wp2
              go_meet
              case rel => exact ⟨V2.heap.size, V26.heap.size, rfl, rfl, hN1, hN2, hne, (by show On W5 _; repeat' (first | with_reducible refine On.setNew ?_ (by omega) _ | with_reducible exact kV2675)), (B12V2675.set5 _ _ _ _ _).far5 hne' _ _ _ _ _, (B13V2675.far5 hne _ _ _ _ _).set5 _ _ _ _ _⟩
          · go_simp
            obtain ⟨V27, hV27⟩ : ∃ V27, V27 = V2.alloc (.cells #[.int .i64 0, .int .i64 0, .int .i64 0, .int .i64 0, .int .i64 0] 48) := ⟨_, rfl⟩
            rw [← hV27]
            have kk : On V2 V27 := by rw [hV27]; exact (On.refl V2).alloc _
            have B13V27 : Bk V27 V2.heap.size #[.int .i64 0, .int .i64 0, .int .i64 0, .int .i64 0, .int .i64 0] := by rw [hV27]; exact Bk.new V2 _ _
            have szV27 : V2.heap.size < V27.heap.size := by rw [hV27]; simp
            clear hV27
            have kV27 : On W5 V27 := kV2.trans kk
            refine hK.out _ _ (fun _ => hS _ kV27) ?_
            clear hK
            refine fz_two 5 6 rfl rfl rfl rfl (by kernel_rfl) (fun K hK => ?_) (fun K hK => ?_)
            · go_simp
              refine (hSt2 _ kV27).mono ?_
              rintro _ V275 ⟨rfl, kk⟩
              have kV275 : On W5 V275 := kV27.trans kk
              have szV275 := kk.size
              refine hK.out _ _ (fun _ => hS _ kV275) ?_
              clear hK
              have B13V275 := B13V27.on kk
              refine fz_one 6 rfl rfl (by kernel_rfl) (fun K hK => ?_)
              go_simp
              obtain ⟨V2756, hV2756⟩ : ∃ V2756, V2756 = V275.alloc (.cells #[.int .i64 0, .int .i64 0, .int .i64 0, .int .i64 0, .int .i64 0] 48) := ⟨_, rfl⟩
              rw [← hV2756]
              have kk : On V275 V2756 := by rw [hV2756]; exact (On.refl V275).alloc _
              have B12V2756 : Bk V2756 V275.heap.size #[.int .i64 0, .int .i64 0, .int .i64 0, .int .i64 0, .int .i64 0] := by rw [hV2756]; exact Bk.new V275 _ _
              have szV2756 : V275.heap.size < V2756.heap.size := by rw [hV2756]; simp
              clear hV2756
              have kV2756 : On W5 V2756 := kV275.trans kk
              refine hK.out _ _ (fun _ => hS _ kV2756) ?_
              clear hK
              have B13V2756 := B13V275.on kk
              have hS8 := hS _ kV2756
              have x0 := B12V2756.at (i := 0) rfl
              have x1 := B12V2756.at (i := 1) rfl
              have x2 := B12V2756.at (i := 2) rfl
              have x3 := B12V2756.at (i := 3) rfl
              have x4 := B12V2756.at (i := 4) rfl
              have xf := fun i => B12V2756.fr i
              have xl := B12V2756.lt
              have y0 := B13V2756.at (i := 0) rfl
              have y1 := B13V2756.at (i := 1) rfl
              have y2 := B13V2756.at (i := 2) rfl
              have y3 := B13V2756.at (i := 3) rfl
              have y4 := B13V2756.at (i := 4) rfl
              have yf := fun i => B13V2756.fr i
              have yl := B13V2756.lt
              have hne : V275.heap.size ≠ V2.heap.size := by omega
              have hne' : V2.heap.size ≠ V275.heap.size := by omega
              have hN1 : W5.heap.size ≤ V275.heap.size := by omega
              have hN2 : W5.heap.size ≤ V2.heap.size := by omega
              refine fz_one 8 rfl rfl (by kernel_rfl) (fun K hK => ?_)
              go_simp
              refine hK.out _ _ (fun h => absurd (by decide) h) ?_
              clear hK
              refine fz_one 9 rfl rfl (by kernel_rfl) (fun K hK => ?_)
              go_simp
              refine hK.out _ _ (fun h => absurd (by decide) h) ?_
              clear hK
              refine fz_done (by kernel_rfl) (NoPanic.normal ?_)
              go_wp2
              go_meet
              case rel => exact ⟨V275.heap.size, V2.heap.size, rfl, rfl, hN1, hN2, hne, (by show On W5 _; repeat' (first | with_reducible refine On.setNew ?_ (by omega) _ | with_reducible exact kV2756)), (B12V2756.set5 _ _ _ _ _).far5 hne' _ _ _ _ _, (B13V2756.far5 hne _ _ _ _ _).set5 _ _ _ _ _⟩
            · go_simp
              obtain ⟨V276, hV276⟩ : ∃ V276, V276 = V27.alloc (.cells #[.int .i64 0, .int .i64 0, .int .i64 0, .int .i64 0, .int .i64 0] 48) := ⟨_, rfl⟩
              rw [← hV276]
              have kk : On V27 V276 := by rw [hV276]; exact (On.refl V27).alloc _
              have B12V276 : Bk V276 V27.heap.size #[.int .i64 0, .int .i64 0, .int .i64 0, .int .i64 0, .int .i64 0] := by rw [hV276]; exact Bk.new V27 _ _
              have szV276 : V27.heap.size < V276.heap.size := by rw [hV276]; simp
              clear hV276
              have kV276 : On W5 V276 := kV27.trans kk
              refine hK.out _ _ (fun _ => hS _ kV276) ?_
              clear hK
              have B13V276 := B13V27.on kk
              refine fz_one 5 rfl rfl (by kernel_rfl) (fun K hK => ?_)
              go_simp
              refine (hSt2 _ kV276).mono ?_
              rintro _ V2765 ⟨rfl, kk⟩
              have kV2765 : On W5 V2765 := kV276.trans kk
              have szV2765 := kk.size
              refine hK.out _ _ (fun _ => hS _ kV2765) ?_
              clear hK
              have B12V2765 := B12V276.on kk
              have B13V2765 := B13V276.on kk
              have hS8 := hS _ kV2765
              have x0 := B12V2765.at (i := 0) rfl
              have x1 := B12V2765.at (i := 1) rfl
              have x2 := B12V2765.at (i := 2) rfl
              have x3 := B12V2765.at (i := 3) rfl
              have x4 := B12V2765.at (i := 4) rfl
              have xf := fun i => B12V2765.fr i
              have xl := B12V2765.lt
              have y0 := B13V2765.at (i := 0) rfl
              have y1 := B13V2765.at (i := 1) rfl
              have y2 := B13V2765.at (i := 2) rfl
              have y3 := B13V2765.at (i := 3) rfl
              have y4 := B13V2765.at (i := 4) rfl
              have yf := fun i => B13V2765.fr i
              have yl := B13V2765.lt
              have hne : V27.heap.size ≠ V2.heap.size := by omega
              have hne' : V2.heap.size ≠ V27.heap.size := by omega
              have hN1 : W5.heap.size ≤ V27.heap.size := by omega
              have hN2 : W5.heap.size ≤ V2.heap.size := by omega
              refine fz_one 8 rfl rfl (by kernel_rfl) (fun K hK => ?_)
              go_simp
              refine hK.out _ _ (fun h => absurd (by decide) h) ?_
              clear hK
              refine fz_one 9 rfl rfl (by kernel_rfl) (fun K hK => ?_)
              go_simp
              refine hK.out _ _ (fun h => absurd (by decide) h) ?_
              clear hK
              refine fz_done (by kernel_rfl) (NoPanic.normal ?_)
              go_wp2
              go_meet
              case rel => exact ⟨V27.heap.size, V2.heap.size, rfl, rfl, hN1, hN2, hne, (by show On W5 _; repeat' (first | with_reducible refine On.setNew ?_ (by omega) _ | with_reducible exact kV2765)), (B12V2765.set5 _ _ _ _ _).far5 hne' _ _ _ _ _, (B13V2765.far5 hne _ _ _ _ _).set5 _ _ _ _ _⟩
        · go_simp
          obtain ⟨V6, hV6⟩ : ∃ V6, V6 = V0.alloc (.cells #[.int .i64 0, .int .i64 0, .int .i64 0, .int .i64 0, .int .i64 0] 48) := ⟨_, rfl⟩
          rw [← hV6]
          have kk : On V0 V6 := by rw [hV6]; exact (On.refl V0).alloc _
          have B12V6 : Bk V6 V0.heap.size #[.int .i64 0, .int .i64 0, .int .i64 0, .int .i64 0, .int .i64 0] := by rw [hV6]; exact Bk.new V0 _ _
          have szV6 : V0.heap.size < V6.heap.size := by rw [hV6]; simp
          clear hV6
          have kV6 : On W5 V6 := kV0.trans kk
          refine hK.out _ _ (fun _ => hS _ kV6) ?_
          clear hK
          refine fz_two 2 7 rfl rfl rfl rfl (by kernel_rfl) (fun K hK => ?_) (fun K hK => ?_)
          · go_simp
            refine (hSt1 _ kV6).mono ?_
            rintro _ V62 ⟨rfl, kk⟩
            have kV62 : On W5 V62 := kV6.trans kk
            have szV62 := kk.size
            refine hK.out _ _ (fun _ => hS _ kV62) ?_
            clear hK
            have B12V62 := B12V6.on kk
            refine fz_two 5 7 rfl rfl rfl rfl (by kernel_rfl) (fun K hK => ?_) (fun K hK => ?_)
            · go_simp
              refine (hSt2 _ kV62).mono ?_
              rintro _ V625 ⟨rfl, kk⟩
              have kV625 : On W5 V625 := kV62.trans kk
              have szV625 := kk.size
              refine hK.out _ _ (fun _ => hS _ kV625) ?_
              clear hK
              have B12V625 := B12V62.on kk
              refine fz_one 7 rfl rfl (by kernel_rfl) (fun K hK => ?_)
              go_simp
              obtain ⟨V6257, hV6257⟩ : ∃ V6257, V6257 = V625.alloc (.cells #[.int .i64 0, .int .i64 0, .int .i64 0, .int .i64 0, .int .i64 0] 48) := ⟨_, rfl⟩
              rw [← hV6257]
              have kk : On V625 V6257 := by rw [hV6257]; exact (On.refl V625).alloc _
              have B13V6257 : Bk V6257 V625.heap.size #[.int .i64 0, .int .i64 0, .int .i64 0, .int .i64 0, .int .i64 0] := by rw [hV6257]; exact Bk.new V625 _ _
              have szV6257 : V625.heap.size < V6257.heap.size := by rw [hV6257]; simp
              clear hV6257
              have kV6257 : On W5 V6257 := kV625.trans kk
              refine hK.out _ _ (fun _ => hS _ kV6257) ?_
              clear hK
              have B12V6257 := B12V625.on kk
              have hS8 := hS _ kV6257
              have x0 := B12V6257.at (i := 0) rfl
              have x1 := B12V6257.at (i := 1) rfl
              have x2 := B12V6257.at (i := 2) rfl
              have x3 := B12V6257.at (i := 3) rfl
              have x4 := B12V6257.at (i := 4) rfl
              have xf := fun i => B12V6257.fr i
              have xl := B12V6257.lt
              have y0 := B13V6257.at (i := 0) rfl
              have y1 := B13V6257.at (i := 1) rfl
              have y2 := B13V6257.at (i := 2) rfl
              have y3 := B13V6257.at (i := 3) rfl
              have y4 := B13V6257.at (i := 4) rfl
              have yf := fun i => B13V6257.fr i
              have yl := B13V6257.lt
              have hne : V0.heap.size ≠ V625.heap.size := by omega
              have hne' : V625.heap.size ≠ V0.heap.size := by omega
              have hN1 : W5.heap.size ≤ V0.heap.size := by omega
              have hN2 : W5.heap.size ≤ V625.heap.size := by omega
              refine fz_one 8 rfl rfl (by kernel_rfl) (fun K hK => ?_)
              go_simp
              refine hK.out _ _ (fun h => absurd (by decide) h) ?_
              clear hK
              refine fz_one 9 rfl rfl (by kernel_rfl) (fun K hK => ?_)
              go_simp
              refine hK.out _ _ (fun h => absurd (by decide) h) ?_
              clear hK
              refine fz_done (by kernel_rfl) (NoPanic.normal ?_)
              go_wp2
              go_meet
              case rel => exact ⟨V0.heap.size, V625.heap.size, rfl, rfl, hN1, hN2, hne, (by show On W5 _; repeat' (first | with_reducible refine On.setNew ?_ (by omega) _ | with_reducible exact kV6257)), (B12V6257.set5 _ _ _ _ _).far5 hne' _ _ _ _ _, (B13V6257.far5 hne _ _ _ _ _).set5 _ _ _ _ _⟩
            · go_simp
              obtain ⟨V627, hV627⟩ : ∃ V627, V627 = V62.alloc (.cells #[.int .i64 0, .int .i64 0, .int .i64 0, .int .i64 0, .int .i64 0] 48) := ⟨_, rfl⟩
              rw [← hV627]
              have kk : On V62 V627 := by rw [hV627]; exact (On.refl V62).alloc _
              have B13V627 : Bk V627 V62.heap.size #[.int .i64 0, .int .i64 0, .int .i64 0, .int .i64 0, .int .i64 0] := by rw [hV627]; exact Bk.new V62 _ _
              have szV627 : V62.heap.size < V627.heap.size := by rw [hV627]; simp
              clear hV627
              have kV627 : On W5 V627 := kV62.trans kk
              refine hK.out _ _ (fun _ => hS _ kV627) ?_
              clear hK
              have B12V627 := B12V62.on kk
              refine fz_one 5 rfl rfl (by kernel_rfl) (fun K hK => ?_)
              go_simp
              refine (hSt2 _ kV627).mono ?_
              rintro _ V6275 ⟨rfl, kk⟩
              have kV6275 : On W5 V6275 := kV627.trans kk
              have szV6275 := kk.size
              refine hK.out _ _ (fun _ => hS _ kV6275) ?_
              clear hK
              have B13V6275 := B13V627.on kk
              have B12V6275 := B12V627.on kk
              have hS8 := hS _ kV6275
              have x0 := B12V6275.at (i := 0) rfl
              have x1 := B12V6275.at (i := 1) rfl
              have x2 := B12V6275.at (i := 2) rfl
              have x3 := B12V6275.at (i := 3) rfl
              have x4 := B12V6275.at (i := 4) rfl
              have xf := fun i => B12V6275.fr i
              have xl := B12V6275.lt
              have y0 := B13V6275.at (i := 0) rfl
              have y1 := B13V6275.at (i := 1) rfl
              have y2 := B13V6275.at (i := 2) rfl
              have y3 := B13V6275.at (i := 3) rfl
              have y4 := B13V6275.at (i := 4) rfl
              have yf := fun i => B13V6275.fr i
              have yl := B13V6275.lt
              have hne : V0.heap.size ≠ V62.heap.size := by omega
              have hne' : V62.heap.size ≠ V0.heap.size := by omega
              have hN1 : W5.heap.size ≤ V0.heap.size := by omega
              have hN2 : W5.heap.size ≤ V62.heap.size := by omega
              refine fz_one 8 rfl rfl (by kernel_rfl) (fun K hK => ?_)
              go_simp
              refine hK.out _ _ (fun h => absurd (by decide) h) ?_
              clear hK
              refine fz_one 9 rfl rfl (by kernel_rfl) (fun K hK => ?_)
              go_simp
              refine hK.out _ _ (fun h => absurd (by decide) h) ?_
              clear hK
              refine fz_done (by kernel_rfl) (NoPanic.normal ?_)
              go_wp2
              go_meet
              case rel => exact ⟨V0.heap.size, V62.heap.size, rfl, rfl, hN1, hN2, hne, (by show On W5 _; repeat' (first | with_reducible refine On.setNew ?_ (by omega) _ | with_reducible exact kV6275)), (B12V6275.set5 _ _ _ _ _).far5 hne' _ _ _ _ _, (B13V6275.far5 hne _ _ _ _ _).set5 _ _ _ _ _⟩
          · go_simp
            obtain ⟨V67, hV67⟩ : ∃ V67, V67 = V6.alloc (.cells #[.int .i64 0, .int .i64 0, .int .i64 0, .int .i64 0, .int .i64 0] 48) := ⟨_, rfl⟩
            rw [← hV67]
            have kk : On V6 V67 := by rw [hV67]; exact (On.refl V6).alloc _
            have B13V67 : Bk V67 V6.heap.size #[.int .i64 0, .int .i64 0, .int .i64 0, .int .i64 0, .int .i64 0] := by rw [hV67]; exact Bk.new V6 _ _
            have szV67 : V6.heap.size < V67.heap.size := by rw [hV67]; simp
            clear hV67
            have kV67 : On W5 V67 := kV6.trans kk
            refine hK.out _ _ (fun _ => hS _ kV67) ?_
            clear hK
            have B12V67 := B12V6.on kk
            refine fz_one 2 rfl rfl (by kernel_rfl) (fun K hK => ?_)
            go_simp
            refine (hSt1 _ kV67).mono ?_
            rintro _ V672 ⟨rfl, kk⟩
            have kV672 : On W5 V672 := kV67.trans kk
            have szV672 := kk.size
            refine hK.out _ _ (fun _ => hS _ kV672) ?_
            clear hK
            have B13V672 := B13V67.on kk
            have B12V672 := B12V67.on kk
            refine fz_one 5 rfl rfl (by kernel_rfl) (fun K hK => ?_)
            go_simp
            refine (hSt2 _ kV672).mono ?_
            rintro _ V6725 ⟨rfl, kk⟩
            have kV6725 : On W5 V6725 := kV672.trans kk
            have szV6725 := kk.size
            refine hK.out _ _ (fun _ => hS _ kV6725) ?_
            clear hK
            have B13V6725 := B13V672.on kk
            have B12V6725 := B12V672.on kk
            have hS8 := hS _ kV6725
            have x0 := B12V6725.at (i := 0) rfl
            have x1 := B12V6725.at (i := 1) rfl
            have x2 := B12V6725.at (i := 2) rfl
            have x3 := B12V6725.at (i := 3) rfl
            have x4 := B12V6725.at (i := 4) rfl
            have xf := fun i => B12V6725.fr i
            have xl := B12V6725.lt
            have y0 := B13V6725.at (i := 0) rfl
            have y1 := B13V6725.at (i := 1) rfl
            have y2 := B13V6725.at (i := 2) rfl
            have y3 := B13V6725.at (i := 3) rfl
            have y4 := B13V6725.at (i := 4) rfl
            have yf := fun i => B13V6725.fr i
            have yl := B13V6725.lt
            have hne : V0.heap.size ≠ V6.heap.size := by omega
            have hne' : V6.heap.size ≠ V0.heap.size := by omega
            have hN1 : W5.heap.size ≤ V0.heap.size := by omega
            have hN2 : W5.heap.size ≤ V6.heap.size := by omega
            refine fz_one 8 rfl rfl (by kernel_rfl) (fun K hK => ?_)
            go_simp
            refine hK.out _ _ (fun h => absurd (by decide) h) ?_
            clear hK
            refine fz_one 9 rfl rfl (by kernel_rfl) (fun K hK => ?_)
            go_simp
            refine hK.out _ _ (fun h => absurd (by decide) h) ?_
            clear hK
            refine fz_done (by kernel_rfl) (NoPanic.normal ?_)
            go_wp2
            go_meet
            case rel => exact ⟨V0.heap.size, V6.heap.size, rfl, rfl, hN1, hN2, hne, (by show On W5 _; repeat' (first | with_reducible refine On.setNew ?_ (by omega) _ | with_reducible exact kV6725)), (B12V6725.set5 _ _ _ _ _).far5 hne' _ _ _ _ _, (B13V6725.far5 hne _ _ _ _ _).set5 _ _ _ _ _⟩
        · go_simp
          obtain ⟨V7, hV7⟩ : ∃ V7, V7 = V0.alloc (.cells #[.int .i64 0, .int .i64 0, .int .i64 0, .int .i64 0, .int .i64 0] 48) := ⟨_, rfl⟩
          rw [← hV7]
          have kk : On V0 V7 := by rw [hV7]; exact (On.refl V0).alloc _
          have B13V7 : Bk V7 V0.heap.size #[.int .i64 0, .int .i64 0, .int .i64 0, .int .i64 0, .int .i64 0] := by rw [hV7]; exact Bk.new V0 _ _
          have szV7 : V0.heap.size < V7.heap.size := by rw [hV7]; simp
          clear hV7
          have kV7 : On W5 V7 := kV0.trans kk
          refine hK.out _ _ (fun _ => hS _ kV7) ?_
          clear hK
          refine fz_two 2 6 rfl rfl rfl rfl (by kernel_rfl) (fun K hK => ?_) (fun K hK => ?_)
          · go_simp
            refine (hSt1 _ kV7).mono ?_
            rintro _ V72 ⟨rfl, kk⟩
            have kV72 : On W5 V72 := kV7.trans kk
            have szV72 := kk.size
            refine hK.out _ _ (fun _ => hS _ kV72) ?_
            clear hK
            have B13V72 := B13V7.on kk
            refine fz_two 5 6 rfl rfl rfl rfl (by kernel_rfl) (fun K hK => ?_) (fun K hK => ?_)
            · go_simp
              refine (hSt2 _ kV72).mono ?_
              rintro _ V725 ⟨rfl, kk⟩
              have kV725 : On W5 V725 := kV72.trans kk
              have szV725 := kk.size
              refine hK.out _ _ (fun _ => hS _ kV725) ?_
              clear hK
              have B13V725 := B13V72.on kk
              refine fz_one 6 rfl rfl (by kernel_rfl) (fun K hK => ?_)
              go_simp
              obtain ⟨V7256, hV7256⟩ : ∃ V7256, V7256 = V725.alloc (.cells #[.int .i64 0, .int .i64 0, .int .i64 0, .int .i64 0, .int .i64 0] 48) := ⟨_, rfl⟩
              rw [← hV7256]
              have kk : On V725 V7256 := by rw [hV7256]; exact (On.refl V725).alloc _
              have B12V7256 : Bk V7256 V725.heap.size #[.int .i64 0, .int .i64 0, .int .i64 0, .int .i64 0, .int .i64 0] := by rw [hV7256]; exact Bk.new V725 _ _
              have szV7256 : V725.heap.size < V7256.heap.size := by rw [hV7256]; simp
              clear hV7256
              have kV7256 : On W5 V7256 := kV725.trans kk
              refine hK.out _ _ (fun _ => hS _ kV7256) ?_
              clear hK
              have B13V7256 := B13V725.on kk
              have hS8 := hS _ kV7256
              have x0 := B12V7256.at (i := 0) rfl
              have x1 := B12V7256.at (i := 1) rfl
              have x2 := B12V7256.at (i := 2) rfl
              have x3 := B12V7256.at (i := 3) rfl
              have x4 := B12V7256.at (i := 4) rfl
              have xf := fun i => B12V7256.fr i
              have xl := B12V7256.lt
              have y0 := B13V7256.at (i := 0) rfl
              have y1 := B13V7256.at (i := 1) rfl
              have y2 := B13V7256.at (i := 2) rfl
              have y3 := B13V7256.at (i := 3) rfl
              have y4 := B13V7256.at (i := 4) rfl
              have yf := fun i => B13V7256.fr i
              have yl := B13V7256.lt
              have hne : V725.heap.size ≠ V0.heap.size := by omega
              have hne' : V0.heap.size ≠ V725.heap.size := by omega
              have hN1 : W5.heap.size ≤ V725.heap.size := by omega
              have hN2 : W5.heap.size ≤ V0.heap.size := by omega
              refine fz_one 8 rfl rfl (by kernel_rfl) (fun K hK => ?_)
              go_simp
              refine hK.out _ _ (fun h => absurd (by decide) h) ?_
              clear hK
              refine fz_one 9 rfl rfl (by kernel_rfl) (fun K hK => ?_)
              go_simp
              refine hK.out _ _ (fun h => absurd (by decide) h) ?_
              clear hK
              refine fz_done (by kernel_rfl) (NoPanic.normal ?_)
              go_wp2
              go_meet
              case rel => exact ⟨V725.heap.size, V0.heap.size, rfl, rfl, hN1, hN2, hne, (by show On W5 _; repeat' (first | with_reducible refine On.setNew ?_ (by omega) _ | with_reducible exact kV7256)), (B12V7256.set5 _ _ _ _ _).far5 hne' _ _ _ _ _, (B13V7256.far5 hne _ _ _ _ _).set5 _ _ _ _ _⟩
            · go_simp
              obtain ⟨V726, hV726⟩ : ∃ V726, V726 = V72.alloc (.cells #[.int .i64 0, .int .i64 0, .int .i64 0, .int .i64 0, .int .i64 0] 48) := ⟨_, rfl⟩
              rw [← hV726]
              have kk : On V72 V726 := by rw [hV726]; exact (On.refl V72).alloc _
              have B12V726 : Bk V726 V72.heap.size #[.int .i64 0, .int .i64 0, .int .i64 0, .int .i64 0, .int .i64 0] := by rw [hV726]; exact Bk.new V72 _ _
              have szV726 : V72.heap.size < V726.heap.size := by rw [hV726]; simp
              clear hV726
              have kV726 : On W5 V726 := kV72.trans kk
              refine hK.out _ _ (fun _ => hS _ kV726) ?_
              clear hK
              have B13V726 := B13V72.on kk
              refine fz_one 5 rfl rfl (by kernel_rfl) (fun K hK => ?_)
              go_simp
              refine (hSt2 _ kV726).mono ?_
              rintro _ V7265 ⟨rfl, kk⟩
              have kV7265 : On W5 V7265 := kV726.trans kk
              have szV7265 := kk.size
              refine hK.out _ _ (fun _ => hS _ kV7265) ?_
              clear hK
              have B12V7265 := B12V726.on kk
              have B13V7265 := B13V726.on kk
              have hS8 := hS _ kV7265
              have x0 := B12V7265.at (i := 0) rfl
              have x1 := B12V7265.at (i := 1) rfl
              have x2 := B12V7265.at (i := 2) rfl
              have x3 := B12V7265.at (i := 3) rfl
              have x4 := B12V7265.at (i := 4) rfl
              have xf := fun i => B12V7265.fr i
              have xl := B12V7265.lt
              have y0 := B13V7265.at (i := 0) rfl
              have y1 := B13V7265.at (i := 1) rfl
              have y2 := B13V7265.at (i := 2) rfl
              have y3 := B13V7265.at (i := 3) rfl
              have y4 := B13V7265.at (i := 4) rfl
              have yf := fun i => B13V7265.fr i
              have yl := B13V7265.lt
              have hne : V72.heap.size ≠ V0.heap.size := by omega
              have hne' : V0.heap.size ≠ V72.heap.size := by omega
              have hN1 : W5.heap.size ≤ V72.heap.size := by omega
              have hN2 : W5.heap.size ≤ V0.heap.size := by omega
              refine fz_one 8 rfl rfl (by kernel_rfl) (fun K hK => ?_)
              go_simp
              refine hK.out _ _ (fun h => absurd (by decide) h) ?_
              clear hK
              refine fz_one 9 rfl rfl (by kernel_rfl) (fun K hK => ?_)
              go_simp
              refine hK.out _ _ (fun h => absurd (by decide) h) ?_
              clear hK
              refine fz_done (by kernel_rfl) (NoPanic.normal ?_)
              go_wp2
              go_meet
              case rel => exact ⟨V72.heap.size, V0.heap.size, rfl, rfl, hN1, hN2, hne, (by show On W5 _; repeat' (first | with_reducible refine On.setNew ?_ (by omega) _ | with_reducible exact kV7265)), (B12V7265.set5 _ _ _ _ _).far5 hne' _ _ _ _ _, (B13V7265.far5 hne _ _ _ _ _).set5 _ _ _ _ _⟩
          · go_simp
            obtain ⟨V76, hV76⟩ : ∃ V76, V76 = V7.alloc (.cells #[.int .i64 0, .int .i64 0, .int .i64 0, .int .i64 0, .int .i64 0] 48) := ⟨_, rfl⟩
            rw [← hV76]
            have kk : On V7 V76 := by rw [hV76]; exact (On.refl V7).alloc _
            have B12V76 : Bk V76 V7.heap.size #[.int .i64 0, .int .i64 0, .int .i64 0, .int .i64 0, .int .i64 0] := by rw [hV76]; exact Bk.new V7 _ _
            have szV76 : V7.heap.size < V76.heap.size := by rw [hV76]; simp
            clear hV76
            have kV76 : On W5 V76 := kV7.trans kk
            refine hK.out _ _ (fun _ => hS _ kV76) ?_
            clear hK
            have B13V76 := B13V7.on kk
            refine fz_one 2 rfl rfl (by kernel_rfl) (fun K hK => ?_)
            go_simp
            refine (hSt1 _ kV76).mono ?_
            rintro _ V762 ⟨rfl, kk⟩
            have kV762 : On W5 V762 := kV76.trans kk
            have szV762 := kk.size
            refine hK.out _ _ (fun _ => hS _ kV762) ?_
            clear hK
            have B12V762 := B12V76.on kk
            have B13V762 := B13V76.on kk
            refine fz_one 5 rfl rfl (by kernel_rfl) (fun K hK => ?_)
            go_simp
            refine (hSt2 _ kV762).mono ?_
            rintro _ V7625 ⟨rfl, kk⟩
            have kV7625 : On W5 V7625 := kV762.trans kk
            have szV7625 := kk.size
            refine hK.out _ _ (fun _ => hS _ kV7625) ?_
            clear hK
            have B12V7625 := B12V762.on kk
            have B13V7625 := B13V762.on kk
            have hS8 := hS _ kV7625
            have x0 := B12V7625.at (i := 0) rfl
            have x1 := B12V7625.at (i := 1) rfl
            have x2 := B12V7625.at (i := 2) rfl
            have x3 := B12V7625.at (i := 3) rfl
            have x4 := B12V7625.at (i := 4) rfl
            have xf := fun i => B12V7625.fr i
            have xl := B12V7625.lt
            have y0 := B13V7625.at (i := 0) rfl
            have y1 := B13V7625.at (i := 1) rfl
            have y2 := B13V7625.at (i := 2) rfl
            have y3 := B13V7625.at (i := 3) rfl
            have y4 := B13V7625.at (i := 4) rfl
            have yf := fun i => B13V7625.fr i
            have yl := B13V7625.lt
            have hne : V7.heap.size ≠ V0.heap.size := by omega
            have hne' : V0.heap.size ≠ V7.heap.size := by omega
            have hN1 : W5.heap.size ≤ V7.heap.size := by omega
            have hN2 : W5.heap.size ≤ V0.heap.size := by omega
            refine fz_one 8 rfl rfl (by kernel_rfl) (fun K hK => ?_)
            go_simp
            refine hK.out _ _ (fun h => absurd (by decide) h) ?_
            clear hK
            refine fz_one 9 rfl rfl (by kernel_rfl) (fun K hK => ?_)
            go_simp
            refine hK.out _ _ (fun h => absurd (by decide) h) ?_
            clear hK
            refine fz_done (by kernel_rfl) (NoPanic.normal ?_)
            go_wp2
            go_meet
            case rel => exact ⟨V7.heap.size, V0.heap.size, rfl, rfl, hN1, hN2, hne, (by show On W5 _; repeat' (first | with_reducible refine On.setNew ?_ (by omega) _ | with_reducible exact kV7625)), (B12V7625.set5 _ _ _ _ _).far5 hne' _ _ _ _ _, (B13V7625.far5 hne _ _ _ _ _).set5 _ _ _ _ _⟩
      case rest =>
        obtain ⟨N1, N2, rfl, rfl, hN1, hN2, hne, kC, BX, BY⟩ := hcut
        have hqL := fun W => eqLoc_same W g0 g1 g2 g3 g4
        have ex0 := BX.at (i := 0) rfl
        have ex1 := BX.at (i := 1) rfl
        have ex2 := BX.at (i := 2) rfl
        have ex3 := BX.at (i := 3) rfl
        have ex4 := BX.at (i := 4) rfl
        have ey0 := BY.at (i := 0) rfl
        have ey1 := BY.at (i := 1) rfl
        have ey2 := BY.at (i := 2) rfl
        have ey3 := BY.at (i := 3) rfl
        have ey4 := BY.at (i := 4) rfl
        have exl := BX.lt
        have eyl := BY.lt
        go_wp2
        clear ex0 ex1 ex2 ex3 ex4 ey0 ey1 ey2 ey3 ey4 exl eyl hqL
        go_loopg [14] 12 (fun gg s14 wl => ∃ (i : Nat) (g0 g1 g2 g3 g4 : Int), i ≤ 12 ∧ gg = 12 - i ∧ s14 = .int .i64 i ∧ Hid (On W5 wl) ∧ Bk wl N1 #[.int .i64 g0, .int .i64 g1, .int .i64 g2, .int .i64 g3, .int .i64 g4] ∧ Bk wl N2 #[.int .i64 g0, .int .i64 g1, .int .i64 g2, .int .i64 g3, .int .i64 g4])
        case atStart => exact ⟨0, g0, g1, g2, g3, g4, by omega, rfl, rfl, kC, BX, BY⟩
        case round =>
          clear BX BY kC hSt1 hSt2
          obtain ⟨i, g0, g1, g2, g3, g4, hi, hki, rfl, HL, BX, BY⟩ := hrel
          rcases Nat.lt_or_ge i 12 with hlt | hge
          · have hNa := fun W (k : On W5 W) => hNxA ⟨g0, g1, g2, g3, g4⟩ W (k45.trans k)
            have hNb := fun W (k : On W5 W) => hNxB ⟨g0, g1, g2, g3, g4⟩ W (k45.trans k)
            have hFa := fun rv W (k : On W5 W) => hAfA ⟨g0, g1, g2, g3, g4⟩ rv W (k45.trans k)
            have hFb := fun rv W (k : On W5 W) => hAfB ⟨g0, g1, g2, g3, g4⟩ rv W (k45.trans k)
            generalize nextP TH ⟨g0, g1, g2, g3, g4⟩ = o at *
            unfold nextV at hNa hNb
            generalize o.getD insZ = x at *
            generalize o.isSome = b at *
            unfold insV locV at hNa hNb
            unfold locV at hFa hFb
            simp only at hNa hNb hFa hFb
            have hE := fun W => eqIns_same W x.k x.r x.l x.a.r x.a.v x.o x.b.r x.b.v x.n
            have hbb : (b != b) = false := bne_self_eq_false b
            clear hNxA hNxB
            have P6 := PB5.on HL.out
            have pp0 := P6.at (i := 0) rfl
            have pp1 := P6.at (i := 1) rfl
            have pp2 := P6.at (i := 2) rfl
            have ex0 := BX.at (i := 0) rfl
            have ex1 := BX.at (i := 1) rfl
            have ex2 := BX.at (i := 2) rfl
            have ex3 := BX.at (i := 3) rfl
            have ex4 := BX.at (i := 4) rfl
            have ppl := P6.lt
            have exl := BX.lt
            go_wp2_with fail
            refine (hNa _ HL.out).mono ?_
            rintro _ w6 ⟨rfl, k6⟩
            have kw6 : On W5 w6 := HL.out.trans k6
            clear pp0 pp1 pp2 ex0 ex1 ex2 ex3 ex4 ppl exl P6
            have P7 := PB5.on kw6
            have Y7 := BY.on k6
            have pp0 := P7.at (i := 0) rfl
            have pp1 := P7.at (i := 1) rfl
            have pp2 := P7.at (i := 2) rfl
            have ey0 := Y7.at (i := 0) rfl
            have ey1 := Y7.at (i := 1) rfl
            have ey2 := Y7.at (i := 2) rfl
            have ey3 := Y7.at (i := 3) rfl
            have ey4 := Y7.at (i := 4) rfl
            have ppl := P7.lt
            have eyl := Y7.lt
            go_wp2_with fail
            refine (hNb _ (kw6.alloc _)).mono ?_
            rintro _ w7 ⟨rfl, k7⟩
            have kw7 : On W5 w7 := (kw6.alloc _).trans k7
            have k67 : On w6 w7 := ((On.refl w6).alloc _).trans k7
            have A8 := (Bk.new w6 #[.int .i64 x.k, .int .i64 x.r, .int .i64 x.l, .int .i64 x.a.r, .int .i64 x.a.v, .int .i64 x.o, .int .i64 x.b.r, .int .i64 x.b.v, .int .i64 x.n] 53).on k7
            have aa0 := A8.at (i := 0) rfl
            have aa1 := A8.at (i := 1) rfl
            have aa2 := A8.at (i := 2) rfl
            have aa3 := A8.at (i := 3) rfl
            have aa4 := A8.at (i := 4) rfl
            have aa5 := A8.at (i := 5) rfl
            have aa6 := A8.at (i := 6) rfl
            have aa7 := A8.at (i := 7) rfl
            have aa8 := A8.at (i := 8) rfl
            have aal := A8.lt
            clear pp0 pp1 pp2 ey0 ey1 ey2 ey3 ey4 ppl eyl P7 Y7
            obtain ⟨W8, hW8⟩ : ∃ W8, W8 = w7.alloc (.cells #[.int .i64 x.k, .int .i64 x.r, .int .i64 x.l, .int .i64 x.a.r, .int .i64 x.a.v, .int .i64 x.o, .int .i64 x.b.r, .int .i64 x.b.v, .int .i64 x.n] 53) := ⟨_, rfl⟩
            have k78 : On w7 W8 := by rw [hW8]; exact (On.refl w7).alloc _
            have kw8 : On W5 W8 := kw7.trans k78
            have kL8 : On wr W8 := k6.trans (k67.trans k78)
            have X8 := BX.on kL8
            have Y8 := BY.on kL8
            have P8 := PB5.on kw8
            have hS17 : ∀ W, On W8 W → W.cell? ⟨w4.heap.size, 0, none⟩ = some (.slice q0 l0 r0) ∧ W.cell? ⟨w4.heap.size, 1, none⟩ = some (.slice q1 l1 r1) ∧ W.cell? ⟨w4.heap.size, 2, none⟩ = some (.slice q2 l2 r2) ∧ W.cell? ⟨N1, 0, none⟩ = some (.int .i64 g0) ∧ W.cell? ⟨N1, 1, none⟩ = some (.int .i64 g1) ∧ W.cell? ⟨N1, 2, none⟩ = some (.int .i64 g2) ∧ W.cell? ⟨N1, 3, none⟩ = some (.int .i64 g3) ∧ W.cell? ⟨N1, 4, none⟩ = some (.int .i64 g4) ∧ W.cell? ⟨N2, 0, none⟩ = some (.int .i64 g0) ∧ W.cell? ⟨N2, 1, none⟩ = some (.int .i64 g1) ∧ W.cell? ⟨N2, 2, none⟩ = some (.int .i64 g2) ∧ W.cell? ⟨N2, 3, none⟩ = some (.int .i64 g3) ∧ W.cell? ⟨N2, 4, none⟩ = some (.int .i64 g4) := fun W k => ⟨(P8.on k).at (i := 0) rfl, (P8.on k).at (i := 1) rfl, (P8.on k).at (i := 2) rfl, (X8.on k).at (i := 0) rfl, (X8.on k).at (i := 1) rfl, (X8.on k).at (i := 2) rfl, (X8.on k).at (i := 3) rfl, (X8.on k).at (i := 4) rfl, (Y8.on k).at (i := 0) rfl, (Y8.on k).at (i := 1) rfl, (Y8.on k).at (i := 2) rfl, (Y8.on k).at (i := 3) rfl, (Y8.on k).at (i := 4) rfl⟩
            have qS17 := hS17 _ (On.refl W8).drew
            rcases Nat.lt_or_ge i vs.length with hiv | hiv
            · obtain ⟨vv, hvv⟩ : ∃ vv, vs[i]? = some vv := ⟨_, List.getElem?_eq_getElem hiv⟩
              obtain ⟨gv, ov, rfl, hgv, uv⟩ := (HV.out.on (KW5.trans kw7)).at hvv
              have hvc := uv 0 _ rfl
              simp only [Nat.mul_one, Nat.add_zero] at hvc
              have hiv2 : decide (i < vs.length) = true := decide_eq_true hiv
              have hFav := hFa vv
              have hFbv := hFb vv
              generalize afterP TH ⟨g0, g1, g2, g3, g4⟩ vv = j at *
              obtain ⟨j0, j1, j2, j3, j4⟩ := j
              simp only at hFav hFbv
              clear hFa hFb uv hvv
              go_wp2
              rw [← hW8]
              clear hW8 aa0 aa1 aa2 aa3 aa4 aa5 aa6 aa7 aa8 aal
              refine region_fz (fun W => W.cell? ⟨w4.heap.size, 0, none⟩ = some (.slice q0 l0 r0) ∧ W.cell? ⟨w4.heap.size, 1, none⟩ = some (.slice q1 l1 r1) ∧ W.cell? ⟨w4.heap.size, 2, none⟩ = some (.slice q2 l2 r2) ∧ W.cell? ⟨N1, 0, none⟩ = some (.int .i64 g0) ∧ W.cell? ⟨N1, 1, none⟩ = some (.int .i64 g1) ∧ W.cell? ⟨N1, 2, none⟩ = some (.int .i64 g2) ∧ W.cell? ⟨N1, 3, none⟩ = some (.int .i64 g3) ∧ W.cell? ⟨N1, 4, none⟩ = some (.int .i64 g4) ∧ W.cell? ⟨N2, 0, none⟩ = some (.int .i64 g0) ∧ W.cell? ⟨N2, 1, none⟩ = some (.int .i64 g1) ∧ W.cell? ⟨N2, 2, none⟩ = some (.int .i64 g2) ∧ W.cell? ⟨N2, 3, none⟩ = some (.int .i64 g3) ∧ W.cell? ⟨N2, 4, none⟩ = some (.int .i64 g4)) [10, 11] 12 (by kernel_rfl) rfl ?_
              refine fz_take 0 (v := ?_) rfl (by kernel_rfl) (by kernel_rfl) (by kernel_rfl) (by kernel_rfl) (fun _ _ _ h => h) rfl ?_ qS17 ?_
              rotate_left
              · intro W hW
                go_simp
                (try with_reducible rfl)
              simp only [Act.put, List.setIfInBounds_toArray, List.set_cons_zero, List.set_cons_succ]
              refine fz_take 1 (v := ?_) rfl (by kernel_rfl) (by kernel_rfl) (by kernel_rfl) (by kernel_rfl) (fun _ _ _ h => h) rfl ?_ qS17 ?_
              rotate_left
              · intro W hW
                go_simp
                (try with_reducible rfl)
              simp only [Act.put, List.setIfInBounds_toArray, List.set_cons_zero, List.set_cons_succ]
              refine fz_take 2 (v := ?_) rfl (by kernel_rfl) (by kernel_rfl) (by kernel_rfl) (by kernel_rfl) (fun _ _ _ h => h) rfl ?_ qS17 ?_
              rotate_left
              · intro W hW
                go_simp
                (try with_reducible rfl)
              simp only [Act.put, List.setIfInBounds_toArray, List.set_cons_zero, List.set_cons_succ]
              refine fz_take 3 (v := ?_) rfl (by kernel_rfl) (by kernel_rfl) (by kernel_rfl) (by kernel_rfl) (fun _ _ _ h => h) rfl ?_ qS17 ?_
              rotate_left
              · intro W hW
                go_simp
                (try with_reducible rfl)
              simp only [Act.put, List.setIfInBounds_toArray, List.set_cons_zero, List.set_cons_succ]
              refine fz_take 5 (v := ?_) rfl (by kernel_rfl) (by kernel_rfl) (by kernel_rfl) (by kernel_rfl) (fun _ _ _ h => h) rfl ?_ qS17 ?_
              rotate_left
              · intro W hW
                go_simp
                (try with_reducible rfl)
              simp only [Act.put, List.setIfInBounds_toArray, List.set_cons_zero, List.set_cons_succ]
              refine fz_take 6 (v := ?_) rfl (by kernel_rfl) (by kernel_rfl) (by kernel_rfl) (by kernel_rfl) (fun _ _ _ h => h) rfl ?_ qS17 ?_
              rotate_left
              · intro W hW
                go_simp
                (try with_reducible rfl)
              simp only [Act.put, List.setIfInBounds_toArray, List.set_cons_zero, List.set_cons_succ]
              refine fz_take 7 (v := ?_) rfl (by kernel_rfl) (by kernel_rfl) (by kernel_rfl) (by kernel_rfl) (fun _ _ _ h => h) rfl ?_ qS17 ?_
              rotate_left
              · intro W hW
                go_simp
                (try with_reducible rfl)
              simp only [Act.put, List.setIfInBounds_toArray, List.set_cons_zero, List.set_cons_succ]
              refine fz_take 8 (v := ?_) rfl (by kernel_rfl) (by kernel_rfl) (by kernel_rfl) (by kernel_rfl) (fun _ _ _ h => h) rfl ?_ qS17 ?_
              rotate_left
              · intro W hW
                go_simp
                (try with_reducible rfl)
              simp only [Act.put, List.setIfInBounds_toArray, List.set_cons_zero, List.set_cons_succ]
              refine fz_one 4 rfl rfl (by kernel_rfl) (fun K hK => ?_)
              go_simp
              refine (hFav _ kw8.drew).mono ?_
              rintro _ w9 ⟨rfl, k9⟩
              have k89 : On W8 w9 := (On.refl W8).drew.trans k9
              refine hK.out _ _ (fun _ => hS17 _ k89) ?_
              clear hK
              refine fz_one 9 rfl rfl (by kernel_rfl) (fun K hK => ?_)
              go_simp
              refine (hFbv _ (kw8.trans k89)).mono ?_
              rintro _ w10 ⟨rfl, k10⟩
              have k810 : On W8 w10 := k89.trans k10
              refine hK.out _ _ (fun _ => hS17 _ k810) ?_
              clear hK
              have X10 := X8.on k810
              have Y10 := Y8.on k810
              have ex0 := X10.at (i := 0) rfl
              have ex1 := X10.at (i := 1) rfl
              have ex2 := X10.at (i := 2) rfl
              have ex3 := X10.at (i := 3) rfl
              have ex4 := X10.at (i := 4) rfl
              have ey0 := Y10.at (i := 0) rfl
              have ey1 := Y10.at (i := 1) rfl
              have ey2 := Y10.at (i := 2) rfl
              have ey3 := Y10.at (i := 3) rfl
              have ey4 := Y10.at (i := 4) rfl
              have exf := fun i => X10.fr i
              have eyf := fun i => Y10.fr i
              have exl := X10.lt
              have eyl := Y10.lt
              have hne' : N2 ≠ N1 := fun h => hne h.symm
              refine fz_one 10 rfl rfl (by kernel_rfl) (fun K hK => ?_)
              go_simp
              refine hK.out _ _ (fun h => absurd (by decide) h) ?_
              clear hK
              refine fz_one 11 rfl rfl (by kernel_rfl) (fun K hK => ?_)
              go_simp
              refine hK.out _ _ (fun h => absurd (by decide) h) ?_
              clear hK
              refine fz_done (by kernel_rfl) (NoPanic.normal ?_)
              obtain ⟨W11, hW11⟩ : ∃ W11, W11 = ((((((((((w10.setCell ⟨N1, 0, none⟩ (.int .i64 j0)).setCell ⟨N1, 1, none⟩ (.int .i64 j1)).setCell ⟨N1, 2, none⟩ (.int .i64 j2)).setCell ⟨N1, 3, none⟩ (.int .i64 j3)).setCell ⟨N1, 4, none⟩ (.int .i64 j4)).setCell ⟨N2, 0, none⟩ (.int .i64 j0)).setCell ⟨N2, 1, none⟩ (.int .i64 j1)).setCell ⟨N2, 2, none⟩ (.int .i64 j2)).setCell ⟨N2, 3, none⟩ (.int .i64 j3)).setCell ⟨N2, 4, none⟩ (.int .i64 j4)) := ⟨_, rfl⟩
              have X11 : Bk W11 N1 #[.int .i64 j0, .int .i64 j1, .int .i64 j2, .int .i64 j3, .int .i64 j4] := by rw [hW11]; exact (X10.set5 _ _ _ _ _).far5 hne' _ _ _ _ _
              have Y11 : Bk W11 N2 #[.int .i64 j0, .int .i64 j1, .int .i64 j2, .int .i64 j3, .int .i64 j4] := by rw [hW11]; exact (Y10.far5 hne _ _ _ _ _).set5 _ _ _ _ _
              have kw11 : On W5 W11 := by
                rw [hW11]
                have kb := kw8.trans k810
                repeat' (first | with_reducible refine On.setNew ?_ (by omega) _ | with_reducible exact kb)
              rw [← hW11]
              clear hW11 ex0 ex1 ex2 ex3 ex4 ey0 ey1 ey2 ey3 ey4 exf eyf exl eyl qS17
              have hqJ := fun W => eqLoc_same W j0 j1 j2 j3 j4
              have ex0 := X11.at (i := 0) rfl
              have ex1 := X11.at (i := 1) rfl
              have ex2 := X11.at (i := 2) rfl
              have ex3 := X11.at (i := 3) rfl
              have ex4 := X11.at (i := 4) rfl
              have ey0 := Y11.at (i := 0) rfl
              have ey1 := Y11.at (i := 1) rfl
              have ey2 := Y11.at (i := 2) rfl
              have ey3 := Y11.at (i := 3) rfl
              have ey4 := Y11.at (i := 4) rfl
              have exl := X11.lt
              have eyl := Y11.lt
              go_wp2
              go_roundg (12 - (i + 1))
              case measure => omega
              case rel => exact ⟨i + 1, j0, j1, j2, j3, j4, by omega, rfl, by go_num, kw11, X11, Y11⟩
            · have hiv2 : ¬ i < vs.length := by omega
              have hFav := hFa 0
              have hFbv := hFb 0
              generalize afterP TH ⟨g0, g1, g2, g3, g4⟩ 0 = j at *
              obtain ⟨j0, j1, j2, j3, j4⟩ := j
              simp only at hFav hFbv
              clear hFa hFb
              go_wp2
              rw [← hW8]
              clear hW8 aa0 aa1 aa2 aa3 aa4 aa5 aa6 aa7 aa8 aal
              refine region_fz (fun W => W.cell? ⟨w4.heap.size, 0, none⟩ = some (.slice q0 l0 r0) ∧ W.cell? ⟨w4.heap.size, 1, none⟩ = some (.slice q1 l1 r1) ∧ W.cell? ⟨w4.heap.size, 2, none⟩ = some (.slice q2 l2 r2) ∧ W.cell? ⟨N1, 0, none⟩ = some (.int .i64 g0) ∧ W.cell? ⟨N1, 1, none⟩ = some (.int .i64 g1) ∧ W.cell? ⟨N1, 2, none⟩ = some (.int .i64 g2) ∧ W.cell? ⟨N1, 3, none⟩ = some (.int .i64 g3) ∧ W.cell? ⟨N1, 4, none⟩ = some (.int .i64 g4) ∧ W.cell? ⟨N2, 0, none⟩ = some (.int .i64 g0) ∧ W.cell? ⟨N2, 1, none⟩ = some (.int .i64 g1) ∧ W.cell? ⟨N2, 2, none⟩ = some (.int .i64 g2) ∧ W.cell? ⟨N2, 3, none⟩ = some (.int .i64 g3) ∧ W.cell? ⟨N2, 4, none⟩ = some (.int .i64 g4)) [10, 11] 12 (by kernel_rfl) rfl ?_
              refine fz_take 0 (v := ?_) rfl (by kernel_rfl) (by kernel_rfl) (by kernel_rfl) (by kernel_rfl) (fun _ _ _ h => h) rfl ?_ qS17 ?_
              rotate_left
              · intro W hW
                go_simp
                (try with_reducible rfl)
              simp only [Act.put, List.setIfInBounds_toArray, List.set_cons_zero, List.set_cons_succ]
              refine fz_take 1 (v := ?_) rfl (by kernel_rfl) (by kernel_rfl) (by kernel_rfl) (by kernel_rfl) (fun _ _ _ h => h) rfl ?_ qS17 ?_
              rotate_left
              · intro W hW
                go_simp
                (try with_reducible rfl)
              simp only [Act.put, List.setIfInBounds_toArray, List.set_cons_zero, List.set_cons_succ]
              refine fz_take 2 (v := ?_) rfl (by kernel_rfl) (by kernel_rfl) (by kernel_rfl) (by kernel_rfl) (fun _ _ _ h => h) rfl ?_ qS17 ?_
              rotate_left
              · intro W hW
                go_simp
                (try with_reducible rfl)
              simp only [Act.put, List.setIfInBounds_toArray, List.set_cons_zero, List.set_cons_succ]
              refine fz_take 3 (v := ?_) rfl (by kernel_rfl) (by kernel_rfl) (by kernel_rfl) (by kernel_rfl) (fun _ _ _ h => h) rfl ?_ qS17 ?_
              rotate_left
              · intro W hW
                go_simp
                (try with_reducible rfl)
              simp only [Act.put, List.setIfInBounds_toArray, List.set_cons_zero, List.set_cons_succ]
              refine fz_take 5 (v := ?_) rfl (by kernel_rfl) (by kernel_rfl) (by kernel_rfl) (by kernel_rfl) (fun _ _ _ h => h) rfl ?_ qS17 ?_
              rotate_left
              · intro W hW
                go_simp
                (try with_reducible rfl)
              simp only [Act.put, List.setIfInBounds_toArray, List.set_cons_zero, List.set_cons_succ]
              refine fz_take 6 (v := ?_) rfl (by kernel_rfl) (by kernel_rfl) (by kernel_rfl) (by kernel_rfl) (fun _ _ _ h => h) rfl ?_ qS17 ?_
              rotate_left
              · intro W hW
                go_simp
                (try with_reducible rfl)
              simp only [Act.put, List.setIfInBounds_toArray, List.set_cons_zero, List.set_cons_succ]
              refine fz_take 7 (v := ?_) rfl (by kernel_rfl) (by kernel_rfl) (by kernel_rfl) (by kernel_rfl) (fun _ _ _ h => h) rfl ?_ qS17 ?_
              rotate_left
              · intro W hW
                go_simp
                (try with_reducible rfl)
              simp only [Act.put, List.setIfInBounds_toArray, List.set_cons_zero, List.set_cons_succ]
              refine fz_take 8 (v := ?_) rfl (by kernel_rfl) (by kernel_rfl) (by kernel_rfl) (by kernel_rfl) (fun _ _ _ h => h) rfl ?_ qS17 ?_
              rotate_left
              · intro W hW
                go_simp
                (try with_reducible rfl)
              simp only [Act.put, List.setIfInBounds_toArray, List.set_cons_zero, List.set_cons_succ]
              refine fz_one 4 rfl rfl (by kernel_rfl) (fun K hK => ?_)
              go_simp
              refine (hFav _ kw8.drew).mono ?_
              rintro _ w9 ⟨rfl, k9⟩
              have k89 : On W8 w9 := (On.refl W8).drew.trans k9
              refine hK.out _ _ (fun _ => hS17 _ k89) ?_
              clear hK
              refine fz_one 9 rfl rfl (by kernel_rfl) (fun K hK => ?_)
              go_simp
              refine (hFbv _ (kw8.trans k89)).mono ?_
              rintro _ w10 ⟨rfl, k10⟩
              have k810 : On W8 w10 := k89.trans k10
              refine hK.out _ _ (fun _ => hS17 _ k810) ?_
              clear hK
              have X10 := X8.on k810
              have Y10 := Y8.on k810
              have ex0 := X10.at (i := 0) rfl
              have ex1 := X10.at (i := 1) rfl
              have ex2 := X10.at (i := 2) rfl
              have ex3 := X10.at (i := 3) rfl
              have ex4 := X10.at (i := 4) rfl
              have ey0 := Y10.at (i := 0) rfl
              have ey1 := Y10.at (i := 1) rfl
              have ey2 := Y10.at (i := 2) rfl
              have ey3 := Y10.at (i := 3) rfl
              have ey4 := Y10.at (i := 4) rfl
              have exf := fun i => X10.fr i
              have eyf := fun i => Y10.fr i
              have exl := X10.lt
              have eyl := Y10.lt
              have hne' : N2 ≠ N1 := fun h => hne h.symm
              refine fz_one 10 rfl rfl (by kernel_rfl) (fun K hK => ?_)
              go_simp
              refine hK.out _ _ (fun h => absurd (by decide) h) ?_
              clear hK
              refine fz_one 11 rfl rfl (by kernel_rfl) (fun K hK => ?_)
              go_simp
              refine hK.out _ _ (fun h => absurd (by decide) h) ?_
              clear hK
              refine fz_done (by kernel_rfl) (NoPanic.normal ?_)
              obtain ⟨W11, hW11⟩ : ∃ W11, W11 = ((((((((((w10.setCell ⟨N1, 0, none⟩ (.int .i64 j0)).setCell ⟨N1, 1, none⟩ (.int .i64 j1)).setCell ⟨N1, 2, none⟩ (.int .i64 j2)).setCell ⟨N1, 3, none⟩ (.int .i64 j3)).setCell ⟨N1, 4, none⟩ (.int .i64 j4)).setCell ⟨N2, 0, none⟩ (.int .i64 j0)).setCell ⟨N2, 1, none⟩ (.int .i64 j1)).setCell ⟨N2, 2, none⟩ (.int .i64 j2)).setCell ⟨N2, 3, none⟩ (.int .i64 j3)).setCell ⟨N2, 4, none⟩ (.int .i64 j4)) := ⟨_, rfl⟩
              have X11 : Bk W11 N1 #[.int .i64 j0, .int .i64 j1, .int .i64 j2, .int .i64 j3, .int .i64 j4] := by rw [hW11]; exact (X10.set5 _ _ _ _ _).far5 hne' _ _ _ _ _
              have Y11 : Bk W11 N2 #[.int .i64 j0, .int .i64 j1, .int .i64 j2, .int .i64 j3, .int .i64 j4] := by rw [hW11]; exact (Y10.far5 hne _ _ _ _ _).set5 _ _ _ _ _
              have kw11 : On W5 W11 := by
                rw [hW11]
                have kb := kw8.trans k810
                repeat' (first | with_reducible refine On.setNew ?_ (by omega) _ | with_reducible exact kb)
              rw [← hW11]
              clear hW11 ex0 ex1 ex2 ex3 ex4 ey0 ey1 ey2 ey3 ey4 exf eyf exl eyl qS17
              have hqJ := fun W => eqLoc_same W j0 j1 j2 j3 j4
              have ex0 := X11.at (i := 0) rfl
              have ex1 := X11.at (i := 1) rfl
              have ex2 := X11.at (i := 2) rfl
              have ex3 := X11.at (i := 3) rfl
              have ex4 := X11.at (i := 4) rfl
              have ey0 := Y11.at (i := 0) rfl
              have ey1 := Y11.at (i := 1) rfl
              have ey2 := Y11.at (i := 2) rfl
              have ey3 := Y11.at (i := 3) rfl
              have ey4 := Y11.at (i := 4) rfl
              have exl := X11.lt
              have eyl := Y11.lt
              go_wp2
              go_roundg (12 - (i + 1))
              case measure => omega
              case rel => exact ⟨i + 1, j0, j1, j2, j3, j4, by omega, rfl, by go_num, kw11, X11, Y11⟩
          · have hi12 : ¬ i < 12 := by omega
            have hNa := fun W (k : On W5 W) => hNxA ⟨p0, p1, p2, p3, p4⟩ W (k45.trans k)
            have hNb := fun W (k : On W5 W) => hNxB ⟨p0, p1, p2, p3, p4⟩ W (k45.trans k)
            generalize nextP TH ⟨p0, p1, p2, p3, p4⟩ = o at *
            unfold nextV at hNa hNb
            generalize o.getD insZ = x at *
            generalize o.isSome = b at *
            unfold insV locV at hNa hNb
            simp only at hNa hNb
            have hE := fun W => eqIns_same W x.k x.r x.l x.a.r x.a.v x.o x.b.r x.b.v x.n
            have hbb : (b == b) = true := beq_self_eq_true b
            have hV9 := fun W => pvalue_is ⟨-1, 9⟩ ⟨p0, p1, p2, p3, p4⟩ W
            rw [show valOf ⟨-1, 9⟩ ⟨p0, p1, p2, p3, p4⟩ = 9 from rfl] at hV9
            unfold locV at hV9
            simp only at hV9
            clear hNxA hNxB hAfA hAfB
            have P6 := PB5.on HL.out
            have R6 := R5.on HL.out
            have pp0 := P6.at (i := 0) rfl
            have pp1 := P6.at (i := 1) rfl
            have pp2 := P6.at (i := 2) rfl
            have rr0 := R6.at (i := 0) rfl
            have rr1 := R6.at (i := 1) rfl
            have rr2 := R6.at (i := 2) rfl
            have rr3 := R6.at (i := 3) rfl
            have rr4 := R6.at (i := 4) rfl
            have ppl := P6.lt
            have rrl := R6.lt
            go_wp2_with fail
            refine (hNa _ HL.out).mono ?_
            rintro _ w6 ⟨rfl, k6⟩
            have kw6 : On W5 w6 := HL.out.trans k6
            clear pp0 pp1 pp2 rr0 rr1 rr2 rr3 rr4 ppl rrl P6 R6
            have P7 := PB5.on kw6
            have R7 := R5.on kw6
            have pp0 := P7.at (i := 0) rfl
            have pp1 := P7.at (i := 1) rfl
            have pp2 := P7.at (i := 2) rfl
            have rr0 := R7.at (i := 0) rfl
            have rr1 := R7.at (i := 1) rfl
            have rr2 := R7.at (i := 2) rfl
            have rr3 := R7.at (i := 3) rfl
            have rr4 := R7.at (i := 4) rfl
            have ppl := P7.lt
            have rrl := R7.lt
            go_wp2_with fail
            refine (hNb _ (kw6.alloc _)).mono ?_
            rintro _ w7 ⟨rfl, k7⟩
            have kw7 : On W5 w7 := (kw6.alloc _).trans k7
            have A8 := (Bk.new w6 #[.int .i64 x.k, .int .i64 x.r, .int .i64 x.l, .int .i64 x.a.r, .int .i64 x.a.v, .int .i64 x.o, .int .i64 x.b.r, .int .i64 x.b.v, .int .i64 x.n] 53).on k7
            have R8 := R5.on kw7
            clear pp0 pp1 pp2 rr0 rr1 rr2 rr3 rr4 ppl rrl P7 R7
            obtain hth | hth | hth | hth : bits .and .i64 th 3 = 0 ∨ bits .and .i64 th 3 = 1 ∨ bits .and .i64 th 3 = 2 ∨ bits .and .i64 th 3 = 3 := by
              obtain ⟨q, hq, hqe⟩ := low2 th
              rw [hqe]
              omega
            · obtain ⟨W9, hW9⟩ : ∃ W9, W9 = (w7.alloc (.cells #[.int .i64 x.k, .int .i64 x.r, .int .i64 x.l, .int .i64 x.a.r, .int .i64 x.a.v, .int .i64 x.o, .int .i64 x.b.r, .int .i64 x.b.v, .int .i64 x.n] 53)).alloc (.cells #[.int .i64 0, .int .i64 0] 51) := ⟨_, rfl⟩
              have A9 : Bk W9 w6.heap.size #[.int .i64 x.k, .int .i64 x.r, .int .i64 x.l, .int .i64 x.a.r, .int .i64 x.a.v, .int .i64 x.o, .int .i64 x.b.r, .int .i64 x.b.v, .int .i64 x.n] := by rw [hW9]; exact (A8.alloc _).alloc _
              have B9 : Bk W9 w7.heap.size #[.int .i64 x.k, .int .i64 x.r, .int .i64 x.l, .int .i64 x.a.r, .int .i64 x.a.v, .int .i64 x.o, .int .i64 x.b.r, .int .i64 x.b.v, .int .i64 x.n] := by rw [hW9]; exact (Bk.new w7 _ _).alloc _
              have O9 : Bk W9 (w7.heap.size + 1) #[.int .i64 0, .int .i64 0] := by
                rw [hW9]
                have := Bk.new (w7.alloc (.cells #[.int .i64 x.k, .int .i64 x.r, .int .i64 x.l, .int .i64 x.a.r, .int .i64 x.a.v, .int .i64 x.o, .int .i64 x.b.r, .int .i64 x.b.v, .int .i64 x.n] 53)) #[.int .i64 0, .int .i64 0] 51
                rwa [World.size_alloc] at this
              have R9 : Bk W9 (w.heap.size + 1) #[.int .i64 p0, .int .i64 p1, .int .i64 p2, .int .i64 p3, .int .i64 p4] := by rw [hW9]; exact (R8.alloc _).alloc _
              have k79 : On w7 W9 := by rw [hW9]; exact ((On.refl w7).alloc _).alloc _
              have kw9 : On W5 W9 := kw7.trans k79
              have hS23 : ∀ W, On W9 W → W.cell? ⟨w6.heap.size, 0, none⟩ = some (.int .i64 x.k) ∧ W.cell? ⟨w6.heap.size, 1, none⟩ = some (.int .i64 x.r) ∧ W.cell? ⟨w6.heap.size, 2, none⟩ = some (.int .i64 x.l) ∧ W.cell? ⟨w6.heap.size, 3, none⟩ = some (.int .i64 x.a.r) ∧ W.cell? ⟨w6.heap.size, 4, none⟩ = some (.int .i64 x.a.v) ∧ W.cell? ⟨w6.heap.size, 5, none⟩ = some (.int .i64 x.o) ∧ W.cell? ⟨w6.heap.size, 6, none⟩ = some (.int .i64 x.b.r) ∧ W.cell? ⟨w6.heap.size, 7, none⟩ = some (.int .i64 x.b.v) ∧ W.cell? ⟨w6.heap.size, 8, none⟩ = some (.int .i64 x.n) ∧ W.cell? ⟨w7.heap.size, 0, none⟩ = some (.int .i64 x.k) ∧ W.cell? ⟨w7.heap.size, 1, none⟩ = some (.int .i64 x.r) ∧ W.cell? ⟨w7.heap.size, 2, none⟩ = some (.int .i64 x.l) ∧ W.cell? ⟨w7.heap.size, 3, none⟩ = some (.int .i64 x.a.r) ∧ W.cell? ⟨w7.heap.size, 4, none⟩ = some (.int .i64 x.a.v) ∧ W.cell? ⟨w7.heap.size, 5, none⟩ = some (.int .i64 x.o) ∧ W.cell? ⟨w7.heap.size, 6, none⟩ = some (.int .i64 x.b.r) ∧ W.cell? ⟨w7.heap.size, 7, none⟩ = some (.int .i64 x.b.v) ∧ W.cell? ⟨w7.heap.size, 8, none⟩ = some (.int .i64 x.n) ∧ W.cell? ⟨w7.heap.size + 1, 0, none⟩ = some (.int .i64 0) ∧ W.cell? ⟨w7.heap.size + 1, 1, none⟩ = some (.int .i64 0) ∧ W.cell? ⟨w.heap.size + 1, 0, none⟩ = some (.int .i64 p0) ∧ W.cell? ⟨w.heap.size + 1, 1, none⟩ = some (.int .i64 p1) ∧ W.cell? ⟨w.heap.size + 1, 2, none⟩ = some (.int .i64 p2) ∧ W.cell? ⟨w.heap.size + 1, 3, none⟩ = some (.int .i64 p3) ∧ W.cell? ⟨w.heap.size + 1, 4, none⟩ = some (.int .i64 p4) := fun W k => ⟨(A9.on k).at (i := 0) rfl, (A9.on k).at (i := 1) rfl, (A9.on k).at (i := 2) rfl, (A9.on k).at (i := 3) rfl, (A9.on k).at (i := 4) rfl, (A9.on k).at (i := 5) rfl, (A9.on k).at (i := 6) rfl, (A9.on k).at (i := 7) rfl, (A9.on k).at (i := 8) rfl, (B9.on k).at (i := 0) rfl, (B9.on k).at (i := 1) rfl, (B9.on k).at (i := 2) rfl, (B9.on k).at (i := 3) rfl, (B9.on k).at (i := 4) rfl, (B9.on k).at (i := 5) rfl, (B9.on k).at (i := 6) rfl, (B9.on k).at (i := 7) rfl, (B9.on k).at (i := 8) rfl, (O9.on k).at (i := 0) rfl, (O9.on k).at (i := 1) rfl, (R9.on k).at (i := 0) rfl, (R9.on k).at (i := 1) rfl, (R9.on k).at (i := 2) rfl, (R9.on k).at (i := 3) rfl, (R9.on k).at (i := 4) rfl⟩
              have q9 := hS23 _ (On.refl W9).drew
              have hVq := fun W => pvalue_is ⟨0, 0⟩ ⟨p0, p1, p2, p3, p4⟩ W
              rw [show valOf ⟨0, 0⟩ ⟨p0, p1, p2, p3, p4⟩ = p1 from rfl] at hVq
              unfold locV at hVq
              simp only at hVq
              go_wp2
              rw [← hW9]
              clear hW9
              refine region_fin (fun W => W.cell? ⟨w6.heap.size, 0, none⟩ = some (.int .i64 x.k) ∧ W.cell? ⟨w6.heap.size, 1, none⟩ = some (.int .i64 x.r) ∧ W.cell? ⟨w6.heap.size, 2, none⟩ = some (.int .i64 x.l) ∧ W.cell? ⟨w6.heap.size, 3, none⟩ = some (.int .i64 x.a.r) ∧ W.cell? ⟨w6.heap.size, 4, none⟩ = some (.int .i64 x.a.v) ∧ W.cell? ⟨w6.heap.size, 5, none⟩ = some (.int .i64 x.o) ∧ W.cell? ⟨w6.heap.size, 6, none⟩ = some (.int .i64 x.b.r) ∧ W.cell? ⟨w6.heap.size, 7, none⟩ = some (.int .i64 x.b.v) ∧ W.cell? ⟨w6.heap.size, 8, none⟩ = some (.int .i64 x.n) ∧ W.cell? ⟨w7.heap.size, 0, none⟩ = some (.int .i64 x.k) ∧ W.cell? ⟨w7.heap.size, 1, none⟩ = some (.int .i64 x.r) ∧ W.cell? ⟨w7.heap.size, 2, none⟩ = some (.int .i64 x.l) ∧ W.cell? ⟨w7.heap.size, 3, none⟩ = some (.int .i64 x.a.r) ∧ W.cell? ⟨w7.heap.size, 4, none⟩ = some (.int .i64 x.a.v) ∧ W.cell? ⟨w7.heap.size, 5, none⟩ = some (.int .i64 x.o) ∧ W.cell? ⟨w7.heap.size, 6, none⟩ = some (.int .i64 x.b.r) ∧ W.cell? ⟨w7.heap.size, 7, none⟩ = some (.int .i64 x.b.v) ∧ W.cell? ⟨w7.heap.size, 8, none⟩ = some (.int .i64 x.n) ∧ W.cell? ⟨w7.heap.size + 1, 0, none⟩ = some (.int .i64 0) ∧ W.cell? ⟨w7.heap.size + 1, 1, none⟩ = some (.int .i64 0) ∧ W.cell? ⟨w.heap.size + 1, 0, none⟩ = some (.int .i64 p0) ∧ W.cell? ⟨w.heap.size + 1, 1, none⟩ = some (.int .i64 p1) ∧ W.cell? ⟨w.heap.size + 1, 2, none⟩ = some (.int .i64 p2) ∧ W.cell? ⟨w.heap.size + 1, 3, none⟩ = some (.int .i64 p3) ∧ W.cell? ⟨w.heap.size + 1, 4, none⟩ = some (.int .i64 p4)) 99 29 (by kernel_rfl) rfl ?_
              refine fin_take 0 (v := ?_) rfl (by kernel_rfl) (by kernel_rfl) (by kernel_rfl) (by kernel_rfl) (fun _ _ _ h => h) rfl ?_ q9 ?_
              rotate_left
              · intro W hW
                go_simp
                (try with_reducible rfl)
              simp only [Act.put, List.setIfInBounds_toArray, List.set_cons_zero, List.set_cons_succ]
              refine fin_take 1 (v := ?_) rfl (by kernel_rfl) (by kernel_rfl) (by kernel_rfl) (by kernel_rfl) (fun _ _ _ h => h) rfl ?_ q9 ?_
              rotate_left
              · intro W hW
                go_simp
                (try with_reducible rfl)
              simp only [Act.put, List.setIfInBounds_toArray, List.set_cons_zero, List.set_cons_succ]
              refine fin_take 2 (v := ?_) rfl (by kernel_rfl) (by kernel_rfl) (by kernel_rfl) (by kernel_rfl) (fun _ _ _ h => h) rfl ?_ q9 ?_
              rotate_left
              · intro W hW
                go_simp
                (try with_reducible rfl)
              simp only [Act.put, List.setIfInBounds_toArray, List.set_cons_zero, List.set_cons_succ]
              refine fin_take 3 (v := ?_) rfl (by kernel_rfl) (by kernel_rfl) (by kernel_rfl) (by kernel_rfl) (fun _ _ _ h => h) rfl ?_ q9 ?_
              rotate_left
              · intro W hW
                go_simp
                (try with_reducible rfl)
              simp only [Act.put, List.setIfInBounds_toArray, List.set_cons_zero, List.set_cons_succ]
              refine fin_takeG 4 (v := ?_) rfl (by kernel_rfl) (by kernel_rfl) (by kernel_rfl) (by kernel_rfl) (fun _ _ _ h => h) (by rfl) ?_ q9 ?_
              rotate_left
              · intro W hW
                go_simp
                (try with_reducible rfl)
              simp only [Act.put, List.setIfInBounds_toArray, List.set_cons_zero, List.set_cons_succ]
              refine fin_takeG 5 (v := ?_) rfl (by kernel_rfl) (by kernel_rfl) (by kernel_rfl) (by kernel_rfl) (fun _ _ _ h => h) (by rfl) ?_ q9 ?_
              rotate_left
              · intro W hW
                go_simp
                (try with_reducible rfl)
              simp only [Act.put, List.setIfInBounds_toArray, List.set_cons_zero, List.set_cons_succ]
              refine fin_takeG 6 (v := ?_) rfl (by kernel_rfl) (by kernel_rfl) (by kernel_rfl) (by kernel_rfl) (fun _ _ _ h => h) (by rfl) ?_ q9 ?_
              rotate_left
              · intro W hW
                go_simp
                (try with_reducible rfl)
              simp only [Act.put, List.setIfInBounds_toArray, List.set_cons_zero, List.set_cons_succ]
              refine fin_take 7 (v := ?_) rfl (by kernel_rfl) (by kernel_rfl) (by kernel_rfl) (by kernel_rfl) (fun _ _ _ h => h) rfl ?_ q9 ?_
              rotate_left
              · intro W hW
                go_simp
                (try with_reducible rfl)
              simp only [Act.put, List.setIfInBounds_toArray, List.set_cons_zero, List.set_cons_succ]
              refine fin_take 8 (v := ?_) rfl (by kernel_rfl) (by kernel_rfl) (by kernel_rfl) (by kernel_rfl) (fun _ _ _ h => h) rfl ?_ q9 ?_
              rotate_left
              · intro W hW
                go_simp
                (try with_reducible rfl)
              simp only [Act.put, List.setIfInBounds_toArray, List.set_cons_zero, List.set_cons_succ]
              refine fin_takeG 9 (v := ?_) rfl (by kernel_rfl) (by kernel_rfl) (by kernel_rfl) (by kernel_rfl) (fun _ _ _ h => h) (by rfl) ?_ q9 ?_
              rotate_left
              · intro W hW
                go_simp
                (try with_reducible rfl)
              simp only [Act.put, List.setIfInBounds_toArray, List.set_cons_zero, List.set_cons_succ]
              refine fin_takeG 10 (v := ?_) rfl (by kernel_rfl) (by kernel_rfl) (by kernel_rfl) (by kernel_rfl) (fun _ _ _ h => h) (by rfl) ?_ q9 ?_
              rotate_left
              · intro W hW
                go_simp
                (try with_reducible rfl)
              simp only [Act.put, List.setIfInBounds_toArray, List.set_cons_zero, List.set_cons_succ]
              refine fin_takeG 12 (v := ?_) rfl (by kernel_rfl) (by kernel_rfl) (by kernel_rfl) (by kernel_rfl) (fun _ _ _ h => h) (by rfl) ?_ q9 ?_
              rotate_left
              · intro W hW
                go_simp
                (try with_reducible rfl)
              simp only [Act.put, List.setIfInBounds_toArray, List.set_cons_zero, List.set_cons_succ]
              refine fin_takeG 13 (v := ?_) rfl (by kernel_rfl) (by kernel_rfl) (by kernel_rfl) (by kernel_rfl) (fun _ _ _ h => h) (by rfl) ?_ q9 ?_
              rotate_left
              · intro W hW
                go_simp
                (try with_reducible rfl)
              simp only [Act.put, List.setIfInBounds_toArray, List.set_cons_zero, List.set_cons_succ]
              refine fin_takeG 14 (v := ?_) rfl (by kernel_rfl) (by kernel_rfl) (by kernel_rfl) (by kernel_rfl) (fun _ _ _ h => h) (by rfl) ?_ q9 ?_
              rotate_left
              · intro W hW
                go_simp
                (try with_reducible rfl)
              simp only [Act.put, List.setIfInBounds_toArray, List.set_cons_zero, List.set_cons_succ]
              refine fin_takeG 15 (v := ?_) rfl (by kernel_rfl) (by kernel_rfl) (by kernel_rfl) (by kernel_rfl) (fun _ _ _ h => h) (by rfl) ?_ q9 ?_
              rotate_left
              · intro W hW
                go_simp
                (try with_reducible rfl)
              simp only [Act.put, List.setIfInBounds_toArray, List.set_cons_zero, List.set_cons_succ]
              refine fin_takeG 16 (v := ?_) rfl (by kernel_rfl) (by kernel_rfl) (by kernel_rfl) (by kernel_rfl) (fun _ _ _ h => h) (by rfl) ?_ q9 ?_
              rotate_left
              · intro W hW
                go_simp
                (try with_reducible rfl)
              simp only [Act.put, List.setIfInBounds_toArray, List.set_cons_zero, List.set_cons_succ]
              refine fin_oneG 11 rfl (by rfl) (by kernel_rfl) (fun K hK => ?_)
              go_simp
              refine (hVq _).mono ?_
              rintro _ w11 ⟨rfl, k11'⟩
              have k11 : On W9 w11 := (On.refl W9).drew.trans k11'
              have q11 := hS23 _ k11
              refine hK.out _ _ (fun _ => q11) ?_
              clear hK
              refine fin_takeG 17 (v := ?_) rfl (by kernel_rfl) (by kernel_rfl) (by kernel_rfl) (by kernel_rfl) (fun _ _ _ h => h) (by rfl) ?_ q11 ?_
              rotate_left
              · intro W hW
                go_simp
                (try with_reducible rfl)
              simp only [Act.put, List.setIfInBounds_toArray, List.set_cons_zero, List.set_cons_succ]
              refine fin_take 18 (v := ?_) rfl (by kernel_rfl) (by kernel_rfl) (by kernel_rfl) (by kernel_rfl) (fun _ _ _ h => h) rfl ?_ q11 ?_
              rotate_left
              · intro W hW
                go_simp
                (try with_reducible rfl)
              simp only [Act.put, List.setIfInBounds_toArray, List.set_cons_zero, List.set_cons_succ]
              refine fin_take 19 (v := ?_) rfl (by kernel_rfl) (by kernel_rfl) (by kernel_rfl) (by kernel_rfl) (fun _ _ _ h => h) rfl ?_ q11 ?_
              rotate_left
              · intro W hW
                go_simp
                (try with_reducible rfl)
              simp only [Act.put, List.setIfInBounds_toArray, List.set_cons_zero, List.set_cons_succ]
              refine fin_takeG 20 (v := ?_) rfl (by kernel_rfl) (by kernel_rfl) (by kernel_rfl) (by kernel_rfl) (fun _ _ _ h => h) (by rfl) ?_ q11 ?_
              rotate_left
              · intro W hW
                go_simp
                (try with_reducible rfl)
              simp only [Act.put, List.setIfInBounds_toArray, List.set_cons_zero, List.set_cons_succ]
              refine fin_takeG 21 (v := ?_) rfl (by kernel_rfl) (by kernel_rfl) (by kernel_rfl) (by kernel_rfl) (fun _ _ _ h => h) (by rfl) ?_ q11 ?_
              rotate_left
              · intro W hW
                go_simp
                (try with_reducible rfl)
              simp only [Act.put, List.setIfInBounds_toArray, List.set_cons_zero, List.set_cons_succ]
              refine fin_oneG 22 rfl (by rfl) (by kernel_rfl) (fun K hK => ?_)
              go_simp
              refine (hV9 _).mono ?_
              rintro _ w12 ⟨rfl, k12'⟩
              have k12 : On W9 w12 := k11.trans k12'
              have q12 := hS23 _ k12
              refine hK.out _ _ (fun _ => q12) ?_
              clear hK
              refine fin_takeG 23 (v := ?_) rfl (by kernel_rfl) (by kernel_rfl) (by kernel_rfl) (by kernel_rfl) (fun _ _ _ h => h) (by rfl) ?_ q12 ?_
              rotate_left
              · intro W hW
                go_simp
                (try with_reducible rfl)
              simp only [Act.put, List.setIfInBounds_toArray, List.set_cons_zero, List.set_cons_succ]
              refine fin_take 24 (v := ?_) rfl (by kernel_rfl) (by kernel_rfl) (by kernel_rfl) (by kernel_rfl) (fun _ _ _ h => h) rfl ?_ q12 ?_
              rotate_left
              · intro W hW
                go_simp
                (try with_reducible rfl)
              simp only [Act.put, List.setIfInBounds_toArray, List.set_cons_zero, List.set_cons_succ]
              refine fin_take 25 (v := ?_) rfl (by kernel_rfl) (by kernel_rfl) (by kernel_rfl) (by kernel_rfl) (fun _ _ _ h => h) rfl ?_ q12 ?_
              rotate_left
              · intro W hW
                go_simp
                (try with_reducible rfl)
              simp only [Act.put, List.setIfInBounds_toArray, List.set_cons_zero, List.set_cons_succ]
              refine fin_oneG 26 rfl (by rfl) (by kernel_rfl) (fun K hK => ?_)
              go_simp
              refine (hA _ (KW5.trans (kw9.trans k12))).mono ?_
              rintro _ w13 ⟨rfl, k13'⟩
              have k13 : On W9 w13 := k12.trans k13'
              have q13 := hS23 _ k13
              refine hK.out _ _ (fun _ => q13) ?_
              clear hK
              refine fin_take 27 (v := ?_) rfl (by kernel_rfl) (by kernel_rfl) (by kernel_rfl) (by kernel_rfl) (fun _ _ _ h => h) rfl ?_ q13 ?_
              rotate_left
              · intro W hW
                go_simp
                (try with_reducible rfl)
              simp only [Act.put, List.setIfInBounds_toArray, List.set_cons_zero, List.set_cons_succ]
              refine fin_take 28 (v := ?_) rfl (by kernel_rfl) (by kernel_rfl) (by kernel_rfl) (by kernel_rfl) (fun _ _ _ h => h) rfl ?_ q13 ?_
              rotate_left
              · intro W hW
                go_simp
                (try with_reducible rfl)
              simp only [Act.put, List.setIfInBounds_toArray, List.set_cons_zero, List.set_cons_succ]
              refine fin_done (by kernel_rfl) (NoPanic.normal ?_)
              go_wp2
              go_ret
              exact ⟨rfl, KW5.trans (kw9.trans k13)⟩
            · obtain ⟨W9, hW9⟩ : ∃ W9, W9 = (w7.alloc (.cells #[.int .i64 x.k, .int .i64 x.r, .int .i64 x.l, .int .i64 x.a.r, .int .i64 x.a.v, .int .i64 x.o, .int .i64 x.b.r, .int .i64 x.b.v, .int .i64 x.n] 53)).alloc (.cells #[.int .i64 1, .int .i64 0] 51) := ⟨_, rfl⟩
              have A9 : Bk W9 w6.heap.size #[.int .i64 x.k, .int .i64 x.r, .int .i64 x.l, .int .i64 x.a.r, .int .i64 x.a.v, .int .i64 x.o, .int .i64 x.b.r, .int .i64 x.b.v, .int .i64 x.n] := by rw [hW9]; exact (A8.alloc _).alloc _
              have B9 : Bk W9 w7.heap.size #[.int .i64 x.k, .int .i64 x.r, .int .i64 x.l, .int .i64 x.a.r, .int .i64 x.a.v, .int .i64 x.o, .int .i64 x.b.r, .int .i64 x.b.v, .int .i64 x.n] := by rw [hW9]; exact (Bk.new w7 _ _).alloc _
              have O9 : Bk W9 (w7.heap.size + 1) #[.int .i64 1, .int .i64 0] := by
                rw [hW9]
                have := Bk.new (w7.alloc (.cells #[.int .i64 x.k, .int .i64 x.r, .int .i64 x.l, .int .i64 x.a.r, .int .i64 x.a.v, .int .i64 x.o, .int .i64 x.b.r, .int .i64 x.b.v, .int .i64 x.n] 53)) #[.int .i64 1, .int .i64 0] 51
                rwa [World.size_alloc] at this
              have R9 : Bk W9 (w.heap.size + 1) #[.int .i64 p0, .int .i64 p1, .int .i64 p2, .int .i64 p3, .int .i64 p4] := by rw [hW9]; exact (R8.alloc _).alloc _
              have k79 : On w7 W9 := by rw [hW9]; exact ((On.refl w7).alloc _).alloc _
              have kw9 : On W5 W9 := kw7.trans k79
              have hS23 : ∀ W, On W9 W → W.cell? ⟨w6.heap.size, 0, none⟩ = some (.int .i64 x.k) ∧ W.cell? ⟨w6.heap.size, 1, none⟩ = some (.int .i64 x.r) ∧ W.cell? ⟨w6.heap.size, 2, none⟩ = some (.int .i64 x.l) ∧ W.cell? ⟨w6.heap.size, 3, none⟩ = some (.int .i64 x.a.r) ∧ W.cell? ⟨w6.heap.size, 4, none⟩ = some (.int .i64 x.a.v) ∧ W.cell? ⟨w6.heap.size, 5, none⟩ = some (.int .i64 x.o) ∧ W.cell? ⟨w6.heap.size, 6, none⟩ = some (.int .i64 x.b.r) ∧ W.cell? ⟨w6.heap.size, 7, none⟩ = some (.int .i64 x.b.v) ∧ W.cell? ⟨w6.heap.size, 8, none⟩ = some (.int .i64 x.n) ∧ W.cell? ⟨w7.heap.size, 0, none⟩ = some (.int .i64 x.k) ∧ W.cell? ⟨w7.heap.size, 1, none⟩ = some (.int .i64 x.r) ∧ W.cell? ⟨w7.heap.size, 2, none⟩ = some (.int .i64 x.l) ∧ W.cell? ⟨w7.heap.size, 3, none⟩ = some (.int .i64 x.a.r) ∧ W.cell? ⟨w7.heap.size, 4, none⟩ = some (.int .i64 x.a.v) ∧ W.cell? ⟨w7.heap.size, 5, none⟩ = some (.int .i64 x.o) ∧ W.cell? ⟨w7.heap.size, 6, none⟩ = some (.int .i64 x.b.r) ∧ W.cell? ⟨w7.heap.size, 7, none⟩ = some (.int .i64 x.b.v) ∧ W.cell? ⟨w7.heap.size, 8, none⟩ = some (.int .i64 x.n) ∧ W.cell? ⟨w7.heap.size + 1, 0, none⟩ = some (.int .i64 1) ∧ W.cell? ⟨w7.heap.size + 1, 1, none⟩ = some (.int .i64 0) ∧ W.cell? ⟨w.heap.size + 1, 0, none⟩ = some (.int .i64 p0) ∧ W.cell? ⟨w.heap.size + 1, 1, none⟩ = some (.int .i64 p1) ∧ W.cell? ⟨w.heap.size + 1, 2, none⟩ = some (.int .i64 p2) ∧ W.cell? ⟨w.heap.size + 1, 3, none⟩ = some (.int .i64 p3) ∧ W.cell? ⟨w.heap.size + 1, 4, none⟩ = some (.int .i64 p4) := fun W k => ⟨(A9.on k).at (i := 0) rfl, (A9.on k).at (i := 1) rfl, (A9.on k).at (i := 2) rfl, (A9.on k).at (i := 3) rfl, (A9.on k).at (i := 4) rfl, (A9.on k).at (i := 5) rfl, (A9.on k).at (i := 6) rfl, (A9.on k).at (i := 7) rfl, (A9.on k).at (i := 8) rfl, (B9.on k).at (i := 0) rfl, (B9.on k).at (i := 1) rfl, (B9.on k).at (i := 2) rfl, (B9.on k).at (i := 3) rfl, (B9.on k).at (i := 4) rfl, (B9.on k).at (i := 5) rfl, (B9.on k).at (i := 6) rfl, (B9.on k).at (i := 7) rfl, (B9.on k).at (i := 8) rfl, (O9.on k).at (i := 0) rfl, (O9.on k).at (i := 1) rfl, (R9.on k).at (i := 0) rfl, (R9.on k).at (i := 1) rfl, (R9.on k).at (i := 2) rfl, (R9.on k).at (i := 3) rfl, (R9.on k).at (i := 4) rfl⟩
              have q9 := hS23 _ (On.refl W9).drew
              have hVq := fun W => pvalue_is ⟨1, 0⟩ ⟨p0, p1, p2, p3, p4⟩ W
              rw [show valOf ⟨1, 0⟩ ⟨p0, p1, p2, p3, p4⟩ = p2 from rfl] at hVq
              unfold locV at hVq
              simp only at hVq
              go_wp2
              rw [← hW9]
              clear hW9
              refine region_fin (fun W => W.cell? ⟨w6.heap.size, 0, none⟩ = some (.int .i64 x.k) ∧ W.cell? ⟨w6.heap.size, 1, none⟩ = some (.int .i64 x.r) ∧ W.cell? ⟨w6.heap.size, 2, none⟩ = some (.int .i64 x.l) ∧ W.cell? ⟨w6.heap.size, 3, none⟩ = some (.int .i64 x.a.r) ∧ W.cell? ⟨w6.heap.size, 4, none⟩ = some (.int .i64 x.a.v) ∧ W.cell? ⟨w6.heap.size, 5, none⟩ = some (.int .i64 x.o) ∧ W.cell? ⟨w6.heap.size, 6, none⟩ = some (.int .i64 x.b.r) ∧ W.cell? ⟨w6.heap.size, 7, none⟩ = some (.int .i64 x.b.v) ∧ W.cell? ⟨w6.heap.size, 8, none⟩ = some (.int .i64 x.n) ∧ W.cell? ⟨w7.heap.size, 0, none⟩ = some (.int .i64 x.k) ∧ W.cell? ⟨w7.heap.size, 1, none⟩ = some (.int .i64 x.r) ∧ W.cell? ⟨w7.heap.size, 2, none⟩ = some (.int .i64 x.l) ∧ W.cell? ⟨w7.heap.size, 3, none⟩ = some (.int .i64 x.a.r) ∧ W.cell? ⟨w7.heap.size, 4, none⟩ = some (.int .i64 x.a.v) ∧ W.cell? ⟨w7.heap.size, 5, none⟩ = some (.int .i64 x.o) ∧ W.cell? ⟨w7.heap.size, 6, none⟩ = some (.int .i64 x.b.r) ∧ W.cell? ⟨w7.heap.size, 7, none⟩ = some (.int .i64 x.b.v) ∧ W.cell? ⟨w7.heap.size, 8, none⟩ = some (.int .i64 x.n) ∧ W.cell? ⟨w7.heap.size + 1, 0, none⟩ = some (.int .i64 1) ∧ W.cell? ⟨w7.heap.size + 1, 1, none⟩ = some (.int .i64 0) ∧ W.cell? ⟨w.heap.size + 1, 0, none⟩ = some (.int .i64 p0) ∧ W.cell? ⟨w.heap.size + 1, 1, none⟩ = some (.int .i64 p1) ∧ W.cell? ⟨w.heap.size + 1, 2, none⟩ = some (.int .i64 p2) ∧ W.cell? ⟨w.heap.size + 1, 3, none⟩ = some (.int .i64 p3) ∧ W.cell? ⟨w.heap.size + 1, 4, none⟩ = some (.int .i64 p4)) 99 29 (by kernel_rfl) rfl ?_
              refine fin_take 0 (v := ?_) rfl (by kernel_rfl) (by kernel_rfl) (by kernel_rfl) (by kernel_rfl) (fun _ _ _ h => h) rfl ?_ q9 ?_
              rotate_left
              · intro W hW
                go_simp
                (try with_reducible rfl)
              simp only [Act.put, List.setIfInBounds_toArray, List.set_cons_zero, List.set_cons_succ]
              refine fin_take 1 (v := ?_) rfl (by kernel_rfl) (by kernel_rfl) (by kernel_rfl) (by kernel_rfl) (fun _ _ _ h => h) rfl ?_ q9 ?_
              rotate_left
              · intro W hW
                go_simp
                (try with_reducible rfl)
              simp only [Act.put, List.setIfInBounds_toArray, List.set_cons_zero, List.set_cons_succ]
              refine fin_take 2 (v := ?_) rfl (by kernel_rfl) (by kernel_rfl) (by kernel_rfl) (by kernel_rfl) (fun _ _ _ h => h) rfl ?_ q9 ?_
              rotate_left
              · intro W hW
                go_simp
                (try with_reducible rfl)
              simp only [Act.put, List.setIfInBounds_toArray, List.set_cons_zero, List.set_cons_succ]
              refine fin_take 3 (v := ?_) rfl (by kernel_rfl) (by kernel_rfl) (by kernel_rfl) (by kernel_rfl) (fun _ _ _ h => h) rfl ?_ q9 ?_
              rotate_left
              · intro W hW
                go_simp
                (try with_reducible rfl)
              simp only [Act.put, List.setIfInBounds_toArray, List.set_cons_zero, List.set_cons_succ]
              refine fin_takeG 4 (v := ?_) rfl (by kernel_rfl) (by kernel_rfl) (by kernel_rfl) (by kernel_rfl) (fun _ _ _ h => h) (by rfl) ?_ q9 ?_
              rotate_left
              · intro W hW
                go_simp
                (try with_reducible rfl)
              simp only [Act.put, List.setIfInBounds_toArray, List.set_cons_zero, List.set_cons_succ]
              refine fin_takeG 5 (v := ?_) rfl (by kernel_rfl) (by kernel_rfl) (by kernel_rfl) (by kernel_rfl) (fun _ _ _ h => h) (by rfl) ?_ q9 ?_
              rotate_left
              · intro W hW
                go_simp
                (try with_reducible rfl)
              simp only [Act.put, List.setIfInBounds_toArray, List.set_cons_zero, List.set_cons_succ]
              refine fin_takeG 6 (v := ?_) rfl (by kernel_rfl) (by kernel_rfl) (by kernel_rfl) (by kernel_rfl) (fun _ _ _ h => h) (by rfl) ?_ q9 ?_
              rotate_left
              · intro W hW
                go_simp
                (try with_reducible rfl)
              simp only [Act.put, List.setIfInBounds_toArray, List.set_cons_zero, List.set_cons_succ]
              refine fin_take 7 (v := ?_) rfl (by kernel_rfl) (by kernel_rfl) (by kernel_rfl) (by kernel_rfl) (fun _ _ _ h => h) rfl ?_ q9 ?_
              rotate_left
              · intro W hW
                go_simp
                (try with_reducible rfl)
              simp only [Act.put, List.setIfInBounds_toArray, List.set_cons_zero, List.set_cons_succ]
              refine fin_take 8 (v := ?_) rfl (by kernel_rfl) (by kernel_rfl) (by kernel_rfl) (by kernel_rfl) (fun _ _ _ h => h) rfl ?_ q9 ?_
              rotate_left
              · intro W hW
                go_simp
                (try with_reducible rfl)
              simp only [Act.put, List.setIfInBounds_toArray, List.set_cons_zero, List.set_cons_succ]
              refine fin_takeG 9 (v := ?_) rfl (by kernel_rfl) (by kernel_rfl) (by kernel_rfl) (by kernel_rfl) (fun _ _ _ h => h) (by rfl) ?_ q9 ?_
              rotate_left
              · intro W hW
                go_simp
                (try with_reducible rfl)
              simp only [Act.put, List.setIfInBounds_toArray, List.set_cons_zero, List.set_cons_succ]
              refine fin_takeG 10 (v := ?_) rfl (by kernel_rfl) (by kernel_rfl) (by kernel_rfl) (by kernel_rfl) (fun _ _ _ h => h) (by rfl) ?_ q9 ?_
              rotate_left
              · intro W hW
                go_simp
                (try with_reducible rfl)
              simp only [Act.put, List.setIfInBounds_toArray, List.set_cons_zero, List.set_cons_succ]
              refine fin_takeG 12 (v := ?_) rfl (by kernel_rfl) (by kernel_rfl) (by kernel_rfl) (by kernel_rfl) (fun _ _ _ h => h) (by rfl) ?_ q9 ?_
              rotate_left
              · intro W hW
                go_simp
                (try with_reducible rfl)
              simp only [Act.put, List.setIfInBounds_toArray, List.set_cons_zero, List.set_cons_succ]
              refine fin_takeG 13 (v := ?_) rfl (by kernel_rfl) (by kernel_rfl) (by kernel_rfl) (by kernel_rfl) (fun _ _ _ h => h) (by rfl) ?_ q9 ?_
              rotate_left
              · intro W hW
                go_simp
                (try with_reducible rfl)
              simp only [Act.put, List.setIfInBounds_toArray, List.set_cons_zero, List.set_cons_succ]
              refine fin_takeG 14 (v := ?_) rfl (by kernel_rfl) (by kernel_rfl) (by kernel_rfl) (by kernel_rfl) (fun _ _ _ h => h) (by rfl) ?_ q9 ?_
              rotate_left
              · intro W hW
                go_simp
                (try with_reducible rfl)
              simp only [Act.put, List.setIfInBounds_toArray, List.set_cons_zero, List.set_cons_succ]
              refine fin_takeG 15 (v := ?_) rfl (by kernel_rfl) (by kernel_rfl) (by kernel_rfl) (by kernel_rfl) (fun _ _ _ h => h) (by rfl) ?_ q9 ?_
              rotate_left
              · intro W hW
                go_simp
                (try with_reducible rfl)
              simp only [Act.put, List.setIfInBounds_toArray, List.set_cons_zero, List.set_cons_succ]
              refine fin_takeG 16 (v := ?_) rfl (by kernel_rfl) (by kernel_rfl) (by kernel_rfl) (by kernel_rfl) (fun _ _ _ h => h) (by rfl) ?_ q9 ?_
              rotate_left
              · intro W hW
                go_simp
                (try with_reducible rfl)
              simp only [Act.put, List.setIfInBounds_toArray, List.set_cons_zero, List.set_cons_succ]
              refine fin_oneG 11 rfl (by rfl) (by kernel_rfl) (fun K hK => ?_)
              go_simp
              refine (hVq _).mono ?_
              rintro _ w11 ⟨rfl, k11'⟩
              have k11 : On W9 w11 := (On.refl W9).drew.trans k11'
              have q11 := hS23 _ k11
              refine hK.out _ _ (fun _ => q11) ?_
              clear hK
              refine fin_takeG 17 (v := ?_) rfl (by kernel_rfl) (by kernel_rfl) (by kernel_rfl) (by kernel_rfl) (fun _ _ _ h => h) (by rfl) ?_ q11 ?_
              rotate_left
              · intro W hW
                go_simp
                (try with_reducible rfl)
              simp only [Act.put, List.setIfInBounds_toArray, List.set_cons_zero, List.set_cons_succ]
              refine fin_take 18 (v := ?_) rfl (by kernel_rfl) (by kernel_rfl) (by kernel_rfl) (by kernel_rfl) (fun _ _ _ h => h) rfl ?_ q11 ?_
              rotate_left
              · intro W hW
                go_simp
                (try with_reducible rfl)
              simp only [Act.put, List.setIfInBounds_toArray, List.set_cons_zero, List.set_cons_succ]
              refine fin_take 19 (v := ?_) rfl (by kernel_rfl) (by kernel_rfl) (by kernel_rfl) (by kernel_rfl) (fun _ _ _ h => h) rfl ?_ q11 ?_
              rotate_left
              · intro W hW
                go_simp
                (try with_reducible rfl)
              simp only [Act.put, List.setIfInBounds_toArray, List.set_cons_zero, List.set_cons_succ]
              refine fin_takeG 20 (v := ?_) rfl (by kernel_rfl) (by kernel_rfl) (by kernel_rfl) (by kernel_rfl) (fun _ _ _ h => h) (by rfl) ?_ q11 ?_
              rotate_left
              · intro W hW
                go_simp
                (try with_reducible rfl)
              simp only [Act.put, List.setIfInBounds_toArray, List.set_cons_zero, List.set_cons_succ]
              refine fin_takeG 21 (v := ?_) rfl (by kernel_rfl) (by kernel_rfl) (by kernel_rfl) (by kernel_rfl) (fun _ _ _ h => h) (by rfl) ?_ q11 ?_
              rotate_left
              · intro W hW
                go_simp
                (try with_reducible rfl)
              simp only [Act.put, List.setIfInBounds_toArray, List.set_cons_zero, List.set_cons_succ]
              refine fin_oneG 22 rfl (by rfl) (by kernel_rfl) (fun K hK => ?_)
              go_simp
              refine (hV9 _).mono ?_
              rintro _ w12 ⟨rfl, k12'⟩
              have k12 : On W9 w12 := k11.trans k12'
              have q12 := hS23 _ k12
              refine hK.out _ _ (fun _ => q12) ?_
              clear hK
              refine fin_takeG 23 (v := ?_) rfl (by kernel_rfl) (by kernel_rfl) (by kernel_rfl) (by kernel_rfl) (fun _ _ _ h => h) (by rfl) ?_ q12 ?_
              rotate_left
              · intro W hW
                go_simp
                (try with_reducible rfl)
              simp only [Act.put, List.setIfInBounds_toArray, List.set_cons_zero, List.set_cons_succ]
              refine fin_take 24 (v := ?_) rfl (by kernel_rfl) (by kernel_rfl) (by kernel_rfl) (by kernel_rfl) (fun _ _ _ h => h) rfl ?_ q12 ?_
              rotate_left
              · intro W hW
                go_simp
                (try with_reducible rfl)
              simp only [Act.put, List.setIfInBounds_toArray, List.set_cons_zero, List.set_cons_succ]
              refine fin_take 25 (v := ?_) rfl (by kernel_rfl) (by kernel_rfl) (by kernel_rfl) (by kernel_rfl) (fun _ _ _ h => h) rfl ?_ q12 ?_
              rotate_left
              · intro W hW
                go_simp
                (try with_reducible rfl)
              simp only [Act.put, List.setIfInBounds_toArray, List.set_cons_zero, List.set_cons_succ]
              refine fin_oneG 26 rfl (by rfl) (by kernel_rfl) (fun K hK => ?_)
              go_simp
              refine (hA _ (KW5.trans (kw9.trans k12))).mono ?_
              rintro _ w13 ⟨rfl, k13'⟩
              have k13 : On W9 w13 := k12.trans k13'
              have q13 := hS23 _ k13
              refine hK.out _ _ (fun _ => q13) ?_
              clear hK
              refine fin_take 27 (v := ?_) rfl (by kernel_rfl) (by kernel_rfl) (by kernel_rfl) (by kernel_rfl) (fun _ _ _ h => h) rfl ?_ q13 ?_
              rotate_left
              · intro W hW
                go_simp
                (try with_reducible rfl)
              simp only [Act.put, List.setIfInBounds_toArray, List.set_cons_zero, List.set_cons_succ]
              refine fin_take 28 (v := ?_) rfl (by kernel_rfl) (by kernel_rfl) (by kernel_rfl) (by kernel_rfl) (fun _ _ _ h => h) rfl ?_ q13 ?_
              rotate_left
              · intro W hW
                go_simp
                (try with_reducible rfl)
              simp only [Act.put, List.setIfInBounds_toArray, List.set_cons_zero, List.set_cons_succ]
              refine fin_done (by kernel_rfl) (NoPanic.normal ?_)
              go_wp2
              go_ret
              exact ⟨rfl, KW5.trans (kw9.trans k13)⟩
            · obtain ⟨W9, hW9⟩ : ∃ W9, W9 = (w7.alloc (.cells #[.int .i64 x.k, .int .i64 x.r, .int .i64 x.l, .int .i64 x.a.r, .int .i64 x.a.v, .int .i64 x.o, .int .i64 x.b.r, .int .i64 x.b.v, .int .i64 x.n] 53)).alloc (.cells #[.int .i64 2, .int .i64 0] 51) := ⟨_, rfl⟩
              have A9 : Bk W9 w6.heap.size #[.int .i64 x.k, .int .i64 x.r, .int .i64 x.l, .int .i64 x.a.r, .int .i64 x.a.v, .int .i64 x.o, .int .i64 x.b.r, .int .i64 x.b.v, .int .i64 x.n] := by rw [hW9]; exact (A8.alloc _).alloc _
              have B9 : Bk W9 w7.heap.size #[.int .i64 x.k, .int .i64 x.r, .int .i64 x.l, .int .i64 x.a.r, .int .i64 x.a.v, .int .i64 x.o, .int .i64 x.b.r, .int .i64 x.b.v, .int .i64 x.n] := by rw [hW9]; exact (Bk.new w7 _ _).alloc _
              have O9 : Bk W9 (w7.heap.size + 1) #[.int .i64 2, .int .i64 0] := by
                rw [hW9]
                have := Bk.new (w7.alloc (.cells #[.int .i64 x.k, .int .i64 x.r, .int .i64 x.l, .int .i64 x.a.r, .int .i64 x.a.v, .int .i64 x.o, .int .i64 x.b.r, .int .i64 x.b.v, .int .i64 x.n] 53)) #[.int .i64 2, .int .i64 0] 51
                rwa [World.size_alloc] at this
              have R9 : Bk W9 (w.heap.size + 1) #[.int .i64 p0, .int .i64 p1, .int .i64 p2, .int .i64 p3, .int .i64 p4] := by rw [hW9]; exact (R8.alloc _).alloc _
              have k79 : On w7 W9 := by rw [hW9]; exact ((On.refl w7).alloc _).alloc _
              have kw9 : On W5 W9 := kw7.trans k79
              have hS23 : ∀ W, On W9 W → W.cell? ⟨w6.heap.size, 0, none⟩ = some (.int .i64 x.k) ∧ W.cell? ⟨w6.heap.size, 1, none⟩ = some (.int .i64 x.r) ∧ W.cell? ⟨w6.heap.size, 2, none⟩ = some (.int .i64 x.l) ∧ W.cell? ⟨w6.heap.size, 3, none⟩ = some (.int .i64 x.a.r) ∧ W.cell? ⟨w6.heap.size, 4, none⟩ = some (.int .i64 x.a.v) ∧ W.cell? ⟨w6.heap.size, 5, none⟩ = some (.int .i64 x.o) ∧ W.cell? ⟨w6.heap.size, 6, none⟩ = some (.int .i64 x.b.r) ∧ W.cell? ⟨w6.heap.size, 7, none⟩ = some (.int .i64 x.b.v) ∧ W.cell? ⟨w6.heap.size, 8, none⟩ = some (.int .i64 x.n) ∧ W.cell? ⟨w7.heap.size, 0, none⟩ = some (.int .i64 x.k) ∧ W.cell? ⟨w7.heap.size, 1, none⟩ = some (.int .i64 x.r) ∧ W.cell? ⟨w7.heap.size, 2, none⟩ = some (.int .i64 x.l) ∧ W.cell? ⟨w7.heap.size, 3, none⟩ = some (.int .i64 x.a.r) ∧ W.cell? ⟨w7.heap.size, 4, none⟩ = some (.int .i64 x.a.v) ∧ W.cell? ⟨w7.heap.size, 5, none⟩ = some (.int .i64 x.o) ∧ W.cell? ⟨w7.heap.size, 6, none⟩ = some (.int .i64 x.b.r) ∧ W.cell? ⟨w7.heap.size, 7, none⟩ = some (.int .i64 x.b.v) ∧ W.cell? ⟨w7.heap.size, 8, none⟩ = some (.int .i64 x.n) ∧ W.cell? ⟨w7.heap.size + 1, 0, none⟩ = some (.int .i64 2) ∧ W.cell? ⟨w7.heap.size + 1, 1, none⟩ = some (.int .i64 0) ∧ W.cell? ⟨w.heap.size + 1, 0, none⟩ = some (.int .i64 p0) ∧ W.cell? ⟨w.heap.size + 1, 1, none⟩ = some (.int .i64 p1) ∧ W.cell? ⟨w.heap.size + 1, 2, none⟩ = some (.int .i64 p2) ∧ W.cell? ⟨w.heap.size + 1, 3, none⟩ = some (.int .i64 p3) ∧ W.cell? ⟨w.heap.size + 1, 4, none⟩ = some (.int .i64 p4) := fun W k => ⟨(A9.on k).at (i := 0) rfl, (A9.on k).at (i := 1) rfl, (A9.on k).at (i := 2) rfl, (A9.on k).at (i := 3) rfl, (A9.on k).at (i := 4) rfl, (A9.on k).at (i := 5) rfl, (A9.on k).at (i := 6) rfl, (A9.on k).at (i := 7) rfl, (A9.on k).at (i := 8) rfl, (B9.on k).at (i := 0) rfl, (B9.on k).at (i := 1) rfl, (B9.on k).at (i := 2) rfl, (B9.on k).at (i := 3) rfl, (B9.on k).at (i := 4) rfl, (B9.on k).at (i := 5) rfl, (B9.on k).at (i := 6) rfl, (B9.on k).at (i := 7) rfl, (B9.on k).at (i := 8) rfl, (O9.on k).at (i := 0) rfl, (O9.on k).at (i := 1) rfl, (R9.on k).at (i := 0) rfl, (R9.on k).at (i := 1) rfl, (R9.on k).at (i := 2) rfl, (R9.on k).at (i := 3) rfl, (R9.on k).at (i := 4) rfl⟩
              have q9 := hS23 _ (On.refl W9).drew
              have hVq := fun W => pvalue_is ⟨2, 0⟩ ⟨p0, p1, p2, p3, p4⟩ W
              rw [show valOf ⟨2, 0⟩ ⟨p0, p1, p2, p3, p4⟩ = p3 from rfl] at hVq
              unfold locV at hVq
              simp only at hVq
              go_wp2
              rw [← hW9]
              clear hW9
              refine region_fin (fun W => W.cell? ⟨w6.heap.size, 0, none⟩ = some (.int .i64 x.k) ∧ W.cell? ⟨w6.heap.size, 1, none⟩ = some (.int .i64 x.r) ∧ W.cell? ⟨w6.heap.size, 2, none⟩ = some (.int .i64 x.l) ∧ W.cell? ⟨w6.heap.size, 3, none⟩ = some (.int .i64 x.a.r) ∧ W.cell? ⟨w6.heap.size, 4, none⟩ = some (.int .i64 x.a.v) ∧ W.cell? ⟨w6.heap.size, 5, none⟩ = some (.int .i64 x.o) ∧ W.cell? ⟨w6.heap.size, 6, none⟩ = some (.int .i64 x.b.r) ∧ W.cell? ⟨w6.heap.size, 7, none⟩ = some (.int .i64 x.b.v) ∧ W.cell? ⟨w6.heap.size, 8, none⟩ = some (.int .i64 x.n) ∧ W.cell? ⟨w7.heap.size, 0, none⟩ = some (.int .i64 x.k) ∧ W.cell? ⟨w7.heap.size, 1, none⟩ = some (.int .i64 x.r) ∧ W.cell? ⟨w7.heap.size, 2, none⟩ = some (.int .i64 x.l) ∧ W.cell? ⟨w7.heap.size, 3, none⟩ = some (.int .i64 x.a.r) ∧ W.cell? ⟨w7.heap.size, 4, none⟩ = some (.int .i64 x.a.v) ∧ W.cell? ⟨w7.heap.size, 5, none⟩ = some (.int .i64 x.o) ∧ W.cell? ⟨w7.heap.size, 6, none⟩ = some (.int .i64 x.b.r) ∧ W.cell? ⟨w7.heap.size, 7, none⟩ = some (.int .i64 x.b.v) ∧ W.cell? ⟨w7.heap.size, 8, none⟩ = some (.int .i64 x.n) ∧ W.cell? ⟨w7.heap.size + 1, 0, none⟩ = some (.int .i64 2) ∧ W.cell? ⟨w7.heap.size + 1, 1, none⟩ = some (.int .i64 0) ∧ W.cell? ⟨w.heap.size + 1, 0, none⟩ = some (.int .i64 p0) ∧ W.cell? ⟨w.heap.size + 1, 1, none⟩ = some (.int .i64 p1) ∧ W.cell? ⟨w.heap.size + 1, 2, none⟩ = some (.int .i64 p2) ∧ W.cell? ⟨w.heap.size + 1, 3, none⟩ = some (.int .i64 p3) ∧ W.cell? ⟨w.heap.size + 1, 4, none⟩ = some (.int .i64 p4)) 99 29 (by kernel_rfl) rfl ?_
              refine fin_take 0 (v := ?_) rfl (by kernel_rfl) (by kernel_rfl) (by kernel_rfl) (by kernel_rfl) (fun _ _ _ h => h) rfl ?_ q9 ?_
              rotate_left
              · intro W hW
                go_simp
                (try with_reducible rfl)
              simp only [Act.put, List.setIfInBounds_toArray, List.set_cons_zero, List.set_cons_succ]
              refine fin_take 1 (v := ?_) rfl (by kernel_rfl) (by kernel_rfl) (by kernel_rfl) (by kernel_rfl) (fun _ _ _ h => h) rfl ?_ q9 ?_
              rotate_left
              · intro W hW
                go_simp
                (try with_reducible rfl)
              simp only [Act.put, List.setIfInBounds_toArray, List.set_cons_zero, List.set_cons_succ]
              refine fin_take 2 (v := ?_) rfl (by kernel_rfl) (by kernel_rfl) (by kernel_rfl) (by kernel_rfl) (fun _ _ _ h => h) rfl ?_ q9 ?_
              rotate_left
              · intro W hW
                go_simp
                (try with_reducible rfl)
              simp only [Act.put, List.setIfInBounds_toArray, List.set_cons_zero, List.set_cons_succ]
              refine fin_take 3 (v := ?_) rfl (by kernel_rfl) (by kernel_rfl) (by kernel_rfl) (by kernel_rfl) (fun _ _ _ h => h) rfl ?_ q9 ?_
              rotate_left
              · intro W hW
                go_simp
                (try with_reducible rfl)
              simp only [Act.put, List.setIfInBounds_toArray, List.set_cons_zero, List.set_cons_succ]
              refine fin_takeG 4 (v := ?_) rfl (by kernel_rfl) (by kernel_rfl) (by kernel_rfl) (by kernel_rfl) (fun _ _ _ h => h) (by rfl) ?_ q9 ?_
              rotate_left
              · intro W hW
                go_simp
                (try with_reducible rfl)
              simp only [Act.put, List.setIfInBounds_toArray, List.set_cons_zero, List.set_cons_succ]
              refine fin_takeG 5 (v := ?_) rfl (by kernel_rfl) (by kernel_rfl) (by kernel_rfl) (by kernel_rfl) (fun _ _ _ h => h) (by rfl) ?_ q9 ?_
              rotate_left
              · intro W hW
                go_simp
                (try with_reducible rfl)
              simp only [Act.put, List.setIfInBounds_toArray, List.set_cons_zero, List.set_cons_succ]
              refine fin_takeG 6 (v := ?_) rfl (by kernel_rfl) (by kernel_rfl) (by kernel_rfl) (by kernel_rfl) (fun _ _ _ h => h) (by rfl) ?_ q9 ?_
              rotate_left
              · intro W hW
                go_simp
                (try with_reducible rfl)
              simp only [Act.put, List.setIfInBounds_toArray, List.set_cons_zero, List.set_cons_succ]
              refine fin_take 7 (v := ?_) rfl (by kernel_rfl) (by kernel_rfl) (by kernel_rfl) (by kernel_rfl) (fun _ _ _ h => h) rfl ?_ q9 ?_
              rotate_left
              · intro W hW
                go_simp
                (try with_reducible rfl)
              simp only [Act.put, List.setIfInBounds_toArray, List.set_cons_zero, List.set_cons_succ]
              refine fin_take 8 (v := ?_) rfl (by kernel_rfl) (by kernel_rfl) (by kernel_rfl) (by kernel_rfl) (fun _ _ _ h => h) rfl ?_ q9 ?_
              rotate_left
              · intro W hW
                go_simp
                (try with_reducible rfl)
              simp only [Act.put, List.setIfInBounds_toArray, List.set_cons_zero, List.set_cons_succ]
              refine fin_takeG 9 (v := ?_) rfl (by kernel_rfl) (by kernel_rfl) (by kernel_rfl) (by kernel_rfl) (fun _ _ _ h => h) (by rfl) ?_ q9 ?_
              rotate_left
              · intro W hW
                go_simp
                (try with_reducible rfl)
              simp only [Act.put, List.setIfInBounds_toArray, List.set_cons_zero, List.set_cons_succ]
              refine fin_takeG 10 (v := ?_) rfl (by kernel_rfl) (by kernel_rfl) (by kernel_rfl) (by kernel_rfl) (fun _ _ _ h => h) (by rfl) ?_ q9 ?_
              rotate_left
              · intro W hW
                go_simp
                (try with_reducible rfl)
              simp only [Act.put, List.setIfInBounds_toArray, List.set_cons_zero, List.set_cons_succ]
              refine fin_takeG 12 (v := ?_) rfl (by kernel_rfl) (by kernel_rfl) (by kernel_rfl) (by kernel_rfl) (fun _ _ _ h => h) (by rfl) ?_ q9 ?_
              rotate_left
              · intro W hW
                go_simp
                (try with_reducible rfl)
              simp only [Act.put, List.setIfInBounds_toArray, List.set_cons_zero, List.set_cons_succ]
              refine fin_takeG 13 (v := ?_) rfl (by kernel_rfl) (by kernel_rfl) (by kernel_rfl) (by kernel_rfl) (fun _ _ _ h => h) (by rfl) ?_ q9 ?_
              rotate_left
              · intro W hW
                go_simp
                (try with_reducible rfl)
              simp only [Act.put, List.setIfInBounds_toArray, List.set_cons_zero, List.set_cons_succ]
              refine fin_takeG 14 (v := ?_) rfl (by kernel_rfl) (by kernel_rfl) (by kernel_rfl) (by kernel_rfl) (fun _ _ _ h => h) (by rfl) ?_ q9 ?_
              rotate_left
              · intro W hW
                go_simp
                (try with_reducible rfl)
              simp only [Act.put, List.setIfInBounds_toArray, List.set_cons_zero, List.set_cons_succ]
              refine fin_takeG 15 (v := ?_) rfl (by kernel_rfl) (by kernel_rfl) (by kernel_rfl) (by kernel_rfl) (fun _ _ _ h => h) (by rfl) ?_ q9 ?_
              rotate_left
              · intro W hW
                go_simp
                (try with_reducible rfl)
              simp only [Act.put, List.setIfInBounds_toArray, List.set_cons_zero, List.set_cons_succ]
              refine fin_takeG 16 (v := ?_) rfl (by kernel_rfl) (by kernel_rfl) (by kernel_rfl) (by kernel_rfl) (fun _ _ _ h => h) (by rfl) ?_ q9 ?_
              rotate_left
              · intro W hW
                go_simp
                (try with_reducible rfl)
              simp only [Act.put, List.setIfInBounds_toArray, List.set_cons_zero, List.set_cons_succ]
              refine fin_oneG 11 rfl (by rfl) (by kernel_rfl) (fun K hK => ?_)
              go_simp
              refine (hVq _).mono ?_
              rintro _ w11 ⟨rfl, k11'⟩
              have k11 : On W9 w11 := (On.refl W9).drew.trans k11'
              have q11 := hS23 _ k11
              refine hK.out _ _ (fun _ => q11) ?_
              clear hK
              refine fin_takeG 17 (v := ?_) rfl (by kernel_rfl) (by kernel_rfl) (by kernel_rfl) (by kernel_rfl) (fun _ _ _ h => h) (by rfl) ?_ q11 ?_
              rotate_left
              · intro W hW
                go_simp
                (try with_reducible rfl)
              simp only [Act.put, List.setIfInBounds_toArray, List.set_cons_zero, List.set_cons_succ]
              refine fin_take 18 (v := ?_) rfl (by kernel_rfl) (by kernel_rfl) (by kernel_rfl) (by kernel_rfl) (fun _ _ _ h => h) rfl ?_ q11 ?_
              rotate_left
              · intro W hW
                go_simp
                (try with_reducible rfl)
              simp only [Act.put, List.setIfInBounds_toArray, List.set_cons_zero, List.set_cons_succ]
              refine fin_take 19 (v := ?_) rfl (by kernel_rfl) (by kernel_rfl) (by kernel_rfl) (by kernel_rfl) (fun _ _ _ h => h) rfl ?_ q11 ?_
              rotate_left
              · intro W hW
                go_simp
                (try with_reducible rfl)
              simp only [Act.put, List.setIfInBounds_toArray, List.set_cons_zero, List.set_cons_succ]
              refine fin_takeG 20 (v := ?_) rfl (by kernel_rfl) (by kernel_rfl) (by kernel_rfl) (by kernel_rfl) (fun _ _ _ h => h) (by rfl) ?_ q11 ?_
              rotate_left
              · intro W hW
                go_simp
                (try with_reducible rfl)
              simp only [Act.put, List.setIfInBounds_toArray, List.set_cons_zero, List.set_cons_succ]
              refine fin_takeG 21 (v := ?_) rfl (by kernel_rfl) (by kernel_rfl) (by kernel_rfl) (by kernel_rfl) (fun _ _ _ h => h) (by rfl) ?_ q11 ?_
              rotate_left
              · intro W hW
                go_simp
                (try with_reducible rfl)
              simp only [Act.put, List.setIfInBounds_toArray, List.set_cons_zero, List.set_cons_succ]
              refine fin_oneG 22 rfl (by rfl) (by kernel_rfl) (fun K hK => ?_)
              go_simp
              refine (hV9 _).mono ?_
              rintro _ w12 ⟨rfl, k12'⟩
              have k12 : On W9 w12 := k11.trans k12'
              have q12 := hS23 _ k12
              refine hK.out _ _ (fun _ => q12) ?_
              clear hK
              refine fin_takeG 23 (v := ?_) rfl (by kernel_rfl) (by kernel_rfl) (by kernel_rfl) (by kernel_rfl) (fun _ _ _ h => h) (by rfl) ?_ q12 ?_
              rotate_left
              · intro W hW
                go_simp
                (try with_reducible rfl)
              simp only [Act.put, List.setIfInBounds_toArray, List.set_cons_zero, List.set_cons_succ]
              refine fin_take 24 (v := ?_) rfl (by kernel_rfl) (by kernel_rfl) (by kernel_rfl) (by kernel_rfl) (fun _ _ _ h => h) rfl ?_ q12 ?_
              rotate_left
              · intro W hW
                go_simp
                (try with_reducible rfl)
              simp only [Act.put, List.setIfInBounds_toArray, List.set_cons_zero, List.set_cons_succ]
              refine fin_take 25 (v := ?_) rfl (by kernel_rfl) (by kernel_rfl) (by kernel_rfl) (by kernel_rfl) (fun _ _ _ h => h) rfl ?_ q12 ?_
              rotate_left
              · intro W hW
                go_simp
                (try with_reducible rfl)
              simp only [Act.put, List.setIfInBounds_toArray, List.set_cons_zero, List.set_cons_succ]
              refine fin_oneG 26 rfl (by rfl) (by kernel_rfl) (fun K hK => ?_)
              go_simp
              refine (hA _ (KW5.trans (kw9.trans k12))).mono ?_
              rintro _ w13 ⟨rfl, k13'⟩
              have k13 : On W9 w13 := k12.trans k13'
              have q13 := hS23 _ k13
              refine hK.out _ _ (fun _ => q13) ?_
              clear hK
              refine fin_take 27 (v := ?_) rfl (by kernel_rfl) (by kernel_rfl) (by kernel_rfl) (by kernel_rfl) (fun _ _ _ h => h) rfl ?_ q13 ?_
              rotate_left
              · intro W hW
                go_simp
                (try with_reducible rfl)
              simp only [Act.put, List.setIfInBounds_toArray, List.set_cons_zero, List.set_cons_succ]
              refine fin_take 28 (v := ?_) rfl (by kernel_rfl) (by kernel_rfl) (by kernel_rfl) (by kernel_rfl) (fun _ _ _ h => h) rfl ?_ q13 ?_
              rotate_left
              · intro W hW
                go_simp
                (try with_reducible rfl)
              simp only [Act.put, List.setIfInBounds_toArray, List.set_cons_zero, List.set_cons_succ]
              refine fin_done (by kernel_rfl) (NoPanic.normal ?_)
              go_wp2
              go_ret
              exact ⟨rfl, KW5.trans (kw9.trans k13)⟩
            · obtain ⟨W9, hW9⟩ : ∃ W9, W9 = (w7.alloc (.cells #[.int .i64 x.k, .int .i64 x.r, .int .i64 x.l, .int .i64 x.a.r, .int .i64 x.a.v, .int .i64 x.o, .int .i64 x.b.r, .int .i64 x.b.v, .int .i64 x.n] 53)).alloc (.cells #[.int .i64 3, .int .i64 0] 51) := ⟨_, rfl⟩
              have A9 : Bk W9 w6.heap.size #[.int .i64 x.k, .int .i64 x.r, .int .i64 x.l, .int .i64 x.a.r, .int .i64 x.a.v, .int .i64 x.o, .int .i64 x.b.r, .int .i64 x.b.v, .int .i64 x.n] := by rw [hW9]; exact (A8.alloc _).alloc _
              have B9 : Bk W9 w7.heap.size #[.int .i64 x.k, .int .i64 x.r, .int .i64 x.l, .int .i64 x.a.r, .int .i64 x.a.v, .int .i64 x.o, .int .i64 x.b.r, .int .i64 x.b.v, .int .i64 x.n] := by rw [hW9]; exact (Bk.new w7 _ _).alloc _
              have O9 : Bk W9 (w7.heap.size + 1) #[.int .i64 3, .int .i64 0] := by
                rw [hW9]
                have := Bk.new (w7.alloc (.cells #[.int .i64 x.k, .int .i64 x.r, .int .i64 x.l, .int .i64 x.a.r, .int .i64 x.a.v, .int .i64 x.o, .int .i64 x.b.r, .int .i64 x.b.v, .int .i64 x.n] 53)) #[.int .i64 3, .int .i64 0] 51
                rwa [World.size_alloc] at this
              have R9 : Bk W9 (w.heap.size + 1) #[.int .i64 p0, .int .i64 p1, .int .i64 p2, .int .i64 p3, .int .i64 p4] := by rw [hW9]; exact (R8.alloc _).alloc _
              have k79 : On w7 W9 := by rw [hW9]; exact ((On.refl w7).alloc _).alloc _
              have kw9 : On W5 W9 := kw7.trans k79
              have hS23 : ∀ W, On W9 W → W.cell? ⟨w6.heap.size, 0, none⟩ = some (.int .i64 x.k) ∧ W.cell? ⟨w6.heap.size, 1, none⟩ = some (.int .i64 x.r) ∧ W.cell? ⟨w6.heap.size, 2, none⟩ = some (.int .i64 x.l) ∧ W.cell? ⟨w6.heap.size, 3, none⟩ = some (.int .i64 x.a.r) ∧ W.cell? ⟨w6.heap.size, 4, none⟩ = some (.int .i64 x.a.v) ∧ W.cell? ⟨w6.heap.size, 5, none⟩ = some (.int .i64 x.o) ∧ W.cell? ⟨w6.heap.size, 6, none⟩ = some (.int .i64 x.b.r) ∧ W.cell? ⟨w6.heap.size, 7, none⟩ = some (.int .i64 x.b.v) ∧ W.cell? ⟨w6.heap.size, 8, none⟩ = some (.int .i64 x.n) ∧ W.cell? ⟨w7.heap.size, 0, none⟩ = some (.int .i64 x.k) ∧ W.cell? ⟨w7.heap.size, 1, none⟩ = some (.int .i64 x.r) ∧ W.cell? ⟨w7.heap.size, 2, none⟩ = some (.int .i64 x.l) ∧ W.cell? ⟨w7.heap.size, 3, none⟩ = some (.int .i64 x.a.r) ∧ W.cell? ⟨w7.heap.size, 4, none⟩ = some (.int .i64 x.a.v) ∧ W.cell? ⟨w7.heap.size, 5, none⟩ = some (.int .i64 x.o) ∧ W.cell? ⟨w7.heap.size, 6, none⟩ = some (.int .i64 x.b.r) ∧ W.cell? ⟨w7.heap.size, 7, none⟩ = some (.int .i64 x.b.v) ∧ W.cell? ⟨w7.heap.size, 8, none⟩ = some (.int .i64 x.n) ∧ W.cell? ⟨w7.heap.size + 1, 0, none⟩ = some (.int .i64 3) ∧ W.cell? ⟨w7.heap.size + 1, 1, none⟩ = some (.int .i64 0) ∧ W.cell? ⟨w.heap.size + 1, 0, none⟩ = some (.int .i64 p0) ∧ W.cell? ⟨w.heap.size + 1, 1, none⟩ = some (.int .i64 p1) ∧ W.cell? ⟨w.heap.size + 1, 2, none⟩ = some (.int .i64 p2) ∧ W.cell? ⟨w.heap.size + 1, 3, none⟩ = some (.int .i64 p3) ∧ W.cell? ⟨w.heap.size + 1, 4, none⟩ = some (.int .i64 p4) := fun W k => ⟨(A9.on k).at (i := 0) rfl, (A9.on k).at (i := 1) rfl, (A9.on k).at (i := 2) rfl, (A9.on k).at (i := 3) rfl, (A9.on k).at (i := 4) rfl, (A9.on k).at (i := 5) rfl, (A9.on k).at (i := 6) rfl, (A9.on k).at (i := 7) rfl, (A9.on k).at (i := 8) rfl, (B9.on k).at (i := 0) rfl, (B9.on k).at (i := 1) rfl, (B9.on k).at (i := 2) rfl, (B9.on k).at (i := 3) rfl, (B9.on k).at (i := 4) rfl, (B9.on k).at (i := 5) rfl, (B9.on k).at (i := 6) rfl, (B9.on k).at (i := 7) rfl, (B9.on k).at (i := 8) rfl, (O9.on k).at (i := 0) rfl, (O9.on k).at (i := 1) rfl, (R9.on k).at (i := 0) rfl, (R9.on k).at (i := 1) rfl, (R9.on k).at (i := 2) rfl, (R9.on k).at (i := 3) rfl, (R9.on k).at (i := 4) rfl⟩
              have q9 := hS23 _ (On.refl W9).drew
              have hVq := fun W => pvalue_is ⟨3, 0⟩ ⟨p0, p1, p2, p3, p4⟩ W
              rw [show valOf ⟨3, 0⟩ ⟨p0, p1, p2, p3, p4⟩ = p4 from rfl] at hVq
              unfold locV at hVq
              simp only at hVq
              go_wp2
              rw [← hW9]
              clear hW9
              refine region_fin (fun W => W.cell? ⟨w6.heap.size, 0, none⟩ = some (.int .i64 x.k) ∧ W.cell? ⟨w6.heap.size, 1, none⟩ = some (.int .i64 x.r) ∧ W.cell? ⟨w6.heap.size, 2, none⟩ = some (.int .i64 x.l) ∧ W.cell? ⟨w6.heap.size, 3, none⟩ = some (.int .i64 x.a.r) ∧ W.cell? ⟨w6.heap.size, 4, none⟩ = some (.int .i64 x.a.v) ∧ W.cell? ⟨w6.heap.size, 5, none⟩ = some (.int .i64 x.o) ∧ W.cell? ⟨w6.heap.size, 6, none⟩ = some (.int .i64 x.b.r) ∧ W.cell? ⟨w6.heap.size, 7, none⟩ = some (.int .i64 x.b.v) ∧ W.cell? ⟨w6.heap.size, 8, none⟩ = some (.int .i64 x.n) ∧ W.cell? ⟨w7.heap.size, 0, none⟩ = some (.int .i64 x.k) ∧ W.cell? ⟨w7.heap.size, 1, none⟩ = some (.int .i64 x.r) ∧ W.cell? ⟨w7.heap.size, 2, none⟩ = some (.int .i64 x.l) ∧ W.cell? ⟨w7.heap.size, 3, none⟩ = some (.int .i64 x.a.r) ∧ W.cell? ⟨w7.heap.size, 4, none⟩ = some (.int .i64 x.a.v) ∧ W.cell? ⟨w7.heap.size, 5, none⟩ = some (.int .i64 x.o) ∧ W.cell? ⟨w7.heap.size, 6, none⟩ = some (.int .i64 x.b.r) ∧ W.cell? ⟨w7.heap.size, 7, none⟩ = some (.int .i64 x.b.v) ∧ W.cell? ⟨w7.heap.size, 8, none⟩ = some (.int .i64 x.n) ∧ W.cell? ⟨w7.heap.size + 1, 0, none⟩ = some (.int .i64 3) ∧ W.cell? ⟨w7.heap.size + 1, 1, none⟩ = some (.int .i64 0) ∧ W.cell? ⟨w.heap.size + 1, 0, none⟩ = some (.int .i64 p0) ∧ W.cell? ⟨w.heap.size + 1, 1, none⟩ = some (.int .i64 p1) ∧ W.cell? ⟨w.heap.size + 1, 2, none⟩ = some (.int .i64 p2) ∧ W.cell? ⟨w.heap.size + 1, 3, none⟩ = some (.int .i64 p3) ∧ W.cell? ⟨w.heap.size + 1, 4, none⟩ = some (.int .i64 p4)) 99 29 (by kernel_rfl) rfl ?_
              refine fin_take 0 (v := ?_) rfl (by kernel_rfl) (by kernel_rfl) (by kernel_rfl) (by kernel_rfl) (fun _ _ _ h => h) rfl ?_ q9 ?_
              rotate_left
              · intro W hW
                go_simp
                (try with_reducible rfl)
              simp only [Act.put, List.setIfInBounds_toArray, List.set_cons_zero, List.set_cons_succ]
              refine fin_take 1 (v := ?_) rfl (by kernel_rfl) (by kernel_rfl) (by kernel_rfl) (by kernel_rfl) (fun _ _ _ h => h) rfl ?_ q9 ?_
              rotate_left
              · intro W hW
                go_simp
                (try with_reducible rfl)
              simp only [Act.put, List.setIfInBounds_toArray, List.set_cons_zero, List.set_cons_succ]
              refine fin_take 2 (v := ?_) rfl (by kernel_rfl) (by kernel_rfl) (by kernel_rfl) (by kernel_rfl) (fun _ _ _ h => h) rfl ?_ q9 ?_
              rotate_left
              · intro W hW
                go_simp
                (try with_reducible rfl)
              simp only [Act.put, List.setIfInBounds_toArray, List.set_cons_zero, List.set_cons_succ]
              refine fin_take 3 (v := ?_) rfl (by kernel_rfl) (by kernel_rfl) (by kernel_rfl) (by kernel_rfl) (fun _ _ _ h => h) rfl ?_ q9 ?_
              rotate_left
              · intro W hW
                go_simp
                (try with_reducible rfl)
              simp only [Act.put, List.setIfInBounds_toArray, List.set_cons_zero, List.set_cons_succ]
              refine fin_takeG 4 (v := ?_) rfl (by kernel_rfl) (by kernel_rfl) (by kernel_rfl) (by kernel_rfl) (fun _ _ _ h => h) (by rfl) ?_ q9 ?_
              rotate_left
              · intro W hW
                go_simp
                (try with_reducible rfl)
              simp only [Act.put, List.setIfInBounds_toArray, List.set_cons_zero, List.set_cons_succ]
              refine fin_takeG 5 (v := ?_) rfl (by kernel_rfl) (by kernel_rfl) (by kernel_rfl) (by kernel_rfl) (fun _ _ _ h => h) (by rfl) ?_ q9 ?_
              rotate_left
              · intro W hW
                go_simp
                (try with_reducible rfl)
              simp only [Act.put, List.setIfInBounds_toArray, List.set_cons_zero, List.set_cons_succ]
              refine fin_takeG 6 (v := ?_) rfl (by kernel_rfl) (by kernel_rfl) (by kernel_rfl) (by kernel_rfl) (fun _ _ _ h => h) (by rfl) ?_ q9 ?_
              rotate_left
              · intro W hW
                go_simp
                (try with_reducible rfl)
              simp only [Act.put, List.setIfInBounds_toArray, List.set_cons_zero, List.set_cons_succ]
              refine fin_take 7 (v := ?_) rfl (by kernel_rfl) (by kernel_rfl) (by kernel_rfl) (by kernel_rfl) (fun _ _ _ h => h) rfl ?_ q9 ?_
              rotate_left
              · intro W hW
                go_simp
                (try with_reducible rfl)
              simp only [Act.put, List.setIfInBounds_toArray, List.set_cons_zero, List.set_cons_succ]
              refine fin_take 8 (v := ?_) rfl (by kernel_rfl) (by kernel_rfl) (by kernel_rfl) (by kernel_rfl) (fun _ _ _ h => h) rfl ?_ q9 ?_
              rotate_left
              · intro W hW
                go_simp
                (try with_reducible rfl)
              simp only [Act.put, List.setIfInBounds_toArray, List.set_cons_zero, List.set_cons_succ]
              refine fin_takeG 9 (v := ?_) rfl (by kernel_rfl) (by kernel_rfl) (by kernel_rfl) (by kernel_rfl) (fun _ _ _ h => h) (by rfl) ?_ q9 ?_
              rotate_left
              · intro W hW
                go_simp
                (try with_reducible rfl)
              simp only [Act.put, List.setIfInBounds_toArray, List.set_cons_zero, List.set_cons_succ]
              refine fin_takeG 10 (v := ?_) rfl (by kernel_rfl) (by kernel_rfl) (by kernel_rfl) (by kernel_rfl) (fun _ _ _ h => h) (by rfl) ?_ q9 ?_
              rotate_left
              · intro W hW
                go_simp
                (try with_reducible rfl)
              simp only [Act.put, List.setIfInBounds_toArray, List.set_cons_zero, List.set_cons_succ]
              refine fin_takeG 12 (v := ?_) rfl (by kernel_rfl) (by kernel_rfl) (by kernel_rfl) (by kernel_rfl) (fun _ _ _ h => h) (by rfl) ?_ q9 ?_
              rotate_left
              · intro W hW
                go_simp
                (try with_reducible rfl)
              simp only [Act.put, List.setIfInBounds_toArray, List.set_cons_zero, List.set_cons_succ]
              refine fin_takeG 13 (v := ?_) rfl (by kernel_rfl) (by kernel_rfl) (by kernel_rfl) (by kernel_rfl) (fun _ _ _ h => h) (by rfl) ?_ q9 ?_
              rotate_left
              · intro W hW
                go_simp
                (try with_reducible rfl)
              simp only [Act.put, List.setIfInBounds_toArray, List.set_cons_zero, List.set_cons_succ]
              refine fin_takeG 14 (v := ?_) rfl (by kernel_rfl) (by kernel_rfl) (by kernel_rfl) (by kernel_rfl) (fun _ _ _ h => h) (by rfl) ?_ q9 ?_
              rotate_left
              · intro W hW
                go_simp
                (try with_reducible rfl)
              simp only [Act.put, List.setIfInBounds_toArray, List.set_cons_zero, List.set_cons_succ]
              refine fin_takeG 15 (v := ?_) rfl (by kernel_rfl) (by kernel_rfl) (by kernel_rfl) (by kernel_rfl) (fun _ _ _ h => h) (by rfl) ?_ q9 ?_
              rotate_left
              · intro W hW
                go_simp
                (try with_reducible rfl)
              simp only [Act.put, List.setIfInBounds_toArray, List.set_cons_zero, List.set_cons_succ]
              refine fin_takeG 16 (v := ?_) rfl (by kernel_rfl) (by kernel_rfl) (by kernel_rfl) (by kernel_rfl) (fun _ _ _ h => h) (by rfl) ?_ q9 ?_
              rotate_left
              · intro W hW
                go_simp
                (try with_reducible rfl)
              simp only [Act.put, List.setIfInBounds_toArray, List.set_cons_zero, List.set_cons_succ]
              refine fin_oneG 11 rfl (by rfl) (by kernel_rfl) (fun K hK => ?_)
              go_simp
              refine (hVq _).mono ?_
              rintro _ w11 ⟨rfl, k11'⟩
              have k11 : On W9 w11 := (On.refl W9).drew.trans k11'
              have q11 := hS23 _ k11
              refine hK.out _ _ (fun _ => q11) ?_
              clear hK
              refine fin_takeG 17 (v := ?_) rfl (by kernel_rfl) (by kernel_rfl) (by kernel_rfl) (by kernel_rfl) (fun _ _ _ h => h) (by rfl) ?_ q11 ?_
              rotate_left
              · intro W hW
                go_simp
                (try with_reducible rfl)
              simp only [Act.put, List.setIfInBounds_toArray, List.set_cons_zero, List.set_cons_succ]
              refine fin_take 18 (v := ?_) rfl (by kernel_rfl) (by kernel_rfl) (by kernel_rfl) (by kernel_rfl) (fun _ _ _ h => h) rfl ?_ q11 ?_
              rotate_left
              · intro W hW
                go_simp
                (try with_reducible rfl)
              simp only [Act.put, List.setIfInBounds_toArray, List.set_cons_zero, List.set_cons_succ]
              refine fin_take 19 (v := ?_) rfl (by kernel_rfl) (by kernel_rfl) (by kernel_rfl) (by kernel_rfl) (fun _ _ _ h => h) rfl ?_ q11 ?_
              rotate_left
              · intro W hW
                go_simp
                (try with_reducible rfl)
              simp only [Act.put, List.setIfInBounds_toArray, List.set_cons_zero, List.set_cons_succ]
              refine fin_takeG 20 (v := ?_) rfl (by kernel_rfl) (by kernel_rfl) (by kernel_rfl) (by kernel_rfl) (fun _ _ _ h => h) (by rfl) ?_ q11 ?_
              rotate_left
              · intro W hW
                go_simp
                (try with_reducible rfl)
              simp only [Act.put, List.setIfInBounds_toArray, List.set_cons_zero, List.set_cons_succ]
              refine fin_takeG 21 (v := ?_) rfl (by kernel_rfl) (by kernel_rfl) (by kernel_rfl) (by kernel_rfl) (fun _ _ _ h => h) (by rfl) ?_ q11 ?_
              rotate_left
              · intro W hW
                go_simp
                (try with_reducible rfl)
              simp only [Act.put, List.setIfInBounds_toArray, List.set_cons_zero, List.set_cons_succ]
              refine fin_oneG 22 rfl (by rfl) (by kernel_rfl) (fun K hK => ?_)
              go_simp
              refine (hV9 _).mono ?_
              rintro _ w12 ⟨rfl, k12'⟩
              have k12 : On W9 w12 := k11.trans k12'
              have q12 := hS23 _ k12
              refine hK.out _ _ (fun _ => q12) ?_
              clear hK
              refine fin_takeG 23 (v := ?_) rfl (by kernel_rfl) (by kernel_rfl) (by kernel_rfl) (by kernel_rfl) (fun _ _ _ h => h) (by rfl) ?_ q12 ?_
              rotate_left
              · intro W hW
                go_simp
                (try with_reducible rfl)
              simp only [Act.put, List.setIfInBounds_toArray, List.set_cons_zero, List.set_cons_succ]
              refine fin_take 24 (v := ?_) rfl (by kernel_rfl) (by kernel_rfl) (by kernel_rfl) (by kernel_rfl) (fun _ _ _ h => h) rfl ?_ q12 ?_
              rotate_left
              · intro W hW
                go_simp
                (try with_reducible rfl)
              simp only [Act.put, List.setIfInBounds_toArray, List.set_cons_zero, List.set_cons_succ]
              refine fin_take 25 (v := ?_) rfl (by kernel_rfl) (by kernel_rfl) (by kernel_rfl) (by kernel_rfl) (fun _ _ _ h => h) rfl ?_ q12 ?_
              rotate_left
              · intro W hW
                go_simp
                (try with_reducible rfl)
              simp only [Act.put, List.setIfInBounds_toArray, List.set_cons_zero, List.set_cons_succ]
              refine fin_oneG 26 rfl (by rfl) (by kernel_rfl) (fun K hK => ?_)
              go_simp
              refine (hA _ (KW5.trans (kw9.trans k12))).mono ?_
              rintro _ w13 ⟨rfl, k13'⟩
              have k13 : On W9 w13 := k12.trans k13'
              have q13 := hS23 _ k13
              refine hK.out _ _ (fun _ => q13) ?_
              clear hK
              refine fin_take 27 (v := ?_) rfl (by kernel_rfl) (by kernel_rfl) (by kernel_rfl) (by kernel_rfl) (fun _ _ _ h => h) rfl ?_ q13 ?_
              rotate_left
              · intro W hW
                go_simp
                (try with_reducible rfl)
              simp only [Act.put, List.setIfInBounds_toArray, List.set_cons_zero, List.set_cons_succ]
              refine fin_take 28 (v := ?_) rfl (by kernel_rfl) (by kernel_rfl) (by kernel_rfl) (by kernel_rfl) (fun _ _ _ h => h) rfl ?_ q13 ?_
              rotate_left
              · intro W hW
                go_simp
                (try with_reducible rfl)
              simp only [Act.put, List.setIfInBounds_toArray, List.set_cons_zero, List.set_cons_succ]
              refine fin_done (by kernel_rfl) (NoPanic.normal ?_)
              go_wp2
              go_ret
              exact ⟨rfl, KW5.trans (kw9.trans k13)⟩
end Go.Proofs.YtengdlchglkkjaaDoor

namespace Go.Proofs.YtengdlchglkkjaaDoor
open Go.ChangeShapes Go.WideShapes Go.ChangeAt Go.WideMaps Go.WideElems Go.RowKit

theorem progSteps_walk (t : TestT) (v : Value) (ao : Option Addr) (zs : List Int) (cap : Nat) (th : Int) (av : Option Addr) (vs : List Int) (cv : Nat) (p0 p1 p2 p3 p4 : Int) (w : World) (ht : TestRd w v t) (_ : testI t) (hz : zs.length ≤ 9223372036854775807) (hr : Rd intC 1 w (.slice ao zs.length cap) zs) (_ : vs.length ≤ 9223372036854775807) (hv : Rd intC 1 w (.slice av vs.length cv) vs) (hw : Lw w ∧ Db w) :
    Calls Tryd.prog 5 #[v, .slice ao zs.length cap, .int .i64 th, .slice av vs.length cv, .agg #[.int .i64 p0, .int .i64 p1, .int .i64 p2, .int .i64 p3, .int .i64 p4]] w fun e w' => e = .returned (.bool true) ∧ On w w' :=
  progSteps_go t v ao zs cap th av vs cv p0 p1 p2 p3 p4 w ht hv hw (fun W k => small_is zs ao cap 12 W hz (hr.on k))

theorem c_i64s : Tryd.prog.cellsOf 2 = 1 := by kernel_rfl
theorem c_ints : Tryd.prog.cellsOf 3 = 1 := by kernel_rfl
theorem laidOutT : laidOutB Tryd.prog = true := by kernel_rfl
set_option linter.unusedSimpArgs false in
set_option maxRecDepth 100000 in
theorem progSteps_lifted (os : Os) (started : os.Started) (H : Type) (enc : TypeId × Value → H) :
    ReturnsInHanded {} Tryd.checked os 5 .any (fun w args => (Rows.progStepsSpec.pre enc Tryd.prog Tryd.f5 [] false w args ∧ laidMetH Tryd.prog laidL w) ∧ sizedMet enc Tryd.prog Tryd.f5 (OpenSpec.ofChange Rows.progStepsSpec) false w args)
      (Rows.progStepsSpec.post enc Tryd.prog Tryd.f5 false true false false) := by
  refine returnsInHanded_of_change_and (C := Tryd.checked) (X := fun w _ => laidMetH Tryd.prog laidL w) (fun _ _ _ hh h => h.of_heap hh) own started (by kernel_rfl) Tryd.func5
    (ChangeSpec.witness_shaped (enc := enc) (C := Tryd.checked) (os := os) (X := fun w _ => laidMetH Tryd.prog laidL w) false (World.doorLaid Tryd.prog 400 os) #[.agg #[.string ⟨#[]⟩, .slice none 0 0, .slice none 0 0, .int .i64 0, .slice none 0 0], .slice none 0 0, .int .i64 0, .slice none 0 0, .agg #[.int .i64 0, .int .i64 0, .int .i64 0, .int .i64 0, .int .i64 0]] 8 rfl (World.shaped_of_RefB (by kernel_rfl) (by kernel_rfl)) (by kernel_rfl) (by kernel_rfl) (by kernel_rfl) (door_met os _)) ?_
  intro W base args ds gs before hval0 hW _ _ hL _
  have hval : ∀ (j : Nat) t v, Tryd.f5.params[j]? = some t → args[j]? = some v → Value.okWide Tryd.prog W .any base t v := hval0
  have hW' := hW
  obtain ⟨p, q, hA0, hV, rfl, hfz, hnd⟩ := hW
  have hA : DataW.TrodAll enc Tryd.prog W 0 (fun _ => true) true Tryd.f5.params.toList args.toList ds p := hA0
  rw [Tryd.params5] at hA hval
  obtain ⟨v0, v1, v2, v3, v4, d0, d1, d2, d3, d4, p0, p1, p2, p3, p4, rfl, rfl, rfl, h0, h1, h2, h3, h4⟩ := trodAll_five hA
  obtain ⟨rfl, rfl⟩ := trodVars_none hV
  obtain ⟨th, rfl, rfl, rfl, wth⟩ := open_int Tryd.underlying3 (hval 2 3 v2 rfl rfl) h2
  obtain ⟨a1, len1, cap1, rfl⟩ := okWide_slice Tryd.underlying29 (hval 1 29 v1 rfl rfl)
  have h1k := h1
  obtain ⟨fuel1, hf1⟩ := h1
  obtain ⟨a3, len3, cap3, rfl⟩ := okWide_slice Tryd.underlying38 (hval 3 38 v3 rfl rfl)
  have h3k := h3
  obtain ⟨fuel3, hf3⟩ := h3
  obtain ⟨cs0, rfl, _⟩ := okWide_struct Tryd.underlying28 (hval 0 28 v0 rfl rfl)
  have h0k := h0
  obtain ⟨fuel0, hf0⟩ := h0
  obtain ⟨cs4, rfl, _⟩ := okWide_struct Tryd.underlying48 (hval 4 48 v4 rfl rfl)
  have h4k := h4
  obtain ⟨fuel4, hf4⟩ := h4
  clear hA0 hval0
  simp only [List.append_nil, List.nil_append, List.append_assoc] at hW'
  have hlt0 : ∀ x ∈ p0, x.block < W.heap.size := fun x hx => by
    have := hW'.lt x (by simp [hx])
    simpa using this
  have hargs0 : ∀ (W' : World), Below W.heap.size W W' → DataW.Trod enc Tryd.prog W' 0 (fun b => decide (b < W.heap.size)) true 28 (.agg cs0) d0 p0 :=
    fun W' hn => Below.trod laidOutT (by kernel_rfl) (of_decide_eq_true (by kernel_rfl)) h0k hn hlt0
  obtain ⟨t0, ht0, hti0⟩ := test_of fuel0 cs0.toList _ hf0
  rw [Array.toArray_toList] at ht0
  have hlt4 : ∀ x ∈ p4, x.block < W.heap.size := fun x hx => by
    have := hW'.lt x (by simp [hx])
    simpa using this
  have hargs4 : ∀ (W' : World), Below W.heap.size W W' → DataW.Trod enc Tryd.prog W' 0 (fun b => decide (b < W.heap.size)) true 48 (.agg cs4) d4 p4 :=
    fun W' hn => Below.trod laidOutT (by kernel_rfl) (of_decide_eq_true (by kernel_rfl)) h4k hn hlt4
  obtain ⟨p40, p41, p42, p43, p44, hcs4⟩ := local_of fuel4 cs4.toList _ hf4
  obtain rfl : cs4 = #[.int .i64 p40, .int .i64 p41, .int .i64 p42, .int .i64 p43, .int .i64 p44] := Array.ext' hcs4
  have hlt1 : ∀ x ∈ p1, x.block < W.heap.size := fun x hx => by
    have := hW'.lt x (by simp [hx])
    simpa using this
  have hargs1 : ∀ (W' : World), Below W.heap.size W W' → DataW.Trod enc Tryd.prog W' 0 (fun b => decide (b < W.heap.size)) true 29 (.slice a1 len1 cap1) d1 p1 :=
    fun W' hn => Below.trod laidOutT (by kernel_rfl) (of_decide_eq_true (by kernel_rfl)) h1k hn hlt1
  obtain ⟨zs1, hzl1, hr1⟩ : ∃ zs : List Int, zs.length = len1 ∧ Rd intC 1 W (.slice a1 zs.length cap1) zs := by
    rcases open_ints Tryd.underlying29 Tryd.underlying3 c_ints hf1 with ⟨hcs, hx⟩ | ⟨a, len', cap', zs, hcs, _, hl, hm, hz, hx, hcell, hwz⟩
    · simp [Value.cells] at hcs
      obtain ⟨rfl, rfl, rfl⟩ := hcs
      exact ⟨[], rfl, Rd.nil _ _ _⟩
    · simp [Value.cells] at hcs
      obtain ⟨rfl, rfl, rfl⟩ := hcs
      simp only [Prod.mk.injEq] at hx
      obtain ⟨rfl, rfl⟩ := hx
      simp only [if_true] at hz
      have hlen : (zs.take len1).length = len1 := by rw [List.length_take]; omega
      refine ⟨zs.take len1, hlen, _, cap1, rfl, by omega, by have hm' := hm; unfold maxLen at hm'; omega, fun h => ?_⟩
      obtain ⟨b, off, spot⟩ := a
      have hspot : spot = none := by simpa [Addr.add] using World.cell?_spot (hcell 0 (by omega))
      subst hspot
      refine ⟨b, off, rfl, hlt1 (.cell b off) (MemPlace.mem_row.2 ⟨0, by omega, by simp⟩), fun i x j u hi hj => ?_⟩
      rw [List.getElem?_take] at hi
      split at hi
      · match j, hj with
        | 0, hj =>
          simp only [intC, List.getElem?_cons_zero, Option.some.injEq] at hj
          subst hj
          have hi' : i < zs.length := (List.getElem?_eq_some_iff.1 hi).1
          have hc := hcell i hi'
          rw [add_plain, List.getD_eq_getElem?_getD, hi] at hc
          rw [Nat.mul_one, Nat.add_zero]
          exact hc
        | j + 1, hj => simp [intC] at hj
      · cases hi
  subst hzl1
  obtain ⟨_, _, _, _, hz1⟩ := hr1.slice
  have hlt3 : ∀ x ∈ p3, x.block < W.heap.size := fun x hx => by
    have := hW'.lt x (by simp [hx])
    simpa using this
  have hargs3 : ∀ (W' : World), Below W.heap.size W W' → DataW.Trod enc Tryd.prog W' 0 (fun b => decide (b < W.heap.size)) true 38 (.slice a3 len3 cap3) d3 p3 :=
    fun W' hn => Below.trod laidOutT (by kernel_rfl) (of_decide_eq_true (by kernel_rfl)) h3k hn hlt3
  obtain ⟨zs3, hzl3, hr3⟩ : ∃ zs : List Int, zs.length = len3 ∧ Rd intC 1 W (.slice a3 zs.length cap3) zs := by
    rcases open_ints Tryd.underlying38 Tryd.underlying2 c_i64s hf3 with ⟨hcs, hx⟩ | ⟨a, len', cap', zs, hcs, _, hl, hm, hz, hx, hcell, hwz⟩
    · simp [Value.cells] at hcs
      obtain ⟨rfl, rfl, rfl⟩ := hcs
      exact ⟨[], rfl, Rd.nil _ _ _⟩
    · simp [Value.cells] at hcs
      obtain ⟨rfl, rfl, rfl⟩ := hcs
      simp only [Prod.mk.injEq] at hx
      obtain ⟨rfl, rfl⟩ := hx
      simp only [if_true] at hz
      have hlen : (zs.take len3).length = len3 := by rw [List.length_take]; omega
      refine ⟨zs.take len3, hlen, _, cap3, rfl, by omega, by have hm' := hm; unfold maxLen at hm'; omega, fun h => ?_⟩
      obtain ⟨b, off, spot⟩ := a
      have hspot : spot = none := by simpa [Addr.add] using World.cell?_spot (hcell 0 (by omega))
      subst hspot
      refine ⟨b, off, rfl, hlt3 (.cell b off) (MemPlace.mem_row.2 ⟨0, by omega, by simp⟩), fun i x j u hi hj => ?_⟩
      rw [List.getElem?_take] at hi
      split at hi
      · match j, hj with
        | 0, hj =>
          simp only [intC, List.getElem?_cons_zero, Option.some.injEq] at hj
          subst hj
          have hi' : i < zs.length := (List.getElem?_eq_some_iff.1 hi).1
          have hc := hcell i hi'
          rw [add_plain, List.getD_eq_getElem?_getD, hi] at hc
          rw [Nat.mul_one, Nat.add_zero]
          exact hc
        | j + 1, hj => simp [intC] at hj
      · cases hi
  subst hzl3
  obtain ⟨_, _, _, _, hz3⟩ := hr3.slice
  refine (progSteps_walk t0 (.agg cs0) a1 zs1 cap1 th a3 zs3 cap3 p40 p41 p42 p43 p44 W ht0 hti0 hz1 hr1 hz3 hr3 (of_laid hL)).mono fun e W' ⟨he, hw⟩ => ?_
  subst he
  refine ⟨_, rfl, _, _, _, [], p0 ++ (p1 ++ (p3 ++ (p4))), [], hW', ?_, ?_, rfl, Below.frame hw _, fun h => by cases h⟩
  · exact trodAll_mk1 (shut_bool Tryd.underlying4 _)
  · have hmk := trodAll_mk5 (hargs0 _ hw) (hargs1 _ hw) (shut_int Tryd.underlying3 wth) (hargs3 _ hw) (hargs4 _ hw)
    try simp only [List.append_nil, List.nil_append, List.append_assoc] at hmk
    exact hmk

theorem progSteps_said : Rows.ProgStepsSaid :=
  OpenClaim.holds_of_wide 5 Tryd.f5 rfl rfl rfl rfl rfl rfl rfl ⟨rfl, rfl, rfl, rfl, rfl⟩ rfl rfl rfl rfl rfl (by kernel_rfl) Tryd.func5 (by kernel_rfl)
    (of_decide_eq_true (by kernel_rfl)) (by unfold Func.isWrapper; first | (rw [if_pos (by decide +kernel)]; kernel_rfl) | (rw [if_neg (by decide +kernel)]; exact ⟨rfl, rfl⟩))
    (fun os started H enc _ => progSteps_lifted os started H enc)

theorem progSteps_card : Rows.ProgStepsCardSaid :=
  Claim7.holds_tied_plain_at .later [] [.data, .data] true (true, "a8dc24de4f356846f0e53c41a43c0929d2c6f123d338e976d8c01dbc49a794ba") false
    progSteps_said (fun _ h => by cases h) (by kernel_rfl) (fun _ h => by cases h) progSteps_row_tie rfl ⟨rfl, rfl⟩ (by kernel_rfl) rfl
    (fun f fn hf hfn => by
      obtain rfl : f = 5 := Option.some.inj ((show Tryd.prog.funcNamed "jacquard/jacquardlaw6.ProgSteps" = some 5 by kernel_rfl).symm.trans hf) |>.symm
      obtain rfl : fn = Tryd.f5 := (Option.some.inj (Tryd.func5.symm.trans hfn)).symm
      exact ⟨by kernel_rfl, fun j t ht => by
        rw [Tryd.params5] at ht
        have hm : t ∈ [28, 29, 3, 38, 48] := by simpa using Array.mem_of_getElem? ht
        have hall : ([28, 29, 3, 38, 48].all fun u => !Tryd.prog.wantsStandIn u) = true := by kernel_rfl
        exact (show Tryd.prog.wantsStandIn t = false by simpa using List.all_eq_true.1 hall t hm)⟩)
    (by kernel_rfl)
#print axioms progSteps_card

end Go.Proofs.YtengdlchglkkjaaDoor
