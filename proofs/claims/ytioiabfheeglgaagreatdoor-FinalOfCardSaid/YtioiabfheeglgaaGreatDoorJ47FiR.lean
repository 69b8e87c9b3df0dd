/- final.Of: how a candidate ends, for every program and every candidate in memory. -/
import Derived.Test.YtioiabfheeglgaaGreatDoorJ46FiP
import Derived.Test.YtioiabfheeglgaaGreatDoorJ28REvU
namespace Go.Proofs.YtioiabfheeglgaaGreatDoor
open Go.RowKit

abbrev TF : TypeId := 36
theorem zero20 : (#[.int .i64 0, .int .i64 0, .int .i64 0, .int .i64 0, .int .i64 0, .int .i64 0, .int .i64 0, .int .i64 0, .int .i64 0, .int .i64 0, .int .i64 0, .int .i64 0, .int .i64 0, .int .i64 0, .int .i64 0, .int .i64 0, .int .i64 0, .int .i64 0, .int .i64 0, .int .i64 0] : Array Value) = finA finZ := by kernel_rfl
/-- What the calls carry: the frame, the end's two blocks. -/
structure OfJ (w w1 W : World) (R : Nat) (f : FinT) : Prop where
 on : On w W
 kt : Kt TF w1 W
 lo : w.heap.size ≤ R
 hr : Bk W R (finA finZ)
 hf : W.heap[R + 1]? = some (.cells (finA f) TF (0, 0))
section
variable {w w1 W W' : World} {R : Nat} {f g : FinT}
theorem OfJ.go (h : OfJ w w1 W R f) (k : On W W') : OfJ w w1 W' R f := ⟨h.on.trans k, h.kt.trans (Kt.on k), h.lo, h.hr.on k, (k.block _ (lt_of_block h.hf)).trans h.hf⟩
theorem OfJ.bf (h : OfJ w w1 W R f) : Bk W (R + 1) (finA f) := ⟨_, h.hf⟩
theorem OfJ.set (h : OfJ w w1 W R f) {o : Nat} {u : Value} (e : (finC f).set o u = finC g) : OfJ w w1 (W.setCell ⟨R + 1, o, none⟩ u) R g := by
 refine ⟨h.on.setNew (Nat.le_trans h.lo (Nat.le_succ _)) _, h.kt.trans (Kt.set h.hf u), h.lo, h.hr.far (by omega) _ _, ?_⟩
 have := heap_put (cs := finC f) h.hf o u
 rw [e] at this
 exact this
theorem Kt.puts {S : TypeId} {N : Nat} : ∀ (vs : List Value) (w : World) (cs : List Value) (o : Nat), w.heap[N]? = some (.cells cs.toArray S (0, 0)) → Kt S w (putCells w N o vs)
 | [], w, _, _, _ => Kt.refl S w
 | u :: vs, _, _, o, h => (Kt.set h u).trans (Kt.puts vs _ _ _ (heap_put h o u))
theorem OfJ.puts (h : OfJ w w1 W R f) {o : Nat} {vs : List Value} (e : putAt (finC f) o vs = finC g) : OfJ w w1 (putCells W (R + 1) o vs) R g := by
 have h1 := heap_puts (N := R + 1) (T := TF) vs W (finC f) o h.hf
 rw [e] at h1
 exact ⟨On.puts (Nat.le_trans h.lo (Nat.le_succ _)) vs W o h.on, h.kt.trans (Kt.puts vs W (finC f) o h.hf), h.lo, Bk.fars (by omega) vs W _ o h.hr, h1⟩
theorem Kt.bk (h : Kt TF w1 W) {N : Nat} {cs : Array Value} {T : TypeId} (e : w1.heap[N]? = some (.cells cs T (0, 0))) (hT : T ≠ TF) : Bk W N cs := ⟨T, (h.block N _ _ _ e hT).trans e⟩
end
set_option maxHeartbeats 4000000 in
set_option maxRecDepth 8000 in
theorem fOf_is (LT : List UInt8) (IN : List Int) (LL : List (List InsT)) (x : ExT) (vp vx : Value) (w : World) (hP : ProgFl w vp LT IN LL) (hX : ExRd w vx x) (hE : x.evs.length ≤ 1000) (hb : ∀ k, B64 (endN LL x k)) (hLc : LT.length = x.co.length) (h4 : x.co.length ≤ 4)
  (hlen : ∀ t, (threadP LL t).length ≤ 1000000) (hco : ∀ (c : Nat) r, x.co[c]? = some r → 0 < r.length ∧ ∃ k : Nat, r.getD (r.length - 1) 0 = (k : Int) ∧ k < x.evs.length) :
  Calls Tryz.prog 8 #[vp, vx] w fun e w' => e = .returned (.agg (finA (endF LL x))) ∧ On w w' := by
 have HP : Hid (ProgFl w vp LT IN LL) := hP
 have HLC : Hid (LT.length = x.co.length) := hLc
 have HC4 : Hid (x.co.length ≤ 4) := h4
 have HX : Hid (ExRd w vx x) := hX
 have hU := fun (n : Nat) (a : Option Addr) (c : Nat) W (k : On w W) (hr : Rd intC 1 W (.slice a (rdsE x.evs (n : Int)).length c) (rdsE x.evs (n : Int))) => unfold_is LL (n : Int) (rdsE x.evs (n : Int)) a c vp W (HP.out.on k).rd hr (hlen _)
 have HU : Hid _ := hU
 have HL : Hid (∀ (c : Nat), c < x.co.length → ∀ W, On w W → Calls Tryz.prog 25 #[vx, .int .i64 (c : Int)] W fun e w' => e = .returned (.int .i64 (lastW x c)) ∧ On W w') := fun c hc W k => by
  obtain ⟨h0, kk, h1, h2⟩ := hco c _ (List.getElem?_eq_getElem hc)
  exact lastOf_is x vx c W (HX.out.on k) _ (List.getElem?_eq_getElem hc) h0 kk h1 h2
 have HB : Hid (∀ k, B64 (endN LL x k)) := hb
 obtain ⟨a1, c1, a2, c2, a3, c3, rfl, _, _, _⟩ := hP.ex
 obtain ⟨b1, d1, b2, d2, b3, d3, rfl, r1, _, _⟩ := hX.ex
 obtain ⟨pc, hpc⟩ : ∃ pc : Array Value, pc = #[.slice a1 LT.length c1, .slice a2 IN.length c2, .slice a3 LL.length c3] := ⟨_, rfl⟩
 obtain ⟨xc, hxc⟩ : ∃ xc : Array Value, xc = #[.slice b1 x.evs.length d1, .slice b2 x.rf.length d2, .slice b3 x.co.length d3] := ⟨_, rfl⟩
 obtain ⟨W0, hW0⟩ : ∃ W0, W0 = (((w.alloc (.cells #[.slice a1 LT.length c1, .slice a2 IN.length c2, .slice a3 LL.length c3] 27)).alloc (.cells #[.slice b1 x.evs.length d1, .slice b2 x.rf.length d2, .slice b3 x.co.length d3] 41)).alloc (.cells #[.int .i64 0, .int .i64 0, .int .i64 0, .int .i64 0, .int .i64 0, .int .i64 0, .int .i64 0, .int .i64 0, .int .i64 0, .int .i64 0, .int .i64 0, .int .i64 0, .int .i64 0, .int .i64 0, .int .i64 0, .int .i64 0, .int .i64 0, .int .i64 0, .int .i64 0, .int .i64 0] TF)).alloc (.cells #[.int .i64 0, .int .i64 0, .int .i64 0, .int .i64 0, .int .i64 0, .int .i64 0, .int .i64 0, .int .i64 0, .int .i64 0, .int .i64 0, .int .i64 0, .int .i64 0, .int .i64 0, .int .i64 0, .int .i64 0, .int .i64 0, .int .i64 0, .int .i64 0, .int .i64 0, .int .i64 0] TF) := ⟨_, rfl⟩
 have HW : Hid (W0 = (((w.alloc (.cells #[.slice a1 LT.length c1, .slice a2 IN.length c2, .slice a3 LL.length c3] 27)).alloc (.cells #[.slice b1 x.evs.length d1, .slice b2 x.rf.length d2, .slice b3 x.co.length d3] 41)).alloc (.cells #[.int .i64 0, .int .i64 0, .int .i64 0, .int .i64 0, .int .i64 0, .int .i64 0, .int .i64 0, .int .i64 0, .int .i64 0, .int .i64 0, .int .i64 0, .int .i64 0, .int .i64 0, .int .i64 0, .int .i64 0, .int .i64 0, .int .i64 0, .int .i64 0, .int .i64 0, .int .i64 0] TF)).alloc (.cells #[.int .i64 0, .int .i64 0, .int .i64 0, .int .i64 0, .int .i64 0, .int .i64 0, .int .i64 0, .int .i64 0, .int .i64 0, .int .i64 0, .int .i64 0, .int .i64 0, .int .i64 0, .int .i64 0, .int .i64 0, .int .i64 0, .int .i64 0, .int .i64 0, .int .i64 0, .int .i64 0] TF)) := hW0
 have HO : Hid (On w W0) := by show On _ _; rw [hW0]; exact ((((On.refl w).alloc _).alloc _).alloc _).alloc _
 have g0 : (w.alloc (.cells pc 27)).heap[w.heap.size]? = some (.cells pc 27 (0, 0)) := heap_alloc_new w _
 have g1 := heap_alloc_new (w.alloc (.cells pc 27)) (.cells xc 41)
 have g2 := heap_alloc_new ((w.alloc (.cells pc 27)).alloc (.cells xc 41)) (.cells #[.int .i64 0, .int .i64 0, .int .i64 0, .int .i64 0, .int .i64 0, .int .i64 0, .int .i64 0, .int .i64 0, .int .i64 0, .int .i64 0, .int .i64 0, .int .i64 0, .int .i64 0, .int .i64 0, .int .i64 0, .int .i64 0, .int .i64 0, .int .i64 0, .int .i64 0, .int .i64 0] TF)
 have g3 := heap_alloc_new (((w.alloc (.cells pc 27)).alloc (.cells xc 41)).alloc (.cells #[.int .i64 0, .int .i64 0, .int .i64 0, .int .i64 0, .int .i64 0, .int .i64 0, .int .i64 0, .int .i64 0, .int .i64 0, .int .i64 0, .int .i64 0, .int .i64 0, .int .i64 0, .int .i64 0, .int .i64 0, .int .i64 0, .int .i64 0, .int .i64 0, .int .i64 0, .int .i64 0] TF)) (.cells #[.int .i64 0, .int .i64 0, .int .i64 0, .int .i64 0, .int .i64 0, .int .i64 0, .int .i64 0, .int .i64 0, .int .i64 0, .int .i64 0, .int .i64 0, .int .i64 0, .int .i64 0, .int .i64 0, .int .i64 0, .int .i64 0, .int .i64 0, .int .i64 0, .int .i64 0, .int .i64 0] TF)
 simp only [World.size_alloc] at g1 g2 g3
 rw [hpc, hxc] at g1 g2 g3
 rw [hpc] at g0
 have hP0 : W0.heap[w.heap.size]? = some (.cells pc 27 (0, 0)) := by
  rw [hpc, hW0]
  exact (((((On.refl _).alloc _).alloc _).alloc _).block _ (lt_of_block g0)).trans g0
 have hX0 : W0.heap[w.heap.size + 1]? = some (.cells xc 41 (0, 0)) := by
  rw [hxc, hW0]
  exact ((((On.refl _).alloc _).alloc _).block _ (lt_of_block g1)).trans g1
 have hR0 : W0.heap[w.heap.size + 1 + 1]? = some (.cells (finA finZ) TF (0, 0)) := by
  rw [hW0, ← zero20]
  exact (((On.refl _).alloc _).block _ (lt_of_block g2)).trans g2
 have hF0 : W0.heap[w.heap.size + 1 + 1 + 1]? = some (.cells (finA finZ) TF (0, 0)) := by
  rw [hW0, ← zero20]
  exact g3
 have hRB := freadBy_is x.evs b1 d1 W0 (r1.on HO.out) hE
 rw [hW0] at hRB
 clear hP hX hU hW0 r1 g0 g1 g2 g3 hb hlen hco hE hLc h4
 go_enter Tryz.func8, Tryz.ntmps8
 go_wp2_with fail
 refine hRB.mono ?_
 rintro _ w1 ⟨p0, q0, p1, q1, p2, q2, p3, q3, rfl, t0, t1, t2, t3, k1⟩
 rw [← HW.out] at k1
 have hP1 : Hid (w1.heap[w.heap.size]? = some (.cells pc 27 (0, 0))) := (k1.block _ (lt_of_block hP0)).trans hP0
 have hX1 : Hid (w1.heap[w.heap.size + 1]? = some (.cells xc 41 (0, 0))) := (k1.block _ (lt_of_block hX0)).trans hX0
 have T0 : Hid (∀ n : Nat, n < 4 → ∃ p q, (∀ W : World, (Instr.index 52 (.agg #[Value.slice p0 (rdsE x.evs 0).length q0, .slice p1 (rdsE x.evs 1).length q1, .slice p2 (rdsE x.evs 2).length q2, .slice p3 (rdsE x.evs 3).length q3]) (.int .i64 (n : Int))).run Tryz.prog W = .ok (.slice p (rdsE x.evs (n : Int)).length q) W) ∧ RdT 2 intC 1 w1 (.slice p (rdsE x.evs (n : Int)).length q) (rdsE x.evs (n : Int))) := fun n hn => by
  match n, hn with
  | 0, _ => exact ⟨p0, q0, fun W => by kernel_rfl, t0⟩
  | 1, _ => exact ⟨p1, q1, fun W => by kernel_rfl, t1⟩
  | 2, _ => exact ⟨p2, q2, fun W => by kernel_rfl, t2⟩
  | 3, _ => exact ⟨p3, q3, fun W => by kernel_rfl, t3⟩
 have HJ : Hid (OfJ w w1 w1 (w.heap.size + 1 + 1) (endT LL x 0 0)) := by
  show OfJ _ _ _ _ _
  rw [endT_zero]
  exact ⟨HO.out.trans k1, Kt.refl _ _, by omega, ⟨_, (k1.block _ (lt_of_block hR0)).trans hR0⟩, (k1.block _ (lt_of_block hF0)).trans hF0⟩
 have HPC : Hid (pc = #[.slice a1 LT.length c1, .slice a2 IN.length c2, .slice a3 LL.length c3]) := hpc
 have HXC : Hid (xc = #[.slice b1 x.evs.length d1, .slice b2 x.rf.length d2, .slice b3 x.co.length d3]) := hxc
 clear hRB HO HW hP0 hX0 hR0 hF0 k1 t0 t1 t2 t3 hpc hxc
 generalize (rdsE x.evs 0).length = n0 at *
 generalize (rdsE x.evs 1).length = n1 at *
 generalize (rdsE x.evs 2).length = n2 at *
 generalize (rdsE x.evs 3).length = n3 at *
 go_wp2
 go_loopg [15] 4 (fun gg s15 wq => ∃ n : Nat, n ≤ 4 ∧ gg = 4 - n ∧ s15 = .int .i64 n ∧ Hid (OfJ w w1 wq (w.heap.size + 1 + 1) (endT LL x n 0)))
 case atStart => exact ⟨0, Nat.zero_le _, rfl, rfl, HJ⟩
 case round =>
  clear HJ
  obtain ⟨n, hn4, hk, rfl, HJ⟩ := hrel
  rcases Nat.lt_or_ge n 4 with hlt | hge
  ·
   have bn0 : (0 : Int) ≤ (n : Int) := by omega
   have bn1 : (n : Int) < 4 := by omega
   obtain ⟨p, q, hidx, hT⟩ := T0.out n hlt
   have BP := HJ.out.kt.bk hP1.out (by decide)
   rw [HPC.out] at BP
   have cp0 := BP.at (i := 0) rfl
   have cp1 := BP.at (i := 1) rfl
   have cp2 := BP.at (i := 2) rfl
   have hUn := HU.out n p q wr HJ.out.on (hT.kt HJ.out.kt (by decide)).1
   clear BP
   go_wp2_with fail
   refine hUn.mono ?_
   rintro _ w2 ⟨a', c', rfl, _, k2⟩
   have HJ2 : Hid (OfJ w w1 w2 (w.heap.size + 1 + 1) (endT LL x n 0)) := HJ.out.go k2
   obtain ⟨E0, hE0⟩ : ∃ E0, E0 = (unfP (threadP LL (n : Int)) (n : Int) (rdsE x.evs (n : Int))).2.1 := ⟨_, rfl⟩
   have hth : E0 = thrEnd LL x.evs n := hE0
   rw [← hE0]
   clear hE0
   obtain ⟨pc', r0, r1, r2, r3⟩ := E0
   obtain ⟨N2, hN2⟩ : ∃ N2, N2 = w2.alloc (.cells #[.int .i64 pc', .int .i64 r0, .int .i64 r1, .int .i64 r2, .int .i64 r3] 73) := ⟨_, rfl⟩
   have HJ3 : Hid (OfJ w w1 (w2.alloc (.cells #[.int .i64 pc', .int .i64 r0, .int .i64 r1, .int .i64 r2, .int .i64 r3] 73)) (w.heap.size + 1 + 1) (endT LL x n 0)) := HJ2.out.go ((On.refl w2).alloc _)
   have BL := Bk.new w2 #[.int .i64 pc', .int .i64 r0, .int .i64 r1, .int .i64 r2, .int .i64 r3] 73
   have BF := HJ3.out.bf
   have HPT : Hid (putAt (finC (endT LL x n 0)) (n * 4) [.int .i64 r0, .int .i64 r1, .int .i64 r2, .int .i64 r3] = finC (endT LL x (n + 1) 0)) := by
    have := endT_reg (LL := LL) (x := x) HB.out hlt
    rw [← hth] at this
    exact this
   have HN : Hid (OfJ w w1 (putCells (w2.alloc (.cells #[.int .i64 pc', .int .i64 r0, .int .i64 r1, .int .i64 r2, .int .i64 r3] 73)) (w.heap.size + 1 + 1 + 1) (n * 4) [.int .i64 r0, .int .i64 r1, .int .i64 r2, .int .i64 r3]) (w.heap.size + 1 + 1) (endT LL x (n + 1) 0)) := HJ3.out.puts HPT.out
   have z0 := BF.at (finA_at _ (endT_at HB.out n 0 (n * 4) (by omega)))
   have z1 := BF.at (finA_at _ (endT_at HB.out n 0 (n * 4 + 1) (by omega)))
   have z2 := BF.at (finA_at _ (endT_at HB.out n 0 (n * 4 + 2) (by omega)))
   have z3 := BF.at (finA_at _ (endT_at HB.out n 0 (n * 4 + 3) (by omega)))
   have zf := fun i => BF.fr i
   have zl := BF.lt
   clear hth hN2 BF HJ HJ2 HJ3 hUn hidx hT cp0 cp1 cp2 k2
   unfold locV
   go_wp2
   go_roundg (4 - (n + 1))
   case measure => omega
   case rel => exact ⟨n + 1, by omega, rfl, by go_num, HN⟩
  ·
   obtain rfl : n = 4 := by omega
   have BP := HJ.out.kt.bk hP1.out (by decide)
   rw [HPC.out] at BP
   have cp0 := BP.at (i := 0) rfl
   have dmin : min (LT.length : Int) 4 = (LT.length : Int) := by
    have h1 := HLC.out
    have h2 := HC4.out
    omega
   have HMN : Hid (min (LT.length : Int) 4 = (LT.length : Int)) := dmin
   clear BP hn4 hk hge
   go_wp2
   obtain ⟨wo, hwo⟩ : ∃ wo, wo = wr := ⟨_, rfl⟩
   subst hwo
   clear cp0 dmin
   go_loopg [37] LT.length (fun gg s37 wq => ∃ m : Nat, m ≤ LT.length ∧ gg = LT.length - m ∧ s37 = .int .i64 m ∧ Hid (OfJ w w1 wq (w.heap.size + 1 + 1) (endT LL x 4 m)))
   case atStart => exact ⟨0, Nat.zero_le _, rfl, rfl, HJ⟩
   case round =>
    clear HJ
    obtain ⟨m, hm, hk, rfl, HJ⟩ := hrel
    rcases Nat.lt_or_ge m LT.length with hlt | hge
    ·
     have hmc : m < x.co.length := by rw [← HLC.out]; exact hlt
     have hm4 : m < 4 := Nat.lt_of_lt_of_le hmc HC4.out
     have bn0 : (0 : Int) ≤ (m : Int) := by omega
     have bn1 : (m : Int) < 4 := by omega
     have bn2 : (m : Int) < (LT.length : Int) := by omega
     have BX := HJ.out.kt.bk hX1.out (by decide)
     rw [HXC.out] at BX
     have cx0 := BX.at (i := 0) rfl
     have cx1 := BX.at (i := 1) rfl
     have cx2 := BX.at (i := 2) rfl
     have hLm := HL.out m hmc wr HJ.out.on
     clear BX
     go_wp2_with fail
     refine hLm.mono ?_
     rintro _ w2 ⟨rfl, k2⟩
     have HJ2 : Hid (OfJ w w1 w2 (w.heap.size + 1 + 1) (endT LL x 4 m)) := HJ.out.go k2
     have BF := HJ2.out.bf
     have HN : Hid (OfJ w w1 (w2.setCell ⟨w.heap.size + 1 + 1 + 1, 16 + m, none⟩ (.int .i64 (lastW x m))) (w.heap.size + 1 + 1) (endT LL x 4 (m + 1))) := HJ2.out.set (endT_mem HB.out hm4 hmc)
     have z0 := BF.at (finA_at _ (endT_at HB.out 4 m (16 + m) (by omega)))
     have zf := fun i => BF.fr i
     clear BF HJ HJ2 hLm cx0 cx1 cx2 k2 hmc
     go_wp2
     go_roundg (LT.length - (m + 1))
     case measure => omega
     case rel => exact ⟨m + 1, by omega, rfl, by go_num, HN⟩
    ·
     obtain rfl : LT.length = m := by omega
     have HE : endT LL x 4 LT.length = endF LL x := by rw [HLC.out]; exact endT_end
     have HJ2 : Hid (OfJ w w1 wr (w.heap.size + 1 + 1) (endF LL x)) := by rw [← HE]; exact HJ.out
     have rf := HJ2.out.bf.range
     have br := HJ2.out.hr
     clear HE HJ hm hk hge
     go_wp2_with (first | (refine wpList_fld rfl rfl rfl rf ?_) | (refine wpList_fstR rfl rfl rfl rfl br ?_))
     refine bodyPost_ret (v := .agg (finA (endF LL x))) ?_ rfl ⟨rfl, HJ2.out.on.row (by omega) _⟩
     exact fin_ret rfl rfl (br.row _)
end Go.Proofs.YtioiabfheeglgaaGreatDoor

namespace Go.Proofs.YtioiabfheeglgaaGreatDoor
open Go.RowKit

theorem wpList_fstZ {ops : Array Oper} {rest : List Oper} {o : Oper} {a : Act} {w : World} {Q : Exit → Act → World → Prop} (hgd : o.guard = none) {x y : Operand} (ho : o.op = .store 36 x y) {c : Array Value} (hc : c.size = 20) {N : Nat} (hN : N = w.heap.size)
  (hx : a.eval x = .pointer (some ⟨N, 0, none⟩)) (hy : a.eval y = .agg (finA finZ)) (k : wpList Tryz.prog ops Q rest (a.put o.dst undef) (w.alloc (.cells (finA finZ) 36))) : wpList Tryz.prog ops Q (o :: rest) a (w.alloc (.cells c 36)) := by
 subst hN
 exact wpList_fst hgd ho hc hx hy k
theorem meas_lt {a m g : Nat} (hk : g = a - m) (h : m < a) : a - (m + 1) < g := by omega
set_option maxHeartbeats 4000000 in
set_option maxRecDepth 8000 in
theorem rfinal_is (LT : List UInt8) (IN : List Int) (LL : List (List InsT)) (x : ExT) (vp vx : Value) (w : World) (hP : ProgFl w vp LT IN LL) (hX : ExRd w vx x) (hE : x.evs.length ≤ 1000) (hb : ∀ k, B64 (endN LL x k)) (hL4 : LL.length ≤ 4) (h4 : x.co.length ≤ 4)
  (hlen : ∀ t, (threadP LL t).length ≤ 1000000) (hf : ∀ L ∈ LL, fineL L) (hco : ∀ (c : Nat) r, x.co[c]? = some r → 0 < r.length ∧ ∃ k : Nat, r.getD (r.length - 1) 0 = (k : Int) ∧ k < x.evs.length) :
  Calls Tryz.prog 7 #[vp, vx] w fun e w' => e = .returned (.agg (finA (endF LL x))) ∧ On w w' := by
 obtain ⟨i0, hi, hz0, hz1, hz2⟩ := info_parts infoI64
 have HP : Hid (ProgFl w vp LT IN LL) := hP
 have HC4 : Hid (x.co.length ≤ 4) := h4
 have HL4 : Hid (LL.length ≤ 4) := hL4
 have HEL : Hid (x.evs.length ≤ 1000) := hE
 have HCO : Hid (∀ (c : Nat) r, x.co[c]? = some r → 0 < r.length ∧ ∃ k : Nat, r.getD (r.length - 1) 0 = (k : Int) ∧ k < x.evs.length) := hco
 have HU : Hid (∀ (n : Nat) (a : Option Addr) (c : Nat) W, On w W → Rd intC 1 W (.slice a (rdsE x.evs (n : Int)).length c) (rdsE x.evs (n : Int)) → Calls Tryz.prog 22 #[vp, .int .i64 (n : Int), .slice a (rdsE x.evs (n : Int)).length c] W fun e w' => ∃ a c, e = .returned (.tuple #[.slice a (unfP (threadP LL (n : Int)) (n : Int) (rdsE x.evs (n : Int))).1.length c, locV (unfP (threadP LL (n : Int)) (n : Int) (rdsE x.evs (n : Int))).2.1, .bool (unfP (threadP LL (n : Int)) (n : Int) (rdsE x.evs (n : Int))).2.2]) ∧ On W w') := fun n a c W k hr => by
  refine (runfold_is LL (n : Int) (rdsE x.evs (n : Int)) a c vp W (HP.out.on k).rd hr (hlen _) hf).mono ?_
  rintro e w' ⟨a', c', h1, _, h2⟩
  exact ⟨a', c', h1, h2⟩
 have HB : Hid (∀ k, B64 (endN LL x k)) := hb
 obtain ⟨a1, c1, a2, c2, a3, c3, rfl, _, _, _⟩ := hP.ex
 obtain ⟨b1, d1, b2, d2, b3, d3, rfl, r1, _, r3⟩ := hX.ex
 have HR1 : Hid (Rd evC 6 w (.slice b1 x.evs.length d1) x.evs) := r1
 have HR3 : Hid (Rd2 intC 1 w (.slice b3 x.co.length d3) x.co) := r3
 obtain ⟨pc, hpc⟩ : ∃ pc : Array Value, pc = #[.slice a1 LT.length c1, .slice a2 IN.length c2, .slice a3 LL.length c3] := ⟨_, rfl⟩
 obtain ⟨xc, hxc⟩ : ∃ xc : Array Value, xc = #[.slice b1 x.evs.length d1, .slice b2 x.rf.length d2, .slice b3 x.co.length d3] := ⟨_, rfl⟩
 have HPC : Hid (pc = #[.slice a1 LT.length c1, .slice a2 IN.length c2, .slice a3 LL.length c3]) := hpc
 have HXC : Hid (xc = #[.slice b1 x.evs.length d1, .slice b2 x.rf.length d2, .slice b3 x.co.length d3]) := hxc
 obtain ⟨W0, hW0⟩ : ∃ W0, W0 = (((w.alloc (.cells #[.slice a1 LT.length c1, .slice a2 IN.length c2, .slice a3 LL.length c3] 27)).alloc (.cells #[.slice b1 x.evs.length d1, .slice b2 x.rf.length d2, .slice b3 x.co.length d3] 41)).alloc (.cells #[.int .i64 0, .int .i64 0, .int .i64 0, .int .i64 0, .int .i64 0, .int .i64 0, .int .i64 0, .int .i64 0, .int .i64 0, .int .i64 0, .int .i64 0, .int .i64 0, .int .i64 0, .int .i64 0, .int .i64 0, .int .i64 0, .int .i64 0, .int .i64 0, .int .i64 0, .int .i64 0] TF)).alloc (.cells (finA finZ) TF) := ⟨_, rfl⟩
 have HW : Hid (W0 = (((w.alloc (.cells #[.slice a1 LT.length c1, .slice a2 IN.length c2, .slice a3 LL.length c3] 27)).alloc (.cells #[.slice b1 x.evs.length d1, .slice b2 x.rf.length d2, .slice b3 x.co.length d3] 41)).alloc (.cells #[.int .i64 0, .int .i64 0, .int .i64 0, .int .i64 0, .int .i64 0, .int .i64 0, .int .i64 0, .int .i64 0, .int .i64 0, .int .i64 0, .int .i64 0, .int .i64 0, .int .i64 0, .int .i64 0, .int .i64 0, .int .i64 0, .int .i64 0, .int .i64 0, .int .i64 0, .int .i64 0] TF)).alloc (.cells (finA finZ) TF)) := hW0
 have HO : On w W0 := by rw [hW0]; exact ((((On.refl w).alloc _).alloc _).alloc _).alloc _
 have g0 : (w.alloc (.cells pc 27)).heap[w.heap.size]? = some (.cells pc 27 (0, 0)) := heap_alloc_new w _
 have g1 := heap_alloc_new (w.alloc (.cells pc 27)) (.cells xc 41)
 have g2 := heap_alloc_new ((w.alloc (.cells pc 27)).alloc (.cells xc 41)) (.cells #[.int .i64 0, .int .i64 0, .int .i64 0, .int .i64 0, .int .i64 0, .int .i64 0, .int .i64 0, .int .i64 0, .int .i64 0, .int .i64 0, .int .i64 0, .int .i64 0, .int .i64 0, .int .i64 0, .int .i64 0, .int .i64 0, .int .i64 0, .int .i64 0, .int .i64 0, .int .i64 0] TF)
 have g3 := heap_alloc_new (((w.alloc (.cells pc 27)).alloc (.cells xc 41)).alloc (.cells #[.int .i64 0, .int .i64 0, .int .i64 0, .int .i64 0, .int .i64 0, .int .i64 0, .int .i64 0, .int .i64 0, .int .i64 0, .int .i64 0, .int .i64 0, .int .i64 0, .int .i64 0, .int .i64 0, .int .i64 0, .int .i64 0, .int .i64 0, .int .i64 0, .int .i64 0, .int .i64 0] TF)) (.cells (finA finZ) TF)
 simp only [World.size_alloc] at g1 g2 g3
 rw [hpc, hxc] at g1 g2 g3
 rw [hpc] at g0
 have hP0 : Hid (W0.heap[w.heap.size]? = some (.cells pc 27 (0, 0))) := by
  show _ = _
  rw [hpc, hW0]
  exact (((((On.refl _).alloc _).alloc _).alloc _).block _ (lt_of_block g0)).trans g0
 have hX0 : Hid (W0.heap[w.heap.size + 1]? = some (.cells xc 41 (0, 0))) := by
  show _ = _
  rw [hxc, hW0]
  exact ((((On.refl _).alloc _).alloc _).block _ (lt_of_block g1)).trans g1
 have hR0 : W0.heap[w.heap.size + 1 + 1]? = some (.cells (finA finZ) TF (0, 0)) := by
  rw [hW0]
  exact (((On.refl _).alloc _).block _ (lt_of_block g2)).trans (by rw [g2, zero20])
 have hF0 : W0.heap[w.heap.size + 1 + 1 + 1]? = some (.cells (finA finZ) TF (0, 0)) := by
  rw [hW0]
  exact g3
 have HJ : Hid (OfJ w W0 W0 (w.heap.size + 1 + 1) (endT LL x 0 0)) := by
  show OfJ _ _ _ _ _
  rw [endT_zero]
  exact ⟨HO, Kt.refl _ _, by omega, ⟨_, hR0⟩, hF0⟩
 clear hP hX hW0 r1 r3 g0 g1 g2 g3 hb hlen hco hE hL4 h4 hf hpc hxc hR0 hF0 HO
 go_enter Tryz.func7, Tryz.ntmps7
 go_wp2_with (first | (refine wpList_fstZ rfl rfl rfl (by simp only [World.size_alloc]) rfl (by exact congrArg Value.agg zero20) ?_))
 rw [← HW.out]
 clear HW
 generalize (Value.agg #[.int .i64 0, .int .i64 0, .int .i64 0, .int .i64 0, .int .i64 0, .int .i64 0, .int .i64 0, .int .i64 0, .int .i64 0, .int .i64 0, .int .i64 0, .int .i64 0, .int .i64 0, .int .i64 0, .int .i64 0, .int .i64 0, .int .i64 0, .int .i64 0, .int .i64 0, .int .i64 0]) = vz
 go_loopg [6] LL.length (fun gg s6 wq => ∃ n : Nat, n ≤ LL.length ∧ gg = LL.length - n ∧ s6 = .int .i64 n ∧ Hid (OfJ w W0 wq (w.heap.size + 1 + 1) (endT LL x n 0)))
 case atStart => exact ⟨0, Nat.zero_le _, rfl, rfl, HJ⟩
 case round =>
  clear HJ
  obtain ⟨n, hnl, hk, rfl, HJ⟩ := hrel
  have BP := HJ.out.kt.bk hP0.out (by decide)
  rw [HPC.out] at BP
  have cp0 := BP.at (i := 0) rfl
  have cp1 := BP.at (i := 1) rfl
  have cp2 := BP.at (i := 2) rfl
  have BX := HJ.out.kt.bk hX0.out (by decide)
  rw [HXC.out] at BX
  have cx0 := BX.at (i := 0) rfl
  have cx1 := BX.at (i := 1) rfl
  have cx2 := BX.at (i := 2) rfl
  clear BP BX
  rcases Nat.lt_or_ge n LL.length with hlt | hge
  ·
   have hn4 : n < 4 := Nat.lt_of_lt_of_le hlt HL4.out
   have bn0 : (0 : Int) ≤ (n : Int) := by omega
   have bn1 : (n : Int) < 4 := by omega
   have dn1 : decide (n < LL.length) = true := decide_eq_true hlt
   have dn2 : decide (n < 4) = true := decide_eq_true hn4
   obtain ⟨wo, hwo⟩ : ∃ wo, wo = wr := ⟨_, rfl⟩
   subst hwo
   go_wp2
   have HOW : Hid (wo.ownsRow wo.heap.size 2 1 (.slice none 0 0) (rdsE (x.evs.take 0) (n : Int)).length ((rdsE (x.evs.take 0) (n : Int)).flatMap intC)) := World.ownsRow_nil _ _ _ _
   go_loopg [7, 8] x.evs.length (fun gg s7 s8 wq => ∃ m : Nat, m ≤ x.evs.length ∧ gg = x.evs.length - m ∧ s8 = .int .i64 m ∧ Hid (wq.ownsRow wo.heap.size 2 1 s7 (rdsE (x.evs.take m) (n : Int)).length ((rdsE (x.evs.take m) (n : Int)).flatMap intC)) ∧ Hid (On wo wq))
   case atStart => exact ⟨0, Nat.zero_le _, rfl, rfl, HOW, On.refl wo⟩
   case round =>
    clear HOW
    obtain ⟨m, hm, hk2, rfl, HOW, HK⟩ := hrel
    have BX := (HJ.out.go HK.out).kt.bk hX0.out (by decide)
    rw [HXC.out] at BX
    have ex0 := BX.at (i := 0) rfl
    have lX := BX.lt
    clear BX
    rcases Nat.lt_or_ge m x.evs.length with hltm | hgem
    ·
     obtain ⟨e, he⟩ : ∃ e, x.evs[m]? = some e := ⟨_, List.getElem?_eq_getElem hltm⟩
     obtain ⟨g1, o1, rfl, hg1, p0, p1, p2, p3, p4, p5⟩ := rd_ev ((HR1.out.on HJ.out.on).on HK.out) he
     have hW := fun W => rreads_is e W
     unfold evV at hW
     have bm0 : (0 : Int) ≤ (m : Int) := by omega
     have bm9 : m < 1000 := Nat.lt_of_lt_of_le hltm HEL.out
     have bm1 : (m : Int) < (x.evs.length : Int) := by omega
     have hsu := rdsE_succ he (n : Int)
     have hwl := rdsE_len (x.evs.take m) (n : Int)
     rw [List.length_take] at hwl
     have hwl2 : (rdsE (x.evs.take m) (n : Int)).length ≤ 1000 := by have := HEL.out; omega
     obtain ⟨LW, hLW⟩ : ∃ LW, LW = rdsE (x.evs.take m) (n : Int) := ⟨_, rfl⟩
     have HLW : Hid (LW = rdsE (x.evs.take m) (n : Int)) := hLW
     rw [← hLW] at hwl2
     clear he hwl hLW
     cases ht : (e.t == (n : Int)) with
     | false =>
      rw [ht, Bool.false_and] at hsu
      have HOW2 : Hid (wr.ownsRow wo.heap.size 2 1 u7 (rdsE (x.evs.take (m + 1)) (n : Int)).length ((rdsE (x.evs.take (m + 1)) (n : Int)).flatMap intC)) := by
       show World.ownsRow _ _ _ _ _ _ _
       rw [hsu, if_neg (by decide), List.append_nil]
       exact HOW.out
      clear hsu HOW
      go_wp2
      go_roundg (x.evs.length - (m + 1))
      case measure => omega
      case rel => exact ⟨m + 1, hltm, rfl, by go_num, HOW2, HK⟩
     | true =>
      cases hkk : rdsB e.k with
      | false =>
       rw [hkk] at hW
       rw [hkk, Bool.and_false] at hsu
       have HOW2 : Hid (wr.ownsRow wo.heap.size 2 1 u7 (rdsE (x.evs.take (m + 1)) (n : Int)).length ((rdsE (x.evs.take (m + 1)) (n : Int)).flatMap intC)) := by
        show World.ownsRow _ _ _ _ _ _ _
        rw [hsu, if_neg (by decide), List.append_nil]
        exact HOW.out
       clear hsu HOW
       go_wp2_with fail
       refine (hW _).mono ?_
       rintro _ w5 ⟨rfl, k5⟩
       have HOW3 : Hid _ := own_on HOW2.out k5
       have HK5 : Hid (On wo w5) := HK.out.trans k5
       clear HOW2 HK
       go_wp2
       go_roundg (x.evs.length - (m + 1))
       case measure => omega
       case rel => exact ⟨m + 1, hltm, rfl, by go_num, HOW3, HK5⟩
      | true =>
       rw [hkk] at hW
       rw [ht, hkk, Bool.and_true] at hsu
       have HSU : Hid (rdsE (x.evs.take (m + 1)) (n : Int) = rdsE (x.evs.take m) (n : Int) ++ [e.r]) := hsu.trans (by rw [if_pos rfl])
       clear hsu
       go_wp2_with fail
       refine (hW _).mono ?_
       rintro _ w5 ⟨rfl, k5⟩
       have HK5 : Hid (On wo w5) := HK.out.trans k5
       have hown5 := own_on HOW.out k5
       rw [← HLW.out] at hown5
       have q0 := (k5.cell (p := ⟨g1, o1 + m * 6, none⟩) hg1).trans p0
       have q4 := (k5.cell (p := ⟨g1, o1 + m * 6 + 4, none⟩) hg1).trans p4
       have hg5 := Nat.lt_of_lt_of_le hg1 k5.size
       have y0 := (k5.cell (p := ⟨w.heap.size + 1, 0, none⟩) lX).trans ex0
       have hlt5 : ∀ g, u7.ownBlock = some g → wo.heap.size ≤ g := fun g hg => (hown5.lt g hg).1
       clear HOW HK p0 p1 p2 p3 p4 p5 hg1 k5 hW ex0 lX ht hkk
       go_wp2_with (at_builtin; refine wpList_append_own _ rfl _ _ 24 rfl wo.heap.size 2 i0 (.int .i64 0) 1 8 Tryz.underlying24 hi hz0 hz1 hz2 rfl (by decide) _ _ _ rfl (hown5.alloc _) ⟨w5.heap.size, 0, none⟩ 1 1 [.int .i64 e.r] rfl rfl ?c1 ?c2 ?c3 ?c4 ?c5 ?_)
       case c1 => exact cell_one_new _ _ _
       case c2 =>
        intro u hu
        simp only [List.mem_cons, List.not_mem_nil, or_false] at hu
        subst hu
        rfl
       case c3 => unfold maxLen; omega
       case c4 => omega
       case c5 => simp only [World.size_alloc]; have := HK5.out.size; omega
       intro v' w6 hown6 hg6 _
       have HOW6 : Hid (w6.ownsRow wo.heap.size 2 1 v' (rdsE (x.evs.take (m + 1)) (n : Int)).length ((rdsE (x.evs.take (m + 1)) (n : Int)).flatMap intC)) := by
        show World.ownsRow _ _ _ _ _ _ _
        rw [HSU.out, List.length_append, List.flatMap_append, ← HLW.out]
        exact hown6
       have HK6 : Hid (On wo w6) := (HK5.out.alloc _).grown hg6 hlt5
       clear hown6 hg6
       go_wp2
       go_roundg (x.evs.length - (m + 1))
       case measure => omega
       case rel => exact ⟨m + 1, hltm, rfl, by go_num, HOW6, HK6⟩
    ·
     obtain rfl : x.evs.length = m := by omega
     have hown := HOW.out
     rw [List.take_length] at hown
     obtain ⟨p, q, rfl⟩ := own_slice hown
     have hT := Rd.own (C := intC) (k := 1) (fun _ => rfl) hown
     have HJ1 : Hid (OfJ w W0 wr (w.heap.size + 1 + 1) (endT LL x n 0)) := HJ.out.go HK.out
     have hUn := HU.out n p q wr HJ1.out.on hT
     have BP := HJ1.out.kt.bk hP0.out (by decide)
     rw [HPC.out] at BP
     have zp0 := BP.at (i := 0) rfl
     have zp1 := BP.at (i := 1) rfl
     have zp2 := BP.at (i := 2) rfl
     clear BP hown hT HOW HK HJ hm hk2 hgem cp0 cp1 cp2 cx0 cx1 cx2
     go_wp2_with fail
     refine hUn.mono ?_
     rintro _ w2 ⟨a', c', rfl, k2⟩
     have HJ2 : Hid (OfJ w W0 w2 (w.heap.size + 1 + 1) (endT LL x n 0)) := HJ1.out.go k2
     obtain ⟨E0, hE0⟩ : ∃ E0, E0 = (unfP (threadP LL (n : Int)) (n : Int) (rdsE x.evs (n : Int))).2.1 := ⟨_, rfl⟩
     have hth : E0 = thrEnd LL x.evs n := hE0
     rw [← hE0]
     clear hE0
     obtain ⟨pc', r0, r1, r2, r3⟩ := E0
     have HJ3 : Hid (OfJ w W0 (w2.alloc (.cells #[.int .i64 pc', .int .i64 r0, .int .i64 r1, .int .i64 r2, .int .i64 r3] 73)) (w.heap.size + 1 + 1) (endT LL x n 0)) := HJ2.out.go ((On.refl w2).alloc _)
     have BL := Bk.new w2 #[.int .i64 pc', .int .i64 r0, .int .i64 r1, .int .i64 r2, .int .i64 r3] 73
     have BF := HJ3.out.bf
     have HPT : Hid (putAt (finC (endT LL x n 0)) (n * 4) [.int .i64 r0, .int .i64 r1, .int .i64 r2, .int .i64 r3] = finC (endT LL x (n + 1) 0)) := by
      have := endT_reg (LL := LL) (x := x) HB.out hn4
      rw [← hth] at this
      exact this
     have HN : Hid (OfJ w W0 (putCells (w2.alloc (.cells #[.int .i64 pc', .int .i64 r0, .int .i64 r1, .int .i64 r2, .int .i64 r3] 73)) (w.heap.size + 1 + 1 + 1) (n * 4) [.int .i64 r0, .int .i64 r1, .int .i64 r2, .int .i64 r3]) (w.heap.size + 1 + 1) (endT LL x (n + 1) 0)) := HJ3.out.puts HPT.out
     have z0 := BF.at (finA_at _ (endT_at HB.out n 0 (n * 4) (by omega)))
     have z1 := BF.at (finA_at _ (endT_at HB.out n 0 (n * 4 + 1) (by omega)))
     have z2 := BF.at (finA_at _ (endT_at HB.out n 0 (n * 4 + 2) (by omega)))
     have z3 := BF.at (finA_at _ (endT_at HB.out n 0 (n * 4 + 3) (by omega)))
     have zf := fun i => BF.fr i
     clear hth BF HJ1 HJ2 HJ3 hUn zp0 zp1 zp2 k2
     unfold locV
     go_wp2
     go_roundg (LL.length - (n + 1))
     case measure => omega
     case rel => exact ⟨n + 1, by omega, rfl, by go_num, HN⟩
  ·
   obtain rfl : LL.length = n := by omega
   have dn1 : decide (LL.length < LL.length) = false := decide_eq_false (Nat.lt_irrefl _)
   have HE4 : endT LL x LL.length 0 = endT LL x 4 0 := endT_thr (Nat.le_refl _) HL4.out 0
   have HJ1 : Hid (OfJ w W0 wr (w.heap.size + 1 + 1) (endT LL x 4 0)) := by rw [← HE4]; exact HJ.out
   clear HE4 HJ hnl hk hge
   go_wp2
   obtain ⟨wo, hwo⟩ : ∃ wo, wo = wr := ⟨_, rfl⟩
   subst hwo
   clear cp0 cp1 cp2 cx0 cx1 cx2 dn1
   go_loopg [12] x.co.length (fun gg s12 wq => ∃ m : Nat, m ≤ x.co.length ∧ gg = x.co.length - m ∧ s12 = .int .i64 m ∧ Hid (OfJ w W0 wq (w.heap.size + 1 + 1) (endT LL x 4 m)))
   case atStart => exact ⟨0, Nat.zero_le _, rfl, rfl, HJ1⟩
   case round =>
    clear HJ1
    obtain ⟨m, hm, hk, rfl, HJ⟩ := hrel
    have BX := HJ.out.kt.bk hX0.out (by decide)
    rw [HXC.out] at BX
    have FX0 : Hid (∀ W, On w W ∧ Kt TF W0 W → W.cell? ⟨w.heap.size + 1, 0, none⟩ = some (.slice b1 x.evs.length d1)) := fun W k => by
     have B := k.2.bk hX0.out (by decide)
     rw [HXC.out] at B
     exact B.at rfl
    have FX2 : Hid (∀ W, On w W ∧ Kt TF W0 W → W.cell? ⟨w.heap.size + 1, 2, none⟩ = some (.slice b3 x.co.length d3)) := fun W k => by
     have B := k.2.bk hX0.out (by decide)
     rw [HXC.out] at B
     exact B.at rfl
    have cx2 := FX2.out wr ⟨HJ.out.on, HJ.out.kt⟩
    clear BX
    rcases Nat.lt_or_ge m x.co.length with hlt | hge
    ·
     have hm4 : m < 4 := Nat.lt_of_lt_of_le hlt HC4.out
     have bn0 : (0 : Int) ≤ (m : Int) := by omega
     have bn1 : (m : Int) < 4 := by omega
     have bn2 : (m : Int) < (x.co.length : Int) := by omega
     have dm1 : decide (m < x.co.length) = true := decide_eq_true hlt
     have dm2 : decide (m < 4) = true := decide_eq_true hm4
     obtain ⟨r, hr⟩ : ∃ r, x.co[m]? = some r := ⟨_, List.getElem?_eq_getElem hlt⟩
     obtain ⟨h0, k, hkk, hkl⟩ := HCO.out m r hr
     obtain ⟨e, he⟩ : ∃ e, x.evs[k]? = some e := ⟨_, List.getElem?_eq_getElem hkl⟩
     have hlw : lastW x m = e.w := by
      unfold lastW
      have e1 : x.co.getD m [] = r := by rw [List.getD_eq_getElem?_getD, hr]; rfl
      rw [e1, hkk, Int.toNat_natCast, List.getD_eq_getElem?_getD, he]
      rfl
     obtain ⟨g3, o3, rfl, hg3, ax, cx, hrc, hrm, hrr⟩ := HR3.out.row hr
     have hl1 : r[r.length - 1]? = some (k : Int) := by
      rw [← hkk, List.getD_eq_getElem?_getD, List.getElem?_eq_getElem (show r.length - 1 < r.length by omega)]
      rfl
     obtain ⟨gr, orr, rfl, hgr, hcr⟩ := hrr.at hl1
     obtain ⟨R, hR⟩ : ∃ R, R = r.length - 1 := ⟨_, rfl⟩
     have cr : w.cell? ⟨gr, orr + R, none⟩ = some (.int .i64 (k : Int)) := by
      have := hcr 0 _ rfl
      rw [Nat.mul_one, Nat.add_zero, ← hR] at this
      exact this
     obtain ⟨ge, oe, rfl, hge', q0, q1, q2, q3, q4, q5⟩ := rd_ev HR1.out he
     have hR0 : (0 : Int) ≤ (R : Int) := Int.natCast_nonneg R
     have hRr : R ≤ 9223372036854775807 := Nat.le_trans (by rw [hR]; exact Nat.sub_le _ _) hrm
     have hwr : wrap64 (R : Int) = (R : Int) := IntWalk.wrap64_in _ ⟨Int.le_trans (by decide) hR0, Int.ofNat_le.2 hRr⟩
     have hwr2 : IntKind.i64.wrap (R : Int) = (R : Int) := by rw [IntWalk.i64_left]; exact hwr
     clear hRr hrm
     obtain ⟨hrl, hRl, d1', d2', d3', d4', b1', b2', b3', b4', b5'⟩ := last_arith h0 hR hlt hkl
     have FCO : Hid (∀ W, On w W ∧ Kt TF W0 W → W.cell? ⟨g3, o3 + m, none⟩ = some (.slice (some ⟨gr, orr, none⟩) r.length cx)) := fun W kk => (kk.1.cell (p := ⟨g3, o3 + m, none⟩) hg3).trans hrc
     have FLA : Hid (∀ W, On w W ∧ Kt TF W0 W → W.cell? ⟨gr, orr + R, none⟩ = some (.int .i64 (k : Int))) := fun W kk => (kk.1.cell (p := ⟨gr, orr + R, none⟩) hgr).trans cr
     have FEW : Hid (∀ W, On w W ∧ Kt TF W0 W → W.cell? ⟨ge, oe + k * 6 + 5, none⟩ = some (.int .i64 e.w)) := fun W kk => (kk.1.cell (p := ⟨ge, oe + k * 6 + 5, none⟩) hge').trans q5
     have BF := HJ.out.bf
     have HN : Hid (OfJ w W0 (wr.drew.setCell ⟨w.heap.size + 1 + 1 + 1, 16 + m, none⟩ (.int .i64 e.w)) (w.heap.size + 1 + 1) (endT LL x 4 (m + 1))) := by
      have h1 := endT_mem (LL := LL) (x := x) HB.out hm4 hlt
      rw [hlw] at h1
      exact (HJ.out.go (On.refl wr).drew).set h1
     have z0 := BF.at (finA_at _ (endT_at HB.out 4 m (16 + m) (by omega)))
     have zf := fun i => BF.fr i
     have S0 : On w wr.drew ∧ Kt TF W0 wr.drew := ⟨HJ.out.on.drew, HJ.out.kt.trans (Kt.on (On.refl wr).drew)⟩
     have HM : Hid (gk = x.co.length - m) := hk
     have HLT : Hid (m < x.co.length) := hlt
     have zd : wr.drew.cell? ⟨w.heap.size + 1 + 1 + 1, 16 + m, none⟩ = some (.int .i64 (endG LL x 4 m (16 + m))) := z0
     have zg : ∀ i, wr.drew.frozen? ⟨w.heap.size + 1 + 1 + 1, i, none⟩ = false := fun i => zf i
     clear BF HJ hr h0 hkk hkl he hlw hrc hrr hl1 hcr cr q0 q1 q2 q3 q4 q5 hR hk
     go_wp2
     refine region_fin (fun W => On w W ∧ Kt TF W0 W) 99 23 (by as_aux_lemma => kernel_rfl) rfl ?_
     refine fin_take 0 (v := ?_) rfl (by as_aux_lemma => kernel_rfl) (by as_aux_lemma => kernel_rfl) (by as_aux_lemma => kernel_rfl) (by as_aux_lemma => kernel_rfl) (fun _ _ _ h => h) rfl ?_ S0 ?_
     rotate_left
     ·
      intro W hW
      go_simp
      (try with_reducible rfl)
     simp only [zpu, zsa, zsz, zss]
     refine fin_take 1 (v := ?_) rfl (by as_aux_lemma => kernel_rfl) (by as_aux_lemma => kernel_rfl) (by as_aux_lemma => kernel_rfl) (by as_aux_lemma => kernel_rfl) (fun _ _ _ h => h) rfl ?_ S0 ?_
     rotate_left
     ·
      intro W hW
      go_simp
      (try with_reducible rfl)
     simp only [zpu, zsa, zsz, zss]
     refine fin_take 2 (v := ?_) rfl (by as_aux_lemma => kernel_rfl) (by as_aux_lemma => kernel_rfl) (by as_aux_lemma => kernel_rfl) (by as_aux_lemma => kernel_rfl) (fun _ _ _ h => h) rfl ?_ S0 ?_
     rotate_left
     ·
      intro W hW
      have cc := FX0.out W hW
      go_simp
      (try with_reducible rfl)
     simp only [zpu, zsa, zsz, zss]
     refine fin_take 3 (v := ?_) rfl (by as_aux_lemma => kernel_rfl) (by as_aux_lemma => kernel_rfl) (by as_aux_lemma => kernel_rfl) (by as_aux_lemma => kernel_rfl) (fun _ _ _ h => h) rfl ?_ S0 ?_
     rotate_left
     ·
      intro W hW
      go_simp
      (try with_reducible rfl)
     simp only [zpu, zsa, zsz, zss]
     refine fin_take 4 (v := ?_) rfl (by as_aux_lemma => kernel_rfl) (by as_aux_lemma => kernel_rfl) (by as_aux_lemma => kernel_rfl) (by as_aux_lemma => kernel_rfl) (fun _ _ _ h => h) rfl ?_ S0 ?_
     rotate_left
     ·
      intro W hW
      have cc := FX2.out W hW
      go_simp
      (try with_reducible rfl)
     simp only [zpu, zsa, zsz, zss]
     refine fin_take 5 (v := ?_) rfl (by as_aux_lemma => kernel_rfl) (by as_aux_lemma => kernel_rfl) (by as_aux_lemma => kernel_rfl) (by as_aux_lemma => kernel_rfl) (fun _ _ _ h => h) rfl ?_ S0 ?_
     rotate_left
     ·
      intro W hW
      go_simp
      (try with_reducible rfl)
     simp only [zpu, zsa, zsz, zss]
     refine fin_take 6 (v := ?_) rfl (by as_aux_lemma => kernel_rfl) (by as_aux_lemma => kernel_rfl) (by as_aux_lemma => kernel_rfl) (by as_aux_lemma => kernel_rfl) (fun _ _ _ h => h) rfl ?_ S0 ?_
     rotate_left
     ·
      intro W hW
      go_simp
      (try with_reducible rfl)
     simp only [zpu, zsa, zsz, zss]
     refine fin_take 7 (v := ?_) rfl (by as_aux_lemma => kernel_rfl) (by as_aux_lemma => kernel_rfl) (by as_aux_lemma => kernel_rfl) (by as_aux_lemma => kernel_rfl) (fun _ _ _ h => h) rfl ?_ S0 ?_
     rotate_left
     ·
      intro W hW
      have cc := FCO.out W hW
      go_simp
      (try with_reducible rfl)
     simp only [zpu, zsa, zsz, zss]
     refine fin_take 8 (v := ?_) rfl (by as_aux_lemma => kernel_rfl) (by as_aux_lemma => kernel_rfl) (by as_aux_lemma => kernel_rfl) (by as_aux_lemma => kernel_rfl) (fun _ _ _ h => h) rfl ?_ S0 ?_
     rotate_left
     ·
      intro W hW
      go_simp
      (try with_reducible rfl)
     simp only [zpu, zsa, zsz, zss]
     refine fin_take 9 (v := ?_) rfl (by as_aux_lemma => kernel_rfl) (by as_aux_lemma => kernel_rfl) (by as_aux_lemma => kernel_rfl) (by as_aux_lemma => kernel_rfl) (fun _ _ _ h => h) rfl ?_ S0 ?_
     rotate_left
     ·
      intro W hW
      have cc := FX2.out W hW
      go_simp
      (try with_reducible rfl)
     simp only [zpu, zsa, zsz, zss]
     refine fin_take 10 (v := ?_) rfl (by as_aux_lemma => kernel_rfl) (by as_aux_lemma => kernel_rfl) (by as_aux_lemma => kernel_rfl) (by as_aux_lemma => kernel_rfl) (fun _ _ _ h => h) rfl ?_ S0 ?_
     rotate_left
     ·
      intro W hW
      go_simp
      (try with_reducible rfl)
     simp only [zpu, zsa, zsz, zss]
     refine fin_take 11 (v := ?_) rfl (by as_aux_lemma => kernel_rfl) (by as_aux_lemma => kernel_rfl) (by as_aux_lemma => kernel_rfl) (by as_aux_lemma => kernel_rfl) (fun _ _ _ h => h) rfl ?_ S0 ?_
     rotate_left
     ·
      intro W hW
      go_simp
      (try with_reducible rfl)
     simp only [zpu, zsa, zsz, zss]
     refine fin_take 12 (v := ?_) rfl (by as_aux_lemma => kernel_rfl) (by as_aux_lemma => kernel_rfl) (by as_aux_lemma => kernel_rfl) (by as_aux_lemma => kernel_rfl) (fun _ _ _ h => h) rfl ?_ S0 ?_
     rotate_left
     ·
      intro W hW
      have cc := FCO.out W hW
      go_simp
      (try with_reducible rfl)
     simp only [zpu, zsa, zsz, zss]
     refine fin_take 13 (v := ?_) rfl (by as_aux_lemma => kernel_rfl) (by as_aux_lemma => kernel_rfl) (by as_aux_lemma => kernel_rfl) (by as_aux_lemma => kernel_rfl) (fun _ _ _ h => h) rfl ?_ S0 ?_
     rotate_left
     ·
      intro W hW
      go_simp
      (try with_reducible rfl)
     simp only [zpu, zsa, zsz, zss]
     refine fin_take 14 (v := ?_) rfl (by as_aux_lemma => kernel_rfl) (by as_aux_lemma => kernel_rfl) (by as_aux_lemma => kernel_rfl) (by as_aux_lemma => kernel_rfl) (fun _ _ _ h => h) rfl ?_ S0 ?_
     rotate_left
     ·
      intro W hW
      go_simp
      (try with_reducible rfl)
     simp only [zpu, zsa, zsz, zss]
     refine fin_take 15 (v := ?_) rfl (by as_aux_lemma => kernel_rfl) (by as_aux_lemma => kernel_rfl) (by as_aux_lemma => kernel_rfl) (by as_aux_lemma => kernel_rfl) (fun _ _ _ h => h) rfl ?_ S0 ?_
     rotate_left
     ·
      intro W hW
      go_simp
      (try with_reducible rfl)
     simp only [zpu, zsa, zsz, zss]
     refine fin_take 16 (v := ?_) rfl (by as_aux_lemma => kernel_rfl) (by as_aux_lemma => kernel_rfl) (by as_aux_lemma => kernel_rfl) (by as_aux_lemma => kernel_rfl) (fun _ _ _ h => h) rfl ?_ S0 ?_
     rotate_left
     ·
      intro W hW
      have cc := FLA.out W hW
      go_simp
      (try with_reducible rfl)
     simp only [zpu, zsa, zsz, zss]
     refine fin_take 17 (v := ?_) rfl (by as_aux_lemma => kernel_rfl) (by as_aux_lemma => kernel_rfl) (by as_aux_lemma => kernel_rfl) (by as_aux_lemma => kernel_rfl) (fun _ _ _ h => h) rfl ?_ S0 ?_
     rotate_left
     ·
      intro W hW
      go_simp
      (try with_reducible rfl)
     simp only [zpu, zsa, zsz, zss]
     refine fin_take 18 (v := ?_) rfl (by as_aux_lemma => kernel_rfl) (by as_aux_lemma => kernel_rfl) (by as_aux_lemma => kernel_rfl) (by as_aux_lemma => kernel_rfl) (fun _ _ _ h => h) rfl ?_ S0 ?_
     rotate_left
     ·
      intro W hW
      go_simp
      (try with_reducible rfl)
     simp only [zpu, zsa, zsz, zss]
     refine fin_take 19 (v := ?_) rfl (by as_aux_lemma => kernel_rfl) (by as_aux_lemma => kernel_rfl) (by as_aux_lemma => kernel_rfl) (by as_aux_lemma => kernel_rfl) (fun _ _ _ h => h) rfl ?_ S0 ?_
     rotate_left
     ·
      intro W hW
      have cc := FEW.out W hW
      go_simp
      (try with_reducible rfl)
     simp only [zpu, zsa, zsz, zss]
     refine fin_take 20 (v := ?_) rfl (by as_aux_lemma => kernel_rfl) (by as_aux_lemma => kernel_rfl) (by as_aux_lemma => kernel_rfl) (by as_aux_lemma => kernel_rfl) (fun _ _ _ h => h) rfl ?_ S0 ?_
     rotate_left
     ·
      intro W hW
      go_simp
      (try with_reducible rfl)
     simp only [zpu, zsa, zsz, zss]
     refine fin_take 21 (v := ?_) rfl (by as_aux_lemma => kernel_rfl) (by as_aux_lemma => kernel_rfl) (by as_aux_lemma => kernel_rfl) (by as_aux_lemma => kernel_rfl) (fun _ _ _ h => h) rfl ?_ S0 ?_
     rotate_left
     ·
      intro W hW
      go_simp
      (try with_reducible rfl)
     simp only [zpu, zsa, zsz, zss]
     refine fin_one 22 rfl rfl (by kernel_rfl) (fun K hK => ?_)
     go_simp
     refine hK.out _ _ (fun _ => ⟨HN.out.on, HN.out.kt⟩) ?_
     clear hK
     refine fin_done (by kernel_rfl) (NoPanic.normal ?_)
     go_wp2
     go_roundg (x.co.length - (m + 1))
     case measure => exact meas_lt HM.out HLT.out
     case rel => exact ⟨m + 1, HLT.out, rfl, by go_num, HN⟩
    ·
     obtain rfl : x.co.length = m := by omega
     have dm1 : decide (x.co.length < x.co.length) = false := decide_eq_false (Nat.lt_irrefl _)
     have HE : endT LL x 4 x.co.length = endF LL x := endT_end
     have HJ2 : Hid (OfJ w W0 wr (w.heap.size + 1 + 1) (endF LL x)) := by rw [← HE]; exact HJ.out
     have rf := HJ2.out.bf.range
     have br := HJ2.out.hr
     clear HE HJ hm hk hge
     go_wp2_with (first | (refine wpList_fld rfl rfl rfl rf ?_) | (refine wpList_fstR rfl rfl rfl rfl br ?_))
     refine bodyPost_ret (v := .agg (finA (endF LL x))) ?_ rfl ⟨rfl, HJ2.out.on.row (by omega) _⟩
     exact fin_ret rfl rfl (br.row _)
end Go.Proofs.YtioiabfheeglgaaGreatDoor
