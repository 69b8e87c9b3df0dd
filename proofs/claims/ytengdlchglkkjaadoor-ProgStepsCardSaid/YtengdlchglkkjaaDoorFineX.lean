/- What layer 6's laws ask at their end: awake. -/
import Derived.Test.YtengdlchglkkjaaDoorStepH
import Derived.Test.YtengdlchglkkjaaDoorFewAwake
import Derived.Test.YtengdlchglkkjaaDoorCompY
import Derived.Test.YtengdlchglkkjaaDoorRefX
import Derived.Test.YtengdlchglkkjaaDoorStepA
import Derived.DeepKeys
import Derived.Laws.StructEq
import Derived.Test.YtengdlchglkkjaaDoorRegFin2
namespace Go.Proofs.YtengdlchglkkjaaDoor
open Go.RowKit

def setA : InsT := ⟨5, 0, 0, ⟨-1, 1⟩, 0, ⟨-1, 0⟩, 0⟩
def stoA : InsT := ⟨1, 0, 120, ⟨0, 0⟩, 0, ⟨0, 0⟩, 0⟩
def stoB : InsT := ⟨1, 0, 0, ⟨0, 0⟩, 0, ⟨0, 0⟩, 0⟩
def testA : TestT := ⟨⟨#[97]⟩, [], [[setA, stoA]], ⟨0, []⟩⟩
theorem testA_locs : lettersN (locsN testA) = [120] := by decide +kernel
theorem testA_check : checkT testA = 0 := by decide +kernel
theorem testA_placed : testA.thr.map (placedP [120]) = [[setA, stoB]] := by
  have h : plc [120] 120 = 0 := by decide +kernel
  have h1 : hasLocB 5 = false := by decide
  have h2 : hasLocB 1 = true := by decide
  simp only [testA, List.map_cons, List.map_nil, placedP, placeIns, setA, stoA, stoB, h, h1, h2, if_true, Bool.false_eq_true, if_false]
theorem startA : startP (threadP [[setA, stoB]] 0) = ⟨1, 1, 0, 0, 0⟩ := by kernel_rfl
theorem nextA : nextP (threadP [[setA, stoB]] 0) ⟨1, 1, 0, 0, 0⟩ = some stoB := by kernel_rfl
set_option maxHeartbeats 4000000 in
set_option maxRecDepth 8000 in
theorem awake6_is (w : World) (lw : Lw w) (hd : Db w) :
    Calls Tryd.prog 14 #[] w fun e w' => e = .returned (.bool true) ∧ On w w' := by
  obtain ⟨W0, hW0⟩ : ∃ W0, W0 = ((w.alloc (.cells #[.int .i64 5, .int .i64 0, .int .i64 0, .int .i64 (-1), .int .i64 1, .int .i64 0, .int .i64 (-1), .int .i64 0, .int .i64 0, .int .i64 1, .int .i64 0, .int .i64 120, .int .i64 0, .int .i64 0, .int .i64 0, .int .i64 0, .int .i64 0, .int .i64 0] 53)).alloc (.cells #[.slice (some ⟨w.heap.size, 0, none⟩) 2 2] 59)).alloc (.cells #[.string ⟨#[97]⟩, .slice none 0 0, .slice (some ⟨w.heap.size + 1, 0, none⟩) 1 1, .int .i64 0, .slice none 0 0] 28) := ⟨_, rfl⟩
  have K0 : Hid (On w W0) := by show On w W0; rw [hW0]; exact (((On.refl w).alloc _).alloc _).alloc _
  have B1 : Bk W0 w.heap.size ([setA, stoA].flatMap insC).toArray := by rw [hW0]; exact ((Bk.new w _ _).alloc _).alloc _
  have B2 : Bk W0 (w.heap.size + 1) #[.slice (some ⟨w.heap.size, 0, none⟩) 2 2] := by
    rw [hW0]
    have := (Bk.new (w.alloc (.cells #[.int .i64 5, .int .i64 0, .int .i64 0, .int .i64 (-1), .int .i64 1, .int .i64 0, .int .i64 (-1), .int .i64 0, .int .i64 0, .int .i64 1, .int .i64 0, .int .i64 120, .int .i64 0, .int .i64 0, .int .i64 0, .int .i64 0, .int .i64 0, .int .i64 0] 53)) #[.slice (some ⟨w.heap.size, 0, none⟩) 2 2] 59).alloc (.cells #[.string ⟨#[97]⟩, .slice none 0 0, .slice (some ⟨w.heap.size + 1, 0, none⟩) 1 1, .int .i64 0, .slice none 0 0] 28)
    rwa [World.size_alloc] at this
  have R2 : Rd2 insC 9 W0 (.slice (some ⟨w.heap.size + 1, 0, none⟩) 1 1) [[setA, stoA]] := Rd2.one (n := 2) rfl B2 (Rd.bk (C := insC) (k := 9) (fun _ => rfl) (L := [setA, stoA]) B1 2 (by decide) (by decide))
  have RT : TestRd W0 (.agg #[.string ⟨#[97]⟩, .slice none 0 0, .slice (some ⟨w.heap.size + 1, 0, none⟩) 1 1, .int .i64 0, .slice none 0 0]) testA := ⟨_, 0, _, 1, _, 0, rfl, by decide, Rd.nil _ _ _, R2, Rd2.nil _ _ _⟩
  have hC := compile0_is testA [120] testA_locs _ W0 (lw.on K0.out) (hd.on K0.out) RT testA_check rfl (by decide) (by
    intro L hL
    simp only [testA, List.mem_cons, List.not_mem_nil, or_false] at hL
    subst hL
    exact ⟨by decide, fun _ _ _ => by decide⟩) (by decide)
  rw [testA_placed] at hC
  clear lw hd B1 B2 R2 RT
  go_enter Tryd.func14, Tryd.ntmps14
  go_wp2_with fail
  rw [← hW0]
  refine hC.mono ?_
  rintro e w1 ⟨pv, rfl, hP, k1⟩
  have K1 : Hid (On w w1) := K0.out.trans k1
  have hS := fun W (k : On w1 W) => start_is [[setA, stoB]] 0 pv W (hP.on k)
  have hN := fun W (k : On w1 W) => pnext_is [[setA, stoB]] 0 ⟨1, 1, 0, 0, 0⟩ pv W (hP.on k)
  have hZ := fun W (k : On w1 W) => psize_is [[setA, stoB]] pv W (hP.on k) (by decide)
  rw [startA] at hS
  rw [nextA] at hN
  obtain ⟨a1, m1, c1, a2, m2, c2, a, c, rfl, _⟩ := hP
  unfold nextV insV locV stoB at hN
  unfold locV at hS
  simp only [Option.getD_some, Option.isSome_some] at hN
  have k0 : ∀ A, On w1 (w1.alloc A) := fun A => (On.refl w1).alloc A
  have bp : ∀ cs T, Bk (w1.alloc (.cells cs T)) w1.heap.size cs := fun cs T => Bk.new w1 cs T
  clear hC hW0 K0 k1
  go_wp2_with fail
  refine (hS _ (k0 _)).mono ?_
  rintro e w2 ⟨rfl, k2⟩
  have P2 := (bp _ _).on k2
  have K2 : Hid (On w1 w2) := (k0 _).trans k2
  have x0 := P2.at (i := 0) rfl
  have x1 := P2.at (i := 1) rfl
  have x2 := P2.at (i := 2) rfl
  have xl := P2.lt
  have k3 : ∀ A, On w1 (w2.alloc A) := fun A => K2.out.alloc A
  have bl : ∀ cs T, Bk (w2.alloc (.cells cs T)) w2.heap.size cs := fun cs T => Bk.new w2 cs T
  have bp2 : ∀ A, Bk (w2.alloc A) w1.heap.size _ := fun A => P2.alloc A
  clear hS k2 bp k0
  go_wp2_with fail
  refine (hN _ (k3 _)).mono ?_
  rintro e w3 ⟨rfl, k4⟩
  have P3 := (bp2 _).on k4
  have L3 := (bl _ _).on k4
  have K3 : Hid (On w1 w3) := (k3 _).trans k4
  clear hN k4 bl bp2 k3 x0 x1 x2 xl P2 K2
  have x0 := P3.at (i := 0) rfl
  have x1 := P3.at (i := 1) rfl
  have x2 := P3.at (i := 2) rfl
  have xl := P3.lt
  have y0 := L3.at (i := 0) rfl
  have y1 := L3.at (i := 1) rfl
  have yl := L3.lt
  have k5 : ∀ A, On w1 (w3.alloc A) := fun A => K3.out.alloc A
  go_wp2_with (go_at_call 18; refine (hZ _ (k5 _)).mono ?_; rintro e w4 ⟨rfl, k6⟩)
  go_ret
  exact ⟨rfl, K1.out.trans ((k5 _).trans k6)⟩
end Go.Proofs.YtengdlchglkkjaaDoor

namespace Go.Proofs.YtengdlchglkkjaaDoor
open Go.RowKit

theorem ok_small (t : TestT) (h : checkT t = 0) : testOk t = true ∧ t.thr.length ≤ 4 ∧ (∀ L ∈ t.thr, L.length ≤ 10) ∧ sumL t.thr ≤ 24 := by
  unfold checkT at h
  cases ht : testOk t with
  | false => rw [ht] at h; simp at h
  | true =>
    rw [ht] at h
    cases hb : bigT t with
    | true => rw [hb] at h; simp at h
    | false =>
      unfold bigT thrBig at hb
      simp only [Bool.or_eq_false_iff, decide_eq_false_iff_not, List.any_eq_false, decide_eq_true_eq] at hb
      exact ⟨rfl, by omega, fun L hL => by have := hb.1.1.2.2.1 L hL; omega, by omega⟩
theorem letters_len (n : Nat) : (lettersN n).length ≤ 26 := by
  unfold lettersN
  rw [List.length_map]
  have := List.length_filter_le (fun i => n.testBit i) (List.range 26)
  simpa using this
theorem thr_mem (t : TestT) (L : List InsT) (x : InsT) (h : L ∈ t.thr) (hx : x ∈ L) : x.l ∈ allLs t := by
  unfold allLs
  exact List.mem_append_right _ (List.mem_append_left _ (List.mem_flatMap.2 ⟨L, h, List.mem_map.2 ⟨x, hx, rfl⟩⟩))
theorem thr_ok (t : TestT) (h : testOk t = true) (L : List InsT) (hL : L ∈ t.thr) : L.all insOk = true := by
  unfold testOk at h
  simp only [Bool.and_eq_true] at h
  exact List.all_eq_true.1 h.1.2 L hL
theorem has_letters (t : TestT) (h : testOk t = true) (L : List InsT) (hL : L ∈ t.thr) (x : InsT) (hx : x ∈ L) (hk : hasLocB x.k = true) : 0 < (lettersN (locsN t)).length := by
  rcases ins_kind x (List.all_eq_true.1 (thr_ok t h L hL) x hx) with ⟨_, h0, h1⟩ | ⟨h0, _⟩
  · obtain ⟨b, hb, _⟩ := mem_letters t x.l (thr_mem t L x hL hx) h0 h1
    exact List.length_pos_of_mem hb
  · rw [hk] at h0; cases h0
def ltOf (t : TestT) : List UInt8 := lettersN (locsN t)
def inOf (t : TestT) : List Int := begP (ltOf t) t.ini
def llOf (t : TestT) : List (List InsT) := t.thr.map (placedP (ltOf t))
theorem sum_map (f : List InsT → List InsT) (hf : ∀ L, (f L).length = L.length) : ∀ (LL : List (List InsT)) (n : Nat), (LL.map f).foldl (fun n L => n + L.length) n = LL.foldl (fun n L => n + L.length) n
  | [], _ => rfl
  | L :: LL, n => by rw [List.map_cons, List.foldl_cons, List.foldl_cons, hf]; exact sum_map f hf LL _
theorem sum_ll (t : TestT) : sumL (llOf t) = sumL t.thr := sum_map _ (fun L => by unfold placedP; simp) _ _
/-- Compile of a test that is small enough, as the program does it. -/
theorem comp_ok (t : TestT) (v : Value) (w : World) (lw : Lw w) (hd : Db w) (h : TestRd w v t) (hc : checkT t = 0) :
    Calls Tryd.prog 15 #[v] w fun e w' => ∃ pv, e = .returned (.tuple #[pv, .int .i64 0]) ∧ ProgFl w' pv (ltOf t) (inOf t) (llOf t) ∧ On w w' := by
  obtain ⟨h1, h2, h3, h4⟩ := ok_small t hc
  exact compile_is t (ltOf t) rfl v w lw hd h hc (letters_len _) (fun x hx => by obtain ⟨k, a, b, _⟩ := ini_place t h1 x hx; exact ⟨k, a, b⟩)
    (fun L hL => ⟨by have := h3 L hL; omega, fun x hx hk => has_letters t h1 L hL x hx hk⟩) (by omega)
/-- The same, as the document does it. -/
theorem rcomp_ok (t : TestT) (v : Value) (w : World) (h : TestRd w v t) (hc : checkT t = 0) :
    Calls Tryd.prog 17 #[v] w fun e w' => ∃ pv, e = .returned pv ∧ ProgFl w' pv (ltOf t) (inOf t) (llOf t) ∧ On w w' := by
  obtain ⟨h1, h2, h3, h4⟩ := ok_small t hc
  have hr := rcompile_is t v w h ⟨by omega, fun L hL => by have := h3 L hL; omega⟩
  refine hr.mono ?_
  rintro e w' ⟨pv, rfl, hp, k⟩
  have hp0 := hp 0 [] 0 (Or.inr rfl)
  have e1 : locsR t = ltOf t := out_letters t h1
  have e2 : t.thr.map (rplRow (ltOf t)) = llOf t := List.map_congr_left fun L hL => (row_same _ L (thr_ok t h1 L hL)).symm
  have e3 : iniVals (ltOf t) t.ini = inOf t := (beg_same t h1).symm
  rw [e1, e2, e3] at hp0
  exact ⟨pv, rfl, hp0, k⟩
theorem prog_zero (w : World) : ProgFl w (.agg #[.slice none 0 0, .slice none 0 0, .slice none 0 0]) [] [] [] :=
  ⟨none, 0, none, 0, none, 0, rfl, Rd.nil _ _ _, Rd.nil _ _ _, Rd2.nil _ _ _⟩
set_option maxHeartbeats 16000000 in
set_option maxRecDepth 8000 in
theorem progCompiles_go (t : TestT) (v : Value) (ao : Option Addr) (zs : List Int) (cap : Nat) (w : World) (ht : TestRd w v t) (hw : Lw w ∧ Db w)
    (hS : ∀ W, On w W → Calls Tryd.prog 8 #[.slice ao zs.length cap, .int .i64 12] W fun e w' => ∃ v, e = .returned v ∧ TOwn w' W.heap.size v (smallP zs 12) ∧ On W w') :
    Calls Tryd.prog 4 #[v, .slice ao zs.length cap] w fun e w' => e = .returned (.bool true) ∧ On w w' := by
  obtain ⟨lw, hd⟩ := hw
  have hA := fun W (k : On w W) => awake6_is W (lw.on k) (hd.on k)
  have hF := fun W (k : On w W) => few_is t v W (ht.on k)
  have hSn : (smallP zs 12).name.size ≤ 9223372036854775807 := by show (ByteArray.mk #[116]).size ≤ _; decide
  have hSc := small_check (l := zs) (most := 12)
  obtain ⟨a1, c1, a2, c2, a3, c3, hv, _, _, _, _⟩ := ht.ex
  subst hv
  have HT : Hid (∃ n1 n2 n3 : Nat, True) := ⟨0, 0, 0, trivial⟩
  obtain ⟨nm, hnm⟩ : ∃ nm, nm = t.name := ⟨_, rfl⟩
  obtain ⟨n1, hn1⟩ : ∃ n1, n1 = t.ini.length := ⟨_, rfl⟩
  obtain ⟨n2, hn2⟩ : ∃ n2, n2 = t.thr.length := ⟨_, rfl⟩
  obtain ⟨n3, hn3⟩ : ∃ n3, n3 = t.cond.any.length := ⟨_, rfl⟩
  obtain ⟨kk, hkk⟩ : ∃ kk, kk = t.cond.k := ⟨_, rfl⟩
  rw [← hnm, ← hn1, ← hn2, ← hn3, ← hkk] at hF ht ⊢
  have HTR : Hid (TestRd w (.agg #[.string nm, .slice a1 n1 c1, .slice a2 n2 c2, .int .i64 kk, .slice a3 n3 c3]) t) := ht
  clear ht hnm hn1 hn2 hn3 hkk HT
  have k0 : On w (w.alloc (.cells #[.string nm, .slice a1 n1 c1, .slice a2 n2 c2, .int .i64 kk, .slice a3 n3 c3] 28)) := (On.refl w).alloc _
  have bt : ∀ W, On (w.alloc (.cells #[.string nm, .slice a1 n1 c1, .slice a2 n2 c2, .int .i64 kk, .slice a3 n3 c3] 28)) W → Bk W w.heap.size #[.string nm, .slice a1 n1 c1, .slice a2 n2 c2, .int .i64 kk, .slice a3 n3 c3] := fun W k => (Bk.new w _ _).on k
  go_enter Tryd.func4, Tryd.ntmps4
  go_wp2_with fail
  refine (hF _ k0).mono ?_
  rintro _ w1 ⟨b, rfl, k1⟩
  have K1 : Hid (On w w1) := k0.trans k1
  have TB1 := bt _ k1
  cases b
  · go_wp2_with fail
    refine (hA _ K1.out).mono ?_
    rintro _ w2 ⟨rfl, k2⟩
    go_wp2
    go_ret
    exact ⟨rfl, K1.out.trans k2⟩
  · go_wp2_with fail
    refine (hS _ K1.out).mono ?_
    rintro _ w2 ⟨u, rfl, hu, k2⟩
    have K2 : Hid (On w w2) := K1.out.trans k2
    have TB2 := TB1.on k2
    have hw1 : w.heap.size < w1.heap.size := TB1.lt
    obtain ⟨d1, e1, d2, e2, d3, e3, rfl, hI, hT, hAn⟩ := hu
    have hTW : ∀ (W : World) (ps : List Value), On w2 W → TestRd (putCells W w.heap.size 0 ps) (.agg #[.string (smallP zs 12).name, .slice d1 (smallP zs 12).ini.length e1, .slice d2 (smallP zs 12).thr.length e2, .int .i64 (smallP zs 12).cond.k, .slice d3 (smallP zs 12).cond.any.length e3]) (smallP zs 12) := fun W ps k =>
      ⟨d1, e1, d2, e2, d3, e3, rfl, hSn, Rd.own (fun _ => rfl) (own_puts ps W 0 (own_on hI k) hw1), (Own2.puts ps W 0 (hT.on k) hw1).rd (fun _ => rfl), (Own2.puts ps W 0 (hAn.on k) hw1).rd (fun _ => rfl)⟩
    clear hI hT hAn
    generalize (smallP zs 12).name = sn at *
    generalize (smallP zs 12).ini.length = s1 at *
    generalize (smallP zs 12).thr.length = s2 at *
    generalize (smallP zs 12).cond.any.length = s3 at *
    generalize (smallP zs 12).cond.k = sk at *
    obtain ⟨W3, hW3⟩ : ∃ W3, W3 = w2.alloc (.cells #[.string sn, .slice d1 s1 e1, .slice d2 s2 e2, .int .i64 sk, .slice d3 s3 e3] 28) := ⟨_, rfl⟩
    have SB3 : Bk W3 w2.heap.size #[.string sn, .slice d1 s1 e1, .slice d2 s2 e2, .int .i64 sk, .slice d3 s3 e3] := by rw [hW3]; exact Bk.new w2 _ _
    have K23 : On w2 W3 := by rw [hW3]; exact (On.refl w2).alloc _
    have TB3 := TB2.on K23
    go_wp2
    rw [← hW3]
    clear hW3
    go_loopg [6] 2 (fun gg s6 wl => ∃ i : Nat, i ≤ 2 ∧ gg = 2 - i ∧ s6 = .int .i64 i ∧ Hid (On w wl) ∧ (i < 2 → On w2 wl ∧ Bk wl w2.heap.size #[.string sn, .slice d1 s1 e1, .slice d2 s2 e2, .int .i64 sk, .slice d3 s3 e3] ∧ Bk wl w.heap.size #[.string nm, .slice a1 n1 c1, .slice a2 n2 c2, .int .i64 kk, .slice a3 n3 c3]))
    case atStart => exact ⟨0, by omega, rfl, rfl, K2.out.trans K23, fun _ => ⟨K23, SB3, TB3⟩⟩
    case round =>
      clear SB3 TB3
      obtain ⟨i, hi, hk, rfl, HO, HX⟩ := hrel
      obtain rfl | rfl | rfl : i = 0 ∨ i = 1 ∨ i = 2 := by omega
      · obtain ⟨HO2, SB, TBQ⟩ := HX (by omega)
        clear HX
        have KQ := HO.out
        have TRQ := HTR.out.on HO.out
        have x0 := TBQ.at (i := 0) rfl
        have x1 := TBQ.at (i := 1) rfl
        have x2 := TBQ.at (i := 2) rfl
        have x3 := TBQ.at (i := 3) rfl
        have x4 := TBQ.at (i := 4) rfl
        have xl := TBQ.lt
        by_cases hc : checkT t = 0
        · clear hTW
          go_wp2_with fail
          refine (comp_ok t _ _ (lw.on KQ) (hd.on KQ) TRQ hc).mono ?_
          rintro _ w4 ⟨pv, rfl, hp, k4⟩
          have hp1 := hp
          obtain ⟨q0, r0, q1, r1, q2, r2, rfl, _, _, _⟩ := hp
          have hRC := fun W (k : On wr W) => rcomp_ok t _ W (TRQ.on k) hc
          have hsum : sumL (llOf t) ≤ 1000000 := by rw [sum_ll]; have := (ok_small t hc).2.2.2; omega
          have hSM := fun (u : Value) W (k : On w4 W) (h : ProgFl W u (ltOf t) (inOf t) (llOf t)) => same6_is _ _ _ _ u W (hp1.on k) h
          have hZ1 := fun W (k : On w4 W) => psize_is _ _ W ((hp1.on k).rd) hsum
          have hZ2 := fun W (k : On w4 W) => rsize_is _ _ W ((hp1.on k).rd) hsum
          clear hp1 hsum
          generalize ltOf t = LT at *
          generalize inOf t = IN at *
          generalize sumL (llOf t) = SZ at *
          generalize llOf t = LL at *
          generalize LT.length = l0 at *
          generalize IN.length = l1 at *
          generalize LL.length = l2 at *
          have TB4 := TBQ.on k4
          have K4 : On w w4 := KQ.trans k4
          have y0 := TB4.at (i := 0) rfl
          have y1 := TB4.at (i := 1) rfl
          have y2 := TB4.at (i := 2) rfl
          have y3 := TB4.at (i := 3) rfl
          have y4 := TB4.at (i := 4) rfl
          have yl := TB4.lt
          clear x0 x1 x2 x3 x4 xl
          have hck := fun W (k : On w4 W) => rcheck_is t _ W (TRQ.on (k4.trans k))
          rw [hc] at hck
          obtain ⟨W5, hW5⟩ : ∃ W5, W5 = w4.alloc (.cells #[.slice q0 l0 r0, .slice q1 l1 r1, .slice q2 l2 r2] 40) := ⟨_, rfl⟩
          have k45 : On w4 W5 := by rw [hW5]; exact (On.refl w4).alloc _
          have PB5 : Bk W5 w4.heap.size #[.slice q0 l0 r0, .slice q1 l1 r1, .slice q2 l2 r2] := by rw [hW5]; exact Bk.new w4 _ _
          have TB5 := TB4.on k45
          have hS : ∀ W, On W5 W → (W.cell? ⟨w.heap.size, 0, none⟩ = some (.string nm) ∧ W.cell? ⟨w.heap.size, 1, none⟩ = some (.slice a1 n1 c1) ∧ W.cell? ⟨w.heap.size, 2, none⟩ = some (.slice a2 n2 c2) ∧ W.cell? ⟨w.heap.size, 3, none⟩ = some (.int .i64 kk) ∧ W.cell? ⟨w.heap.size, 4, none⟩ = some (.slice a3 n3 c3)) ∧ (W.cell? ⟨w4.heap.size, 0, none⟩ = some (.slice q0 l0 r0) ∧ W.cell? ⟨w4.heap.size, 1, none⟩ = some (.slice q1 l1 r1) ∧ W.cell? ⟨w4.heap.size, 2, none⟩ = some (.slice q2 l2 r2)) := fun W k => by
            have B := TB5.on k
            have D := PB5.on k
            exact ⟨⟨B.at (i := 0) rfl, B.at (i := 1) rfl, B.at (i := 2) rfl, B.at (i := 3) rfl, B.at (i := 4) rfl⟩, D.at (i := 0) rfl, D.at (i := 1) rfl, D.at (i := 2) rfl⟩
          go_wp2_with fail
          rw [← hW5]
          clear hW5 y0 y1 y2 y3 y4 yl
          refine (hck _ k45).mono ?_
          rintro _ w6 ⟨rfl, k6⟩
          have k56 : On W5 w6 := k6
          have q6 := hS _ (k56.drew)
          go_wp2
          refine region_fin (fun W => (W.cell? ⟨w.heap.size, 0, none⟩ = some (.string nm) ∧ W.cell? ⟨w.heap.size, 1, none⟩ = some (.slice a1 n1 c1) ∧ W.cell? ⟨w.heap.size, 2, none⟩ = some (.slice a2 n2 c2) ∧ W.cell? ⟨w.heap.size, 3, none⟩ = some (.int .i64 kk) ∧ W.cell? ⟨w.heap.size, 4, none⟩ = some (.slice a3 n3 c3)) ∧ (W.cell? ⟨w4.heap.size, 0, none⟩ = some (.slice q0 l0 r0) ∧ W.cell? ⟨w4.heap.size, 1, none⟩ = some (.slice q1 l1 r1) ∧ W.cell? ⟨w4.heap.size, 2, none⟩ = some (.slice q2 l2 r2))) 99 24 (by kernel_rfl) rfl ?_
          refine fin_take 0 (v := ?_) rfl (by kernel_rfl) (by kernel_rfl) (by kernel_rfl) (by kernel_rfl) (fun _ _ _ h => h) rfl ?_ q6 ?_
          rotate_left
          · intro W hW
            go_simp
            (try with_reducible rfl)
          simp only [Act.put, List.setIfInBounds_toArray, List.set_cons_zero, List.set_cons_succ]
          refine fin_take 1 (v := ?_) rfl (by kernel_rfl) (by kernel_rfl) (by kernel_rfl) (by kernel_rfl) (fun _ _ _ h => h) rfl ?_ q6 ?_
          rotate_left
          · intro W hW
            go_simp
            (try with_reducible rfl)
          simp only [Act.put, List.setIfInBounds_toArray, List.set_cons_zero, List.set_cons_succ]
          refine fin_take 2 (v := ?_) rfl (by kernel_rfl) (by kernel_rfl) (by kernel_rfl) (by kernel_rfl) (fun _ _ _ h => h) rfl ?_ q6 ?_
          rotate_left
          · intro W hW
            go_simp
            (try with_reducible rfl)
          simp only [Act.put, List.setIfInBounds_toArray, List.set_cons_zero, List.set_cons_succ]
          refine fin_take 3 (v := ?_) rfl (by kernel_rfl) (by kernel_rfl) (by kernel_rfl) (by kernel_rfl) (fun _ _ _ h => h) rfl ?_ q6 ?_
          rotate_left
          · intro W hW
            go_simp
            (try with_reducible rfl)
          simp only [Act.put, List.setIfInBounds_toArray, List.set_cons_zero, List.set_cons_succ]
          refine fin_takeG 4 (v := ?_) rfl (by kernel_rfl) (by kernel_rfl) (by kernel_rfl) (by kernel_rfl) (fun _ _ _ h => h) (by rfl) ?_ q6 ?_
          rotate_left
          · intro W hW
            go_simp
            (try with_reducible rfl)
          simp only [Act.put, List.setIfInBounds_toArray, List.set_cons_zero, List.set_cons_succ]
          refine fin_takeG 5 (v := ?_) rfl (by kernel_rfl) (by kernel_rfl) (by kernel_rfl) (by kernel_rfl) (fun _ _ _ h => h) (by rfl) ?_ q6 ?_
          rotate_left
          · intro W hW
            go_simp
            (try with_reducible rfl)
          simp only [Act.put, List.setIfInBounds_toArray, List.set_cons_zero, List.set_cons_succ]
          refine fin_takeG 6 (v := ?_) rfl (by kernel_rfl) (by kernel_rfl) (by kernel_rfl) (by kernel_rfl) (fun _ _ _ h => h) (by rfl) ?_ q6 ?_
          rotate_left
          · intro W hW
            go_simp
            (try with_reducible rfl)
          simp only [Act.put, List.setIfInBounds_toArray, List.set_cons_zero, List.set_cons_succ]
          refine fin_takeN 7 rfl (by kernel_rfl) (by kernel_rfl) (by kernel_rfl) (by kernel_rfl) (fun _ _ _ h => h) (by rfl) q6 ?_
          simp only [Act.put, List.setIfInBounds_toArray, List.set_cons_zero, List.set_cons_succ]
          refine fin_takeN 8 rfl (by kernel_rfl) (by kernel_rfl) (by kernel_rfl) (by kernel_rfl) (fun _ _ _ h => h) (by rfl) q6 ?_
          simp only [Act.put, List.setIfInBounds_toArray, List.set_cons_zero, List.set_cons_succ]
          refine fin_takeN 9 rfl (by kernel_rfl) (by kernel_rfl) (by kernel_rfl) (by kernel_rfl) (fun _ _ _ h => h) (by rfl) q6 ?_
          simp only [Act.put, List.setIfInBounds_toArray, List.set_cons_zero, List.set_cons_succ]
          refine fin_takeN 10 rfl (by kernel_rfl) (by kernel_rfl) (by kernel_rfl) (by kernel_rfl) (fun _ _ _ h => h) (by rfl) q6 ?_
          simp only [Act.put, List.setIfInBounds_toArray, List.set_cons_zero, List.set_cons_succ]
          refine fin_takeG 11 (v := ?_) rfl (by kernel_rfl) (by kernel_rfl) (by kernel_rfl) (by kernel_rfl) (fun _ _ _ h => h) (by rfl) ?_ q6 ?_
          rotate_left
          · intro W hW
            go_simp
            (try with_reducible rfl)
          simp only [Act.put, List.setIfInBounds_toArray, List.set_cons_zero, List.set_cons_succ]
          refine fin_take 12 (v := ?_) rfl (by kernel_rfl) (by kernel_rfl) (by kernel_rfl) (by kernel_rfl) (fun _ _ _ h => h) rfl ?_ q6 ?_
          rotate_left
          · intro W hW
            go_simp
            (try with_reducible rfl)
          simp only [Act.put, List.setIfInBounds_toArray, List.set_cons_zero, List.set_cons_succ]
          refine fin_take 13 (v := ?_) rfl (by kernel_rfl) (by kernel_rfl) (by kernel_rfl) (by kernel_rfl) (fun _ _ _ h => h) rfl ?_ q6 ?_
          rotate_left
          · intro W hW
            go_simp
            (try with_reducible rfl)
          simp only [Act.put, List.setIfInBounds_toArray, List.set_cons_zero, List.set_cons_succ]
          refine fin_takeG 14 (v := ?_) rfl (by kernel_rfl) (by kernel_rfl) (by kernel_rfl) (by kernel_rfl) (fun _ _ _ h => h) (by rfl) ?_ q6 ?_
          rotate_left
          · intro W hW
            go_simp
            (try with_reducible rfl)
          simp only [Act.put, List.setIfInBounds_toArray, List.set_cons_zero, List.set_cons_succ]
          refine fin_takeG 15 (v := ?_) rfl (by kernel_rfl) (by kernel_rfl) (by kernel_rfl) (by kernel_rfl) (fun _ _ _ h => h) (by rfl) ?_ q6 ?_
          rotate_left
          · intro W hW
            go_simp
            (try with_reducible rfl)
          simp only [Act.put, List.setIfInBounds_toArray, List.set_cons_zero, List.set_cons_succ]
          refine fin_takeG 16 (v := ?_) rfl (by kernel_rfl) (by kernel_rfl) (by kernel_rfl) (by kernel_rfl) (fun _ _ _ h => h) (by rfl) ?_ q6 ?_
          rotate_left
          · intro W hW
            go_simp
            (try with_reducible rfl)
          simp only [Act.put, List.setIfInBounds_toArray, List.set_cons_zero, List.set_cons_succ]
          refine fin_takeG 17 (v := ?_) rfl (by kernel_rfl) (by kernel_rfl) (by kernel_rfl) (by kernel_rfl) (fun _ _ _ h => h) (by rfl) ?_ q6 ?_
          rotate_left
          · intro W hW
            go_simp
            (try with_reducible rfl)
          simp only [Act.put, List.setIfInBounds_toArray, List.set_cons_zero, List.set_cons_succ]
          refine fin_takeG 18 (v := ?_) rfl (by kernel_rfl) (by kernel_rfl) (by kernel_rfl) (by kernel_rfl) (fun _ _ _ h => h) (by rfl) ?_ q6 ?_
          rotate_left
          · intro W hW
            go_simp
            (try with_reducible rfl)
          simp only [Act.put, List.setIfInBounds_toArray, List.set_cons_zero, List.set_cons_succ]
          refine fin_oneG 19 rfl (by rfl) (by kernel_rfl) (fun K hK => ?_)
          go_simp
          refine (hRC _ (k4.trans (k45.trans k56.drew))).mono ?_
          rintro _ w7 ⟨pu, rfl, hpu, k7⟩
          have k57 : On W5 w7 := k56.drew.trans k7
          have q7 := hS _ k57
          refine hK.out _ _ (fun _ => q7) ?_
          clear hK
          refine fin_oneG 20 rfl (by rfl) (by kernel_rfl) (fun K hK => ?_)
          go_simp
          refine (hSM _ _ (k45.trans k57) hpu).mono ?_
          rintro _ w8 ⟨rfl, k8⟩
          have k58 : On W5 w8 := k57.trans k8
          have q8 := hS _ k58
          refine hK.out _ _ (fun _ => q8) ?_
          clear hK
          refine fin_takeG 21 (v := ?_) rfl (by kernel_rfl) (by kernel_rfl) (by kernel_rfl) (by kernel_rfl) (fun _ _ _ h => h) (by rfl) ?_ q8 ?_
          rotate_left
          · intro W hW
            go_simp
            (try with_reducible rfl)
          simp only [Act.put, List.setIfInBounds_toArray, List.set_cons_zero, List.set_cons_succ]
          refine fin_takeG 22 (v := ?_) rfl (by kernel_rfl) (by kernel_rfl) (by kernel_rfl) (by kernel_rfl) (fun _ _ _ h => h) (by rfl) ?_ q8 ?_
          rotate_left
          · intro W hW
            go_simp
            (try with_reducible rfl)
          simp only [Act.put, List.setIfInBounds_toArray, List.set_cons_zero, List.set_cons_succ]
          refine fin_take 23 (v := ?_) rfl (by kernel_rfl) (by kernel_rfl) (by kernel_rfl) (by kernel_rfl) (fun _ _ _ h => h) rfl ?_ q8 ?_
          rotate_left
          · intro W hW
            go_simp
            (try with_reducible rfl)
          simp only [Act.put, List.setIfInBounds_toArray, List.set_cons_zero, List.set_cons_succ]
          refine fin_done (by kernel_rfl) (NoPanic.normal ?_)
          have q9 := hS _ k58.drew
          go_wp2
          refine region_fin (fun W => (W.cell? ⟨w.heap.size, 0, none⟩ = some (.string nm) ∧ W.cell? ⟨w.heap.size, 1, none⟩ = some (.slice a1 n1 c1) ∧ W.cell? ⟨w.heap.size, 2, none⟩ = some (.slice a2 n2 c2) ∧ W.cell? ⟨w.heap.size, 3, none⟩ = some (.int .i64 kk) ∧ W.cell? ⟨w.heap.size, 4, none⟩ = some (.slice a3 n3 c3)) ∧ (W.cell? ⟨w4.heap.size, 0, none⟩ = some (.slice q0 l0 r0) ∧ W.cell? ⟨w4.heap.size, 1, none⟩ = some (.slice q1 l1 r1) ∧ W.cell? ⟨w4.heap.size, 2, none⟩ = some (.slice q2 l2 r2))) 99 9 (by kernel_rfl) rfl ?_
          refine fin_take 0 (v := ?_) rfl (by kernel_rfl) (by kernel_rfl) (by kernel_rfl) (by kernel_rfl) (fun _ _ _ h => h) rfl ?_ q9 ?_
          rotate_left
          · intro W hW
            go_simp
            (try with_reducible rfl)
          simp only [Act.put, List.setIfInBounds_toArray, List.set_cons_zero, List.set_cons_succ]
          refine fin_take 1 (v := ?_) rfl (by kernel_rfl) (by kernel_rfl) (by kernel_rfl) (by kernel_rfl) (fun _ _ _ h => h) rfl ?_ q9 ?_
          rotate_left
          · intro W hW
            go_simp
            (try with_reducible rfl)
          simp only [Act.put, List.setIfInBounds_toArray, List.set_cons_zero, List.set_cons_succ]
          refine fin_take 2 (v := ?_) rfl (by kernel_rfl) (by kernel_rfl) (by kernel_rfl) (by kernel_rfl) (fun _ _ _ h => h) rfl ?_ q9 ?_
          rotate_left
          · intro W hW
            go_simp
            (try with_reducible rfl)
          simp only [Act.put, List.setIfInBounds_toArray, List.set_cons_zero, List.set_cons_succ]
          refine fin_takeG 3 (v := ?_) rfl (by kernel_rfl) (by kernel_rfl) (by kernel_rfl) (by kernel_rfl) (fun _ _ _ h => h) (by rfl) ?_ q9 ?_
          rotate_left
          · intro W hW
            go_simp
            (try with_reducible rfl)
          simp only [Act.put, List.setIfInBounds_toArray, List.set_cons_zero, List.set_cons_succ]
          refine fin_takeG 5 (v := ?_) rfl (by kernel_rfl) (by kernel_rfl) (by kernel_rfl) (by kernel_rfl) (fun _ _ _ h => h) (by rfl) ?_ q9 ?_
          rotate_left
          · intro W hW
            go_simp
            (try with_reducible rfl)
          simp only [Act.put, List.setIfInBounds_toArray, List.set_cons_zero, List.set_cons_succ]
          refine fin_oneG 4 rfl (by rfl) (by kernel_rfl) (fun K hK => ?_)
          go_simp
          refine (hZ1 _ (k45.trans k58.drew)).mono ?_
          rintro _ w10 ⟨rfl, k10⟩
          have k510 : On W5 w10 := k58.drew.trans k10
          have q10 := hS _ k510
          refine hK.out _ _ (fun _ => q10) ?_
          clear hK
          refine fin_oneG 6 rfl (by rfl) (by kernel_rfl) (fun K hK => ?_)
          go_simp
          refine (hZ2 _ (k45.trans k510)).mono ?_
          rintro _ w11 ⟨rfl, k11⟩
          have k511 : On W5 w11 := k510.trans k11
          have q11 := hS _ k511
          refine hK.out _ _ (fun _ => q11) ?_
          clear hK
          refine fin_takeG 7 (v := ?_) rfl (by kernel_rfl) (by kernel_rfl) (by kernel_rfl) (by kernel_rfl) (fun _ _ _ h => h) (by rfl) ?_ q11 ?_
          rotate_left
          · intro W hW
            go_simp
            (try with_reducible rfl)
          simp only [Act.put, List.setIfInBounds_toArray, List.set_cons_zero, List.set_cons_succ]
          refine fin_take 8 (v := ?_) rfl (by kernel_rfl) (by kernel_rfl) (by kernel_rfl) (by kernel_rfl) (fun _ _ _ h => h) rfl ?_ q11 ?_
          rotate_left
          · intro W hW
            go_simp
            (try with_reducible rfl)
          simp only [Act.put, List.setIfInBounds_toArray, List.set_cons_zero, List.set_cons_succ]
          refine fin_done (by kernel_rfl) (NoPanic.normal ?_)
          go_wp2
          have KE := K4.trans (k45.trans k511)
          go_roundg (2 - (0 + 1))
          case measure => omega
          case rel => exact ⟨0 + 1, by omega, rfl, rfl, KE, fun _ => ⟨HO2.trans (k4.trans (k45.trans k511)), SB.on (k4.trans (k45.trans k511)), TB5.on k511⟩⟩
        · have hc : (checkT t == 0) = false := by simpa using hc
          clear hTW
          go_wp2_with fail
          refine (compile_bad t _ _ (lw.on KQ) TRQ hc).mono ?_
          rintro _ w4 ⟨rfl, k4⟩
          have hSM := fun W => same6_is [] [] [] _ _ W (prog_zero W) (prog_zero W)
          have TB4 := TBQ.on k4
          have K4 : On w w4 := KQ.trans k4
          have y0 := TB4.at (i := 0) rfl
          have y1 := TB4.at (i := 1) rfl
          have y2 := TB4.at (i := 2) rfl
          have y3 := TB4.at (i := 3) rfl
          have y4 := TB4.at (i := 4) rfl
          have yl := TB4.lt
          clear x0 x1 x2 x3 x4 xl
          have hck := fun W (k : On w4 W) => rcheck_is t _ W (TRQ.on (k4.trans k))
          have hcn : (checkT t != 0) = true := by rw [bne, hc]; rfl
          generalize checkT t = ct at *
          obtain ⟨W5, hW5⟩ : ∃ W5, W5 = w4.alloc (.cells #[.slice none 0 0, .slice none 0 0, .slice none 0 0] 40) := ⟨_, rfl⟩
          have k45 : On w4 W5 := by rw [hW5]; exact (On.refl w4).alloc _
          have PB5 : Bk W5 w4.heap.size #[.slice none 0 0, .slice none 0 0, .slice none 0 0] := by rw [hW5]; exact Bk.new w4 _ _
          have TB5 := TB4.on k45
          have hS : ∀ W, On W5 W → (W.cell? ⟨w.heap.size, 0, none⟩ = some (.string nm) ∧ W.cell? ⟨w.heap.size, 1, none⟩ = some (.slice a1 n1 c1) ∧ W.cell? ⟨w.heap.size, 2, none⟩ = some (.slice a2 n2 c2) ∧ W.cell? ⟨w.heap.size, 3, none⟩ = some (.int .i64 kk) ∧ W.cell? ⟨w.heap.size, 4, none⟩ = some (.slice a3 n3 c3)) ∧ (W.cell? ⟨w4.heap.size, 0, none⟩ = some (.slice none 0 0) ∧ W.cell? ⟨w4.heap.size, 1, none⟩ = some (.slice none 0 0) ∧ W.cell? ⟨w4.heap.size, 2, none⟩ = some (.slice none 0 0)) := fun W k => by
            have B := TB5.on k
            have D := PB5.on k
            exact ⟨⟨B.at (i := 0) rfl, B.at (i := 1) rfl, B.at (i := 2) rfl, B.at (i := 3) rfl, B.at (i := 4) rfl⟩, D.at (i := 0) rfl, D.at (i := 1) rfl, D.at (i := 2) rfl⟩
          go_wp2_with fail
          rw [← hW5]
          clear hW5 y0 y1 y2 y3 y4 yl
          refine (hck _ k45).mono ?_
          rintro _ w6 ⟨rfl, k6⟩
          have k56 : On W5 w6 := k6
          have q6 := hS _ (k56.drew)
          go_wp2
          refine region_fin (fun W => (W.cell? ⟨w.heap.size, 0, none⟩ = some (.string nm) ∧ W.cell? ⟨w.heap.size, 1, none⟩ = some (.slice a1 n1 c1) ∧ W.cell? ⟨w.heap.size, 2, none⟩ = some (.slice a2 n2 c2) ∧ W.cell? ⟨w.heap.size, 3, none⟩ = some (.int .i64 kk) ∧ W.cell? ⟨w.heap.size, 4, none⟩ = some (.slice a3 n3 c3)) ∧ (W.cell? ⟨w4.heap.size, 0, none⟩ = some (.slice none 0 0) ∧ W.cell? ⟨w4.heap.size, 1, none⟩ = some (.slice none 0 0) ∧ W.cell? ⟨w4.heap.size, 2, none⟩ = some (.slice none 0 0))) 99 24 (by kernel_rfl) rfl ?_
          refine fin_take 0 (v := ?_) rfl (by kernel_rfl) (by kernel_rfl) (by kernel_rfl) (by kernel_rfl) (fun _ _ _ h => h) rfl ?_ q6 ?_
          rotate_left
          · intro W hW
            go_simp
            (try with_reducible rfl)
          simp only [Act.put, List.setIfInBounds_toArray, List.set_cons_zero, List.set_cons_succ]
          refine fin_take 1 (v := ?_) rfl (by kernel_rfl) (by kernel_rfl) (by kernel_rfl) (by kernel_rfl) (fun _ _ _ h => h) rfl ?_ q6 ?_
          rotate_left
          · intro W hW
            go_simp
            (try with_reducible rfl)
          simp only [Act.put, List.setIfInBounds_toArray, List.set_cons_zero, List.set_cons_succ]
          refine fin_take 2 (v := ?_) rfl (by kernel_rfl) (by kernel_rfl) (by kernel_rfl) (by kernel_rfl) (fun _ _ _ h => h) rfl ?_ q6 ?_
          rotate_left
          · intro W hW
            go_simp
            (try with_reducible rfl)
          simp only [Act.put, List.setIfInBounds_toArray, List.set_cons_zero, List.set_cons_succ]
          refine fin_take 3 (v := ?_) rfl (by kernel_rfl) (by kernel_rfl) (by kernel_rfl) (by kernel_rfl) (fun _ _ _ h => h) rfl ?_ q6 ?_
          rotate_left
          · intro W hW
            go_simp
            (try with_reducible rfl)
          simp only [Act.put, List.setIfInBounds_toArray, List.set_cons_zero, List.set_cons_succ]
          refine fin_takeG 4 (v := ?_) rfl (by kernel_rfl) (by kernel_rfl) (by kernel_rfl) (by kernel_rfl) (fun _ _ _ h => h) (by rfl) ?_ q6 ?_
          rotate_left
          · intro W hW
            go_simp
            (try with_reducible rfl)
          simp only [Act.put, List.setIfInBounds_toArray, List.set_cons_zero, List.set_cons_succ]
          refine fin_takeG 5 (v := ?_) rfl (by kernel_rfl) (by kernel_rfl) (by kernel_rfl) (by kernel_rfl) (fun _ _ _ h => h) (by rfl) ?_ q6 ?_
          rotate_left
          · intro W hW
            go_simp
            (try with_reducible rfl)
          simp only [Act.put, List.setIfInBounds_toArray, List.set_cons_zero, List.set_cons_succ]
          refine fin_takeG 6 (v := ?_) rfl (by kernel_rfl) (by kernel_rfl) (by kernel_rfl) (by kernel_rfl) (fun _ _ _ h => h) (by rfl) ?_ q6 ?_
          rotate_left
          · intro W hW
            go_simp
            (try with_reducible rfl)
          simp only [Act.put, List.setIfInBounds_toArray, List.set_cons_zero, List.set_cons_succ]
          refine fin_takeG 7 (v := ?_) rfl (by kernel_rfl) (by kernel_rfl) (by kernel_rfl) (by kernel_rfl) (fun _ _ _ h => h) (by rfl) ?_ q6 ?_
          rotate_left
          · intro W hW
            go_simp
            (try with_reducible rfl)
          simp only [Act.put, List.setIfInBounds_toArray, List.set_cons_zero, List.set_cons_succ]
          refine fin_takeG 8 (v := ?_) rfl (by kernel_rfl) (by kernel_rfl) (by kernel_rfl) (by kernel_rfl) (fun _ _ _ h => h) (by rfl) ?_ q6 ?_
          rotate_left
          · intro W hW
            go_simp
            (try with_reducible rfl)
          simp only [Act.put, List.setIfInBounds_toArray, List.set_cons_zero, List.set_cons_succ]
          refine fin_oneG 9 rfl (by rfl) (by kernel_rfl) (fun K hK => ?_)
          go_simp
          refine (hSM _).mono ?_
          rintro _ w8 ⟨rfl, k8⟩
          have k58 : On W5 w8 := k56.drew.trans k8
          have q8 := hS _ k58
          refine hK.out _ _ (fun _ => q8) ?_
          clear hK
          refine fin_takeG 10 (v := ?_) rfl (by kernel_rfl) (by kernel_rfl) (by kernel_rfl) (by kernel_rfl) (fun _ _ _ h => h) (by rfl) ?_ q8 ?_
          rotate_left
          · intro W hW
            go_simp
            (try with_reducible rfl)
          simp only [Act.put, List.setIfInBounds_toArray, List.set_cons_zero, List.set_cons_succ]
          refine fin_takeG 11 (v := ?_) rfl (by kernel_rfl) (by kernel_rfl) (by kernel_rfl) (by kernel_rfl) (fun _ _ _ h => h) (by rfl) ?_ q8 ?_
          rotate_left
          · intro W hW
            go_simp
            (try with_reducible rfl)
          simp only [Act.put, List.setIfInBounds_toArray, List.set_cons_zero, List.set_cons_succ]
          refine fin_take 12 (v := ?_) rfl (by kernel_rfl) (by kernel_rfl) (by kernel_rfl) (by kernel_rfl) (fun _ _ _ h => h) rfl ?_ q8 ?_
          rotate_left
          · intro W hW
            go_simp
            (try with_reducible rfl)
          simp only [Act.put, List.setIfInBounds_toArray, List.set_cons_zero, List.set_cons_succ]
          refine fin_take 13 (v := ?_) rfl (by kernel_rfl) (by kernel_rfl) (by kernel_rfl) (by kernel_rfl) (fun _ _ _ h => h) rfl ?_ q8 ?_
          rotate_left
          · intro W hW
            go_simp
            (try with_reducible rfl)
          simp only [Act.put, List.setIfInBounds_toArray, List.set_cons_zero, List.set_cons_succ]
          refine fin_takeG 14 (v := ?_) rfl (by kernel_rfl) (by kernel_rfl) (by kernel_rfl) (by kernel_rfl) (fun _ _ _ h => h) (by rfl) ?_ q8 ?_
          rotate_left
          · intro W hW
            go_simp
            (try with_reducible rfl)
          simp only [Act.put, List.setIfInBounds_toArray, List.set_cons_zero, List.set_cons_succ]
          refine fin_takeG 15 (v := ?_) rfl (by kernel_rfl) (by kernel_rfl) (by kernel_rfl) (by kernel_rfl) (fun _ _ _ h => h) (by rfl) ?_ q8 ?_
          rotate_left
          · intro W hW
            go_simp
            (try with_reducible rfl)
          simp only [Act.put, List.setIfInBounds_toArray, List.set_cons_zero, List.set_cons_succ]
          refine fin_takeG 16 (v := ?_) rfl (by kernel_rfl) (by kernel_rfl) (by kernel_rfl) (by kernel_rfl) (fun _ _ _ h => h) (by rfl) ?_ q8 ?_
          rotate_left
          · intro W hW
            go_simp
            (try with_reducible rfl)
          simp only [Act.put, List.setIfInBounds_toArray, List.set_cons_zero, List.set_cons_succ]
          refine fin_takeN 17 rfl (by kernel_rfl) (by kernel_rfl) (by kernel_rfl) (by kernel_rfl) (fun _ _ _ h => h) (by rfl) q8 ?_
          simp only [Act.put, List.setIfInBounds_toArray, List.set_cons_zero, List.set_cons_succ]
          refine fin_takeN 18 rfl (by kernel_rfl) (by kernel_rfl) (by kernel_rfl) (by kernel_rfl) (fun _ _ _ h => h) (by rfl) q8 ?_
          simp only [Act.put, List.setIfInBounds_toArray, List.set_cons_zero, List.set_cons_succ]
          refine fin_takeN 19 rfl (by kernel_rfl) (by kernel_rfl) (by kernel_rfl) (by kernel_rfl) (fun _ _ _ h => h) (by rfl) q8 ?_
          simp only [Act.put, List.setIfInBounds_toArray, List.set_cons_zero, List.set_cons_succ]
          refine fin_takeN 20 rfl (by kernel_rfl) (by kernel_rfl) (by kernel_rfl) (by kernel_rfl) (fun _ _ _ h => h) (by rfl) q8 ?_
          simp only [Act.put, List.setIfInBounds_toArray, List.set_cons_zero, List.set_cons_succ]
          refine fin_takeN 21 rfl (by kernel_rfl) (by kernel_rfl) (by kernel_rfl) (by kernel_rfl) (fun _ _ _ h => h) (by rfl) q8 ?_
          simp only [Act.put, List.setIfInBounds_toArray, List.set_cons_zero, List.set_cons_succ]
          refine fin_takeG 22 (v := ?_) rfl (by kernel_rfl) (by kernel_rfl) (by kernel_rfl) (by kernel_rfl) (fun _ _ _ h => h) (by rfl) ?_ q8 ?_
          rotate_left
          · intro W hW
            go_simp
            (try with_reducible rfl)
          simp only [Act.put, List.setIfInBounds_toArray, List.set_cons_zero, List.set_cons_succ]
          refine fin_take 23 (v := ?_) rfl (by kernel_rfl) (by kernel_rfl) (by kernel_rfl) (by kernel_rfl) (fun _ _ _ h => h) rfl ?_ q8 ?_
          rotate_left
          · intro W hW
            go_simp
            (try with_reducible rfl)
          simp only [Act.put, List.setIfInBounds_toArray, List.set_cons_zero, List.set_cons_succ]
          refine fin_done (by kernel_rfl) (NoPanic.normal ?_)
          have q9 := hS _ k58.drew
          go_wp2
          refine region_fin (fun W => (W.cell? ⟨w.heap.size, 0, none⟩ = some (.string nm) ∧ W.cell? ⟨w.heap.size, 1, none⟩ = some (.slice a1 n1 c1) ∧ W.cell? ⟨w.heap.size, 2, none⟩ = some (.slice a2 n2 c2) ∧ W.cell? ⟨w.heap.size, 3, none⟩ = some (.int .i64 kk) ∧ W.cell? ⟨w.heap.size, 4, none⟩ = some (.slice a3 n3 c3)) ∧ (W.cell? ⟨w4.heap.size, 0, none⟩ = some (.slice none 0 0) ∧ W.cell? ⟨w4.heap.size, 1, none⟩ = some (.slice none 0 0) ∧ W.cell? ⟨w4.heap.size, 2, none⟩ = some (.slice none 0 0))) 99 9 (by kernel_rfl) rfl ?_
          refine fin_take 0 (v := ?_) rfl (by kernel_rfl) (by kernel_rfl) (by kernel_rfl) (by kernel_rfl) (fun _ _ _ h => h) rfl ?_ q9 ?_
          rotate_left
          · intro W hW
            go_simp
            (try with_reducible rfl)
          simp only [Act.put, List.setIfInBounds_toArray, List.set_cons_zero, List.set_cons_succ]
          refine fin_take 1 (v := ?_) rfl (by kernel_rfl) (by kernel_rfl) (by kernel_rfl) (by kernel_rfl) (fun _ _ _ h => h) rfl ?_ q9 ?_
          rotate_left
          · intro W hW
            go_simp
            (try with_reducible rfl)
          simp only [Act.put, List.setIfInBounds_toArray, List.set_cons_zero, List.set_cons_succ]
          refine fin_take 2 (v := ?_) rfl (by kernel_rfl) (by kernel_rfl) (by kernel_rfl) (by kernel_rfl) (fun _ _ _ h => h) rfl ?_ q9 ?_
          rotate_left
          · intro W hW
            go_simp
            (try with_reducible rfl)
          simp only [Act.put, List.setIfInBounds_toArray, List.set_cons_zero, List.set_cons_succ]
          have k511 : On W5 w8.drew := k58.drew
          refine fin_takeN 3 rfl (by kernel_rfl) (by kernel_rfl) (by kernel_rfl) (by kernel_rfl) (fun _ _ _ h => h) (by rfl) q9 ?_
          simp only [Act.put, List.setIfInBounds_toArray, List.set_cons_zero, List.set_cons_succ]
          refine fin_takeN 4 rfl (by kernel_rfl) (by kernel_rfl) (by kernel_rfl) (by kernel_rfl) (fun _ _ _ h => h) (by rfl) q9 ?_
          simp only [Act.put, List.setIfInBounds_toArray, List.set_cons_zero, List.set_cons_succ]
          refine fin_takeN 5 rfl (by kernel_rfl) (by kernel_rfl) (by kernel_rfl) (by kernel_rfl) (fun _ _ _ h => h) (by rfl) q9 ?_
          simp only [Act.put, List.setIfInBounds_toArray, List.set_cons_zero, List.set_cons_succ]
          refine fin_takeN 6 rfl (by kernel_rfl) (by kernel_rfl) (by kernel_rfl) (by kernel_rfl) (fun _ _ _ h => h) (by rfl) q9 ?_
          simp only [Act.put, List.setIfInBounds_toArray, List.set_cons_zero, List.set_cons_succ]
          refine fin_takeN 7 rfl (by kernel_rfl) (by kernel_rfl) (by kernel_rfl) (by kernel_rfl) (fun _ _ _ h => h) (by rfl) q9 ?_
          simp only [Act.put, List.setIfInBounds_toArray, List.set_cons_zero, List.set_cons_succ]
          refine fin_take 8 (v := ?_) rfl (by kernel_rfl) (by kernel_rfl) (by kernel_rfl) (by kernel_rfl) (fun _ _ _ h => h) rfl ?_ q9 ?_
          rotate_left
          · intro W hW
            go_simp
            (try with_reducible rfl)
          simp only [Act.put, List.setIfInBounds_toArray, List.set_cons_zero, List.set_cons_succ]
          refine fin_done (by kernel_rfl) (NoPanic.normal ?_)
          go_wp2
          have KE := K4.trans (k45.trans k511)
          go_roundg (2 - (0 + 1))
          case measure => omega
          case rel => exact ⟨0 + 1, by omega, rfl, rfl, KE, fun _ => ⟨HO2.trans (k4.trans (k45.trans k511)), SB.on (k4.trans (k45.trans k511)), TB5.on k511⟩⟩
      · obtain ⟨HO2, SB, TBP⟩ := HX (by omega)
        clear HX
        have hc := hSc
        have s0 := SB.at (i := 0) rfl
        have s1' := SB.at (i := 1) rfl
        have s2' := SB.at (i := 2) rfl
        have s3' := SB.at (i := 3) rfl
        have s4' := SB.at (i := 4) rfl
        have sl := SB.lt
        have x0 := TBP.at (i := 0) rfl
        have x1 := TBP.at (i := 1) rfl
        have x2 := TBP.at (i := 2) rfl
        have x3 := TBP.at (i := 3) rfl
        have x4 := TBP.at (i := 4) rfl
        have f0 := fun j => TBP.fr j
        have xl := TBP.lt
        obtain ⟨WQ, hWQ⟩ : ∃ WQ, WQ = ((((wr.setCell ⟨w.heap.size, 0, none⟩ (.string sn)).setCell ⟨w.heap.size, 1, none⟩ (.slice d1 s1 e1)).setCell ⟨w.heap.size, 2, none⟩ (.slice d2 s2 e2)).setCell ⟨w.heap.size, 3, none⟩ (.int .i64 sk)).setCell ⟨w.heap.size, 4, none⟩ (.slice d3 s3 e3) := ⟨_, rfl⟩
        have TBQ : Bk WQ w.heap.size #[.string sn, .slice d1 s1 e1, .slice d2 s2 e2, .int .i64 sk, .slice d3 s3 e3] := by rw [hWQ]; exact TBP.set5 _ _ _ _ _
        have KQ : On w WQ := by rw [hWQ]; exact ((((HO.out.setNew (Nat.le_refl _) _).setNew (Nat.le_refl _) _).setNew (Nat.le_refl _) _).setNew (Nat.le_refl _) _).setNew (Nat.le_refl _) _
        have TRQ := hTW wr [.string sn, .slice d1 s1 e1, .slice d2 s2 e2, .int .i64 sk, .slice d3 s3 e3] HO2
        rw [show putCells wr w.heap.size 0 [.string sn, .slice d1 s1 e1, .slice d2 s2 e2, .int .i64 sk, .slice d3 s3 e3] = WQ from hWQ.symm] at TRQ
        clear hTW
        go_wp2_with fail
        rw [← hWQ]
        clear hWQ
        refine (comp_ok (smallP zs 12) _ _ (lw.on KQ) (hd.on KQ) TRQ hc).mono ?_
        rintro _ w4 ⟨pv, rfl, hp, k4⟩
        have hp1 := hp
        obtain ⟨q0, r0, q1, r1, q2, r2, rfl, _, _, _⟩ := hp
        have hRC := fun W (k : On WQ W) => rcomp_ok (smallP zs 12) _ W (TRQ.on k) hc
        have hsum : sumL (llOf (smallP zs 12)) ≤ 1000000 := by rw [sum_ll]; have := (ok_small (smallP zs 12) hc).2.2.2; omega
        have hSM := fun (u : Value) W (k : On w4 W) (h : ProgFl W u (ltOf (smallP zs 12)) (inOf (smallP zs 12)) (llOf (smallP zs 12))) => same6_is _ _ _ _ u W (hp1.on k) h
        have hZ1 := fun W (k : On w4 W) => psize_is _ _ W ((hp1.on k).rd) hsum
        have hZ2 := fun W (k : On w4 W) => rsize_is _ _ W ((hp1.on k).rd) hsum
        clear hp1 hsum
        generalize ltOf (smallP zs 12) = LT at *
        generalize inOf (smallP zs 12) = IN at *
        generalize sumL (llOf (smallP zs 12)) = SZ at *
        generalize llOf (smallP zs 12) = LL at *
        generalize LT.length = l0 at *
        generalize IN.length = l1 at *
        generalize LL.length = l2 at *
        have TB4 := TBQ.on k4
        have K4 : On w w4 := KQ.trans k4
        have y0 := TB4.at (i := 0) rfl
        have y1 := TB4.at (i := 1) rfl
        have y2 := TB4.at (i := 2) rfl
        have y3 := TB4.at (i := 3) rfl
        have y4 := TB4.at (i := 4) rfl
        have yl := TB4.lt
        clear x0 x1 x2 x3 x4 xl
        have hck := fun W (k : On w4 W) => rcheck_is (smallP zs 12) _ W (TRQ.on (k4.trans k))
        rw [hc] at hck
        obtain ⟨W5, hW5⟩ : ∃ W5, W5 = w4.alloc (.cells #[.slice q0 l0 r0, .slice q1 l1 r1, .slice q2 l2 r2] 40) := ⟨_, rfl⟩
        have k45 : On w4 W5 := by rw [hW5]; exact (On.refl w4).alloc _
        have PB5 : Bk W5 w4.heap.size #[.slice q0 l0 r0, .slice q1 l1 r1, .slice q2 l2 r2] := by rw [hW5]; exact Bk.new w4 _ _
        have TB5 := TB4.on k45
        have hS : ∀ W, On W5 W → (W.cell? ⟨w.heap.size, 0, none⟩ = some (.string sn) ∧ W.cell? ⟨w.heap.size, 1, none⟩ = some (.slice d1 s1 e1) ∧ W.cell? ⟨w.heap.size, 2, none⟩ = some (.slice d2 s2 e2) ∧ W.cell? ⟨w.heap.size, 3, none⟩ = some (.int .i64 sk) ∧ W.cell? ⟨w.heap.size, 4, none⟩ = some (.slice d3 s3 e3)) ∧ (W.cell? ⟨w4.heap.size, 0, none⟩ = some (.slice q0 l0 r0) ∧ W.cell? ⟨w4.heap.size, 1, none⟩ = some (.slice q1 l1 r1) ∧ W.cell? ⟨w4.heap.size, 2, none⟩ = some (.slice q2 l2 r2)) := fun W k => by
          have B := TB5.on k
          have D := PB5.on k
          exact ⟨⟨B.at (i := 0) rfl, B.at (i := 1) rfl, B.at (i := 2) rfl, B.at (i := 3) rfl, B.at (i := 4) rfl⟩, D.at (i := 0) rfl, D.at (i := 1) rfl, D.at (i := 2) rfl⟩
        go_wp2_with fail
        rw [← hW5]
        clear hW5 y0 y1 y2 y3 y4 yl
        refine (hck _ k45).mono ?_
        rintro _ w6 ⟨rfl, k6⟩
        have k56 : On W5 w6 := k6
        have q6 := hS _ (k56.drew)
        go_wp2
        refine region_fin (fun W => (W.cell? ⟨w.heap.size, 0, none⟩ = some (.string sn) ∧ W.cell? ⟨w.heap.size, 1, none⟩ = some (.slice d1 s1 e1) ∧ W.cell? ⟨w.heap.size, 2, none⟩ = some (.slice d2 s2 e2) ∧ W.cell? ⟨w.heap.size, 3, none⟩ = some (.int .i64 sk) ∧ W.cell? ⟨w.heap.size, 4, none⟩ = some (.slice d3 s3 e3)) ∧ (W.cell? ⟨w4.heap.size, 0, none⟩ = some (.slice q0 l0 r0) ∧ W.cell? ⟨w4.heap.size, 1, none⟩ = some (.slice q1 l1 r1) ∧ W.cell? ⟨w4.heap.size, 2, none⟩ = some (.slice q2 l2 r2))) 99 24 (by kernel_rfl) rfl ?_
        refine fin_take 0 (v := ?_) rfl (by kernel_rfl) (by kernel_rfl) (by kernel_rfl) (by kernel_rfl) (fun _ _ _ h => h) rfl ?_ q6 ?_
        rotate_left
        · intro W hW
          go_simp
          (try with_reducible rfl)
        simp only [Act.put, List.setIfInBounds_toArray, List.set_cons_zero, List.set_cons_succ]
        refine fin_take 1 (v := ?_) rfl (by kernel_rfl) (by kernel_rfl) (by kernel_rfl) (by kernel_rfl) (fun _ _ _ h => h) rfl ?_ q6 ?_
        rotate_left
        · intro W hW
          go_simp
          (try with_reducible rfl)
        simp only [Act.put, List.setIfInBounds_toArray, List.set_cons_zero, List.set_cons_succ]
        refine fin_take 2 (v := ?_) rfl (by kernel_rfl) (by kernel_rfl) (by kernel_rfl) (by kernel_rfl) (fun _ _ _ h => h) rfl ?_ q6 ?_
        rotate_left
        · intro W hW
          go_simp
          (try with_reducible rfl)
        simp only [Act.put, List.setIfInBounds_toArray, List.set_cons_zero, List.set_cons_succ]
        refine fin_take 3 (v := ?_) rfl (by kernel_rfl) (by kernel_rfl) (by kernel_rfl) (by kernel_rfl) (fun _ _ _ h => h) rfl ?_ q6 ?_
        rotate_left
        · intro W hW
          go_simp
          (try with_reducible rfl)
        simp only [Act.put, List.setIfInBounds_toArray, List.set_cons_zero, List.set_cons_succ]
        refine fin_takeG 4 (v := ?_) rfl (by kernel_rfl) (by kernel_rfl) (by kernel_rfl) (by kernel_rfl) (fun _ _ _ h => h) (by rfl) ?_ q6 ?_
        rotate_left
        · intro W hW
          go_simp
          (try with_reducible rfl)
        simp only [Act.put, List.setIfInBounds_toArray, List.set_cons_zero, List.set_cons_succ]
        refine fin_takeG 5 (v := ?_) rfl (by kernel_rfl) (by kernel_rfl) (by kernel_rfl) (by kernel_rfl) (fun _ _ _ h => h) (by rfl) ?_ q6 ?_
        rotate_left
        · intro W hW
          go_simp
          (try with_reducible rfl)
        simp only [Act.put, List.setIfInBounds_toArray, List.set_cons_zero, List.set_cons_succ]
        refine fin_takeG 6 (v := ?_) rfl (by kernel_rfl) (by kernel_rfl) (by kernel_rfl) (by kernel_rfl) (fun _ _ _ h => h) (by rfl) ?_ q6 ?_
        rotate_left
        · intro W hW
          go_simp
          (try with_reducible rfl)
        simp only [Act.put, List.setIfInBounds_toArray, List.set_cons_zero, List.set_cons_succ]
        refine fin_takeN 7 rfl (by kernel_rfl) (by kernel_rfl) (by kernel_rfl) (by kernel_rfl) (fun _ _ _ h => h) (by rfl) q6 ?_
        simp only [Act.put, List.setIfInBounds_toArray, List.set_cons_zero, List.set_cons_succ]
        refine fin_takeN 8 rfl (by kernel_rfl) (by kernel_rfl) (by kernel_rfl) (by kernel_rfl) (fun _ _ _ h => h) (by rfl) q6 ?_
        simp only [Act.put, List.setIfInBounds_toArray, List.set_cons_zero, List.set_cons_succ]
        refine fin_takeN 9 rfl (by kernel_rfl) (by kernel_rfl) (by kernel_rfl) (by kernel_rfl) (fun _ _ _ h => h) (by rfl) q6 ?_
        simp only [Act.put, List.setIfInBounds_toArray, List.set_cons_zero, List.set_cons_succ]
        refine fin_takeN 10 rfl (by kernel_rfl) (by kernel_rfl) (by kernel_rfl) (by kernel_rfl) (fun _ _ _ h => h) (by rfl) q6 ?_
        simp only [Act.put, List.setIfInBounds_toArray, List.set_cons_zero, List.set_cons_succ]
        refine fin_takeG 11 (v := ?_) rfl (by kernel_rfl) (by kernel_rfl) (by kernel_rfl) (by kernel_rfl) (fun _ _ _ h => h) (by rfl) ?_ q6 ?_
        rotate_left
        · intro W hW
          go_simp
          (try with_reducible rfl)
        simp only [Act.put, List.setIfInBounds_toArray, List.set_cons_zero, List.set_cons_succ]
        refine fin_take 12 (v := ?_) rfl (by kernel_rfl) (by kernel_rfl) (by kernel_rfl) (by kernel_rfl) (fun _ _ _ h => h) rfl ?_ q6 ?_
        rotate_left
        · intro W hW
          go_simp
          (try with_reducible rfl)
        simp only [Act.put, List.setIfInBounds_toArray, List.set_cons_zero, List.set_cons_succ]
        refine fin_take 13 (v := ?_) rfl (by kernel_rfl) (by kernel_rfl) (by kernel_rfl) (by kernel_rfl) (fun _ _ _ h => h) rfl ?_ q6 ?_
        rotate_left
        · intro W hW
          go_simp
          (try with_reducible rfl)
        simp only [Act.put, List.setIfInBounds_toArray, List.set_cons_zero, List.set_cons_succ]
        refine fin_takeG 14 (v := ?_) rfl (by kernel_rfl) (by kernel_rfl) (by kernel_rfl) (by kernel_rfl) (fun _ _ _ h => h) (by rfl) ?_ q6 ?_
        rotate_left
        · intro W hW
          go_simp
          (try with_reducible rfl)
        simp only [Act.put, List.setIfInBounds_toArray, List.set_cons_zero, List.set_cons_succ]
        refine fin_takeG 15 (v := ?_) rfl (by kernel_rfl) (by kernel_rfl) (by kernel_rfl) (by kernel_rfl) (fun _ _ _ h => h) (by rfl) ?_ q6 ?_
        rotate_left
        · intro W hW
          go_simp
          (try with_reducible rfl)
        simp only [Act.put, List.setIfInBounds_toArray, List.set_cons_zero, List.set_cons_succ]
        refine fin_takeG 16 (v := ?_) rfl (by kernel_rfl) (by kernel_rfl) (by kernel_rfl) (by kernel_rfl) (fun _ _ _ h => h) (by rfl) ?_ q6 ?_
        rotate_left
        · intro W hW
          go_simp
          (try with_reducible rfl)
        simp only [Act.put, List.setIfInBounds_toArray, List.set_cons_zero, List.set_cons_succ]
        refine fin_takeG 17 (v := ?_) rfl (by kernel_rfl) (by kernel_rfl) (by kernel_rfl) (by kernel_rfl) (fun _ _ _ h => h) (by rfl) ?_ q6 ?_
        rotate_left
        · intro W hW
          go_simp
          (try with_reducible rfl)
        simp only [Act.put, List.setIfInBounds_toArray, List.set_cons_zero, List.set_cons_succ]
        refine fin_takeG 18 (v := ?_) rfl (by kernel_rfl) (by kernel_rfl) (by kernel_rfl) (by kernel_rfl) (fun _ _ _ h => h) (by rfl) ?_ q6 ?_
        rotate_left
        · intro W hW
          go_simp
          (try with_reducible rfl)
        simp only [Act.put, List.setIfInBounds_toArray, List.set_cons_zero, List.set_cons_succ]
        refine fin_oneG 19 rfl (by rfl) (by kernel_rfl) (fun K hK => ?_)
        go_simp
        refine (hRC _ (k4.trans (k45.trans k56.drew))).mono ?_
        rintro _ w7 ⟨pu, rfl, hpu, k7⟩
        have k57 : On W5 w7 := k56.drew.trans k7
        have q7 := hS _ k57
        refine hK.out _ _ (fun _ => q7) ?_
        clear hK
        refine fin_oneG 20 rfl (by rfl) (by kernel_rfl) (fun K hK => ?_)
        go_simp
        refine (hSM _ _ (k45.trans k57) hpu).mono ?_
        rintro _ w8 ⟨rfl, k8⟩
        have k58 : On W5 w8 := k57.trans k8
        have q8 := hS _ k58
        refine hK.out _ _ (fun _ => q8) ?_
        clear hK
        refine fin_takeG 21 (v := ?_) rfl (by kernel_rfl) (by kernel_rfl) (by kernel_rfl) (by kernel_rfl) (fun _ _ _ h => h) (by rfl) ?_ q8 ?_
        rotate_left
        · intro W hW
          go_simp
          (try with_reducible rfl)
        simp only [Act.put, List.setIfInBounds_toArray, List.set_cons_zero, List.set_cons_succ]
        refine fin_takeG 22 (v := ?_) rfl (by kernel_rfl) (by kernel_rfl) (by kernel_rfl) (by kernel_rfl) (fun _ _ _ h => h) (by rfl) ?_ q8 ?_
        rotate_left
        · intro W hW
          go_simp
          (try with_reducible rfl)
        simp only [Act.put, List.setIfInBounds_toArray, List.set_cons_zero, List.set_cons_succ]
        refine fin_take 23 (v := ?_) rfl (by kernel_rfl) (by kernel_rfl) (by kernel_rfl) (by kernel_rfl) (fun _ _ _ h => h) rfl ?_ q8 ?_
        rotate_left
        · intro W hW
          go_simp
          (try with_reducible rfl)
        simp only [Act.put, List.setIfInBounds_toArray, List.set_cons_zero, List.set_cons_succ]
        refine fin_done (by kernel_rfl) (NoPanic.normal ?_)
        have q9 := hS _ k58.drew
        go_wp2
        refine region_fin (fun W => (W.cell? ⟨w.heap.size, 0, none⟩ = some (.string sn) ∧ W.cell? ⟨w.heap.size, 1, none⟩ = some (.slice d1 s1 e1) ∧ W.cell? ⟨w.heap.size, 2, none⟩ = some (.slice d2 s2 e2) ∧ W.cell? ⟨w.heap.size, 3, none⟩ = some (.int .i64 sk) ∧ W.cell? ⟨w.heap.size, 4, none⟩ = some (.slice d3 s3 e3)) ∧ (W.cell? ⟨w4.heap.size, 0, none⟩ = some (.slice q0 l0 r0) ∧ W.cell? ⟨w4.heap.size, 1, none⟩ = some (.slice q1 l1 r1) ∧ W.cell? ⟨w4.heap.size, 2, none⟩ = some (.slice q2 l2 r2))) 99 9 (by kernel_rfl) rfl ?_
        refine fin_take 0 (v := ?_) rfl (by kernel_rfl) (by kernel_rfl) (by kernel_rfl) (by kernel_rfl) (fun _ _ _ h => h) rfl ?_ q9 ?_
        rotate_left
        · intro W hW
          go_simp
          (try with_reducible rfl)
        simp only [Act.put, List.setIfInBounds_toArray, List.set_cons_zero, List.set_cons_succ]
        refine fin_take 1 (v := ?_) rfl (by kernel_rfl) (by kernel_rfl) (by kernel_rfl) (by kernel_rfl) (fun _ _ _ h => h) rfl ?_ q9 ?_
        rotate_left
        · intro W hW
          go_simp
          (try with_reducible rfl)
        simp only [Act.put, List.setIfInBounds_toArray, List.set_cons_zero, List.set_cons_succ]
        refine fin_take 2 (v := ?_) rfl (by kernel_rfl) (by kernel_rfl) (by kernel_rfl) (by kernel_rfl) (fun _ _ _ h => h) rfl ?_ q9 ?_
        rotate_left
        · intro W hW
          go_simp
          (try with_reducible rfl)
        simp only [Act.put, List.setIfInBounds_toArray, List.set_cons_zero, List.set_cons_succ]
        refine fin_takeG 3 (v := ?_) rfl (by kernel_rfl) (by kernel_rfl) (by kernel_rfl) (by kernel_rfl) (fun _ _ _ h => h) (by rfl) ?_ q9 ?_
        rotate_left
        · intro W hW
          go_simp
          (try with_reducible rfl)
        simp only [Act.put, List.setIfInBounds_toArray, List.set_cons_zero, List.set_cons_succ]
        refine fin_takeG 5 (v := ?_) rfl (by kernel_rfl) (by kernel_rfl) (by kernel_rfl) (by kernel_rfl) (fun _ _ _ h => h) (by rfl) ?_ q9 ?_
        rotate_left
        · intro W hW
          go_simp
          (try with_reducible rfl)
        simp only [Act.put, List.setIfInBounds_toArray, List.set_cons_zero, List.set_cons_succ]
        refine fin_oneG 4 rfl (by rfl) (by kernel_rfl) (fun K hK => ?_)
        go_simp
        refine (hZ1 _ (k45.trans k58.drew)).mono ?_
        rintro _ w10 ⟨rfl, k10⟩
        have k510 : On W5 w10 := k58.drew.trans k10
        have q10 := hS _ k510
        refine hK.out _ _ (fun _ => q10) ?_
        clear hK
        refine fin_oneG 6 rfl (by rfl) (by kernel_rfl) (fun K hK => ?_)
        go_simp
        refine (hZ2 _ (k45.trans k510)).mono ?_
        rintro _ w11 ⟨rfl, k11⟩
        have k511 : On W5 w11 := k510.trans k11
        have q11 := hS _ k511
        refine hK.out _ _ (fun _ => q11) ?_
        clear hK
        refine fin_takeG 7 (v := ?_) rfl (by kernel_rfl) (by kernel_rfl) (by kernel_rfl) (by kernel_rfl) (fun _ _ _ h => h) (by rfl) ?_ q11 ?_
        rotate_left
        · intro W hW
          go_simp
          (try with_reducible rfl)
        simp only [Act.put, List.setIfInBounds_toArray, List.set_cons_zero, List.set_cons_succ]
        refine fin_take 8 (v := ?_) rfl (by kernel_rfl) (by kernel_rfl) (by kernel_rfl) (by kernel_rfl) (fun _ _ _ h => h) rfl ?_ q11 ?_
        rotate_left
        · intro W hW
          go_simp
          (try with_reducible rfl)
        simp only [Act.put, List.setIfInBounds_toArray, List.set_cons_zero, List.set_cons_succ]
        refine fin_done (by kernel_rfl) (NoPanic.normal ?_)
        go_wp2
        have KE := K4.trans (k45.trans k511)
        go_roundg (2 - (1 + 1))
        case measure => omega
        case rel => exact ⟨1 + 1, by omega, rfl, rfl, KE, fun h => absurd h (by omega)⟩
      · go_wp2_with fail
        refine (hA _ HO.out).mono ?_
        rintro _ w9 ⟨rfl, k9⟩
        go_wp2
        go_ret
        exact ⟨rfl, HO.out.trans k9⟩
end Go.Proofs.YtengdlchglkkjaaDoor

namespace Go.Proofs.YtengdlchglkkjaaDoor
open Go.RowKit

theorem skip_at : ∀ (L : List InsT) (i : Nat) (x : InsT), skipBad L = false → L[i]? = some x → x.k = 6 → x.n ≤ (L.length : Int) - i - 1
  | [], _, _, _, h, _ => by simp at h
  | y :: L, 0, x, hs, h, hk => by
    simp only [List.getElem?_cons_zero, Option.some.injEq] at h
    subst h
    unfold skipBad at hs
    simp only [Bool.or_eq_false_iff, Bool.and_eq_false_iff] at hs
    rcases hs.1 with h1 | h1
    · rw [hk] at h1; simp at h1
    · have := h1.2
      simp only [decide_eq_false_iff_not] at this
      simp only [List.length_cons]
      omega
  | y :: L, i + 1, x, hs, h, hk => by
    simp only [List.getElem?_cons_succ] at h
    unfold skipBad at hs
    simp only [Bool.or_eq_false_iff] at hs
    have := skip_at L i x hs.2 h hk
    simp only [List.length_cons]
    omega
theorem ins_fine (x : InsT) (h : insOk x = true) : (x.k = 5 → regOk x.r = true) ∧ (x.k = 6 → 0 ≤ x.n) ∧ ((x.k == 5 || x.k == 6) = !seenB x.k) ∧ ((x.k = 2 ∨ x.k = 4) → regOk x.r = true) := by
  unfold insOk at h
  split at h
  · rename_i hk
    have hk : x.k = 1 := by simpa using hk
    refine ⟨by omega, by omega, by rw [hk]; rfl, by omega⟩
  · split at h
    · rename_i hk
      have hk : x.k = 2 := by simpa using hk
      simp only [Bool.and_eq_true] at h
      exact ⟨by omega, by omega, by rw [hk]; rfl, fun _ => h.1.2⟩
    · split at h
      · rename_i hk
        have hk : x.k = 3 := by simpa using hk
        refine ⟨by omega, by omega, by rw [hk]; rfl, by omega⟩
      · split at h
        · rename_i hk
          have hk : x.k = 4 := by simpa using hk
          simp only [Bool.and_eq_true] at h
          exact ⟨by omega, by omega, by rw [hk]; rfl, fun _ => h.1.1.1.2⟩
        · split at h
          · rename_i hk
            have hk : x.k = 5 := by simpa using hk
            simp only [Bool.and_eq_true] at h
            exact ⟨fun _ => h.1.1.2, by omega, by rw [hk]; rfl, by omega⟩
          · split at h
            · rename_i hk
              have hk : x.k = 6 := by simpa using hk
              simp only [Bool.and_eq_true, decide_eq_true_eq] at h
              exact ⟨by omega, fun _ => h.1.1.2, by rw [hk]; rfl, by omega⟩
            · cases h
theorem place_keeps (LT : List UInt8) (x : InsT) : (placeIns LT x).k = x.k ∧ (placeIns LT x).r = x.r ∧ (placeIns LT x).n = x.n := by
  unfold placeIns
  split <;> exact ⟨rfl, rfl, rfl⟩
theorem fine_of (u : TestT) (hc : checkT u = 0) : ∀ L ∈ llOf u, fineL L := by
  obtain ⟨h1, _, _, _⟩ := ok_small u hc
  have hno : u.thr.any skipBad = false := by
    unfold checkT nowhere at hc
    rw [h1] at hc
    cases hs : u.thr.any skipBad with
    | false => rfl
    | true =>
      rw [hs] at hc
      simp only [Bool.true_or, if_true] at hc
      split at hc
      · omega
      · split at hc <;> omega
  intro L hL i x hx
  unfold llOf at hL
  obtain ⟨L0, hL0, rfl⟩ := List.mem_map.1 hL
  unfold placedP at hx ⊢
  rw [List.getElem?_map, Option.map_eq_some_iff] at hx
  obtain ⟨y, hy, rfl⟩ := hx
  obtain ⟨e1, e2, e3⟩ := place_keeps (ltOf u) y
  obtain ⟨f1, f2, f3, f4⟩ := ins_fine y (List.all_eq_true.1 (thr_ok u h1 L0 hL0) y (List.mem_of_getElem? hy))
  have hsk := List.any_eq_false.1 hno L0 hL0
  have hsk' : skipBad L0 = false := by simpa using hsk
  rw [e1, e2, e3]
  refine ⟨⟨f1, fun h6 => ⟨f2 h6, ?_⟩⟩, f3, f4⟩
  rw [List.length_map]
  exact skip_at L0 i y hsk' hy h6
end Go.Proofs.YtengdlchglkkjaaDoor

namespace Go.Proofs.YtengdlchglkkjaaDoor
open Go.RowKit

theorem eq4_is (w : World) (x0 x1 x2 x3 y0 y1 y2 y3 : Int) :
    (Op.equalIn 10000 46 (.agg #[.int .i64 x0, .int .i64 x1, .int .i64 x2, .int .i64 x3]) (.agg #[.int .i64 y0, .int .i64 y1, .int .i64 y2, .int .i64 y3])).run Tryd.prog w = .ok (x0 == y0 && (x1 == y1 && (x2 == y2 && x3 == y3))) w := by
  have hc : Tryd.prog.cellsOf 2 = 1 := by kernel_rfl
  have hint := fun (d : Nat) (a b : Int) => run_equalIn_int (P := Tryd.prog) w d 2 .i64 .i64 a b Tryd.underlying2
  obtain ⟨i, hi⟩ : ∃ i, Tryd.prog.info? 2 = some i := info_of_underlying Tryd.underlying2
  rw [show (10000 : Nat) = 9999 + 1 from rfl, run_equalIn_array w 9999 _ _ Tryd.underlying46 hi, hc]
  have ez := Tryd.sizeOf2
  have ea := Tryd.isAgg2
  simp only [show List.range 4 = [0, 1, 2, 3] from rfl, Op.eqItems]
  go_simp
  by_cases h0 : x0 = y0
  · by_cases h1 : x1 = y1
    · by_cases h2 : x2 = y2
      · by_cases h3 : x3 = y3
        · simp [h0, h1, h2, h3]
        · simp [h0, h1, h2, h3]
      · simp [h0, h1, h2]
    · simp [h0, h1]
  · simp [h0]
end Go.Proofs.YtengdlchglkkjaaDoor

namespace Go.Proofs.YtengdlchglkkjaaDoor
open Go.RowKit

theorem eq4b_is (w : World) (x0 x1 x2 x3 y0 y1 y2 y3 : Int) :
    (Op.equalIn 9999 46 (.agg #[.int .i64 x0, .int .i64 x1, .int .i64 x2, .int .i64 x3]) (.agg #[.int .i64 y0, .int .i64 y1, .int .i64 y2, .int .i64 y3])).run Tryd.prog w = .ok (x0 == y0 && (x1 == y1 && (x2 == y2 && x3 == y3))) w := by
  have hc : Tryd.prog.cellsOf 2 = 1 := by kernel_rfl
  obtain ⟨i, hi⟩ : ∃ i, Tryd.prog.info? 2 = some i := info_of_underlying Tryd.underlying2
  rw [show (9999 : Nat) = 9998 + 1 from rfl, run_equalIn_array w 9998 _ _ Tryd.underlying46 hi, hc]
  simp only [show List.range 4 = [0, 1, 2, 3] from rfl, Op.eqItems]
  go_simp
  by_cases h0 : x0 = y0
  · by_cases h1 : x1 = y1
    · by_cases h2 : x2 = y2
      · by_cases h3 : x3 = y3
        · simp [h0, h1, h2, h3]
        · simp [h0, h1, h2, h3]
      · simp [h0, h1, h2]
    · simp [h0, h1]
  · simp [h0]
theorem eqLoc_same (w : World) (x0 x1 x2 x3 x4 : Int) :
    (Op.equalIn 10000 48 (.agg #[.int .i64 x0, .int .i64 x1, .int .i64 x2, .int .i64 x3, .int .i64 x4]) (.agg #[.int .i64 x0, .int .i64 x1, .int .i64 x2, .int .i64 x3, .int .i64 x4])).run Tryd.prog w = .ok true w := by
  have hq := fun W => eq4b_is W x1 x2 x3 x4 x1 x2 x3 x4
  have ea := Tryd.isAgg46
  have ez := Tryd.sizeOf46
  go_simp
end Go.Proofs.YtengdlchglkkjaaDoor

namespace Go.Proofs.YtengdlchglkkjaaDoor
open Go.RowKit

section
variable {P : Program} {ops : Array Oper} {Q : Exit → Act → World → Prop} {md : Region.Mode} {S : World → Prop} {Z : List Nat}

/-- Whatever order is picked from here on, and S holds behind every operation but those of Z. -/
def wpFz (P : Program) (md : Region.Mode) (ops : Array Oper) (Q : Exit → Act → World → Prop) (S : World → Prop) (Z : List Nat) : Nat → Array Bool → Act → World → Prop
  | 0, listed, a, w => Region.ready md ops listed = [] ∧ Q .normal a w
  | n + 1, listed, a, w =>
    (Region.ready md ops listed = [] → Q .normal a w) ∧
    ∀ i ∈ Region.ready md ops listed, wpOp P ops Q i (fun a' w' => (i ∉ Z → S w') ∧ wpFz P md ops Q S Z n (listed.setIfInBounds i true) a' w') a w
theorem any_of_fz : ∀ (n : Nat) (listed : Array Bool) (a : Act) (w : World), wpFz P md ops Q S Z n listed a w → wpAny P md ops Q n listed a w
  | 0, _, _, _, h => h
  | n + 1, _, _, _, h => ⟨h.1, fun i hi => wpOp_mono (fun a' w' h' => any_of_fz n _ a' w' h'.2) (h.2 i hi)⟩
/-- Number z comes behind number i: it waits for it, or for one that waits for it and has not been. -/
def lateB (md : Region.Mode) (ops : Array Oper) (listed : Array Bool) (i z : Nat) : Bool :=
  waitsB md ops z i || (List.range ops.size).any fun m => waitsB md ops m i && (waitsB md ops z m && (listed.getD m true == false))
theorem late_no {listed : Array Bool} {i z : Nat} (h : lateB md ops listed i z = true) (hi : i ∈ Region.ready md ops listed) : z ∉ Region.ready md ops listed := by
  intro hz
  obtain ⟨_, oz, hoz, hall⟩ := mem_ready.1 hz
  unfold lateB at h
  simp only [Bool.or_eq_true, List.any_eq_true, List.mem_range, Bool.and_eq_true, beq_iff_eq] at h
  rcases h with h | ⟨m, hm, _, h2, h3⟩
  · obtain ⟨e, he, hb, heq⟩ := waits_spec h hoz
    exact ready_apart hi hz hoz he hb heq
  · obtain ⟨e, he, hb, heq⟩ := waits_spec h2 hoz
    have h1 : listed.getD m false = true := heq ▸ hall e he hb
    unfold Array.getD at h3 h1
    split at h3
    · rename_i hlt
      rw [dif_pos hlt] at h1
      exact absurd (h3.symm.trans h1) (by decide)
    · cases h3
theorem late_set {listed : Array Bool} {i j z : Nat} (h : lateB md ops listed i z = true) (hi : i ∈ Region.ready md ops listed) (hj : j ∈ Region.ready md ops listed) : lateB md ops (listed.setIfInBounds j true) i z = true := by
  unfold lateB at h ⊢
  simp only [Bool.or_eq_true, List.any_eq_true, List.mem_range, Bool.and_eq_true, beq_iff_eq] at h ⊢
  rcases h with h | ⟨m, hm, h1, h2, h3⟩
  · exact Or.inl h
  · refine Or.inr ⟨m, hm, h1, h2, ?_⟩
    have hne : j ≠ m := by
      rintro rfl
      obtain ⟨_, oj, hoj, _⟩ := mem_ready.1 hj
      obtain ⟨e, he, hb, heq⟩ := waits_spec h1 hoj
      exact ready_apart hi hj hoj he hb heq
    exact (getD_set_ne true hne).trans h3
theorem fz_first {i : Nat} {oi : Oper} {v : Value} (hi : ops[i]? = some oi) (hsel : ∀ (j : Nat) (o : Oper) cs b, ops[j]? = some o → o.op ≠ .select cs b)
    (hQ : ∀ c a w, Q (.panic c) (a.put oi.dst v) w → Q (.panic c) a w) :
    ∀ (n : Nat) (listed : Array Bool) (a : Act) (w : World), (∀ z ∈ Z, lateB md ops listed i z = true) → Free md ops i oi listed → i ∈ Region.ready md ops listed → YieldsIf P ops S oi v a → S w →
      wpFz P md ops Q S Z n (listed.setIfInBounds i true) (a.put oi.dst v) w → wpFz P md ops Q S Z (n + 1) listed a w
  | n, listed, a, w, hz, hF, hr, hy, hS, H => by
    refine ⟨fun h => absurd (h ▸ hr) (by simp), fun j hj => ?_⟩
    rcases Decidable.em (j = i) with rfl | hji
    · exact hy.wpOp hi hS ⟨fun _ => hS, H⟩
    obtain ⟨hun, oj, hoj, _⟩ := mem_ready.1 hj
    have hno : ∀ e ∈ oj.after, Region.binds md e = true → e.on ≠ i := fun e he hb => ready_apart hr hj hoj he hb
    have hjz : j ∉ Z := fun hm => late_no (hz j hm) hr hj
    match n, H with
    | 0, H => exact absurd (H.1 ▸ ready_mono hj hji) (by simp)
    | n + 1, H =>
      refine wpOp_mono (fun a' w' k => ⟨k.2.1, ?_⟩) (wpOp_putIf hoj (hF j oj hoj hji hun hno) (fun cs b => hsel i oi cs b hi) (fun cs b => hsel j oj cs b hoj) hQ hy (H.2 j (ready_mono hj hji)))
      exact fz_first hi hsel hQ n _ a' w' (fun z hm => late_set (hz z hm) hr hj) (hF.set hun) (ready_mono hr (Ne.symm hji)) k.1 (k.2.1 hjz) (Array.setIfInBounds_comm true true hji ▸ k.2.2)
theorem at_of_drop {l rest : List Oper} {i : Nat} {oi : Oper} (hi : l.drop i = oi :: rest) : l.toArray[i]? = some oi := by
  rw [List.getElem?_toArray]
  have := congrArg (·[0]?) hi
  simpa using this
theorem fz_take {l rest : List Oper} (i : Nat) {oi : Oper} {v : Value} {n : Nat} {listed : Array Bool} {a : Act} {w : World} (hi : l.drop i = oi :: rest)
    (hs : Region.noSelect l.toArray = true) (hf : Region.free md l.toArray listed i = true) (hr : (Region.ready md l.toArray listed).contains i = true) (hz : (Z.all fun z => lateB md l.toArray listed i z) = true)
    (hQ : ∀ c a w, Q (.panic c) (a.put oi.dst v) w → Q (.panic c) a w) (hg : oi.guard = none) (hy : ∀ w, S w → (execOp a.eval oi).run P w = .ok (.value v) w) (hS : S w)
    (h : wpFz P md l.toArray Q S Z n (listed.setIfInBounds i true) (a.put oi.dst v) w) : wpFz P md l.toArray Q S Z (n + 1) listed a w := by
  have hi' := at_of_drop hi
  exact fz_first hi' (Region.noSelect_spec hs) hQ n listed a w (fun z hm => List.all_eq_true.1 hz z hm) (Region.free_spec hi' hf) (by simpa using hr) (Or.inl ⟨by simp [Region.wanted, hg], hy⟩) hS h
theorem fz_one {l rest : List Oper} (i : Nat) {o : Oper} {n : Nat} {listed : Array Bool} {a : Act} {w : World} (hi : l.drop i = o :: rest) (hg : o.guard = none) (hr : Region.ready md l.toArray listed = [i])
    (h : ∀ K : Act → World → Prop, Hid (∀ a' w', (i ∉ Z → S w') → wpFz P md l.toArray Q S Z n (listed.setIfInBounds i true) a' w' → K a' w') → o.wp P a w K Q) : wpFz P md l.toArray Q S Z (n + 1) listed a w := by
  have hi' := at_of_drop hi
  refine ⟨fun h0 => (by rw [hr] at h0; cases h0), fun j hj => ?_⟩
  rw [hr] at hj
  obtain rfl : j = i := by simpa using hj
  unfold wpOp
  simp only [hi']
  rw [if_pos (by simp [Region.wanted, hg])]
  exact Or.inl (h _ (fun a' w' h1 h2 => ⟨h1, h2⟩))
theorem fz_two {l r1 r2 : List Oper} (i j : Nat) {oi oj : Oper} {n : Nat} {listed : Array Bool} {a : Act} {w : World} (hi : l.drop i = oi :: r1) (hj : l.drop j = oj :: r2) (hgi : oi.guard = none) (hgj : oj.guard = none) (hr : Region.ready md l.toArray listed = [i, j])
    (h1 : ∀ K : Act → World → Prop, Hid (∀ a' w', (i ∉ Z → S w') → wpFz P md l.toArray Q S Z n (listed.setIfInBounds i true) a' w' → K a' w') → oi.wp P a w K Q)
    (h2 : ∀ K : Act → World → Prop, Hid (∀ a' w', (j ∉ Z → S w') → wpFz P md l.toArray Q S Z n (listed.setIfInBounds j true) a' w' → K a' w') → oj.wp P a w K Q) : wpFz P md l.toArray Q S Z (n + 1) listed a w := by
  have hi' := at_of_drop hi
  have hj' := at_of_drop hj
  refine ⟨fun h0 => (by rw [hr] at h0; cases h0), fun q hq => ?_⟩
  rw [hr] at hq
  simp only [List.mem_cons, List.not_mem_nil, or_false] at hq
  rcases hq with rfl | rfl
  · unfold wpOp
    simp only [hi']
    rw [if_pos (by simp [Region.wanted, hgi])]
    exact Or.inl (h1 _ (fun a' w' x y => ⟨x, y⟩))
  · unfold wpOp
    simp only [hj']
    rw [if_pos (by simp [Region.wanted, hgj])]
    exact Or.inl (h2 _ (fun a' w' x y => ⟨x, y⟩))
theorem fz_three {l r1 r2 r3 : List Oper} (i j k : Nat) {oi oj ok : Oper} {n : Nat} {listed : Array Bool} {a : Act} {w : World} (hi : l.drop i = oi :: r1) (hj : l.drop j = oj :: r2) (hk : l.drop k = ok :: r3) (hgi : oi.guard = none) (hgj : oj.guard = none) (hgk : ok.guard = none) (hr : Region.ready md l.toArray listed = [i, j, k])
    (h1 : ∀ K : Act → World → Prop, Hid (∀ a' w', (i ∉ Z → S w') → wpFz P md l.toArray Q S Z n (listed.setIfInBounds i true) a' w' → K a' w') → oi.wp P a w K Q)
    (h2 : ∀ K : Act → World → Prop, Hid (∀ a' w', (j ∉ Z → S w') → wpFz P md l.toArray Q S Z n (listed.setIfInBounds j true) a' w' → K a' w') → oj.wp P a w K Q)
    (h3 : ∀ K : Act → World → Prop, Hid (∀ a' w', (k ∉ Z → S w') → wpFz P md l.toArray Q S Z n (listed.setIfInBounds k true) a' w' → K a' w') → ok.wp P a w K Q) : wpFz P md l.toArray Q S Z (n + 1) listed a w := by
  have hi' := at_of_drop hi
  have hj' := at_of_drop hj
  have hk' := at_of_drop hk
  refine ⟨fun h0 => (by rw [hr] at h0; cases h0), fun q hq => ?_⟩
  rw [hr] at hq
  simp only [List.mem_cons, List.not_mem_nil, or_false] at hq
  rcases hq with rfl | rfl | rfl
  · unfold wpOp
    simp only [hi']
    rw [if_pos (by simp [Region.wanted, hgi])]
    exact Or.inl (h1 _ (fun a' w' x y => ⟨x, y⟩))
  · unfold wpOp
    simp only [hj']
    rw [if_pos (by simp [Region.wanted, hgj])]
    exact Or.inl (h2 _ (fun a' w' x y => ⟨x, y⟩))
  · unfold wpOp
    simp only [hk']
    rw [if_pos (by simp [Region.wanted, hgk])]
    exact Or.inl (h3 _ (fun a' w' x y => ⟨x, y⟩))
theorem fz_done {n : Nat} {listed : Array Bool} {a : Act} {w : World} (hr : Region.ready md ops listed = []) (h : Q .normal a w) : wpFz P md ops Q S Z n listed a w := by
  cases n with
  | zero => exact ⟨hr, h⟩
  | succ n => exact ⟨fun _ => h, by rw [hr]; simp⟩
theorem region_fz (S : World → Prop) (Z : List Nat) (k : Nat) {l : List Oper} {id : Nat} {a : Act} {w : World} (hm : P.follows .mixedOrders = true) (hk : l.length = k)
    (h : wpFz P .any l.toArray (NoPanic Q) S Z k (Array.replicate k false) a w.drew) : (Code.region id l.toArray true).wp P Q a w := by
  subst hk
  exact wp_region_noPanic (wp_region_any hm (any_of_fz _ _ _ _ h))
end
end Go.Proofs.YtengdlchglkkjaaDoor
