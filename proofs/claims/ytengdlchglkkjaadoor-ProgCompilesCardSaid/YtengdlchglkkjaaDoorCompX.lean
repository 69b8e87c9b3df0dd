/- What locations begin with. -/
import Derived.Test.YtengdlchglkkjaaDoorStepH
import Derived.Test.YtengdlchglkkjaaDoorRegFin2
import Derived.Test.YtengdlchglkkjaaDoorRComp
import Derived.Test.YtengdlchglkkjaaDoorRChkP
import Derived.Test.YtengdlchglkkjaaDoorWellChecks
namespace Go.Proofs.YtengdlchglkkjaaDoor
open Go.RowKit

def i64V (v : Int) : Value := .int .i64 v
def begP (LT : List UInt8) (L : List InitT) : List Int := L.foldl (fun N x => N.set (plc LT x.l).toNat x.v) (List.replicate LT.length 0)
def begTo (LT : List UInt8) (L : List InitT) (N : List Int) : List Int := L.foldl (fun N x => N.set (plc LT x.l).toNat x.v) N
theorem made_i64 (n : Nat) : (madeCells (Value.int .i64 0).cells (n * 1)).toList = (List.replicate n (0 : Int)).map i64V := by
  apply List.ext_getElem?
  intro j
  rw [Nat.mul_one, List.map_replicate, List.getElem?_replicate]
  by_cases hj : j < n
  · rw [if_pos hj]
    simp [madeCells, Value.cells, hj, i64V, Nat.mod_one]
  · rw [if_neg hj]
    simp [madeCells, Value.cells, hj]
theorem row_put1 {w : World} {base c g k n : Nat} {e : TypeId} {L : List Int} (hn : L.length = n) (h : w.ownsRow base e 1 (.slice (some ⟨g, 0, none⟩) n c) n (L.map i64V)) (hk : k < n) (x : Int) :
    (w.setCell ⟨g, k, none⟩ (.int .i64 x)).ownsRow base e 1 (.slice (some ⟨g, 0, none⟩) n c) n ((L.set k x).map i64V) := by
  subst hn
  rcases h.2 with ⟨_, h0⟩ | ⟨g', cap, cur, hv, hb, hh, hc, hm, hs, ht⟩
  · omega
  · simp only [Value.slice.injEq, Option.some.injEq, Addr.mk.injEq] at hv
    obtain ⟨⟨rfl, _, _⟩, _, rfl⟩ := hv
    have hl : (L.map i64V).length = L.length * 1 := h.1
    have e1 : cur.toList = L.map i64V ++ cur.toList.drop (L.length * 1) := by rw [← ht, List.take_append_drop]
    have hh' : w.heap[g]? = some (.cells cur.toList.toArray e (0, 0)) := by simpa using hh
    have hp := heap_put hh' k (.int .i64 x)
    rw [e1, List.set_append_left _ _ (by rw [hl]; omega)] at hp
    have hset : (L.map i64V).set k (.int .i64 x) = (L.set k x).map i64V := by rw [List.map_set]; rfl
    rw [hset] at hp
    have hl2 : ((L.set k x).map i64V).length = L.length * 1 := by simp
    refine ⟨hl2, Or.inr ⟨g, c, _, rfl, hb, hp, hc, hm, ?_, ?_⟩⟩
    · have hz : cur.toList.length = c * 1 := by simpa using hs
      rw [e1, List.length_append, hl] at hz
      simp only [List.size_toArray, List.length_append, hl2]
      exact hz
    · simp only []
      rw [List.take_left' hl2]
set_option maxHeartbeats 4000000 in
set_option maxRecDepth 8000 in
theorem begs_is (LT : List UInt8) (L : List InitT) (al a : Option Addr) (cl c : Nat) (w : World) (hl : Rd byteC 1 w (.slice al LT.length cl) LT) (h : Rd iniC 2 w (.slice a L.length c) L) (h26 : LT.length ≤ 26)
    (hpl : ∀ x ∈ L, ∃ k : Nat, k < LT.length ∧ plc LT x.l = (k : Int)) :
    Calls Tryd.prog 38 #[.slice a L.length c, .slice al LT.length cl] w fun e w' => ∃ a2 c2, e = .returned (.slice a2 LT.length c2) ∧ w'.ownsRow w.heap.size 2 1 (.slice a2 LT.length c2) LT.length ((begP LT L).map i64V) ∧ On w w' := by
  obtain ⟨i0, hi, hz0, hz1, hz2⟩ := info_parts infoI64
  obtain ⟨w2, hmk, hown, hgr⟩ := run_make_full (P := Tryd.prog) w w.heap.size 38 2 i0 (.int .i64 0) 1 Tryd.underlying38 hi hz0 hz1 .i64 .i64 LT.length (by rw [hz2]; omega) (by unfold maxLen; omega) (Nat.le_refl _)
  rw [made_i64] at hown
  have K2 : Hid (On w w2) := (On.refl w).grownNone hgr
  have HR : Hid (Rd iniC 2 w (.slice a L.length c) L) := h
  have HL : Hid (Rd byteC 1 w (.slice al LT.length cl) LT) := hl
  have HP : Hid (∀ x ∈ L, ∃ k : Nat, k < LT.length ∧ plc LT x.l = (k : Int)) := hpl
  have HW : Hid (w2.ownsRow w.heap.size 2 1 (.slice (some ⟨w.heap.size, 0, none⟩) LT.length LT.length) LT.length ((List.replicate LT.length (0 : Int)).map i64V)) := hown
  have hsz2 : w.heap.size < w2.heap.size := own_lt hown
  obtain ⟨B, hB⟩ : ∃ B, B = begP LT L := ⟨_, rfl⟩
  rw [← hB]
  have HB : Hid (B = begTo LT (L.drop 0) (List.replicate LT.length 0)) := hB
  obtain ⟨_, _, _, _, hmL⟩ := h.slice
  clear hown hgr h hl hpl hB
  go_enter Tryd.func38, Tryd.ntmps38
  go_wp2
  clear hmk
  go_loopg [13] L.length (fun gg s13 wq => ∃ (n : Nat) (N : List Int), n ≤ L.length ∧ gg = L.length - n ∧ s13 = .int .i64 n ∧ N.length = LT.length ∧ w.heap.size < wq.heap.size ∧ Hid (On w wq) ∧ Hid (wq.ownsRow w.heap.size 2 1 (.slice (some ⟨w.heap.size, 0, none⟩) LT.length LT.length) LT.length (N.map i64V)) ∧ Hid (B = begTo LT (L.drop n) N))
  case atStart => exact ⟨0, _, Nat.zero_le _, rfl, rfl, by simp, hsz2, K2, HW, HB⟩
  case round =>
    clear HW K2 hsz2 HB
    obtain ⟨n, N, hn, hk, rfl, hNl, hsz, HO, HW, HB⟩ := hrel
    rcases Nat.lt_or_ge n L.length with hlt | hge
    · obtain ⟨x, hx⟩ : ∃ x, L[n]? = some x := ⟨_, List.getElem?_eq_getElem hlt⟩
      obtain ⟨g, off, rfl, hg, hcell⟩ := (HR.out.on HO.out).at hx
      have q0 : wr.cell? ⟨g, off + n * 2, none⟩ = _ := hcell 0 _ rfl
      have q1 : wr.cell? ⟨g, off + n * 2 + 1, none⟩ = _ := hcell 1 _ rfl
      obtain ⟨k, hkl, hke⟩ := HP.out x (List.mem_of_getElem? hx)
      have hP := fun W (k : On w W) => place_is LT x.l al cl W (HL.out.on k) (by omega)
      rw [hke] at hP
      have HB2 : Hid (B = begTo LT (L.drop (n + 1)) (N.set k x.v)) := by
        show B = _
        rw [HB.out, List.drop_eq_getElem_cons hlt, begTo, List.foldl_cons]
        have : L[n] = x := (List.getElem?_eq_some_iff.1 hx).2
        rw [this, hke]
        rfl
      clear hcell hx HB hke
      obtain ⟨W1, hW1⟩ : ∃ W1, W1 = wr.alloc (.cells #[.int .i64 x.l, .int .i64 x.v] 62) := ⟨_, rfl⟩
      have IB : Bk W1 wr.heap.size #[.int .i64 x.l, .int .i64 x.v] := by rw [hW1]; exact Bk.new wr _ _
      have kW : On wr W1 := by rw [hW1]; exact (On.refl wr).alloc _
      have OW := own_on HW.out kW
      have zc : W1.drew.cell? ⟨w.heap.size, k, none⟩ = some (.int .i64 (N.getD k 0)) := by
        show W1.cell? _ = _
        rw [OW.cellAt _ (by omega), List.getElem?_map, List.getElem?_eq_getElem (by omega), List.getD_eq_getElem?_getD, List.getElem?_eq_getElem (by omega)]
        rfl
      have zf : W1.drew.frozen? ⟨w.heap.size, k, none⟩ = false := OW.frozenAt k
      have hszW : w.heap.size < W1.drew.heap.size := by have := kW.size; show w.heap.size < W1.heap.size; omega
      have qS : W1.drew.cell? ⟨wr.heap.size, 0, none⟩ = some (.int .i64 x.l) ∧ W1.drew.cell? ⟨wr.heap.size, 1, none⟩ = some (.int .i64 x.v) := ⟨IB.at (i := 0) rfl, IB.at (i := 1) rfl⟩
      go_wp2
      rw [← hW1]
      clear hW1
      refine region_fin (fun W => W.cell? ⟨wr.heap.size, 0, none⟩ = some (.int .i64 x.l) ∧ W.cell? ⟨wr.heap.size, 1, none⟩ = some (.int .i64 x.v)) 8 9 (by kernel_rfl) rfl ?_
      refine fin_take 0 (v := ?_) rfl (by kernel_rfl) (by kernel_rfl) (by kernel_rfl) (by kernel_rfl) (fun _ _ _ h => h) rfl ?_ qS ?_
      rotate_left
      · intro W hW
        go_simp
        (try with_reducible rfl)
      simp only [Act.put, List.setIfInBounds_toArray, List.set_cons_zero, List.set_cons_succ]
      refine fin_take 1 (v := ?_) rfl (by kernel_rfl) (by kernel_rfl) (by kernel_rfl) (by kernel_rfl) (fun _ _ _ h => h) rfl ?_ qS ?_
      rotate_left
      · intro W hW
        go_simp
        (try with_reducible rfl)
      simp only [Act.put, List.setIfInBounds_toArray, List.set_cons_zero, List.set_cons_succ]
      refine fin_take 2 (v := ?_) rfl (by kernel_rfl) (by kernel_rfl) (by kernel_rfl) (by kernel_rfl) (fun _ _ _ h => h) rfl ?_ qS ?_
      rotate_left
      · intro W hW
        go_simp
        (try with_reducible rfl)
      simp only [Act.put, List.setIfInBounds_toArray, List.set_cons_zero, List.set_cons_succ]
      refine fin_take 3 (v := ?_) rfl (by kernel_rfl) (by kernel_rfl) (by kernel_rfl) (by kernel_rfl) (fun _ _ _ h => h) rfl ?_ qS ?_
      rotate_left
      · intro W hW
        go_simp
        (try with_reducible rfl)
      simp only [Act.put, List.setIfInBounds_toArray, List.set_cons_zero, List.set_cons_succ]
      refine fin_take 5 (v := ?_) rfl (by kernel_rfl) (by kernel_rfl) (by kernel_rfl) (by kernel_rfl) (fun _ _ _ h => h) rfl ?_ qS ?_
      rotate_left
      · intro W hW
        go_simp
        (try with_reducible rfl)
      simp only [Act.put, List.setIfInBounds_toArray, List.set_cons_zero, List.set_cons_succ]
      refine fin_take 6 (v := ?_) rfl (by kernel_rfl) (by kernel_rfl) (by kernel_rfl) (by kernel_rfl) (fun _ _ _ h => h) rfl ?_ qS ?_
      rotate_left
      · intro W hW
        go_simp
        (try with_reducible rfl)
      simp only [Act.put, List.setIfInBounds_toArray, List.set_cons_zero, List.set_cons_succ]
      refine fin_one 4 rfl rfl (by kernel_rfl) (fun K hK => ?_)
      go_simp
      refine (hP _ (HO.out.trans kW.drew)).mono ?_
      rintro _ w5 ⟨rfl, hw5⟩
      subst w5
      refine hK.out _ _ (fun _ => qS) ?_
      clear hK
      refine fin_take 7 (v := ?_) rfl (by kernel_rfl) (by kernel_rfl) (by kernel_rfl) (by kernel_rfl) (fun _ _ _ h => h) rfl ?_ qS ?_
      rotate_left
      · intro W hW
        go_simp
        (try with_reducible rfl)
      simp only [Act.put, List.setIfInBounds_toArray, List.set_cons_zero, List.set_cons_succ]
      refine fin_one 8 rfl rfl (by kernel_rfl) (fun K hK => ?_)
      go_simp
      refine hK.out _ _ (fun h => absurd rfl h) ?_
      refine fin_done (by kernel_rfl) (NoPanic.normal ?_)
      go_wp2
      have hput := own_on (row_put1 hNl OW hkl x.v) (On.refl _).drew
      go_roundg (L.length - (n + 1))
      case measure => omega
      case rel => exact ⟨n + 1, N.set k x.v, by omega, rfl, by go_num, by rw [List.length_set]; exact hNl, by show w.heap.size < (W1.setCell ⟨w.heap.size, k, none⟩ (.int .i64 x.v)).heap.size; rw [size_set]; exact hszW, ((HO.out.trans kW).setNew (Nat.le_refl _) _).drew, hput, HB2⟩
    · obtain rfl : n = L.length := by omega
      obtain rfl : B = N := by rw [HB.out, List.drop_length]; rfl
      clear HB
      go_wp2
      go_ret
      exact ⟨_, _, rfl, HW.out, HO.out⟩
end Go.Proofs.YtengdlchglkkjaaDoor

namespace Go.Proofs.YtengdlchglkkjaaDoor
open Go.RowKit

theorem begTo_len (LT : List UInt8) : ∀ (L : List InitT) (N : List Int), (begTo LT L N).length = N.length
  | [], _ => rfl
  | _ :: L, _ => (begTo_len LT L _).trans (List.length_set ..)
theorem begP_len (LT : List UInt8) (L : List InitT) : (begP LT L).length = LT.length := (begTo_len LT L _).trans (by simp)
theorem flat_i64 : ∀ L : List Int, L.flatMap intC = L.map i64V
  | [] => rfl
  | i :: L => by rw [List.flatMap_cons, flat_i64 L]; rfl
theorem rd_i64 {w : World} {base n : Nat} {e : TypeId} {a : Option Addr} {c : Nat} {L : List Int} (hn : L.length = n) (h : w.ownsRow base e 1 (.slice a n c) n (L.map i64V)) : Rd intC 1 w (.slice a L.length c) L := by
  subst hn
  refine Rd.own (C := intC) (k := 1) (fun _ => rfl) (base := base) (e := e) ?_
  rw [flat_i64]
  exact h
set_option maxHeartbeats 8000000 in
set_option maxRecDepth 8000 in
theorem compile_is (t : TestT) (LT : List UInt8) (hLT : lettersN (locsN t) = LT) (v : Value) (w : World) (lw : Lw w) (hd : Db w) (h : TestRd w v t) (hc : checkT t = 0) (h26 : LT.length ≤ 26) (hpl : ∀ x ∈ t.ini, ∃ k : Nat, k < LT.length ∧ plc LT x.l = (k : Int))
    (hl : ∀ L ∈ t.thr, L.length ≤ 1000000 ∧ ∀ x ∈ L, hasLocB x.k = true → 0 < LT.length) (h4 : t.thr.length ≤ 1000) :
    Calls Tryd.prog 15 #[v] w fun e w' => ∃ pv, e = .returned (.tuple #[pv, .int .i64 0]) ∧ ProgFl w' pv LT (begP LT t.ini) (t.thr.map (placedP LT)) ∧ On w w' := by
  obtain ⟨i0, hi0, hz0, hz1, hz2⟩ := info_parts infoThr
  have hC := fun W (k : On w W) => check_is t v W (lw.on k) (h.on k)
  have hO := fun W (k : On w W) => locs_is t v W (hd.on k) (h.on k)
  rw [hc] at hC
  rw [hLT] at hO
  obtain ⟨a1, c1, a2, c2, a3, c3, rfl, hnm, r1, r2, r3⟩ := h.ex
  have R1 : Hid (Rd iniC 2 w (.slice a1 t.ini.length c1) t.ini) := r1
  have R2 : Hid (Rd2 insC 9 w (.slice a2 t.thr.length c2) t.thr) := r2
  have HL : Hid (∀ L ∈ t.thr, L.length ≤ 1000000 ∧ ∀ x ∈ L, hasLocB x.k = true → 0 < LT.length) := hl
  clear h r1 r2 r3 hnm hl lw hd hc hLT
  have hB := fun al cl W (k : On w W) (hl : Rd byteC 1 W (.slice al LT.length cl) LT) => begs_is LT t.ini al a1 cl c1 W hl (R1.out.on k) h26 hpl
  have hbl : (begP LT t.ini).length = LT.length := begP_len LT t.ini
  have k0 : ∀ A B, On w ((w.alloc A).alloc B) := fun A B => ((On.refl w).alloc A).alloc B
  have bt : ∀ cs T B, Bk ((w.alloc (.cells cs T)).alloc B) w.heap.size cs := fun cs T B => (Bk.new w cs T).alloc B
  have br : ∀ A cs T, Bk ((w.alloc A).alloc (.cells cs T)) (w.heap.size + 1) cs := fun A cs T => by have := Bk.new (w.alloc A) cs T; rwa [World.size_alloc] at this
  generalize t.name = nm at *
  generalize t.cond.k = kk at *
  generalize t.cond.any.length = m3 at *
  generalize t.thr = TT at *
  generalize begP LT t.ini = IN at *
  generalize t.ini.length = m1 at *
  go_enter Tryd.func15, Tryd.ntmps15
  go_wp2_with fail
  refine (hC _ (k0 _ _)).mono ?_
  rintro e w1 ⟨rfl, k1⟩
  have T1 := (bt _ _ _).on k1
  have Z1 := (br _ _ _).on k1
  have K1 : Hid (On w w1) := (k0 _ _).trans k1
  have x0 := T1.at (i := 0) rfl
  have x1 := T1.at (i := 1) rfl
  have x2 := T1.at (i := 2) rfl
  have x3 := T1.at (i := 3) rfl
  have x4 := T1.at (i := 4) rfl
  have xl := T1.lt
  clear hC k1 bt br k0
  go_wp2_with fail
  refine (hO _ K1.out).mono ?_
  rintro e w2 ⟨al, cl, rfl, ho, k2⟩
  have T2 := T1.on k2
  have Z2 := Z1.on k2
  have K2 : Hid (On w w2) := K1.out.trans k2
  have B2 : Hid (Rd byteC 1 w2 (.slice al LT.length cl) LT) := rd_bytes ho
  have LO2 : Hid (w2.ownsRow w1.heap.size 5 1 (.slice al LT.length cl) LT.length (LT.map byteV)) := ho
  have hw1 : w.heap.size + 1 < w1.heap.size := Z1.lt
  have kw12 := k2.size
  clear hO k2 ho K1 T1 Z1 x0 x1 x2 x3 x4 xl
  have x1 := T2.at (i := 1) rfl
  have xl := T2.lt
  go_wp2_with fail
  refine (hB al cl w2 K2.out B2.out).mono ?_
  rintro e w3 ⟨ai, ci, rfl, hi3, k3⟩
  have LO3 : Hid (w3.ownsRow w1.heap.size 5 1 (.slice al LT.length cl) LT.length (LT.map byteV)) := own_on LO2.out k3
  have IO3 : Hid (w3.ownsRow w2.heap.size 2 1 (.slice ai LT.length ci) LT.length (IN.map i64V)) := hi3
  clear hi3 LO2
  have T3 := T2.on k3
  have Z3 := Z2.on k3
  have K3 : Hid (On w w3) := K2.out.trans k3
  have B3 : Hid (Rd byteC 1 w3 (.slice al LT.length cl) LT) := B2.out.on k3
  clear hB k3 B2 K2 T2 Z2 x1 xl
  have x2 := T3.at (i := 2) rfl
  have xl := T3.lt
  have zl := Z3.lt
  have hPn : ∀ cs T, Bk (w3.alloc (.cells cs T)) w3.heap.size cs := fun cs T => Bk.new w3 cs T
  go_wp2
  clear x2
  go_loopg [26] TT.length (fun gg s26 wq => ∃ (n : Nat) (a : Option Addr) (c : Nat), n ≤ TT.length ∧ gg = TT.length - n ∧ s26 = .int .i64 n ∧ Hid (On w3 wq) ∧ Bk wq w3.heap.size #[.slice al LT.length cl, .slice ai LT.length ci, .slice a n c] ∧ Hid (Own2 insC 9 59 53 wq (w3.heap.size + 1) (.slice a n c) ((TT.take n).map (placedP LT))))
  case atStart => exact ⟨0, none, 0, Nat.zero_le _, rfl, rfl, (On.refl w3).alloc _, hPn _ _, Own2.nil _ _ _ _ _ _⟩
  case round =>
    clear hPn
    obtain ⟨n, a, c, hn, hk, rfl, HO, PB, HW⟩ := hrel
    have pl := PB.lt
    rcases Nat.lt_or_ge n TT.length with hlt | hge
    · obtain ⟨x, hx⟩ : ∃ x, TT[n]? = some x := ⟨_, List.getElem?_eq_getElem hlt⟩
      obtain ⟨g, off, rfl, hg, ax, cx, v0, hxm, rx⟩ := (R2.out.on (K3.out.trans HO.out)).row hx
      obtain ⟨hx6, hxl⟩ := HL.out x (List.mem_of_getElem? hx)
      have hP := placed_is LT x ax cx al cl wr.drew (rx.on (On.refl wr).drew) (B3.out.on (HO.out.drew)) hx6 hxl
      have HX : Hid ((TT.take n).map (placedP LT) ++ [placedP LT x] = (TT.take (n + 1)).map (placedP LT)) := by
        show _ = _
        rw [List.take_add_one, hx]
        simp
      have hS : ∀ W, On wr.drew W → W.cell? ⟨w3.heap.size, 2, none⟩ = some (.slice a n c) := fun W k => (PB.on (show On wr W from (On.refl wr).drew.trans k)).at (i := 2) rfl
      have hS0 : wr.cell? ⟨w3.heap.size, 2, none⟩ = some (.slice a n c) := PB.at (i := 2) rfl
      have hpx : (placedP LT x).length = x.length := by unfold placedP; simp
      clear hx rx
      go_wp2
      clear v0
      refine region_fin (fun W => W.cell? ⟨w3.heap.size, 2, none⟩ = some (.slice a n c)) 8 9 (by kernel_rfl) rfl ?_
      refine fin_take 0 (v := ?_) rfl (by kernel_rfl) (by kernel_rfl) (by kernel_rfl) (by kernel_rfl) (fun _ _ _ h => h) rfl ?_ (hS _ (On.refl _)) ?_
      rotate_left
      · intro W hW
        go_simp
        (try with_reducible rfl)
      simp only [Act.put, List.setIfInBounds_toArray, List.set_cons_zero, List.set_cons_succ]
      refine fin_take 1 (v := ?_) rfl (by kernel_rfl) (by kernel_rfl) (by kernel_rfl) (by kernel_rfl) (fun _ _ _ h => h) rfl ?_ (hS _ (On.refl _)) ?_
      rotate_left
      · intro W hW
        go_simp
        (try with_reducible rfl)
      simp only [Act.put, List.setIfInBounds_toArray, List.set_cons_zero, List.set_cons_succ]
      refine fin_take 2 (v := ?_) rfl (by kernel_rfl) (by kernel_rfl) (by kernel_rfl) (by kernel_rfl) (fun _ _ _ h => h) rfl ?_ (hS _ (On.refl _)) ?_
      rotate_left
      · intro W hW
        go_simp
        (try with_reducible rfl)
      simp only [Act.put, List.setIfInBounds_toArray, List.set_cons_zero, List.set_cons_succ]
      refine fin_take 3 (v := ?_) rfl (by kernel_rfl) (by kernel_rfl) (by kernel_rfl) (by kernel_rfl) (fun _ _ _ h => h) rfl ?_ (hS _ (On.refl _)) ?_
      rotate_left
      · intro W hW
        go_simp
        (try with_reducible rfl)
      simp only [Act.put, List.setIfInBounds_toArray, List.set_cons_zero, List.set_cons_succ]
      refine fin_one 4 rfl rfl (by kernel_rfl) (fun K hK => ?_)
      go_simp
      refine hP.mono ?_
      rintro e w4 ⟨au, cu, rfl, hu, k4⟩
      have hS4 := hS w4 k4
      have hS5 := hS _ (k4.alloc (.cells #[.slice au x.length cu] 59))
      have k4' : On wr w4 := (On.refl wr).drew.trans k4
      refine hK.out _ _ (fun _ => hS4) ?_
      clear hK
      refine fin_one 5 rfl rfl (by kernel_rfl) (fun K hK => ?_)
      go_simp
      refine hK.out _ _ (fun _ => hS5) ?_
      clear hK
      obtain ⟨vs, hvl, hov, hin⟩ := HW.out
      have hvn : ((TT.take n).map (placedP LT)).length = n := by simp; omega
      rw [hvn] at hov hvl
      have own4 := own_on hov (k4'.alloc (.cells #[.slice au x.length cu] 59))
      refine fin_one 6 rfl rfl (by kernel_rfl) (fun K hK => ?_)
      refine wp_append_own _ (.tmp 31) (.tmp 35) 23 rfl (w3.heap.size + 1) 59 i0 (.slice none 0 0) 1 24 Tryd.underlying23 hi0 hz0 hz1 hz2 rfl (by decide) (.slice a n c) n vs rfl own4 ⟨w4.heap.size, 0, none⟩ 1 1 [.slice au x.length cu] rfl rfl (news_at w4 _ _) (one_slice _ _ _) (by unfold maxLen; omega) (by omega) (by simp only [World.size_alloc]; have := k4'.size; omega) ?_
      intro v' w5 hown5 hg5 _
      obtain ⟨a', c', rfl⟩ := own_slice hown5
      have blk : ∀ b, (Value.slice a n c).ownBlock = some b → w3.heap.size + 1 ≤ b := fun b hb => (hov.lt b hb).1
      have PB5 : Bk w5 w3.heap.size _ := ((PB.on k4').alloc (.cells #[.slice au x.length cu] 59)).grown hg5 (Nat.lt_succ_self _) blk
      have O5 : On w3 w5 := ((HO.out.trans k4').alloc (.cells #[.slice au x.length cu] 59)).grown hg5 (fun b hb => Nat.le_of_succ_le (blk b hb))
      have hS6 := PB5.at (i := 2) rfl
      have F6 := fun i => PB5.fr i
      have hu1 : (w4.alloc (.cells #[.slice au x.length cu] 59)).ownsRow (w3.heap.size + 1) 53 9 (.slice au x.length cu) (placedP LT x).length ((placedP LT x).flatMap insC) := by
        rw [hpx]
        exact own_mono (own_on hu ((On.refl w4).alloc _)) pl
      have W5 := Own2.snoc (C := insC) (k := 9) (hvl.trans hvn.symm) (by rw [hvn]; exact own4) (fun i u L hiu hL => own_on (hin i u L hiu hL) (k4'.alloc (.cells #[.slice au x.length cu] 59))) ne_thr hg5 (by rw [hvn]; exact hown5) hu1
      rw [HX.out] at W5
      have HW5 : Hid _ := W5
      clear W5 hu1 own4 hown5 hov hin hg5 hu HX
      refine hK.out _ _ (fun _ => hS6) ?_
      simp only [Act.put, List.setIfInBounds_toArray, List.set_cons_zero, List.set_cons_succ]
      clear hK
      refine fin_take 7 (v := ?_) rfl (by kernel_rfl) (by kernel_rfl) (by kernel_rfl) (by kernel_rfl) (fun _ _ _ h => h) rfl ?_ hS6 ?_
      rotate_left
      · intro W hW
        go_simp
        (try with_reducible rfl)
      simp only [Act.put, List.setIfInBounds_toArray, List.set_cons_zero, List.set_cons_succ]
      refine fin_one 8 rfl rfl (by kernel_rfl) (fun K hK => ?_)
      go_simp
      refine hK.out _ _ (fun h => absurd rfl h) ?_
      refine fin_done (by kernel_rfl) (NoPanic.normal ?_)
      go_wp2
      go_roundg (TT.length - (n + 1))
      case measure => omega
      case rel => exact ⟨n + 1, a', c', by omega, rfl, by go_num, O5.setNew (Nat.le_refl _) _, Bk.puts [.slice a' (n + 1) c'] w5 [.slice al LT.length cl, .slice ai LT.length ci, .slice a n c] 2 PB5, Own2.set HW5.out (Nat.lt_succ_self _) 2 _⟩
    · obtain rfl : n = TT.length := by omega
      have H2 := HW.out
      rw [List.take_length] at H2
      have KO : On w wr := K3.out.trans HO.out
      have R : Hid (Own2 insC 9 59 53 wr (w3.heap.size + 1) (.slice a TT.length c) (TT.map (placedP LT))) := H2
      have hw3 : w.heap.size + 1 < w3.heap.size + 1 := by omega
      have y0 := PB.at (i := 0) rfl
      have y1 := PB.at (i := 1) rfl
      have y2 := PB.at (i := 2) rfl
      have ZB := Z3.on HO.out
      have z0 := ZB.at (i := 0) rfl
      have z1 := ZB.at (i := 1) rfl
      have z2 := ZB.at (i := 2) rfl
      have zf := fun i => ZB.fr i
      clear H2 HW
      go_wp2
      refine bodyPost_ret (v := .tuple #[.agg #[.slice al LT.length cl, .slice ai LT.length ci, .slice a TT.length c], .int .i64 0]) ?_ rfl ⟨_, rfl, ?_, ?_⟩
      · rw [results_cell_slot rfl]
        go_simp
      · refine ⟨al, cl, ai, ci, a, c, by rw [List.length_map, hbl], ?_, ?_, ?_⟩
        · exact rd_bytes (own_puts [.slice al LT.length cl, .slice ai LT.length ci, .slice a TT.length c] wr 0 (own_on LO3.out HO.out) hw1)
        · exact rd_i64 hbl (own_puts [.slice al LT.length cl, .slice ai LT.length ci, .slice a TT.length c] wr 0 (own_on IO3.out HO.out) (by omega))
        · rw [List.length_map]; exact (Own2.puts [.slice al LT.length cl, .slice ai LT.length ci, .slice a TT.length c] wr 0 R.out hw3).rd (fun _ => rfl)
      · repeat' (first | with_reducible refine On.setNew ?_ (by omega) _ | with_reducible exact KO)
end Go.Proofs.YtengdlchglkkjaaDoor

namespace Go.Proofs.YtengdlchglkkjaaDoor
open Go.RowKit

theorem pl_from (l : Int) (c : UInt8) (h : (c.toNat : Int) = l) : ∀ (LT : List UInt8) (i : Nat), plFrom l i LT = if Lib.indexByte LT c == -1 then -1 else Lib.indexByte LT c + i
  | [], _ => rfl
  | b :: LT, i => by
    have ih := pl_from l c h LT (i + 1)
    have hg := Lib.indexByte_ge LT c
    have e : Lib.indexByte (b :: LT) c = if b == c then 0 else if Lib.indexByte LT c == -1 then -1 else Lib.indexByte LT c + 1 := rfl
    rw [e]
    unfold plFrom
    by_cases hb : b = c
    · have e1 : ((b.toNat : Int) == l) = true := by rw [hb]; simpa using h
      have e2 : (b == c) = true := by simpa using hb
      rw [e1, e2]
      simp
    · have h1 : ¬ (b.toNat : Int) = l := by
        intro hh
        apply hb
        apply UInt8.toNat_inj.1
        omega
      have e1 : ((b.toNat : Int) == l) = false := by simpa using h1
      have e2 : (b == c) = false := by simpa using hb
      rw [e1, e2, ih]
      by_cases hm : Lib.indexByte LT c = -1
      · simp [hm]
      · have h2 : ¬ (Lib.indexByte LT c + 1 = -1) := by omega
        simp [hm, h2]
        omega
theorem pl_same (LT : List UInt8) (l : Int) (h0 : 0 ≤ l) (h1 : l ≤ 255) : plc LT l = plR LT l := by
  unfold plc plR
  have hw : IntKind.u8.wrap l = l := by rw [IntKind.wrap_u8]; omega
  have hc : ((l.toNat.toUInt8).toNat : Int) = l := by
    rw [UInt8.toNat_ofNat']
    omega
  rw [hw, pl_from l _ hc LT 0]
  by_cases hm : Lib.indexByte LT l.toNat.toUInt8 = -1
  · simp [hm]
  · simp [hm]
theorem ins_kind (x : InsT) (h : insOk x = true) : (hasLocB x.k = true ∧ 97 ≤ x.l ∧ x.l ≤ 122) ∨ (hasLocB x.k = false ∧ x.l = 0) := by
  unfold insOk at h
  have hl : ∀ {l : Int}, locOk l = true → 97 ≤ l ∧ l ≤ 122 := fun h => by
    unfold locOk at h
    simpa only [Bool.and_eq_true, decide_eq_true_eq] using h
  split at h
  · rename_i hk
    have hk : x.k = 1 := by simpa using hk
    simp only [Bool.and_eq_true] at h
    exact Or.inl ⟨by unfold hasLocB; rw [hk]; rfl, hl h.1.2⟩
  · split at h
    · rename_i hk
      have hk : x.k = 2 := by simpa using hk
      simp only [Bool.and_eq_true] at h
      exact Or.inl ⟨by unfold hasLocB; rw [hk]; rfl, hl h.2⟩
    · split at h
      · rename_i hk
        have hk : x.k = 3 := by simpa using hk
        simp only [Bool.and_eq_true] at h
        exact Or.inr ⟨by unfold hasLocB; rw [hk]; rfl, by simpa using h.1.1.1.1.1.1.2⟩
      · split at h
        · rename_i hk
          have hk : x.k = 4 := by simpa using hk
          simp only [Bool.and_eq_true] at h
          exact Or.inl ⟨by unfold hasLocB; rw [hk]; rfl, hl h.1.1.2⟩
        · split at h
          · rename_i hk
            have hk : x.k = 5 := by simpa using hk
            simp only [Bool.and_eq_true] at h
            exact Or.inr ⟨by unfold hasLocB; rw [hk]; rfl, by simpa using h.1.1.1.1⟩
          · split at h
            · rename_i hk
              have hk : x.k = 6 := by simpa using hk
              simp only [Bool.and_eq_true] at h
              exact Or.inr ⟨by unfold hasLocB; rw [hk]; rfl, by simpa using h.1.1.1.1.2⟩
            · cases h
theorem row_same (LT : List UInt8) (L : List InsT) (h : L.all insOk = true) : placedP LT L = rplRow LT L := by
  unfold placedP rplRow
  apply List.map_congr_left
  intro x hx
  have hk := ins_kind x (List.all_eq_true.1 h x hx)
  unfold placeIns rplIns
  rcases hk with ⟨h1, h2, h3⟩ | ⟨h1, h2⟩
  · rw [h1, if_pos rfl, if_neg (by simp; omega), pl_same LT x.l (by omega) (by omega)]
  · rw [h1, if_neg (by decide), if_pos (by simpa using h2)]
/-- A letter of a row of letters. -/
theorem pl_at (LT : List UInt8) (l : Int) (hnd : LT.Nodup) (hm : ∃ b ∈ LT, (b.toNat : Int) = l) (h0 : 0 ≤ l) (h1 : l ≤ 255) : ∃ k : Nat, k < LT.length ∧ plc LT l = (k : Int) ∧ ∀ (j : Nat) (b : UInt8), LT[j]? = some b → (((b.toNat : Int) == l) = decide (j = k)) := by
  rw [pl_same LT l h0 h1]
  unfold plR
  have key : ∀ (LT : List UInt8) (i : Nat), LT.Nodup → (∃ b ∈ LT, (b.toNat : Int) = l) → ∃ k : Nat, k < LT.length ∧ plFrom l i LT = ((k + i : Nat) : Int) ∧ ∀ (j : Nat) (b : UInt8), LT[j]? = some b → (((b.toNat : Int) == l) = decide (j = k)) := by
    intro LT
    induction LT with
    | nil => intro i _ h; obtain ⟨b, hb, _⟩ := h; cases hb
    | cons c LT ih =>
      intro i hnd hm
      rw [List.nodup_cons] at hnd
      unfold plFrom
      by_cases hc : (c.toNat : Int) = l
      · refine ⟨0, by simp, by rw [if_pos (by simpa using hc), Nat.zero_add], fun j b hj => ?_⟩
        match j, hj with
        | 0, hj =>
          simp only [List.getElem?_cons_zero, Option.some.injEq] at hj
          subst hj
          simpa using hc
        | j + 1, hj =>
          simp only [List.getElem?_cons_succ] at hj
          have hbm := List.mem_of_getElem? hj
          have hne : ¬ (b.toNat : Int) = l := by
            intro hh
            apply hnd.1
            have : b = c := UInt8.toNat_inj.1 (by omega)
            rw [← this]
            exact hbm
          simp [hne]
      · obtain ⟨b, hb, hbl⟩ := hm
        have hb' : b ∈ LT := by
          rcases List.mem_cons.1 hb with h | h
          · exact absurd (h ▸ hbl) hc
          · exact h
        obtain ⟨k, hk, he, hall⟩ := ih (i + 1) hnd.2 ⟨b, hb', hbl⟩
        refine ⟨k + 1, by simp; omega, ?_, fun j b hj => ?_⟩
        · rw [if_neg (by simpa using hc), he]
          congr 1
          omega
        · match j, hj with
          | 0, hj =>
            simp only [List.getElem?_cons_zero, Option.some.injEq] at hj
            subst hj
            simpa using hc
          | j + 1, hj =>
            simp only [List.getElem?_cons_succ] at hj
            rw [hall j b hj]
            apply decide_eq_decide.2
            omega
  obtain ⟨k, h1, h2, h3⟩ := key LT 0 hnd hm
  exact ⟨k, h1, by rw [h2, Nat.add_zero], h3⟩
theorem letters_nodup (n : Nat) : (lettersN n).Nodup := by
  unfold lettersN
  rw [List.Nodup, List.pairwise_map]
  have hp : ((List.range 26).filter (fun i => n.testBit i)).Pairwise (· < ·) := List.Pairwise.filter _ List.pairwise_lt_range
  refine List.Pairwise.imp_of_mem ?_ hp
  intro a b ha hb hab he
  have ha' : a < 26 := by simpa using (List.mem_filter.1 ha).1
  have hb' : b < 26 := by simpa using (List.mem_filter.1 hb).1
  have := congrArg UInt8.toNat he
  rw [UInt8.toNat_ofNat', UInt8.toNat_ofNat'] at this
  omega
theorem fold_has (L : List Int) (n : Nat) (l : Int) (h : l ∈ L) (h0 : 97 ≤ l) (h1 : l ≤ 122) : (L.foldl withL n).testBit (l - 97).toNat = true := by
  have mono : ∀ (L : List Int) (n i : Nat), n.testBit i = true → (L.foldl withL n).testBit i = true := by
    intro L
    induction L with
    | nil => intro n i h; exact h
    | cons x L ih =>
      intro n i h
      rw [List.foldl_cons]
      refine ih _ i ?_
      unfold withL
      split
      · rw [Nat.testBit_or, h]; rfl
      · exact h
  induction L generalizing n with
  | nil => cases h
  | cons x L ih =>
    rw [List.foldl_cons]
    rcases List.mem_cons.1 h with rfl | h
    · refine mono L _ _ ?_
      unfold withL
      rw [if_pos ⟨h0, h1⟩, Nat.testBit_or, Nat.testBit_two_pow_self, Bool.or_true]
    · exact ih _ h
theorem mem_letters (t : TestT) (l : Int) (h : l ∈ allLs t) (h0 : 97 ≤ l) (h1 : l ≤ 122) : ∃ b ∈ lettersN (locsN t), (b.toNat : Int) = l := by
  have hb := fold_has (allLs t) 0 l h h0 h1
  rw [← locs_fold] at hb
  refine ⟨UInt8.ofNat (97 + (l - 97).toNat), ?_, ?_⟩
  · unfold lettersN
    exact List.mem_map.2 ⟨(l - 97).toNat, List.mem_filter.2 ⟨by simp; omega, hb⟩, rfl⟩
  · rw [UInt8.toNat_ofNat']
    omega
theorem ini_mem (t : TestT) (x : InitT) (h : x ∈ t.ini) : x.l ∈ allLs t := by
  unfold allLs
  exact List.mem_append_left _ (List.mem_map.2 ⟨x, h, rfl⟩)
theorem ini_letter (t : TestT) (ht : testOk t = true) (x : InitT) (h : x ∈ t.ini) : 97 ≤ x.l ∧ x.l ≤ 122 := by
  unfold testOk at ht
  simp only [Bool.and_eq_true] at ht
  have := List.all_eq_true.1 ht.1.1.2 x h
  unfold initOk locOk at this
  simpa only [Bool.and_eq_true, decide_eq_true_eq] using this
theorem ini_place (t : TestT) (ht : testOk t = true) (x : InitT) (h : x ∈ t.ini) : ∃ k : Nat, k < (lettersN (locsN t)).length ∧ plc (lettersN (locsN t)) x.l = (k : Int) ∧ ∀ (j : Nat) (b : UInt8), (lettersN (locsN t))[j]? = some b → (((b.toNat : Int) == x.l) = decide (j = k)) := by
  obtain ⟨h0, h1⟩ := ini_letter t ht x h
  exact pl_at _ x.l (letters_nodup _) (mem_letters t x.l (ini_mem t x h) h0 h1) (by omega) (by omega)
theorem beg_from (LT : List UInt8) : ∀ (L : List InitT) (N : List Int), N.length = LT.length →
    (∀ x ∈ L, ∃ k : Nat, k < LT.length ∧ plc LT x.l = (k : Int) ∧ ∀ (j : Nat) (b : UInt8), LT[j]? = some b → (((b.toNat : Int) == x.l) = decide (j = k))) →
    ∀ (j : Nat) (b : UInt8) (v : Int), LT[j]? = some b → N[j]? = some v → (begTo LT L N)[j]? = some (valFrom b L v)
  | [], _, _, _, _, _, _, _, hv => hv
  | x :: L, N, hN, hL, j, b, v, hb, hv => by
    obtain ⟨k, hk, he, hall⟩ := hL x (List.mem_cons_self ..)
    have hj : j < N.length := (List.getElem?_eq_some_iff.1 hv).1
    rw [begTo, List.foldl_cons, valFrom, List.foldl_cons]
    refine beg_from LT L _ (by rw [List.length_set]; exact hN) (fun y hy => hL y (List.mem_cons_of_mem _ hy)) j b _ hb ?_
    rw [he, Int.toNat_natCast, List.getElem?_set]
    have hd := hall j b hb
    have hd' : (x.l == (b.toNat : Int)) = decide (j = k) := by rw [← hd, Bool.eq_iff_iff]; simp; exact eq_comm
    rw [hd']
    by_cases hjk : j = k
    · subst hjk
      rw [if_pos rfl, if_pos hj]
      simp
    · rw [if_neg (fun h => hjk h.symm), hv]
      simp [hjk]
theorem beg_same (t : TestT) (ht : testOk t = true) : begP (lettersN (locsN t)) t.ini = iniVals (lettersN (locsN t)) t.ini := by
  apply List.ext_getElem?
  intro j
  unfold iniVals
  rw [List.getElem?_map]
  by_cases hj : j < (lettersN (locsN t)).length
  · rw [List.getElem?_eq_getElem hj]
    exact beg_from _ t.ini (List.replicate _ 0) (by simp) (ini_place t ht) j _ 0 (List.getElem?_eq_getElem hj) (by rw [List.getElem?_replicate]; simp; exact hj)
  · rw [List.getElem?_eq_none (by rw [begP_len]; omega), List.getElem?_eq_none (by omega)]
    rfl
end Go.Proofs.YtengdlchglkkjaaDoor

namespace Go.Proofs.YtengdlchglkkjaaDoor
open Go.RowKit

theorem eqIns_same (w : World) (x0 x1 x2 x3 x4 x5 x6 x7 x8 : Int) :
    (Op.equalIn 10000 53 (.agg #[.int .i64 x0, .int .i64 x1, .int .i64 x2, .int .i64 x3, .int .i64 x4, .int .i64 x5, .int .i64 x6, .int .i64 x7, .int .i64 x8]) (.agg #[.int .i64 x0, .int .i64 x1, .int .i64 x2, .int .i64 x3, .int .i64 x4, .int .i64 x5, .int .i64 x6, .int .i64 x7, .int .i64 x8])).run Tryd.prog w = .ok true w := by
  have ea := Tryd.isAgg51
  have ez := Tryd.sizeOf51
  go_simp
theorem conv_rd {w : World} {a : Option Addr} {c : Nat} {l : List UInt8} (h : Rd byteC 1 w (.slice a l.length c) l) :
    (convert 35 9 (.slice a l.length c)).run Tryd.prog w = .ok (.string ⟨l.toArray⟩) w := by
  cases a with
  | none =>
    rcases Nat.eq_zero_or_pos l.length with h0 | h0
    · have hl : l = [] := List.eq_nil_of_length_eq_zero h0
      subst hl
      exact Lib.run_convert_nil_bytes w _ _ 5 c Tryd.underlying35 Tryd.underlying5 Tryd.underlying9
    · obtain ⟨g, off, ha, _⟩ := h.at (i := 0) (List.getElem?_eq_getElem h0)
      cases ha
  | some ad =>
    refine run_convert_bytes_back (P := Tryd.prog) w _ _ 5 ad c l Tryd.underlying35 Tryd.underlying5 Tryd.underlying9 (fun j hj => ?_)
    obtain ⟨g, off, ha, _, hc⟩ := h.at (List.getElem?_eq_getElem hj)
    have := hc 0 _ rfl
    obtain rfl := Option.some.inj ha
    rw [Nat.mul_one, Nat.add_zero] at this
    rw [Addr.add_lit]
    exact this
set_option maxHeartbeats 4000000 in
set_option maxRecDepth 8000 in
theorem compile_bad (t : TestT) (v : Value) (w : World) (lw : Lw w) (h : TestRd w v t) (hc : (checkT t == 0) = false) :
    Calls Tryd.prog 15 #[v] w fun e w' => e = .returned (.tuple #[.agg #[.slice none 0 0, .slice none 0 0, .slice none 0 0], .int .i64 (checkT t)]) ∧ On w w' := by
  have hC := fun W (k : On w W) => check_is t v W (lw.on k) (h.on k)
  obtain ⟨a1, c1, a2, c2, a3, c3, rfl, hnm, r1, r2, r3⟩ := h.ex
  clear h r1 r2 r3 hnm lw
  have k0 : ∀ A B, On w ((w.alloc A).alloc B) := fun A B => ((On.refl w).alloc A).alloc B
  have br : ∀ A cs T, Bk ((w.alloc A).alloc (.cells cs T)) (w.heap.size + 1) cs := fun A cs T => by have := Bk.new (w.alloc A) cs T; rwa [World.size_alloc] at this
  generalize t.name = nm at *
  generalize t.cond.k = kk at *
  generalize t.cond.any.length = m3 at *
  generalize t.thr.length = m2 at *
  generalize t.ini.length = m1 at *
  generalize checkT t = ct at *
  go_enter Tryd.func15, Tryd.ntmps15
  go_wp2_with fail
  refine (hC _ (k0 _ _)).mono ?_
  rintro e w1 ⟨rfl, k1⟩
  have Z1 := (br _ _ _).on k1
  have K1 : On w w1 := (k0 _ _).trans k1
  have z0 := Z1.at (i := 0) rfl
  have z1 := Z1.at (i := 1) rfl
  have z2 := Z1.at (i := 2) rfl
  have zf := fun i => Z1.fr i
  have zl := Z1.lt
  clear hC k1 br k0
  go_wp2
  refine bodyPost_ret (v := .tuple #[.agg #[.slice none 0 0, .slice none 0 0, .slice none 0 0], .int .i64 ct]) ?_ rfl ⟨rfl, ?_⟩
  · rw [results_cell_slot rfl]
    go_simp
  · repeat' (first | with_reducible refine On.setNew ?_ (by omega) _ | with_reducible exact K1)
set_option maxHeartbeats 4000000 in
set_option maxRecDepth 8000 in
theorem rsize_is (LL : List (List InsT)) (v : Value) (w : World) (h : ProgRd w v LL) (hs : sumL LL ≤ 1000000) :
    Calls Tryd.prog 19 #[v] w fun e w' => e = .returned (.int .i64 (sumL LL : Nat)) ∧ On w w' := by
  obtain ⟨a1, m1, c1, a2, m2, c2, a, c, rfl, r⟩ := h
  obtain ⟨_, _, _, _, hm⟩ := r.slice
  have HR : Hid (Rd2 insC 9 w (.slice a LL.length c) LL) := r
  obtain ⟨S, hS⟩ : ∃ S, S = sumL LL := ⟨_, rfl⟩
  rw [← hS] at hs ⊢
  have HS : Hid (S = (LL.drop 0).foldl (fun n L => n + L.length) 0) := hS
  have grow : ∀ (M : List (List InsT)) (s : Nat), s ≤ M.foldl (fun n L => n + L.length) s := by
    intro M
    induction M with
    | nil => intro s; exact Nat.le_refl _
    | cons L M ih => intro s; exact Nat.le_trans (Nat.le_add_right _ _) (ih (s + L.length))
  clear r hS
  go_enter Tryd.func19, Tryd.ntmps19
  go_wp2
  go_loopg [3, 4] LL.length (fun gg s3 s4 wq => ∃ n s : Nat, n ≤ LL.length ∧ gg = LL.length - n ∧ s3 = .int .i64 s ∧ s4 = .int .i64 n ∧ s ≤ S ∧ Hid (On w wq) ∧ Bk wq w.heap.size #[.slice a1 m1 c1, .slice a2 m2 c2, .slice a LL.length c] ∧ Hid (S = (LL.drop n).foldl (fun n L => n + L.length) s))
  case atStart => exact ⟨0, 0, Nat.zero_le _, rfl, rfl, rfl, Nat.zero_le _, (On.refl w).alloc _, Bk.new w _ _, HS⟩
  case round =>
    clear HS
    obtain ⟨n, s, hn, hk, rfl, rfl, hsS, HO, PB, HS⟩ := hrel
    have p2 := PB.at (i := 2) rfl
    have pl := PB.lt
    rcases Nat.lt_or_ge n LL.length with hlt | hge
    · obtain ⟨x, hx⟩ : ∃ x, LL[n]? = some x := ⟨_, List.getElem?_eq_getElem hlt⟩
      obtain ⟨g, off, rfl, hg, ax, cx, u0, hxm, _⟩ := (HR.out.on HO.out).row hx
      have hd : LL.drop n = x :: LL.drop (n + 1) := drop_at hx
      have HJ : Hid (S = (LL.drop (n + 1)).foldl (fun n L => n + L.length) (s + x.length)) := by
        show S = _
        rw [HS.out, hd]; rfl
      have hsx : s + x.length ≤ S := by rw [HJ.out]; exact grow _ _
      clear HS hd hx
      go_wp2
      go_roundg (LL.length - (n + 1))
      case measure => omega
      case rel => exact ⟨n + 1, s + x.length, by omega, rfl, by go_num, by go_num, hsx, HO, PB, HJ⟩
    · obtain rfl : n = LL.length := by omega
      obtain rfl : S = s := by rw [HS.out, List.drop_of_length_le hge]; rfl
      go_wp2
      go_ret
      exact ⟨rfl, HO.out⟩
set_option maxHeartbeats 4000000 in
set_option maxRecDepth 8000 in
theorem same6_is (LT : List UInt8) (IN : List Int) (LL : List (List InsT)) (u v : Value) (w : World) (h1 : ProgFl w u LT IN LL) (h2 : ProgFl w v LT IN LL) :
    Calls Tryd.prog 16 #[u, v] w fun e w' => e = .returned (.bool true) ∧ On w w' := by
  obtain ⟨a1, c1, a2, c2, a3, c3, rfl, r1, r2, r3⟩ := h1.ex
  obtain ⟨d1, e1, d2, e2, d3, e3, rfl, s1, s2, s3⟩ := h2.ex
  obtain ⟨_, _, _, _, hm1⟩ := r1.slice
  obtain ⟨_, _, _, _, hm2⟩ := r2.slice
  obtain ⟨_, _, _, _, hm3⟩ := r3.slice
  obtain ⟨W0, hW0⟩ : ∃ W0, W0 = (w.alloc (.cells #[.slice a1 LT.length c1, .slice a2 IN.length c2, .slice a3 LL.length c3] 40)).alloc (.cells #[.slice d1 LT.length e1, .slice d2 IN.length e2, .slice d3 LL.length e3] 40) := ⟨_, rfl⟩
  have K0 : On w W0 := by rw [hW0]; exact ((On.refl w).alloc _).alloc _
  have hb1 := conv_rd (r1.on K0)
  have hb2 := conv_rd (s1.on K0)
  have A0 : Bk W0 w.heap.size #[.slice a1 LT.length c1, .slice a2 IN.length c2, .slice a3 LL.length c3] := by rw [hW0]; exact (Bk.new w _ _).alloc _
  have D0 : Bk W0 (w.heap.size + 1) #[.slice d1 LT.length e1, .slice d2 IN.length e2, .slice d3 LL.length e3] := by
    rw [hW0]
    have := Bk.new (w.alloc (.cells #[.slice a1 LT.length c1, .slice a2 IN.length c2, .slice a3 LL.length c3] 40)) #[.slice d1 LT.length e1, .slice d2 IN.length e2, .slice d3 LL.length e3] 40
    rwa [World.size_alloc] at this
  have HI1 : Hid (Rd intC 1 W0 (.slice a2 IN.length c2) IN) := r2.on K0
  have HI2 : Hid (Rd intC 1 W0 (.slice d2 IN.length e2) IN) := s2.on K0
  have HT1 : Hid (Rd2 insC 9 W0 (.slice a3 LL.length c3) LL) := r3.on K0
  have HT2 : Hid (Rd2 insC 9 W0 (.slice d3 LL.length e3) LL) := s3.on K0
  clear r1 r2 r3 s1 s2 s3 h1 h2
  rw [hW0] at hb1 hb2
  go_enter Tryd.func16, Tryd.ntmps16
  go_wp2
  rw [← hW0]
  clear hb1 hb2 hW0
  go_loopg [5] IN.length (fun gg s5 wq => ∃ n : Nat, n ≤ IN.length ∧ gg = IN.length - n ∧ s5 = .int .i64 n ∧ Hid (On W0 wq))
  case atStart => exact ⟨0, Nat.zero_le _, rfl, rfl, On.refl _⟩
  case round =>
    obtain ⟨n, hn, hk, rfl, HO⟩ := hrel
    have AB := A0.on HO.out
    have DB := D0.on HO.out
    have y1 := AB.at (i := 1) rfl
    have z1 := DB.at (i := 1) rfl
    have al := AB.lt
    have dl := DB.lt
    rcases Nat.lt_or_ge n IN.length with hlt | hge
    · obtain ⟨x, hx⟩ : ∃ x, IN[n]? = some x := ⟨_, List.getElem?_eq_getElem hlt⟩
      obtain ⟨g1, o1, rfl, hg1, u1⟩ := (HI1.out.on HO.out).at hx
      obtain ⟨g2, o2, rfl, hg2, u2⟩ := (HI2.out.on HO.out).at hx
      have q1 : wr.cell? ⟨g1, o1 + n, none⟩ = some (.int .i64 x) := by have := u1 0 _ rfl; rw [Nat.mul_one, Nat.add_zero] at this; exact this
      have q2 : wr.cell? ⟨g2, o2 + n, none⟩ = some (.int .i64 x) := by have := u2 0 _ rfl; rw [Nat.mul_one, Nat.add_zero] at this; exact this
      have qS : (fun W : World => W.cell? ⟨w.heap.size, 1, none⟩ = some (.slice (some ⟨g1, o1, none⟩) IN.length c2) ∧ W.cell? ⟨w.heap.size + 1, 1, none⟩ = some (.slice (some ⟨g2, o2, none⟩) IN.length e2) ∧ W.cell? ⟨g1, o1 + n, none⟩ = some (.int .i64 x) ∧ W.cell? ⟨g2, o2 + n, none⟩ = some (.int .i64 x)) wr.drew := ⟨y1, z1, q1, q2⟩
      clear u1 u2 hx
      go_wp2
      refine region_fin (fun W => W.cell? ⟨w.heap.size, 1, none⟩ = some (.slice (some ⟨g1, o1, none⟩) IN.length c2) ∧ W.cell? ⟨w.heap.size + 1, 1, none⟩ = some (.slice (some ⟨g2, o2, none⟩) IN.length e2) ∧ W.cell? ⟨g1, o1 + n, none⟩ = some (.int .i64 x) ∧ W.cell? ⟨g2, o2 + n, none⟩ = some (.int .i64 x)) 99 11 (by kernel_rfl) rfl ?_
      refine fin_take 0 (v := ?_) rfl (by kernel_rfl) (by kernel_rfl) (by kernel_rfl) (by kernel_rfl) (fun _ _ _ h => h) rfl ?_ qS ?_
      rotate_left
      · intro W hW
        go_simp
        (try with_reducible rfl)
      simp only [Act.put, List.setIfInBounds_toArray, List.set_cons_zero, List.set_cons_succ]
      refine fin_take 1 (v := ?_) rfl (by kernel_rfl) (by kernel_rfl) (by kernel_rfl) (by kernel_rfl) (fun _ _ _ h => h) rfl ?_ qS ?_
      rotate_left
      · intro W hW
        go_simp
        (try with_reducible rfl)
      simp only [Act.put, List.setIfInBounds_toArray, List.set_cons_zero, List.set_cons_succ]
      refine fin_take 2 (v := ?_) rfl (by kernel_rfl) (by kernel_rfl) (by kernel_rfl) (by kernel_rfl) (fun _ _ _ h => h) rfl ?_ qS ?_
      rotate_left
      · intro W hW
        go_simp
        (try with_reducible rfl)
      simp only [Act.put, List.setIfInBounds_toArray, List.set_cons_zero, List.set_cons_succ]
      refine fin_take 3 (v := ?_) rfl (by kernel_rfl) (by kernel_rfl) (by kernel_rfl) (by kernel_rfl) (fun _ _ _ h => h) rfl ?_ qS ?_
      rotate_left
      · intro W hW
        go_simp
        (try with_reducible rfl)
      simp only [Act.put, List.setIfInBounds_toArray, List.set_cons_zero, List.set_cons_succ]
      refine fin_take 4 (v := ?_) rfl (by kernel_rfl) (by kernel_rfl) (by kernel_rfl) (by kernel_rfl) (fun _ _ _ h => h) rfl ?_ qS ?_
      rotate_left
      · intro W hW
        go_simp
        (try with_reducible rfl)
      simp only [Act.put, List.setIfInBounds_toArray, List.set_cons_zero, List.set_cons_succ]
      refine fin_take 5 (v := ?_) rfl (by kernel_rfl) (by kernel_rfl) (by kernel_rfl) (by kernel_rfl) (fun _ _ _ h => h) rfl ?_ qS ?_
      rotate_left
      · intro W hW
        go_simp
        (try with_reducible rfl)
      simp only [Act.put, List.setIfInBounds_toArray, List.set_cons_zero, List.set_cons_succ]
      refine fin_take 6 (v := ?_) rfl (by kernel_rfl) (by kernel_rfl) (by kernel_rfl) (by kernel_rfl) (fun _ _ _ h => h) rfl ?_ qS ?_
      rotate_left
      · intro W hW
        go_simp
        (try with_reducible rfl)
      simp only [Act.put, List.setIfInBounds_toArray, List.set_cons_zero, List.set_cons_succ]
      refine fin_take 7 (v := ?_) rfl (by kernel_rfl) (by kernel_rfl) (by kernel_rfl) (by kernel_rfl) (fun _ _ _ h => h) rfl ?_ qS ?_
      rotate_left
      · intro W hW
        go_simp
        (try with_reducible rfl)
      simp only [Act.put, List.setIfInBounds_toArray, List.set_cons_zero, List.set_cons_succ]
      refine fin_take 8 (v := ?_) rfl (by kernel_rfl) (by kernel_rfl) (by kernel_rfl) (by kernel_rfl) (fun _ _ _ h => h) rfl ?_ qS ?_
      rotate_left
      · intro W hW
        go_simp
        (try with_reducible rfl)
      simp only [Act.put, List.setIfInBounds_toArray, List.set_cons_zero, List.set_cons_succ]
      refine fin_take 9 (v := ?_) rfl (by kernel_rfl) (by kernel_rfl) (by kernel_rfl) (by kernel_rfl) (fun _ _ _ h => h) rfl ?_ qS ?_
      rotate_left
      · intro W hW
        go_simp
        (try with_reducible rfl)
      simp only [Act.put, List.setIfInBounds_toArray, List.set_cons_zero, List.set_cons_succ]
      refine fin_take 10 (v := ?_) rfl (by kernel_rfl) (by kernel_rfl) (by kernel_rfl) (by kernel_rfl) (fun _ _ _ h => h) rfl ?_ qS ?_
      rotate_left
      · intro W hW
        go_simp
        (try with_reducible rfl)
      simp only [Act.put, List.setIfInBounds_toArray, List.set_cons_zero, List.set_cons_succ]
      refine fin_done (by kernel_rfl) (NoPanic.normal ?_)
      go_wp2
      go_roundg (IN.length - (n + 1))
      case measure => omega
      case rel => exact ⟨n + 1, by omega, rfl, by go_num, HO.out.drew⟩
    · have hnn : ¬ n < IN.length := by omega
      go_wp2
      clear y1 z1 AB DB
      go_loopg [6] LL.length (fun gg s6 wq => ∃ t : Nat, t ≤ LL.length ∧ gg = LL.length - t ∧ s6 = .int .i64 t ∧ Hid (On W0 wq))
      case atStart => exact ⟨0, Nat.zero_le _, rfl, rfl, HO⟩
      case round =>
        clear HO al dl hnn hge hk hn
        obtain ⟨t, hn, hk, rfl, HO⟩ := hrel
        have AB := A0.on HO.out
        have DB := D0.on HO.out
        have y2 := AB.at (i := 2) rfl
        have z2 := DB.at (i := 2) rfl
        have al := AB.lt
        have dl := DB.lt
        rcases Nat.lt_or_ge t LL.length with hlt | hge
        · obtain ⟨R, hx⟩ : ∃ R, LL[t]? = some R := ⟨_, List.getElem?_eq_getElem hlt⟩
          obtain ⟨g1, o1, rfl, hg1, ax, cx, u1, hxm, rx⟩ := (HT1.out.on HO.out).row hx
          obtain ⟨g2, o2, rfl, hg2, ay, cy, u2, hym, ry⟩ := (HT2.out.on HO.out).row hx
          have hR1 : Hid (Rd insC 9 wr (.slice ax R.length cx) R) := rx
          have hR2 : Hid (Rd insC 9 wr (.slice ay R.length cy) R) := ry
          have qS : (fun W : World => W.cell? ⟨w.heap.size, 2, none⟩ = some (.slice (some ⟨g1, o1, none⟩) LL.length c3) ∧ W.cell? ⟨w.heap.size + 1, 2, none⟩ = some (.slice (some ⟨g2, o2, none⟩) LL.length e3) ∧ W.cell? ⟨g1, o1 + t, none⟩ = some (.slice ax R.length cx) ∧ W.cell? ⟨g2, o2 + t, none⟩ = some (.slice ay R.length cy)) wr.drew := ⟨y2, z2, u1, u2⟩
          clear hx rx ry
          go_wp2
          refine region_fin (fun W => W.cell? ⟨w.heap.size, 2, none⟩ = some (.slice (some ⟨g1, o1, none⟩) LL.length c3) ∧ W.cell? ⟨w.heap.size + 1, 2, none⟩ = some (.slice (some ⟨g2, o2, none⟩) LL.length e3) ∧ W.cell? ⟨g1, o1 + t, none⟩ = some (.slice ax R.length cx) ∧ W.cell? ⟨g2, o2 + t, none⟩ = some (.slice ay R.length cy)) 99 13 (by kernel_rfl) rfl ?_
          refine fin_take 0 (v := ?_) rfl (by kernel_rfl) (by kernel_rfl) (by kernel_rfl) (by kernel_rfl) (fun _ _ _ h => h) rfl ?_ qS ?_
          rotate_left
          · intro W hW
            go_simp
            (try with_reducible rfl)
          simp only [Act.put, List.setIfInBounds_toArray, List.set_cons_zero, List.set_cons_succ]
          refine fin_take 1 (v := ?_) rfl (by kernel_rfl) (by kernel_rfl) (by kernel_rfl) (by kernel_rfl) (fun _ _ _ h => h) rfl ?_ qS ?_
          rotate_left
          · intro W hW
            go_simp
            (try with_reducible rfl)
          simp only [Act.put, List.setIfInBounds_toArray, List.set_cons_zero, List.set_cons_succ]
          refine fin_take 2 (v := ?_) rfl (by kernel_rfl) (by kernel_rfl) (by kernel_rfl) (by kernel_rfl) (fun _ _ _ h => h) rfl ?_ qS ?_
          rotate_left
          · intro W hW
            go_simp
            (try with_reducible rfl)
          simp only [Act.put, List.setIfInBounds_toArray, List.set_cons_zero, List.set_cons_succ]
          refine fin_take 3 (v := ?_) rfl (by kernel_rfl) (by kernel_rfl) (by kernel_rfl) (by kernel_rfl) (fun _ _ _ h => h) rfl ?_ qS ?_
          rotate_left
          · intro W hW
            go_simp
            (try with_reducible rfl)
          simp only [Act.put, List.setIfInBounds_toArray, List.set_cons_zero, List.set_cons_succ]
          refine fin_take 4 (v := ?_) rfl (by kernel_rfl) (by kernel_rfl) (by kernel_rfl) (by kernel_rfl) (fun _ _ _ h => h) rfl ?_ qS ?_
          rotate_left
          · intro W hW
            go_simp
            (try with_reducible rfl)
          simp only [Act.put, List.setIfInBounds_toArray, List.set_cons_zero, List.set_cons_succ]
          refine fin_take 5 (v := ?_) rfl (by kernel_rfl) (by kernel_rfl) (by kernel_rfl) (by kernel_rfl) (fun _ _ _ h => h) rfl ?_ qS ?_
          rotate_left
          · intro W hW
            go_simp
            (try with_reducible rfl)
          simp only [Act.put, List.setIfInBounds_toArray, List.set_cons_zero, List.set_cons_succ]
          refine fin_take 6 (v := ?_) rfl (by kernel_rfl) (by kernel_rfl) (by kernel_rfl) (by kernel_rfl) (fun _ _ _ h => h) rfl ?_ qS ?_
          rotate_left
          · intro W hW
            go_simp
            (try with_reducible rfl)
          simp only [Act.put, List.setIfInBounds_toArray, List.set_cons_zero, List.set_cons_succ]
          refine fin_take 7 (v := ?_) rfl (by kernel_rfl) (by kernel_rfl) (by kernel_rfl) (by kernel_rfl) (fun _ _ _ h => h) rfl ?_ qS ?_
          rotate_left
          · intro W hW
            go_simp
            (try with_reducible rfl)
          simp only [Act.put, List.setIfInBounds_toArray, List.set_cons_zero, List.set_cons_succ]
          refine fin_take 8 (v := ?_) rfl (by kernel_rfl) (by kernel_rfl) (by kernel_rfl) (by kernel_rfl) (fun _ _ _ h => h) rfl ?_ qS ?_
          rotate_left
          · intro W hW
            go_simp
            (try with_reducible rfl)
          simp only [Act.put, List.setIfInBounds_toArray, List.set_cons_zero, List.set_cons_succ]
          refine fin_take 9 (v := ?_) rfl (by kernel_rfl) (by kernel_rfl) (by kernel_rfl) (by kernel_rfl) (fun _ _ _ h => h) rfl ?_ qS ?_
          rotate_left
          · intro W hW
            go_simp
            (try with_reducible rfl)
          simp only [Act.put, List.setIfInBounds_toArray, List.set_cons_zero, List.set_cons_succ]
          refine fin_take 10 (v := ?_) rfl (by kernel_rfl) (by kernel_rfl) (by kernel_rfl) (by kernel_rfl) (fun _ _ _ h => h) rfl ?_ qS ?_
          rotate_left
          · intro W hW
            go_simp
            (try with_reducible rfl)
          simp only [Act.put, List.setIfInBounds_toArray, List.set_cons_zero, List.set_cons_succ]
          refine fin_take 11 (v := ?_) rfl (by kernel_rfl) (by kernel_rfl) (by kernel_rfl) (by kernel_rfl) (fun _ _ _ h => h) rfl ?_ qS ?_
          rotate_left
          · intro W hW
            go_simp
            (try with_reducible rfl)
          simp only [Act.put, List.setIfInBounds_toArray, List.set_cons_zero, List.set_cons_succ]
          refine fin_take 12 (v := ?_) rfl (by kernel_rfl) (by kernel_rfl) (by kernel_rfl) (by kernel_rfl) (fun _ _ _ h => h) rfl ?_ qS ?_
          rotate_left
          · intro W hW
            go_simp
            (try with_reducible rfl)
          simp only [Act.put, List.setIfInBounds_toArray, List.set_cons_zero, List.set_cons_succ]
          refine fin_done (by kernel_rfl) (NoPanic.normal ?_)
          go_wp2
          go_loopg [7] R.length (fun gg s7 wq => ∃ m : Nat, m ≤ R.length ∧ gg = R.length - m ∧ s7 = .int .i64 m ∧ Hid (On wr wq))
          case atStart => exact ⟨0, Nat.zero_le _, rfl, rfl, (On.refl _).drew⟩
          case round =>
            obtain ⟨m, hm, hkm, rfl, HI⟩ := hrel
            have y2' := (AB.on HI.out).at (i := 2) rfl
            have z2' := (DB.on HI.out).at (i := 2) rfl
            have al' := (AB.on HI.out).lt
            have dl' := (DB.on HI.out).lt
            have u1' := (HI.out.cell (p := ⟨g1, o1 + t, none⟩) hg1).trans u1
            have u2' := (HI.out.cell (p := ⟨g2, o2 + t, none⟩) hg2).trans u2
            have hg1' : g1 < wr.heap.size := Nat.lt_of_lt_of_le hg1 HI.out.size
            have hg2' : g2 < wr.heap.size := Nat.lt_of_lt_of_le hg2 HI.out.size
            rcases Nat.lt_or_ge m R.length with hlm | hgm
            · obtain ⟨x, hx⟩ : ∃ x, R[m]? = some x := ⟨_, List.getElem?_eq_getElem hlm⟩
              obtain ⟨h1, p1, rfl, hh1, v1⟩ := (hR1.out.on HI.out).at hx
              obtain ⟨h2, p2, rfl, hh2, v2⟩ := (hR2.out.on HI.out).at hx
              have qI : (fun W : World => W.cell? ⟨w.heap.size, 2, none⟩ = some (.slice (some ⟨g1, o1, none⟩) LL.length c3) ∧ W.cell? ⟨w.heap.size + 1, 2, none⟩ = some (.slice (some ⟨g2, o2, none⟩) LL.length e3) ∧ W.cell? ⟨g1, o1 + t, none⟩ = some (.slice (some ⟨h1, p1, none⟩) R.length cx) ∧ W.cell? ⟨g2, o2 + t, none⟩ = some (.slice (some ⟨h2, p2, none⟩) R.length cy) ∧ W.cell? ⟨h1, p1 + m * 9, none⟩ = some (.int .i64 x.k) ∧ W.cell? ⟨h1, p1 + m * 9 + 1, none⟩ = some (.int .i64 x.r) ∧ W.cell? ⟨h1, p1 + m * 9 + 2, none⟩ = some (.int .i64 x.l) ∧ W.cell? ⟨h1, p1 + m * 9 + 3, none⟩ = some (.int .i64 x.a.r) ∧ W.cell? ⟨h1, p1 + m * 9 + 4, none⟩ = some (.int .i64 x.a.v) ∧ W.cell? ⟨h1, p1 + m * 9 + 5, none⟩ = some (.int .i64 x.o) ∧ W.cell? ⟨h1, p1 + m * 9 + 6, none⟩ = some (.int .i64 x.b.r) ∧ W.cell? ⟨h1, p1 + m * 9 + 7, none⟩ = some (.int .i64 x.b.v) ∧ W.cell? ⟨h1, p1 + m * 9 + 8, none⟩ = some (.int .i64 x.n) ∧ W.cell? ⟨h2, p2 + m * 9, none⟩ = some (.int .i64 x.k) ∧ W.cell? ⟨h2, p2 + m * 9 + 1, none⟩ = some (.int .i64 x.r) ∧ W.cell? ⟨h2, p2 + m * 9 + 2, none⟩ = some (.int .i64 x.l) ∧ W.cell? ⟨h2, p2 + m * 9 + 3, none⟩ = some (.int .i64 x.a.r) ∧ W.cell? ⟨h2, p2 + m * 9 + 4, none⟩ = some (.int .i64 x.a.v) ∧ W.cell? ⟨h2, p2 + m * 9 + 5, none⟩ = some (.int .i64 x.o) ∧ W.cell? ⟨h2, p2 + m * 9 + 6, none⟩ = some (.int .i64 x.b.r) ∧ W.cell? ⟨h2, p2 + m * 9 + 7, none⟩ = some (.int .i64 x.b.v) ∧ W.cell? ⟨h2, p2 + m * 9 + 8, none⟩ = some (.int .i64 x.n)) wr.drew := ⟨y2', z2', u1', u2', v1 0 _ rfl, v1 1 _ rfl, v1 2 _ rfl, v1 3 _ rfl, v1 4 _ rfl, v1 5 _ rfl, v1 6 _ rfl, v1 7 _ rfl, v1 8 _ rfl, v2 0 _ rfl, v2 1 _ rfl, v2 2 _ rfl, v2 3 _ rfl, v2 4 _ rfl, v2 5 _ rfl, v2 6 _ rfl, v2 7 _ rfl, v2 8 _ rfl⟩
              have hE := fun W => eqIns_same W x.k x.r x.l x.a.r x.a.v x.o x.b.r x.b.v x.n
              clear v1 v2 hx qS y2 z2 u1 u2
              go_wp2
              refine region_fin (fun W => W.cell? ⟨w.heap.size, 2, none⟩ = some (.slice (some ⟨g1, o1, none⟩) LL.length c3) ∧ W.cell? ⟨w.heap.size + 1, 2, none⟩ = some (.slice (some ⟨g2, o2, none⟩) LL.length e3) ∧ W.cell? ⟨g1, o1 + t, none⟩ = some (.slice (some ⟨h1, p1, none⟩) R.length cx) ∧ W.cell? ⟨g2, o2 + t, none⟩ = some (.slice (some ⟨h2, p2, none⟩) R.length cy) ∧ W.cell? ⟨h1, p1 + m * 9, none⟩ = some (.int .i64 x.k) ∧ W.cell? ⟨h1, p1 + m * 9 + 1, none⟩ = some (.int .i64 x.r) ∧ W.cell? ⟨h1, p1 + m * 9 + 2, none⟩ = some (.int .i64 x.l) ∧ W.cell? ⟨h1, p1 + m * 9 + 3, none⟩ = some (.int .i64 x.a.r) ∧ W.cell? ⟨h1, p1 + m * 9 + 4, none⟩ = some (.int .i64 x.a.v) ∧ W.cell? ⟨h1, p1 + m * 9 + 5, none⟩ = some (.int .i64 x.o) ∧ W.cell? ⟨h1, p1 + m * 9 + 6, none⟩ = some (.int .i64 x.b.r) ∧ W.cell? ⟨h1, p1 + m * 9 + 7, none⟩ = some (.int .i64 x.b.v) ∧ W.cell? ⟨h1, p1 + m * 9 + 8, none⟩ = some (.int .i64 x.n) ∧ W.cell? ⟨h2, p2 + m * 9, none⟩ = some (.int .i64 x.k) ∧ W.cell? ⟨h2, p2 + m * 9 + 1, none⟩ = some (.int .i64 x.r) ∧ W.cell? ⟨h2, p2 + m * 9 + 2, none⟩ = some (.int .i64 x.l) ∧ W.cell? ⟨h2, p2 + m * 9 + 3, none⟩ = some (.int .i64 x.a.r) ∧ W.cell? ⟨h2, p2 + m * 9 + 4, none⟩ = some (.int .i64 x.a.v) ∧ W.cell? ⟨h2, p2 + m * 9 + 5, none⟩ = some (.int .i64 x.o) ∧ W.cell? ⟨h2, p2 + m * 9 + 6, none⟩ = some (.int .i64 x.b.r) ∧ W.cell? ⟨h2, p2 + m * 9 + 7, none⟩ = some (.int .i64 x.b.v) ∧ W.cell? ⟨h2, p2 + m * 9 + 8, none⟩ = some (.int .i64 x.n)) 99 17 (by kernel_rfl) rfl ?_
              refine fin_take 0 (v := ?_) rfl (by kernel_rfl) (by kernel_rfl) (by kernel_rfl) (by kernel_rfl) (fun _ _ _ h => h) rfl ?_ qI ?_
              rotate_left
              · intro W hW
                go_simp
                (try with_reducible rfl)
              simp only [Act.put, List.setIfInBounds_toArray, List.set_cons_zero, List.set_cons_succ]
              refine fin_take 1 (v := ?_) rfl (by kernel_rfl) (by kernel_rfl) (by kernel_rfl) (by kernel_rfl) (fun _ _ _ h => h) rfl ?_ qI ?_
              rotate_left
              · intro W hW
                go_simp
                (try with_reducible rfl)
              simp only [Act.put, List.setIfInBounds_toArray, List.set_cons_zero, List.set_cons_succ]
              refine fin_take 2 (v := ?_) rfl (by kernel_rfl) (by kernel_rfl) (by kernel_rfl) (by kernel_rfl) (fun _ _ _ h => h) rfl ?_ qI ?_
              rotate_left
              · intro W hW
                go_simp
                (try with_reducible rfl)
              simp only [Act.put, List.setIfInBounds_toArray, List.set_cons_zero, List.set_cons_succ]
              refine fin_take 3 (v := ?_) rfl (by kernel_rfl) (by kernel_rfl) (by kernel_rfl) (by kernel_rfl) (fun _ _ _ h => h) rfl ?_ qI ?_
              rotate_left
              · intro W hW
                go_simp
                (try with_reducible rfl)
              simp only [Act.put, List.setIfInBounds_toArray, List.set_cons_zero, List.set_cons_succ]
              refine fin_take 4 (v := ?_) rfl (by kernel_rfl) (by kernel_rfl) (by kernel_rfl) (by kernel_rfl) (fun _ _ _ h => h) rfl ?_ qI ?_
              rotate_left
              · intro W hW
                go_simp
                (try with_reducible rfl)
              simp only [Act.put, List.setIfInBounds_toArray, List.set_cons_zero, List.set_cons_succ]
              refine fin_take 5 (v := ?_) rfl (by kernel_rfl) (by kernel_rfl) (by kernel_rfl) (by kernel_rfl) (fun _ _ _ h => h) rfl ?_ qI ?_
              rotate_left
              · intro W hW
                go_simp
                (try with_reducible rfl)
              simp only [Act.put, List.setIfInBounds_toArray, List.set_cons_zero, List.set_cons_succ]
              refine fin_take 6 (v := ?_) rfl (by kernel_rfl) (by kernel_rfl) (by kernel_rfl) (by kernel_rfl) (fun _ _ _ h => h) rfl ?_ qI ?_
              rotate_left
              · intro W hW
                go_simp
                (try with_reducible rfl)
              simp only [Act.put, List.setIfInBounds_toArray, List.set_cons_zero, List.set_cons_succ]
              refine fin_take 7 (v := ?_) rfl (by kernel_rfl) (by kernel_rfl) (by kernel_rfl) (by kernel_rfl) (fun _ _ _ h => h) rfl ?_ qI ?_
              rotate_left
              · intro W hW
                go_simp
                (try with_reducible rfl)
              simp only [Act.put, List.setIfInBounds_toArray, List.set_cons_zero, List.set_cons_succ]
              refine fin_take 8 (v := ?_) rfl (by kernel_rfl) (by kernel_rfl) (by kernel_rfl) (by kernel_rfl) (fun _ _ _ h => h) rfl ?_ qI ?_
              rotate_left
              · intro W hW
                go_simp
                (try with_reducible rfl)
              simp only [Act.put, List.setIfInBounds_toArray, List.set_cons_zero, List.set_cons_succ]
              refine fin_take 9 (v := ?_) rfl (by kernel_rfl) (by kernel_rfl) (by kernel_rfl) (by kernel_rfl) (fun _ _ _ h => h) rfl ?_ qI ?_
              rotate_left
              · intro W hW
                go_simp
                (try with_reducible rfl)
              simp only [Act.put, List.setIfInBounds_toArray, List.set_cons_zero, List.set_cons_succ]
              refine fin_take 10 (v := ?_) rfl (by kernel_rfl) (by kernel_rfl) (by kernel_rfl) (by kernel_rfl) (fun _ _ _ h => h) rfl ?_ qI ?_
              rotate_left
              · intro W hW
                go_simp
                (try with_reducible rfl)
              simp only [Act.put, List.setIfInBounds_toArray, List.set_cons_zero, List.set_cons_succ]
              refine fin_take 11 (v := ?_) rfl (by kernel_rfl) (by kernel_rfl) (by kernel_rfl) (by kernel_rfl) (fun _ _ _ h => h) rfl ?_ qI ?_
              rotate_left
              · intro W hW
                go_simp
                (try with_reducible rfl)
              simp only [Act.put, List.setIfInBounds_toArray, List.set_cons_zero, List.set_cons_succ]
              refine fin_take 12 (v := ?_) rfl (by kernel_rfl) (by kernel_rfl) (by kernel_rfl) (by kernel_rfl) (fun _ _ _ h => h) rfl ?_ qI ?_
              rotate_left
              · intro W hW
                go_simp
                (try with_reducible rfl)
              simp only [Act.put, List.setIfInBounds_toArray, List.set_cons_zero, List.set_cons_succ]
              refine fin_take 13 (v := ?_) rfl (by kernel_rfl) (by kernel_rfl) (by kernel_rfl) (by kernel_rfl) (fun _ _ _ h => h) rfl ?_ qI ?_
              rotate_left
              · intro W hW
                go_simp
                (try with_reducible rfl)
              simp only [Act.put, List.setIfInBounds_toArray, List.set_cons_zero, List.set_cons_succ]
              refine fin_take 14 (v := ?_) rfl (by kernel_rfl) (by kernel_rfl) (by kernel_rfl) (by kernel_rfl) (fun _ _ _ h => h) rfl ?_ qI ?_
              rotate_left
              · intro W hW
                go_simp
                (try with_reducible rfl)
              simp only [Act.put, List.setIfInBounds_toArray, List.set_cons_zero, List.set_cons_succ]
              refine fin_take 15 (v := ?_) rfl (by kernel_rfl) (by kernel_rfl) (by kernel_rfl) (by kernel_rfl) (fun _ _ _ h => h) rfl ?_ qI ?_
              rotate_left
              · intro W hW
                go_simp
                (try with_reducible rfl)
              simp only [Act.put, List.setIfInBounds_toArray, List.set_cons_zero, List.set_cons_succ]
              refine fin_take 16 (v := ?_) rfl (by kernel_rfl) (by kernel_rfl) (by kernel_rfl) (by kernel_rfl) (fun _ _ _ h => h) rfl ?_ qI ?_
              rotate_left
              · intro W hW
                go_simp
                (try with_reducible rfl)
              simp only [Act.put, List.setIfInBounds_toArray, List.set_cons_zero, List.set_cons_succ]
              refine fin_done (by kernel_rfl) (NoPanic.normal ?_)
              go_wp2
              go_roundg (R.length - (m + 1))
              case measure => omega
              case rel => exact ⟨m + 1, by omega, rfl, by go_num, HI.out.drew⟩
            · have hmm : ¬ m < R.length := by omega
              clear qS y2 z2 u1 u2
              go_wp2
              go_roundg (LL.length - (t + 1))
              case measure => omega
              case rel => exact ⟨t + 1, by omega, rfl, by go_num, HO.out.trans HI.out⟩
        · have hnn : ¬ t < LL.length := by omega
          go_wp2
          go_ret
          exact ⟨rfl, K0.trans HO.out⟩
end Go.Proofs.YtengdlchglkkjaaDoor
