/- print.Same. -/
import Derived.Test.YtacflahkofmcpaaGreatDoorJ20WlPsP
import Derived.Deep.DeepCutAuto
import Derived.Test.YtacflahkofmcpaaGreatDoorJ19WlTokL
namespace Go.Proofs.YtacflahkofmcpaaGreatDoor.Wl
open Go.RowKit

set_option maxHeartbeats 8000000 in
set_option maxRecDepth 8000 in
theorem psame_is (a b : TestT) (va vb : Value) (w : World) (h : TestRd w va a) (h' : TestRd w vb b) :
    Calls Tryz.prog 17 #[va, vb] w fun e w' => e = .returned (.bool (sameT a b)) ∧ On w w' := by
  obtain ⟨a1, c1, a2, c2, a3, c3, rfl, hna, r1, r2, r3⟩ := h.ex
  obtain ⟨b1, d1, b2, d2, b3, d3, rfl, hnb, s1, s2, s3⟩ := h'.ex
  have hI := fun W (k : On w W) => sEqIni_is a.ini b.ini a1 b1 c1 d1 W (r1.on k) (s1.on k)
  have hT := fun W (k : On w W) => sFnIns_is a.thr b.thr a2 b2 c2 d2 W (r2.on k) (s2.on k)
  have hC := fun W (k : On w W) => sFnAtm_is a.cond.any b.cond.any a3 b3 c3 d3 W (r3.on k) (s3.on k)
  unfold sameT
  obtain ⟨W0, hW0⟩ : ∃ W0, W0 = (w.alloc (.cells #[.string a.name, .slice a1 a.ini.length c1, .slice a2 a.thr.length c2, .int .i64 a.cond.k, .slice a3 a.cond.any.length c3] 28)).alloc (.cells #[.string b.name, .slice b1 b.ini.length d1, .slice b2 b.thr.length d2, .int .i64 b.cond.k, .slice b3 b.cond.any.length d3] 28) := ⟨_, rfl⟩
  have K0 : On w W0 := by rw [hW0]; exact ((On.refl w).alloc _).alloc _
  have A0 : Bk W0 w.heap.size #[.string a.name, .slice a1 a.ini.length c1, .slice a2 a.thr.length c2, .int .i64 a.cond.k, .slice a3 a.cond.any.length c3] := by rw [hW0]; exact (Bk.new w _ _).alloc _
  have B0 : Bk W0 (w.heap.size + 1) #[.string b.name, .slice b1 b.ini.length d1, .slice b2 b.thr.length d2, .int .i64 b.cond.k, .slice b3 b.cond.any.length d3] := by
    rw [hW0]
    have := Bk.new (w.alloc (.cells #[.string a.name, .slice a1 a.ini.length c1, .slice a2 a.thr.length c2, .int .i64 a.cond.k, .slice a3 a.cond.any.length c3] 28)) #[.string b.name, .slice b1 b.ini.length d1, .slice b2 b.thr.length d2, .int .i64 b.cond.k, .slice b3 b.cond.any.length d3] 28
    rwa [World.size_alloc] at this
  generalize eqL iniE2 a.ini b.ini = I at *
  generalize eqL (eqL insE2) a.thr b.thr = T at *
  generalize eqL (eqL atmE2) a.cond.any b.cond.any = C at *
  clear r1 r2 r3 s1 s2 s3 h h'
  obtain ⟨an, ai, ats, ⟨ak, aa⟩⟩ := a
  obtain ⟨bn, bi, bt, ⟨bk, ba⟩⟩ := b
  simp only at *
  generalize ai.length = m1 at *
  generalize ats.length = m2 at *
  generalize aa.length = m3 at *
  generalize bi.length = n1 at *
  generalize bt.length = n2 at *
  generalize ba.length = n3 at *
  obtain ⟨R, hR⟩ : ∃ R, R = ((an.toList == bn.toList) && (I && (T && ((ak == bk) && C)))) := ⟨_, rfl⟩
  rw [← hR]
  have HR : Hid (R = ((an.toList == bn.toList) && (I && (T && ((ak == bk) && C))))) := hR
  clear hR
  have x0 := A0.at (i := 0) rfl
  have x1 := A0.at (i := 1) rfl
  have x2 := A0.at (i := 2) rfl
  have x3 := A0.at (i := 3) rfl
  have x4 := A0.at (i := 4) rfl
  have xl := A0.lt
  have y0 := B0.at (i := 0) rfl
  have y1 := B0.at (i := 1) rfl
  have y2 := B0.at (i := 2) rfl
  have y3 := B0.at (i := 3) rfl
  have y4 := B0.at (i := 4) rfl
  have yl := B0.lt
  go_enter Tryz.func17, Tryz.ntmps17
  go_upto_region 1 with fail
  rw [← hW0]
  clear hW0
  cases hn : (an.toList == bn.toList) with
  | true =>
    go_wp2_with fail
    refine (hI _ K0).mono ?_
    rintro _ w1 ⟨rfl, k1⟩
    have K1 := K0.trans k1
    have A1 := A0.on k1
    have B1 := B0.on k1
    clear x0 x1 x2 x3 x4 xl y0 y1 y2 y3 y4 yl hI k1 A0 B0
    cases I with
    | false =>
      obtain rfl : R = false := by rw [HR.out, hn]; simp
      go_wp2
      go_ret
      exact ⟨rfl, K1⟩
    | true =>
      have x2 := A1.at (i := 2) rfl
      have xl := A1.lt
      have y2 := B1.at (i := 2) rfl
      have yl := B1.lt
      go_wp2_with fail
      refine (hT _ K1).mono ?_
      rintro _ w2 ⟨rfl, k2⟩
      have K2 := K1.trans k2
      have A2 := A1.on k2
      have B2 := B1.on k2
      clear x2 xl y2 yl hT k2 A1 B1
      cases T with
      | false =>
        obtain rfl : R = false := by rw [HR.out, hn]; simp
        go_wp2
        go_ret
        exact ⟨rfl, K2⟩
      | true =>
        have x3 := A2.at (i := 3) rfl
        have x4 := A2.at (i := 4) rfl
        have xl := A2.lt
        have y3 := B2.at (i := 3) rfl
        have y4 := B2.at (i := 4) rfl
        have yl := B2.lt
        cases hk : (ak == bk) with
        | false =>
          obtain rfl : R = false := by rw [HR.out, hn, hk]; simp
          go_wp2
          go_ret
          exact ⟨rfl, K2⟩
        | true =>
          obtain rfl : R = C := by rw [HR.out, hn, hk]; simp
          go_wp2_with fail
          refine (hC _ K2).mono ?_
          rintro _ w3 ⟨rfl, k3⟩
          go_wp2
          go_ret
          exact ⟨rfl, K2.trans k3⟩
  | false =>
    obtain rfl : R = false := by rw [HR.out, hn, Bool.false_and]
    go_wp2
    go_ret
    exact ⟨rfl, K0⟩
end Go.Proofs.YtacflahkofmcpaaGreatDoor.Wl

namespace Go.Proofs.YtacflahkofmcpaaGreatDoor.Wl
open Go.RowKit

theorem putAt_left : ∀ (vs a s : List Value) (o : Nat), o + vs.length ≤ a.length → putAt (a ++ s) o vs = putAt a o vs ++ s
  | [], _, _, _, _ => rfl
  | v :: vs, a, s, o, h => by
    simp only [List.length_cons] at h
    rw [putAt, putAt, List.set_append_left _ _ (by omega)]
    exact putAt_left vs _ _ _ (by simp; omega)
theorem heap_put {w : World} {N : Nat} {cs : List Value} {T : TypeId} (h : w.heap[N]? = some (.cells cs.toArray T (0, 0))) (o : Nat) (v : Value) : (w.setCell ⟨N, o, none⟩ v).heap[N]? = some (.cells (cs.set o v).toArray T (0, 0)) := by
  have hs : (cs.set o v).toArray = cs.toArray.setIfInBounds o v := by simp
  rw [hs]
  simp [World.setCell, Array.getElem?_modify, h]
theorem heap_puts {N : Nat} {T : TypeId} : ∀ (vs : List Value) (w : World) (cs : List Value) (o : Nat), w.heap[N]? = some (.cells cs.toArray T (0, 0)) → (putCells w N o vs).heap[N]? = some (.cells (putAt cs o vs).toArray T (0, 0))
  | [], _, _, _, h => h
  | v :: vs, _, _, o, h => heap_puts vs _ _ _ (heap_put h o v)
theorem len_puts : ∀ (vs cs : List Value) (o : Nat), (putAt cs o vs).length = cs.length
  | [], _, _ => rfl
  | v :: vs, cs, o => (len_puts vs _ _).trans (by simp)
theorem Wa.puts {w x : World} {N : Nat} : ∀ (vs : List Value) (w : World) (o : Nat), Wa N x w → Wa N x (putCells w N o vs)
  | [], _, _, h => h
  | v :: vs, _, o, h => Wa.puts (w := w) vs _ _ (h.setAt o v)
theorem row_put {w : World} {base c g k : Nat} {e : TypeId} {L : List InsT} (h : w.ownsRow base e 9 (.slice (some ⟨g, 0, none⟩) L.length c) L.length (L.flatMap insC)) (hk : k < L.length) (x : InsT) :
    (putCells w g (k * 9) (insC x)).ownsRow base e 9 (.slice (some ⟨g, 0, none⟩) L.length c) L.length ((L.set k x).flatMap insC) := by
  rcases h.2 with ⟨_, h0⟩ | ⟨g', cap, cur, hv, hb, hh, hc, hm, hs, ht⟩
  · omega
  · simp only [Value.slice.injEq, Option.some.injEq, Addr.mk.injEq] at hv
    obtain ⟨⟨rfl, _, _⟩, _, rfl⟩ := hv
    have hl : (L.flatMap insC).length = L.length * 9 := h.1
    have e1 : cur.toList = L.flatMap insC ++ cur.toList.drop (L.length * 9) := by rw [← ht, List.take_append_drop]
    have hh' : w.heap[g]? = some (.cells cur.toList.toArray e (0, 0)) := by simpa using hh
    have hp := heap_puts (insC x) w _ (k * 9) hh'
    have h9 : (insC x).length = 9 := rfl
    have hkk : k * 9 + 9 ≤ L.length * 9 := by omega
    rw [e1, putAt_left _ _ _ _ (by rw [h9, hl]; exact hkk), putAt_flat insC 9 (fun _ => rfl) L k x hk] at hp
    have hl2 : ((L.set k x).flatMap insC).length = L.length * 9 := by
      rw [← putAt_flat insC 9 (fun _ => rfl) L k x hk, len_puts]; exact hl
    refine ⟨hl2, Or.inr ⟨g, c, _, rfl, hb, hp, hc, hm, ?_, ?_⟩⟩
    · have hz : cur.toList.length = c * 9 := by simpa using hs
      rw [e1, List.length_append, hl] at hz
      simp only [List.size_toArray, List.length_append, hl2]
      exact hz
    · simp only []
      rw [List.take_left' hl2]
end Go.Proofs.YtacflahkofmcpaaGreatDoor.Wl
