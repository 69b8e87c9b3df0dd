/- event.Unfold for every program that lies in memory. -/
import Derived.Test.YtioiabfheeglgaaGreatDoorJ19EvB
import Derived.BigQuiet
namespace Go.Proofs.YtioiabfheeglgaaGreatDoor
open Go.RowKit

/-- The instruction that is read, as cells. -/
def nxC (o : Option InsT) : Array Value := (insC (o.getD insZ)).toArray
set_option maxHeartbeats 4000000 in
set_option maxRecDepth 8000 in
theorem unfold_is (LL : List (List InsT)) (t : Int) (rs : List Int) (ar : Option Addr) (cr : Nat) (v : Value) (w : World) (h : ProgRd w v LL) (hr : Rd intC 1 w (.slice ar rs.length cr) rs) (hL : (threadP LL t).length ≤ 1000000) :
  Calls Tryz.prog 24 #[v, .int .i64 t, .slice ar rs.length cr] w fun e w' => ∃ a c, e = .returned (.tuple #[.slice a (unfP (threadP LL t) t rs).1.length c, locV (unfP (threadP LL t) t rs).2.1, .bool (unfP (threadP LL t) t rs).2.2]) ∧ w'.ownsRow w.heap.size 58 6 (.slice a (unfP (threadP LL t) t rs).1.length c) (unfP (threadP LL t) t rs).1.length ((unfP (threadP LL t) t rs).1.flatMap evC) ∧ On w w' := by
 obtain ⟨i0, hi0, hz0, hz1, hz2⟩ := info_parts infoEv
 have hSt := fun W (k : On w W) => start_is LL t v W (h.on k)
 have hNx := fun l W (k : On w W) => pnext_is LL t l v W (h.on k)
 have hAf := fun l rv W (k : On w W) => after_is LL t l rv v W (h.on k)
 obtain ⟨a1, m1, c1, a2, m2, c2, a, c, rfl, r⟩ := h
 obtain ⟨_, _, _, _, hmr⟩ := hr.slice
 have HR : Hid (Rd intC 1 w (.slice ar rs.length cr) rs) := hr
 clear r hr
 unfold unfP
 generalize threadP LL t = L at *
 obtain ⟨E, hE⟩ : ∃ E, E = (unfN (L.length + 1) L t (startP L) 0 rs).1 := ⟨_, rfl⟩
 obtain ⟨EL, hEL⟩ : ∃ EL, EL = (unfN (L.length + 1) L t (startP L) 0 rs).2.1 := ⟨_, rfl⟩
 obtain ⟨MB, hMB⟩ : ∃ MB, MB = (unfN (L.length + 1) L t (startP L) 0 rs).2.2 := ⟨_, rfl⟩
 rw [← hE, ← hEL, ← hMB]
 have hst0 := start_on L
 obtain ⟨⟨pc, q0, q1, q2, q3⟩, hl0⟩ : ∃ l0, startP L = l0 := ⟨_, rfl⟩
 rw [hl0] at hSt hE hEL hMB hst0
 have HU : Hid (E = (unfN (L.length + 1) L t ⟨pc, q0, q1, q2, q3⟩ 0 rs).1 ∧ EL = (unfN (L.length + 1) L t ⟨pc, q0, q1, q2, q3⟩ 0 rs).2.1 ∧ MB = (unfN (L.length + 1) L t ⟨pc, q0, q1, q2, q3⟩ 0 rs).2.2) := ⟨hE, hEL, hMB⟩
 clear hE hEL hMB hl0
 have hN0 := fun W k => hNx ⟨pc, q0, q1, q2, q3⟩ W k
 unfold nextV insV at hN0
 obtain ⟨X, hX⟩ : ∃ X, X = nextP L ⟨pc, q0, q1, q2, q3⟩ := ⟨_, rfl⟩
 rw [← hX] at hN0
 have HX : Hid (X = nextP L ⟨pc, q0, q1, q2, q3⟩) := hX
 clear hX
 unfold locV at hSt hN0
 have k0 : ∀ A B, On w ((w.alloc A).alloc B) := fun A B => ((On.refl w).alloc A).alloc B
 have bp : ∀ cs T B, Bk ((w.alloc (.cells cs T)).alloc B) w.heap.size cs := fun cs T B => (Bk.new w cs T).alloc B
 have bl : ∀ A cs T, Bk ((w.alloc A).alloc (.cells cs T)) (w.heap.size + 1) cs := fun A cs T => by have := Bk.new (w.alloc A) cs T; rwa [World.size_alloc] at this
 go_enter Tryz.func24, Tryz.ntmps24
 go_wp2_with fail
 refine (hSt _ (k0 _ _)).mono ?_
 rintro _ w1 ⟨rfl, k1⟩
 have P1 := (bp _ _ _).on k1
 have L1 : Bk w1 (w.heap.size + 1) _ := (bl _ _ _).on k1
 have K1 := (k0 _ _).trans k1
 have p0 := P1.at (i := 0) rfl
 have p1 := P1.at (i := 1) rfl
 have p2 := P1.at (i := 2) rfl
 have pl := P1.lt
 have y0 := L1.at (i := 0) rfl
 have y1 := L1.at (i := 1) rfl
 have y2 := L1.at (i := 2) rfl
 have y3 := L1.at (i := 3) rfl
 have y4 := L1.at (i := 4) rfl
 have yf := fun i => L1.fr i
 have yl := L1.lt
 clear hSt k0 bp bl k1
 go_wp2_with fail
 refine (hN0 _ (by repeat' (first | with_reducible refine On.setNew ?_ (by omega) _ | with_reducible exact K1))).mono ?_
 rintro _ w2 ⟨rfl, k2⟩
 have P2 := Bk.on (Bk.fars (by omega : w.heap.size + 1 ≠ w.heap.size) [.int .i64 pc, .int .i64 q0, .int .i64 q1, .int .i64 q2, .int .i64 q3] w1 #[.slice a1 m1 c1, .slice a2 m2 c2, .slice a LL.length c] 0 P1) k2
 have L2 := Bk.on (Bk.puts [.int .i64 pc, .int .i64 q0, .int .i64 q1, .int .i64 q2, .int .i64 q3] w1 [.int .i64 0, .int .i64 0, .int .i64 0, .int .i64 0, .int .i64 0] 0 L1) k2
 have K2 : On w w2 := (On.puts (by omega : w.heap.size ≤ w.heap.size + 1) [.int .i64 pc, .int .i64 q0, .int .i64 q1, .int .i64 q2, .int .i64 q3] w1 0 K1).trans k2
 have hs2 := L2.lt
 clear p0 p1 p2 pl y0 y1 y2 y3 y4 yf yl hN0 k2 P1 L1 K1
 go_wp2
 go_loopg [2, 6, 9, 10] (L.length + 1) (fun gg s2 s6 s9 s10 wq => ∃ (l : LocT) (A : List EvT) (R : List Int) (b2 : Option Addr) (d2 : Nat) (b6 : Option Addr) (d6 N9 : Nat), s2 = .slice b2 R.length d2 ∧ s6 = .slice b6 A.length d6 ∧ s9 = .pointer (some ⟨N9, 0, none⟩) ∧ s10 = .bool (nextP L l).isSome ∧ Hid (Rd intC 1 w (.slice b2 R.length d2) R) ∧ wq.ownsRow (w.heap.size + 1 + 1) 58 6 (.slice b6 A.length d6) A.length (A.flatMap evC) ∧ Hid (On w wq) ∧ Bk wq w.heap.size #[.slice a1 m1 c1, .slice a2 m2 c2, .slice a LL.length c] ∧ Bk wq (w.heap.size + 1) #[.int .i64 l.pc, .int .i64 l.r0, .int .i64 l.r1, .int .i64 l.r2, .int .i64 l.r3] ∧ wq.heap[N9]? = some (.cells (nxC (nextP L l)) 67 (0, 0)) ∧ w.heap.size + 1 < N9 ∧ Hid (0 ≤ l.pc ∧ (L.length : Int) + 1 ≤ gg + l.pc ∧ (A.length : Int) ≤ l.pc) ∧ Hid (E = A ++ (unfN gg L t l A.length R).1 ∧ EL = (unfN gg L t l A.length R).2.1 ∧ MB = (unfN gg L t l A.length R).2.2))
 case atStart =>
  exact ⟨⟨pc, q0, q1, q2, q3⟩, [], rs, ar, cr, none, 0, w2.heap.size, rfl, rfl, rfl, by rw [← HX.out], HR, World.ownsRow_nil _ _ _ _, K2.alloc _, P2.alloc _, L2.alloc _, by rw [← HX.out]; exact heap_alloc_new w2 _, by omega, ⟨hst0, by show (L.length : Int) + 1 ≤ ((L.length + 1 : Nat) : Int) + pc; omega, hst0⟩, HU⟩
 case round =>
  clear HU HX P2 L2 K2 HR hs2 hst0
  obtain ⟨⟨pc, q0, q1, q2, q3⟩, A, R, b2, d2, b6, d6, N9, rfl, rfl, rfl, rfl, HR, hown, HO, PB, LB, NB, hN9, hb, HU⟩ := hrel
  simp only at PB LB
  have p0 := PB.at (i := 0) rfl
  have p1 := PB.at (i := 1) rfl
  have p2 := PB.at (i := 2) rfl
  have pl := PB.lt
  have y0 := LB.at (i := 0) rfl
  have y1 := LB.at (i := 1) rfl
  have y2 := LB.at (i := 2) rfl
  have y3 := LB.at (i := 3) rfl
  have y4 := LB.at (i := 4) rfl
  have yf := fun i => LB.fr i
  have yl := LB.lt
  cases hx : nextP L ⟨pc, q0, q1, q2, q3⟩ with
  | none =>
   rw [unf_none hx] at HU
   obtain rfl : A = E := by have := HU.out.1; simpa using this.symm
   obtain ⟨hE', rfl, rfl⟩ := HU.out
   clear hE' HU
   (try simp only)
   rw [hx] at NB
   clear hNx hAf
   go_wp2
   go_region
   go_wp2
   refine bodyPost_ret (v := .tuple #[.slice b6 A.length d6, .agg #[.int .i64 pc, .int .i64 q0, .int .i64 q1, .int .i64 q2, .int .i64 q3], .bool false]) ?_ rfl ⟨b6, d6, ?_, ?_, ?_⟩
   ·
    rw [results_scs rfl]
    go_simp
   ·
    simp only [locV]
   ·
    refine own_mono (base := w.heap.size + 1 + 1) ?_ (by omega)
    repeat' (first | with_reducible refine own_drew ?_ | with_reducible refine own_set ?_ (by omega) _ _ | with_reducible exact hown)
   ·
    repeat' (first | with_reducible refine On.drew ?_ | with_reducible refine On.setNew ?_ (by omega) _ | with_reducible exact HO.out)

  | some x =>
   have hpc := next_at hx
   obtain ⟨hb0, hb1, hb2⟩ := hb.out
   simp only at hpc hb0 hb1 hb2
   rw [hx] at NB
   have NB' : wr.heap[N9]? = some (.cells #[.int .i64 x.k, .int .i64 x.r, .int .i64 x.l, .int .i64 x.a.r, .int .i64 x.a.v, .int .i64 x.o, .int .i64 x.b.r, .int .i64 x.b.v, .int .i64 x.n] 67 (0, 0)) := NB
   have IB : Bk wr N9 #[.int .i64 x.k, .int .i64 x.r, .int .i64 x.l, .int .i64 x.a.r, .int .i64 x.a.v, .int .i64 x.o, .int .i64 x.b.r, .int .i64 x.b.v, .int .i64 x.n] := ⟨_, NB'⟩
   clear NB
   have x0 := IB.at (i := 0) rfl
   have x1 := IB.at (i := 1) rfl
   have x2 := IB.at (i := 2) rfl
   have x3 := IB.at (i := 3) rfl
   have x4 := IB.at (i := 4) rfl
   have x5 := IB.at (i := 5) rfl
   have x6 := IB.at (i := 6) rfl
   have x7 := IB.at (i := 7) rfl
   have x8 := IB.at (i := 8) rfl
   have xl := IB.lt
   have hAsk := fun W => asks_is x W
   have hDn := fun v W => done_is x ⟨pc, q0, q1, q2, q3⟩ v W
   obtain ⟨n, hn⟩ : ∃ n, gk = n + 1 := ⟨gk - 1, by omega⟩
   unfold insV locV at hDn
   unfold insV at hAsk
   rw [hn] at HU
   have HN : Hid (gk = n + 1) := hn
   have hb3 : (L.length : Int) ≤ n + pc := by omega
   clear hn hb
   cases hq : readB x.k with
   | true =>
    rw [hq] at hAsk
    cases R with
    | nil =>
     have hv : valP x [] = none := by unfold valP; rw [hq]; rfl
     rw [unf_more hx hv] at HU
     obtain rfl : A = E := by have := HU.out.1; simpa using this.symm
     obtain ⟨hE', rfl, rfl⟩ := HU.out
     clear hE' HU
     (try simp only)
     clear hNx hAf hv hDn
     go_wp2_with fail
     refine (hAsk _).mono ?_
     rintro _ w3 ⟨rfl, k3⟩
     replace hown := own_on hown k3
     replace LB := LB.on k3
     have K3 : Hid (On w w3) := HO.out.trans k3
     clear y0 y1 y2 y3 y4 yf yl
     have y0 := LB.at (i := 0) rfl
     have y1 := LB.at (i := 1) rfl
     have y2 := LB.at (i := 2) rfl
     have y3 := LB.at (i := 3) rfl
     have y4 := LB.at (i := 4) rfl
     have yf := fun i => LB.fr i
     have yl := LB.lt
     go_wp2
     go_region
     go_wp2
     refine bodyPost_ret (v := .tuple #[.slice b6 A.length d6, .agg #[.int .i64 pc, .int .i64 q0, .int .i64 q1, .int .i64 q2, .int .i64 q3], .bool true]) ?_ rfl ⟨b6, d6, ?_, ?_, ?_⟩
     ·
      rw [results_scs rfl]
      go_simp
     ·
      simp only [locV]
     ·
      refine own_mono (base := w.heap.size + 1 + 1) ?_ (by omega)
      repeat' (first | with_reducible refine own_drew ?_ | with_reducible refine own_set ?_ (by omega) _ _ | with_reducible exact hown)
     ·
      repeat' (first | with_reducible refine On.drew ?_ | with_reducible refine On.setNew ?_ (by omega) _ | with_reducible exact K3.out)

    | cons vv R =>
     have hv : valP x (vv :: R) = some (vv, R) := by unfold valP; rw [hq]; rfl
     rw [unf_some hx hv] at HU
     simp only [List.length_cons] at HR ⊢
     obtain ⟨g, off, cap, rfl, rfl, hcap, hg, hcell, hRd⟩ := HR.out.pop
     have HQ : Hid (Rd intC 1 w (.slice (some ⟨g, off + 1, none⟩) R.length cap) R) := hRd
     clear hv HR hRd hmr
     go_wp2_with fail
     refine (hAsk _).mono ?_
     rintro _ w3 ⟨rfl, k3⟩
     have hcell3 : w3.cell? ⟨g, off, none⟩ = some (.int .i64 vv) := ((HO.out.trans k3).cell (p := ⟨g, off, none⟩) hg).trans hcell
     have hg3 := Nat.lt_of_lt_of_le hg (HO.out.trans k3).size
     clear hcell hg
     rcases Nat.eq_zero_or_pos cap with h0 | h0
     ·
      subst h0
      obtain rfl : R = [] := List.eq_nil_of_length_eq_zero (by omega)
      clear HQ
      have HQ : Hid (Rd intC 1 w (.slice (some ⟨g, off, none⟩) 0 0) []) := Rd.nilAt _ _ _ _ _
      clear hAsk
      have P3 := PB.on k3
      have L3 := LB.on k3
      have N3 := Ty.on NB' k3
      have own3 := own_on hown k3
      have K3 := HO.out.trans k3
      have I3 : Bk w3 N9 #[.int .i64 x.k, .int .i64 x.r, .int .i64 x.l, .int .i64 x.a.r, .int .i64 x.a.v, .int .i64 x.o, .int .i64 x.b.r, .int .i64 x.b.v, .int .i64 x.n] := ⟨_, N3⟩
      clear x0 x1 x2 x3 x4 x5 x6 x7 x8 xl y0 y1 y2 y3 y4 yf yl p0 p1 p2 pl
      have p0 := P3.at (i := 0) rfl
      have p1 := P3.at (i := 1) rfl
      have p2 := P3.at (i := 2) rfl
      have pl := P3.lt
      have y0 := L3.at (i := 0) rfl
      have y1 := L3.at (i := 1) rfl
      have y2 := L3.at (i := 2) rfl
      have y3 := L3.at (i := 3) rfl
      have y4 := L3.at (i := 4) rfl
      have yf := fun i => L3.fr i
      have yl := L3.lt
      have x0 := I3.at (i := 0) rfl
      have x1 := I3.at (i := 1) rfl
      have x2 := I3.at (i := 2) rfl
      have x3 := I3.at (i := 3) rfl
      have x4 := I3.at (i := 4) rfl
      have x5 := I3.at (i := 5) rfl
      have x6 := I3.at (i := 6) rfl
      have x7 := I3.at (i := 7) rfl
      have x8 := I3.at (i := 8) rfl
      have xl := I3.lt
      clear PB LB IB NB' hown
      have hD := fun W => hDn vv W
      obtain ⟨D, hD0⟩ : ∃ D, D = doneP x ⟨pc, q0, q1, q2, q3⟩ vv := ⟨_, rfl⟩
      rw [← hD0] at hD HU
      obtain ⟨e0, e1, ek, el, er, ew⟩ := D
      clear hD0 hDn
      unfold evV at hD
      simp only at hD
      have hA5 := fun W (k : On w W) => hAf ⟨pc, q0, q1, q2, q3⟩ vv W k
      have hao := after_on vv hx
      obtain ⟨⟨npc, s0, s1, s2, s3⟩, hAp⟩ : ∃ l2, l2 = afterP L ⟨pc, q0, q1, q2, q3⟩ vv := ⟨_, rfl⟩
      rw [← hAp] at hA5 HU hao
      clear hAp hAf
      simp only at hao
      have hN7 := fun W (k : On w W) => hNx ⟨npc, s0, s1, s2, s3⟩ W k
      unfold nextV insV at hN7
      obtain ⟨Y, hY⟩ : ∃ Y, Y = nextP L ⟨npc, s0, s1, s2, s3⟩ := ⟨_, rfl⟩
      rw [← hY] at hN7
      have HY : Hid (Y = nextP L ⟨npc, s0, s1, s2, s3⟩) := hY
      clear hY hNx
      unfold locV at hA5 hN7
      go_wp2
      go_quiet (fail)
      go_wp2_with fail
      refine (hD _).mono ?_
      rintro _ w4 ⟨rfl, k4'⟩
      have k4 : On w3 w4 := On.trans (On.drewN (On.refl w3) _) k4'
      have P4 := P3.on k4
      have L4 := L3.on k4
      have N4 := Ty.on N3 k4
      have own4 := own_on own3 k4
      have K4 := K3.trans k4
      have K34 := k3.trans k4
      have hs4 := L4.lt
      have hblk : ∀ g, (Value.slice b6 A.length d6).ownBlock = some g → w.heap.size + 1 + 1 ≤ g := fun g hg => (own4.lt g hg).1
      clear x0 x1 x2 x3 x4 x5 x6 x7 x8 xl y0 y1 y2 y3 y4 yf yl p0 p1 p2 pl
      clear P3 L3 N3 I3 own3 K3 hD k4 k4' k3
      go_wp2_with (at_builtin; refine wpList_append_own _ rfl _ _ 38 rfl (w.heap.size + 1 + 1) 58 i0 (.agg #[.int .i64 0, .int .i64 0, .int .i64 0, .int .i64 0, .int .i64 0, .int .i64 0]) 6 48 Tryz.underlying38 hi0 hz0 hz1 hz2 rfl (by decide) _ _ _ rfl ((own4.alloc _).alloc _) ⟨w4.heap.size + 1, 0, none⟩ 1 1 (evC ⟨t, A.length, ek, el, er, ew⟩) rfl rfl ?c1 ?c2 ?c3 ?c4 ?c5 ?_)
      case c1 => exact news_eq (by simp only [World.size_alloc]) _ _
      case c2 => exact one_ev _
      case c3 => unfold maxLen; omega
      case c4 => omega
      case c5 => simp only [World.size_alloc]; omega
      intro v6 w5 own5 hg5 _
      obtain ⟨b7, d7, rfl⟩ := own_slice own5
      have P5 := Bk.grown ((P4.alloc _).alloc _) hg5 (by omega : w.heap.size < w.heap.size + 1 + 1) hblk
      have L5 := Bk.grown ((L4.alloc _).alloc _) hg5 (by omega : w.heap.size + 1 < w.heap.size + 1 + 1) hblk
      have N5 := Ty.grown (Ty.on (Ty.on N4 ((On.refl w4).alloc _)) ((On.refl _).alloc _)) ((own4.alloc _).alloc _) neEvIns hg5
      have K5 : On w w5 := On.grown ((K4.alloc _).alloc _) hg5 (fun g hg => by have := hblk g hg; omega)
      have I5 : Bk w5 N9 #[.int .i64 x.k, .int .i64 x.r, .int .i64 x.l, .int .i64 x.a.r, .int .i64 x.a.v, .int .i64 x.o, .int .i64 x.b.r, .int .i64 x.b.v, .int .i64 x.n] := ⟨_, N5⟩
      clear P4 L4 N4 own4 K4 hg5 hblk hs4
      have p0 := P5.at (i := 0) rfl
      have p1 := P5.at (i := 1) rfl
      have p2 := P5.at (i := 2) rfl
      have pl := P5.lt
      have y0 := L5.at (i := 0) rfl
      have y1 := L5.at (i := 1) rfl
      have y2 := L5.at (i := 2) rfl
      have y3 := L5.at (i := 3) rfl
      have y4 := L5.at (i := 4) rfl
      have yf := fun i => L5.fr i
      have yl := L5.lt
      have x0 := I5.at (i := 0) rfl
      have x1 := I5.at (i := 1) rfl
      have x2 := I5.at (i := 2) rfl
      have x3 := I5.at (i := 3) rfl
      have x4 := I5.at (i := 4) rfl
      have x5 := I5.at (i := 5) rfl
      have x6 := I5.at (i := 6) rfl
      have x7 := I5.at (i := 7) rfl
      have x8 := I5.at (i := 8) rfl
      have xl := I5.lt
      go_wp2_with fail
      refine (hA5 _ K5).mono ?_
      rintro _ w6 ⟨rfl, k6⟩
      have P6 := P5.on k6
      have L6 := L5.on k6
      have N6 := Ty.on N5 k6
      have own6 := own_on own5 k6
      have K6 := K5.trans k6
      have I6 : Bk w6 N9 #[.int .i64 x.k, .int .i64 x.r, .int .i64 x.l, .int .i64 x.a.r, .int .i64 x.a.v, .int .i64 x.o, .int .i64 x.b.r, .int .i64 x.b.v, .int .i64 x.n] := ⟨_, N6⟩
      clear x0 x1 x2 x3 x4 x5 x6 x7 x8 xl y0 y1 y2 y3 y4 yf yl p0 p1 p2 pl
      clear P5 L5 N5 own5 K5 I5 k6 hA5
      have p0 := P6.at (i := 0) rfl
      have p1 := P6.at (i := 1) rfl
      have p2 := P6.at (i := 2) rfl
      have pl := P6.lt
      have y0 := L6.at (i := 0) rfl
      have y1 := L6.at (i := 1) rfl
      have y2 := L6.at (i := 2) rfl
      have y3 := L6.at (i := 3) rfl
      have y4 := L6.at (i := 4) rfl
      have yf := fun i => L6.fr i
      have yl := L6.lt
      have x0 := I6.at (i := 0) rfl
      have x1 := I6.at (i := 1) rfl
      have x2 := I6.at (i := 2) rfl
      have x3 := I6.at (i := 3) rfl
      have x4 := I6.at (i := 4) rfl
      have x5 := I6.at (i := 5) rfl
      have x6 := I6.at (i := 6) rfl
      have x7 := I6.at (i := 7) rfl
      have x8 := I6.at (i := 8) rfl
      have xl := I6.lt
      have ne9 : ¬ N9 = w.heap.size + 1 := by omega
      have ne91 : ¬ w.heap.size = w.heap.size + 1 := by omega
      go_wp2_with fail
      refine (hN7 _ (by repeat' (first | with_reducible refine On.alloc ?_ _ | with_reducible refine On.setNew ?_ (by omega) _ | with_reducible exact K6))).mono ?_
      rintro _ w8 ⟨rfl, k8⟩
      have P8 : Bk w8 w.heap.size #[.slice a1 m1 c1, .slice a2 m2 c2, .slice a LL.length c] := by
       refine Bk.on ?_ k8
       repeat' (first | with_reducible refine Bk.alloc ?_ _ | with_reducible refine Bk.far ?_ (by omega) _ _ | with_reducible exact P6)
      have L8 : Bk w8 (w.heap.size + 1) #[.int .i64 npc, .int .i64 s0, .int .i64 s1, .int .i64 s2, .int .i64 s3] := by
       refine Bk.on ?_ k8
       refine Bk.alloc ?_ _
       exact Bk.puts [.int .i64 npc, .int .i64 s0, .int .i64 s1, .int .i64 s2, .int .i64 s3] w6 [.int .i64 pc, .int .i64 q0, .int .i64 q1, .int .i64 q2, .int .i64 q3] 0 L6
      have own8 : w8.ownsRow (w.heap.size + 1 + 1) 58 6 (.slice b7 (A.length + 1) d7) (A.length + 1) (A.flatMap evC ++ evC ⟨t, A.length, ek, el, er, ew⟩) := by
       refine own_on ?_ k8
       refine World.ownsRow.alloc ?_ _
       repeat' (first | with_reducible exact own6 | with_reducible refine own_set ?_ (by omega) _ _)
      have N8 : w8.heap[w6.heap.size]? = some (.cells #[.int .i64 x.k, .int .i64 x.r, .int .i64 x.l, .int .i64 x.a.r, .int .i64 x.a.v, .int .i64 x.o, .int .i64 x.b.r, .int .i64 x.b.v, .int .i64 x.n] 67 (0, 0)) := by
       refine Ty.on ?_ k8
       exact heap_new_eq (by simp only [size_set]) _
      have K8 : On w w8 := by
       refine On.trans ?_ k8
       repeat' (first | with_reducible refine On.alloc ?_ _ | with_reducible refine On.setNew ?_ (by omega) _ | with_reducible exact K6)
      have I8 : Bk w8 w6.heap.size #[.int .i64 x.k, .int .i64 x.r, .int .i64 x.l, .int .i64 x.a.r, .int .i64 x.a.v, .int .i64 x.o, .int .i64 x.b.r, .int .i64 x.b.v, .int .i64 x.n] := ⟨_, N8⟩
      have h68 := L6.lt
      clear x0 x1 x2 x3 x4 x5 x6 x7 x8 xl y0 y1 y2 y3 y4 yf yl p0 p1 p2 pl
      clear P6 L6 N6 own6 K6 I6 k8 hN7
      have x0 := I8.at (i := 0) rfl
      have x1 := I8.at (i := 1) rfl
      have x2 := I8.at (i := 2) rfl
      have x3 := I8.at (i := 3) rfl
      have x4 := I8.at (i := 4) rfl
      have x5 := I8.at (i := 5) rfl
      have x6 := I8.at (i := 6) rfl
      have x7 := I8.at (i := 7) rfl
      have x8 := I8.at (i := 8) rfl
      have xl := I8.lt
      have xf := fun i => I8.fr i
      go_wp2
      go_roundg n
      case measure => have := HN.out; omega
      case rel =>
       refine ⟨⟨npc, s0, s1, s2, s3⟩, A ++ [⟨t, A.length, ek, el, er, ew⟩], [], (some ⟨g, off, none⟩), 0, b7, d7, w6.heap.size, rfl, ?_, rfl, ?_, ?_, ?_, ?_, ?_, ?_, ?_, by omega, ?_, ?_⟩
       ·
        simp only [List.length_append, List.length_cons, List.length_nil]
       ·
        rw [← HY.out]
       ·
        exact HQ
       ·
        rw [show (A ++ [(⟨t, A.length, ek, el, er, ew⟩ : EvT)]).length = A.length + 1 by simp, List.flatMap_append]
        exact own_putsT neEvIns (insC (Y.getD insZ)) w8 [.int .i64 x.k, .int .i64 x.r, .int .i64 x.l, .int .i64 x.a.r, .int .i64 x.a.v, .int .i64 x.o, .int .i64 x.b.r, .int .i64 x.b.v, .int .i64 x.n] 0 own8 N8
       ·
        show On w _
        repeat' (first | with_reducible refine On.setNew ?_ (by omega) _ | with_reducible exact K8)
       ·
        repeat' (first | with_reducible refine Bk.far ?_ (by omega) _ _ | with_reducible exact P8)
       ·
        repeat' (first | with_reducible refine Bk.far ?_ (by omega) _ _ | with_reducible exact L8)
       ·
        rw [← HY.out]
        exact heap_puts (insC (Y.getD insZ)) w8 [.int .i64 x.k, .int .i64 x.r, .int .i64 x.l, .int .i64 x.a.r, .int .i64 x.a.v, .int .i64 x.o, .int .i64 x.b.r, .int .i64 x.b.v, .int .i64 x.n] 0 N8
       ·
        refine ⟨by show 0 ≤ npc; omega, by show _ ≤ _ + npc; omega, ?_⟩
        simp only [List.length_append, List.length_cons, List.length_nil]
        omega
       ·
        have hu := HU.out
        simp only [List.length_append, List.length_cons, List.length_nil, List.append_assoc, List.cons_append, List.nil_append]
        exact hu

     ·
      have h0' : ¬ cap = 0 := by omega
      clear hAsk
      have P3 := PB.on k3
      have L3 := LB.on k3
      have N3 := Ty.on NB' k3
      have own3 := own_on hown k3
      have K3 := HO.out.trans k3
      have I3 : Bk w3 N9 #[.int .i64 x.k, .int .i64 x.r, .int .i64 x.l, .int .i64 x.a.r, .int .i64 x.a.v, .int .i64 x.o, .int .i64 x.b.r, .int .i64 x.b.v, .int .i64 x.n] := ⟨_, N3⟩
      clear x0 x1 x2 x3 x4 x5 x6 x7 x8 xl y0 y1 y2 y3 y4 yf yl p0 p1 p2 pl
      have p0 := P3.at (i := 0) rfl
      have p1 := P3.at (i := 1) rfl
      have p2 := P3.at (i := 2) rfl
      have pl := P3.lt
      have y0 := L3.at (i := 0) rfl
      have y1 := L3.at (i := 1) rfl
      have y2 := L3.at (i := 2) rfl
      have y3 := L3.at (i := 3) rfl
      have y4 := L3.at (i := 4) rfl
      have yf := fun i => L3.fr i
      have yl := L3.lt
      have x0 := I3.at (i := 0) rfl
      have x1 := I3.at (i := 1) rfl
      have x2 := I3.at (i := 2) rfl
      have x3 := I3.at (i := 3) rfl
      have x4 := I3.at (i := 4) rfl
      have x5 := I3.at (i := 5) rfl
      have x6 := I3.at (i := 6) rfl
      have x7 := I3.at (i := 7) rfl
      have x8 := I3.at (i := 8) rfl
      have xl := I3.lt
      clear PB LB IB NB' hown
      have hD := fun W => hDn vv W
      obtain ⟨D, hD0⟩ : ∃ D, D = doneP x ⟨pc, q0, q1, q2, q3⟩ vv := ⟨_, rfl⟩
      rw [← hD0] at hD HU
      obtain ⟨e0, e1, ek, el, er, ew⟩ := D
      clear hD0 hDn
      unfold evV at hD
      simp only at hD
      have hA5 := fun W (k : On w W) => hAf ⟨pc, q0, q1, q2, q3⟩ vv W k
      have hao := after_on vv hx
      obtain ⟨⟨npc, s0, s1, s2, s3⟩, hAp⟩ : ∃ l2, l2 = afterP L ⟨pc, q0, q1, q2, q3⟩ vv := ⟨_, rfl⟩
      rw [← hAp] at hA5 HU hao
      clear hAp hAf
      simp only at hao
      have hN7 := fun W (k : On w W) => hNx ⟨npc, s0, s1, s2, s3⟩ W k
      unfold nextV insV at hN7
      obtain ⟨Y, hY⟩ : ∃ Y, Y = nextP L ⟨npc, s0, s1, s2, s3⟩ := ⟨_, rfl⟩
      rw [← hY] at hN7
      have HY : Hid (Y = nextP L ⟨npc, s0, s1, s2, s3⟩) := hY
      clear hY hNx
      unfold locV at hA5 hN7
      go_wp2
      go_quiet (fail)
      go_wp2_with fail
      refine (hD _).mono ?_
      rintro _ w4 ⟨rfl, k4'⟩
      have k4 : On w3 w4 := On.trans (On.drewN (On.refl w3) _) k4'
      have P4 := P3.on k4
      have L4 := L3.on k4
      have N4 := Ty.on N3 k4
      have own4 := own_on own3 k4
      have K4 := K3.trans k4
      have K34 := k3.trans k4
      have hs4 := L4.lt
      have hblk : ∀ g, (Value.slice b6 A.length d6).ownBlock = some g → w.heap.size + 1 + 1 ≤ g := fun g hg => (own4.lt g hg).1
      clear x0 x1 x2 x3 x4 x5 x6 x7 x8 xl y0 y1 y2 y3 y4 yf yl p0 p1 p2 pl
      clear P3 L3 N3 I3 own3 K3 hD k4 k4' k3
      go_wp2_with (at_builtin; refine wpList_append_own _ rfl _ _ 38 rfl (w.heap.size + 1 + 1) 58 i0 (.agg #[.int .i64 0, .int .i64 0, .int .i64 0, .int .i64 0, .int .i64 0, .int .i64 0]) 6 48 Tryz.underlying38 hi0 hz0 hz1 hz2 rfl (by decide) _ _ _ rfl ((own4.alloc _).alloc _) ⟨w4.heap.size + 1, 0, none⟩ 1 1 (evC ⟨t, A.length, ek, el, er, ew⟩) rfl rfl ?c1 ?c2 ?c3 ?c4 ?c5 ?_)
      case c1 => exact news_eq (by simp only [World.size_alloc]) _ _
      case c2 => exact one_ev _
      case c3 => unfold maxLen; omega
      case c4 => omega
      case c5 => simp only [World.size_alloc]; omega
      intro v6 w5 own5 hg5 _
      obtain ⟨b7, d7, rfl⟩ := own_slice own5
      have P5 := Bk.grown ((P4.alloc _).alloc _) hg5 (by omega : w.heap.size < w.heap.size + 1 + 1) hblk
      have L5 := Bk.grown ((L4.alloc _).alloc _) hg5 (by omega : w.heap.size + 1 < w.heap.size + 1 + 1) hblk
      have N5 := Ty.grown (Ty.on (Ty.on N4 ((On.refl w4).alloc _)) ((On.refl _).alloc _)) ((own4.alloc _).alloc _) neEvIns hg5
      have K5 : On w w5 := On.grown ((K4.alloc _).alloc _) hg5 (fun g hg => by have := hblk g hg; omega)
      have I5 : Bk w5 N9 #[.int .i64 x.k, .int .i64 x.r, .int .i64 x.l, .int .i64 x.a.r, .int .i64 x.a.v, .int .i64 x.o, .int .i64 x.b.r, .int .i64 x.b.v, .int .i64 x.n] := ⟨_, N5⟩
      clear P4 L4 N4 own4 K4 hg5 hblk hs4
      have p0 := P5.at (i := 0) rfl
      have p1 := P5.at (i := 1) rfl
      have p2 := P5.at (i := 2) rfl
      have pl := P5.lt
      have y0 := L5.at (i := 0) rfl
      have y1 := L5.at (i := 1) rfl
      have y2 := L5.at (i := 2) rfl
      have y3 := L5.at (i := 3) rfl
      have y4 := L5.at (i := 4) rfl
      have yf := fun i => L5.fr i
      have yl := L5.lt
      have x0 := I5.at (i := 0) rfl
      have x1 := I5.at (i := 1) rfl
      have x2 := I5.at (i := 2) rfl
      have x3 := I5.at (i := 3) rfl
      have x4 := I5.at (i := 4) rfl
      have x5 := I5.at (i := 5) rfl
      have x6 := I5.at (i := 6) rfl
      have x7 := I5.at (i := 7) rfl
      have x8 := I5.at (i := 8) rfl
      have xl := I5.lt
      go_wp2_with fail
      refine (hA5 _ K5).mono ?_
      rintro _ w6 ⟨rfl, k6⟩
      have P6 := P5.on k6
      have L6 := L5.on k6
      have N6 := Ty.on N5 k6
      have own6 := own_on own5 k6
      have K6 := K5.trans k6
      have I6 : Bk w6 N9 #[.int .i64 x.k, .int .i64 x.r, .int .i64 x.l, .int .i64 x.a.r, .int .i64 x.a.v, .int .i64 x.o, .int .i64 x.b.r, .int .i64 x.b.v, .int .i64 x.n] := ⟨_, N6⟩
      clear x0 x1 x2 x3 x4 x5 x6 x7 x8 xl y0 y1 y2 y3 y4 yf yl p0 p1 p2 pl
      clear P5 L5 N5 own5 K5 I5 k6 hA5
      have p0 := P6.at (i := 0) rfl
      have p1 := P6.at (i := 1) rfl
      have p2 := P6.at (i := 2) rfl
      have pl := P6.lt
      have y0 := L6.at (i := 0) rfl
      have y1 := L6.at (i := 1) rfl
      have y2 := L6.at (i := 2) rfl
      have y3 := L6.at (i := 3) rfl
      have y4 := L6.at (i := 4) rfl
      have yf := fun i => L6.fr i
      have yl := L6.lt
      have x0 := I6.at (i := 0) rfl
      have x1 := I6.at (i := 1) rfl
      have x2 := I6.at (i := 2) rfl
      have x3 := I6.at (i := 3) rfl
      have x4 := I6.at (i := 4) rfl
      have x5 := I6.at (i := 5) rfl
      have x6 := I6.at (i := 6) rfl
      have x7 := I6.at (i := 7) rfl
      have x8 := I6.at (i := 8) rfl
      have xl := I6.lt
      have ne9 : ¬ N9 = w.heap.size + 1 := by omega
      have ne91 : ¬ w.heap.size = w.heap.size + 1 := by omega
      go_wp2_with fail
      refine (hN7 _ (by repeat' (first | with_reducible refine On.alloc ?_ _ | with_reducible refine On.setNew ?_ (by omega) _ | with_reducible exact K6))).mono ?_
      rintro _ w8 ⟨rfl, k8⟩
      have P8 : Bk w8 w.heap.size #[.slice a1 m1 c1, .slice a2 m2 c2, .slice a LL.length c] := by
       refine Bk.on ?_ k8
       repeat' (first | with_reducible refine Bk.alloc ?_ _ | with_reducible refine Bk.far ?_ (by omega) _ _ | with_reducible exact P6)
      have L8 : Bk w8 (w.heap.size + 1) #[.int .i64 npc, .int .i64 s0, .int .i64 s1, .int .i64 s2, .int .i64 s3] := by
       refine Bk.on ?_ k8
       refine Bk.alloc ?_ _
       exact Bk.puts [.int .i64 npc, .int .i64 s0, .int .i64 s1, .int .i64 s2, .int .i64 s3] w6 [.int .i64 pc, .int .i64 q0, .int .i64 q1, .int .i64 q2, .int .i64 q3] 0 L6
      have own8 : w8.ownsRow (w.heap.size + 1 + 1) 58 6 (.slice b7 (A.length + 1) d7) (A.length + 1) (A.flatMap evC ++ evC ⟨t, A.length, ek, el, er, ew⟩) := by
       refine own_on ?_ k8
       refine World.ownsRow.alloc ?_ _
       repeat' (first | with_reducible exact own6 | with_reducible refine own_set ?_ (by omega) _ _)
      have N8 : w8.heap[w6.heap.size]? = some (.cells #[.int .i64 x.k, .int .i64 x.r, .int .i64 x.l, .int .i64 x.a.r, .int .i64 x.a.v, .int .i64 x.o, .int .i64 x.b.r, .int .i64 x.b.v, .int .i64 x.n] 67 (0, 0)) := by
       refine Ty.on ?_ k8
       exact heap_new_eq (by simp only [size_set]) _
      have K8 : On w w8 := by
       refine On.trans ?_ k8
       repeat' (first | with_reducible refine On.alloc ?_ _ | with_reducible refine On.setNew ?_ (by omega) _ | with_reducible exact K6)
      have I8 : Bk w8 w6.heap.size #[.int .i64 x.k, .int .i64 x.r, .int .i64 x.l, .int .i64 x.a.r, .int .i64 x.a.v, .int .i64 x.o, .int .i64 x.b.r, .int .i64 x.b.v, .int .i64 x.n] := ⟨_, N8⟩
      have h68 := L6.lt
      clear x0 x1 x2 x3 x4 x5 x6 x7 x8 xl y0 y1 y2 y3 y4 yf yl p0 p1 p2 pl
      clear P6 L6 N6 own6 K6 I6 k8 hN7
      have x0 := I8.at (i := 0) rfl
      have x1 := I8.at (i := 1) rfl
      have x2 := I8.at (i := 2) rfl
      have x3 := I8.at (i := 3) rfl
      have x4 := I8.at (i := 4) rfl
      have x5 := I8.at (i := 5) rfl
      have x6 := I8.at (i := 6) rfl
      have x7 := I8.at (i := 7) rfl
      have x8 := I8.at (i := 8) rfl
      have xl := I8.lt
      have xf := fun i => I8.fr i
      go_wp2
      go_roundg n
      case measure => have := HN.out; omega
      case rel =>
       refine ⟨⟨npc, s0, s1, s2, s3⟩, A ++ [⟨t, A.length, ek, el, er, ew⟩], R, (some ⟨g, off + 1, none⟩), cap, b7, d7, w6.heap.size, rfl, ?_, rfl, ?_, ?_, ?_, ?_, ?_, ?_, ?_, by omega, ?_, ?_⟩
       ·
        simp only [List.length_append, List.length_cons, List.length_nil]
       ·
        rw [← HY.out]
       ·
        exact HQ
       ·
        rw [show (A ++ [(⟨t, A.length, ek, el, er, ew⟩ : EvT)]).length = A.length + 1 by simp, List.flatMap_append]
        exact own_putsT neEvIns (insC (Y.getD insZ)) w8 [.int .i64 x.k, .int .i64 x.r, .int .i64 x.l, .int .i64 x.a.r, .int .i64 x.a.v, .int .i64 x.o, .int .i64 x.b.r, .int .i64 x.b.v, .int .i64 x.n] 0 own8 N8
       ·
        show On w _
        repeat' (first | with_reducible refine On.setNew ?_ (by omega) _ | with_reducible exact K8)
       ·
        repeat' (first | with_reducible refine Bk.far ?_ (by omega) _ _ | with_reducible exact P8)
       ·
        repeat' (first | with_reducible refine Bk.far ?_ (by omega) _ _ | with_reducible exact L8)
       ·
        rw [← HY.out]
        exact heap_puts (insC (Y.getD insZ)) w8 [.int .i64 x.k, .int .i64 x.r, .int .i64 x.l, .int .i64 x.a.r, .int .i64 x.a.v, .int .i64 x.o, .int .i64 x.b.r, .int .i64 x.b.v, .int .i64 x.n] 0 N8
       ·
        refine ⟨by show 0 ≤ npc; omega, by show _ ≤ _ + npc; omega, ?_⟩
        simp only [List.length_append, List.length_cons, List.length_nil]
        omega
       ·
        have hu := HU.out
        simp only [List.length_append, List.length_cons, List.length_nil, List.append_assoc, List.cons_append, List.nil_append]
        exact hu

   | false =>
    rw [hq] at hAsk
    have hv : valP x R = some (0, R) := by unfold valP; rw [hq]; rfl
    rw [unf_some hx hv] at HU
    have HQ := HR
    clear hv HR hmr
    go_wp2_with fail
    refine (hAsk _).mono ?_
    rintro _ w3 ⟨rfl, k3⟩
    clear hAsk
    have P3 := PB.on k3
    have L3 := LB.on k3
    have N3 := Ty.on NB' k3
    have own3 := own_on hown k3
    have K3 := HO.out.trans k3
    have I3 : Bk w3 N9 #[.int .i64 x.k, .int .i64 x.r, .int .i64 x.l, .int .i64 x.a.r, .int .i64 x.a.v, .int .i64 x.o, .int .i64 x.b.r, .int .i64 x.b.v, .int .i64 x.n] := ⟨_, N3⟩
    clear x0 x1 x2 x3 x4 x5 x6 x7 x8 xl y0 y1 y2 y3 y4 yf yl p0 p1 p2 pl
    have p0 := P3.at (i := 0) rfl
    have p1 := P3.at (i := 1) rfl
    have p2 := P3.at (i := 2) rfl
    have pl := P3.lt
    have y0 := L3.at (i := 0) rfl
    have y1 := L3.at (i := 1) rfl
    have y2 := L3.at (i := 2) rfl
    have y3 := L3.at (i := 3) rfl
    have y4 := L3.at (i := 4) rfl
    have yf := fun i => L3.fr i
    have yl := L3.lt
    have x0 := I3.at (i := 0) rfl
    have x1 := I3.at (i := 1) rfl
    have x2 := I3.at (i := 2) rfl
    have x3 := I3.at (i := 3) rfl
    have x4 := I3.at (i := 4) rfl
    have x5 := I3.at (i := 5) rfl
    have x6 := I3.at (i := 6) rfl
    have x7 := I3.at (i := 7) rfl
    have x8 := I3.at (i := 8) rfl
    have xl := I3.lt
    clear PB LB IB NB' hown
    have hD := fun W => hDn 0 W
    obtain ⟨D, hD0⟩ : ∃ D, D = doneP x ⟨pc, q0, q1, q2, q3⟩ 0 := ⟨_, rfl⟩
    rw [← hD0] at hD HU
    obtain ⟨e0, e1, ek, el, er, ew⟩ := D
    clear hD0 hDn
    unfold evV at hD
    simp only at hD
    have hA5 := fun W (k : On w W) => hAf ⟨pc, q0, q1, q2, q3⟩ 0 W k
    have hao := after_on 0 hx
    obtain ⟨⟨npc, s0, s1, s2, s3⟩, hAp⟩ : ∃ l2, l2 = afterP L ⟨pc, q0, q1, q2, q3⟩ 0 := ⟨_, rfl⟩
    rw [← hAp] at hA5 HU hao
    clear hAp hAf
    simp only at hao
    have hN7 := fun W (k : On w W) => hNx ⟨npc, s0, s1, s2, s3⟩ W k
    unfold nextV insV at hN7
    obtain ⟨Y, hY⟩ : ∃ Y, Y = nextP L ⟨npc, s0, s1, s2, s3⟩ := ⟨_, rfl⟩
    rw [← hY] at hN7
    have HY : Hid (Y = nextP L ⟨npc, s0, s1, s2, s3⟩) := hY
    clear hY hNx
    unfold locV at hA5 hN7
    go_wp2_with fail
    refine (hD _).mono ?_
    rintro _ w4 ⟨rfl, k4'⟩
    have k4 := k4'
    have P4 := P3.on k4
    have L4 := L3.on k4
    have N4 := Ty.on N3 k4
    have own4 := own_on own3 k4
    have K4 := K3.trans k4
    have K34 := k3.trans k4
    have hs4 := L4.lt
    have hblk : ∀ g, (Value.slice b6 A.length d6).ownBlock = some g → w.heap.size + 1 + 1 ≤ g := fun g hg => (own4.lt g hg).1
    clear x0 x1 x2 x3 x4 x5 x6 x7 x8 xl y0 y1 y2 y3 y4 yf yl p0 p1 p2 pl
    clear P3 L3 N3 I3 own3 K3 hD k4 k4' k3
    go_wp2_with (at_builtin; refine wpList_append_own _ rfl _ _ 38 rfl (w.heap.size + 1 + 1) 58 i0 (.agg #[.int .i64 0, .int .i64 0, .int .i64 0, .int .i64 0, .int .i64 0, .int .i64 0]) 6 48 Tryz.underlying38 hi0 hz0 hz1 hz2 rfl (by decide) _ _ _ rfl ((own4.alloc _).alloc _) ⟨w4.heap.size + 1, 0, none⟩ 1 1 (evC ⟨t, A.length, ek, el, er, ew⟩) rfl rfl ?c1 ?c2 ?c3 ?c4 ?c5 ?_)
    case c1 => exact news_eq (by simp only [World.size_alloc]) _ _
    case c2 => exact one_ev _
    case c3 => unfold maxLen; omega
    case c4 => omega
    case c5 => simp only [World.size_alloc]; omega
    intro v6 w5 own5 hg5 _
    obtain ⟨b7, d7, rfl⟩ := own_slice own5
    have P5 := Bk.grown ((P4.alloc _).alloc _) hg5 (by omega : w.heap.size < w.heap.size + 1 + 1) hblk
    have L5 := Bk.grown ((L4.alloc _).alloc _) hg5 (by omega : w.heap.size + 1 < w.heap.size + 1 + 1) hblk
    have N5 := Ty.grown (Ty.on (Ty.on N4 ((On.refl w4).alloc _)) ((On.refl _).alloc _)) ((own4.alloc _).alloc _) neEvIns hg5
    have K5 : On w w5 := On.grown ((K4.alloc _).alloc _) hg5 (fun g hg => by have := hblk g hg; omega)
    have I5 : Bk w5 N9 #[.int .i64 x.k, .int .i64 x.r, .int .i64 x.l, .int .i64 x.a.r, .int .i64 x.a.v, .int .i64 x.o, .int .i64 x.b.r, .int .i64 x.b.v, .int .i64 x.n] := ⟨_, N5⟩
    clear P4 L4 N4 own4 K4 hg5 hblk hs4
    have p0 := P5.at (i := 0) rfl
    have p1 := P5.at (i := 1) rfl
    have p2 := P5.at (i := 2) rfl
    have pl := P5.lt
    have y0 := L5.at (i := 0) rfl
    have y1 := L5.at (i := 1) rfl
    have y2 := L5.at (i := 2) rfl
    have y3 := L5.at (i := 3) rfl
    have y4 := L5.at (i := 4) rfl
    have yf := fun i => L5.fr i
    have yl := L5.lt
    have x0 := I5.at (i := 0) rfl
    have x1 := I5.at (i := 1) rfl
    have x2 := I5.at (i := 2) rfl
    have x3 := I5.at (i := 3) rfl
    have x4 := I5.at (i := 4) rfl
    have x5 := I5.at (i := 5) rfl
    have x6 := I5.at (i := 6) rfl
    have x7 := I5.at (i := 7) rfl
    have x8 := I5.at (i := 8) rfl
    have xl := I5.lt
    go_wp2_with fail
    refine (hA5 _ K5).mono ?_
    rintro _ w6 ⟨rfl, k6⟩
    have P6 := P5.on k6
    have L6 := L5.on k6
    have N6 := Ty.on N5 k6
    have own6 := own_on own5 k6
    have K6 := K5.trans k6
    have I6 : Bk w6 N9 #[.int .i64 x.k, .int .i64 x.r, .int .i64 x.l, .int .i64 x.a.r, .int .i64 x.a.v, .int .i64 x.o, .int .i64 x.b.r, .int .i64 x.b.v, .int .i64 x.n] := ⟨_, N6⟩
    clear x0 x1 x2 x3 x4 x5 x6 x7 x8 xl y0 y1 y2 y3 y4 yf yl p0 p1 p2 pl
    clear P5 L5 N5 own5 K5 I5 k6 hA5
    have p0 := P6.at (i := 0) rfl
    have p1 := P6.at (i := 1) rfl
    have p2 := P6.at (i := 2) rfl
    have pl := P6.lt
    have y0 := L6.at (i := 0) rfl
    have y1 := L6.at (i := 1) rfl
    have y2 := L6.at (i := 2) rfl
    have y3 := L6.at (i := 3) rfl
    have y4 := L6.at (i := 4) rfl
    have yf := fun i => L6.fr i
    have yl := L6.lt
    have x0 := I6.at (i := 0) rfl
    have x1 := I6.at (i := 1) rfl
    have x2 := I6.at (i := 2) rfl
    have x3 := I6.at (i := 3) rfl
    have x4 := I6.at (i := 4) rfl
    have x5 := I6.at (i := 5) rfl
    have x6 := I6.at (i := 6) rfl
    have x7 := I6.at (i := 7) rfl
    have x8 := I6.at (i := 8) rfl
    have xl := I6.lt
    have ne9 : ¬ N9 = w.heap.size + 1 := by omega
    have ne91 : ¬ w.heap.size = w.heap.size + 1 := by omega
    go_wp2_with fail
    refine (hN7 _ (by repeat' (first | with_reducible refine On.alloc ?_ _ | with_reducible refine On.setNew ?_ (by omega) _ | with_reducible exact K6))).mono ?_
    rintro _ w8 ⟨rfl, k8⟩
    have P8 : Bk w8 w.heap.size #[.slice a1 m1 c1, .slice a2 m2 c2, .slice a LL.length c] := by
     refine Bk.on ?_ k8
     repeat' (first | with_reducible refine Bk.alloc ?_ _ | with_reducible refine Bk.far ?_ (by omega) _ _ | with_reducible exact P6)
    have L8 : Bk w8 (w.heap.size + 1) #[.int .i64 npc, .int .i64 s0, .int .i64 s1, .int .i64 s2, .int .i64 s3] := by
     refine Bk.on ?_ k8
     refine Bk.alloc ?_ _
     exact Bk.puts [.int .i64 npc, .int .i64 s0, .int .i64 s1, .int .i64 s2, .int .i64 s3] w6 [.int .i64 pc, .int .i64 q0, .int .i64 q1, .int .i64 q2, .int .i64 q3] 0 L6
    have own8 : w8.ownsRow (w.heap.size + 1 + 1) 58 6 (.slice b7 (A.length + 1) d7) (A.length + 1) (A.flatMap evC ++ evC ⟨t, A.length, ek, el, er, ew⟩) := by
     refine own_on ?_ k8
     refine World.ownsRow.alloc ?_ _
     repeat' (first | with_reducible exact own6 | with_reducible refine own_set ?_ (by omega) _ _)
    have N8 : w8.heap[w6.heap.size]? = some (.cells #[.int .i64 x.k, .int .i64 x.r, .int .i64 x.l, .int .i64 x.a.r, .int .i64 x.a.v, .int .i64 x.o, .int .i64 x.b.r, .int .i64 x.b.v, .int .i64 x.n] 67 (0, 0)) := by
     refine Ty.on ?_ k8
     exact heap_new_eq (by simp only [size_set]) _
    have K8 : On w w8 := by
     refine On.trans ?_ k8
     repeat' (first | with_reducible refine On.alloc ?_ _ | with_reducible refine On.setNew ?_ (by omega) _ | with_reducible exact K6)
    have I8 : Bk w8 w6.heap.size #[.int .i64 x.k, .int .i64 x.r, .int .i64 x.l, .int .i64 x.a.r, .int .i64 x.a.v, .int .i64 x.o, .int .i64 x.b.r, .int .i64 x.b.v, .int .i64 x.n] := ⟨_, N8⟩
    have h68 := L6.lt
    clear x0 x1 x2 x3 x4 x5 x6 x7 x8 xl y0 y1 y2 y3 y4 yf yl p0 p1 p2 pl
    clear P6 L6 N6 own6 K6 I6 k8 hN7
    have x0 := I8.at (i := 0) rfl
    have x1 := I8.at (i := 1) rfl
    have x2 := I8.at (i := 2) rfl
    have x3 := I8.at (i := 3) rfl
    have x4 := I8.at (i := 4) rfl
    have x5 := I8.at (i := 5) rfl
    have x6 := I8.at (i := 6) rfl
    have x7 := I8.at (i := 7) rfl
    have x8 := I8.at (i := 8) rfl
    have xl := I8.lt
    have xf := fun i => I8.fr i
    go_wp2
    go_roundg n
    case measure => have := HN.out; omega
    case rel =>
     refine ⟨⟨npc, s0, s1, s2, s3⟩, A ++ [⟨t, A.length, ek, el, er, ew⟩], R, b2, d2, b7, d7, w6.heap.size, rfl, ?_, rfl, ?_, ?_, ?_, ?_, ?_, ?_, ?_, by omega, ?_, ?_⟩
     ·
      simp only [List.length_append, List.length_cons, List.length_nil]
     ·
      rw [← HY.out]
     ·
      exact HQ
     ·
      rw [show (A ++ [(⟨t, A.length, ek, el, er, ew⟩ : EvT)]).length = A.length + 1 by simp, List.flatMap_append]
      exact own_putsT neEvIns (insC (Y.getD insZ)) w8 [.int .i64 x.k, .int .i64 x.r, .int .i64 x.l, .int .i64 x.a.r, .int .i64 x.a.v, .int .i64 x.o, .int .i64 x.b.r, .int .i64 x.b.v, .int .i64 x.n] 0 own8 N8
     ·
      show On w _
      repeat' (first | with_reducible refine On.setNew ?_ (by omega) _ | with_reducible exact K8)
     ·
      repeat' (first | with_reducible refine Bk.far ?_ (by omega) _ _ | with_reducible exact P8)
     ·
      repeat' (first | with_reducible refine Bk.far ?_ (by omega) _ _ | with_reducible exact L8)
     ·
      rw [← HY.out]
      exact heap_puts (insC (Y.getD insZ)) w8 [.int .i64 x.k, .int .i64 x.r, .int .i64 x.l, .int .i64 x.a.r, .int .i64 x.a.v, .int .i64 x.o, .int .i64 x.b.r, .int .i64 x.b.v, .int .i64 x.n] 0 N8
     ·
      refine ⟨by show 0 ≤ npc; omega, by show _ ≤ _ + npc; omega, ?_⟩
      simp only [List.length_append, List.length_cons, List.length_nil]
      omega
     ·
      have hu := HU.out
      simp only [List.length_append, List.length_cons, List.length_nil, List.append_assoc, List.cons_append, List.nil_append]
      exact hu

end Go.Proofs.YtioiabfheeglgaaGreatDoor

namespace Go.Proofs.YtioiabfheeglgaaGreatDoor
open Go.RowKit

theorem drop_cons {α : Type} {L : List α} {k : Nat} (h : k < L.length) : ∃ x, L[k]? = some x ∧ L.drop k = x :: L.drop (k + 1) := ⟨L[k], List.getElem?_eq_getElem h, List.drop_eq_getElem_cons h⟩
set_option maxHeartbeats 4000000 in
set_option maxRecDepth 8000 in
theorem runfold_is (LL : List (List InsT)) (t : Int) (rs : List Int) (ar : Option Addr) (cr : Nat) (v : Value) (w : World) (h : ProgRd w v LL) (hr : Rd intC 1 w (.slice ar rs.length cr) rs) (hL : (threadP LL t).length ≤ 1000000) (hf : ∀ L ∈ LL, fineL L) :
  Calls Tryz.prog 22 #[v, .int .i64 t, .slice ar rs.length cr] w fun e w' => ∃ a c, e = .returned (.tuple #[.slice a (unfP (threadP LL t) t rs).1.length c, locV (unfP (threadP LL t) t rs).2.1, .bool (unfP (threadP LL t) t rs).2.2]) ∧ w'.ownsRow w.heap.size 58 6 (.slice a (unfP (threadP LL t) t rs).1.length c) (unfP (threadP LL t) t rs).1.length ((unfP (threadP LL t) t rs).1.flatMap evC) ∧ On w w' := by
 obtain ⟨i0, hi0, hz0, hz1, hz2⟩ := info_parts infoEv
 have hTh := fun W (k : On w W) => there_is LL t v W (h.on k)
 have hSt := fun W (k : On w W) => rstart_is LL t v W (h.on k) hf
 have hNx := fun l W (k : On w W) => rnext_is LL t l v W (h.on k) hf
 have hAf := fun l rv W (k : On w W) => rafter_is LL t l rv v W (h.on k) hf
 have hno := there_none LL t
 obtain ⟨a1, m1, c1, a2, m2, c2, a, c, rfl, r⟩ := h
 obtain ⟨_, _, _, _, hmr⟩ := hr.slice
 have HR : Hid (Rd intC 1 w (.slice ar rs.length cr) rs) := hr
 clear r hr hf
 unfold unfP
 generalize thereB LL t = TB at *
 generalize threadP LL t = L at *
 have k0 : ∀ A B, On w ((w.alloc A).alloc B) := fun A B => ((On.refl w).alloc A).alloc B
 have bp : ∀ cs T B, Bk ((w.alloc (.cells cs T)).alloc B) w.heap.size cs := fun cs T B => (Bk.new w cs T).alloc B
 have bl : ∀ A cs T, Bk ((w.alloc A).alloc (.cells cs T)) (w.heap.size + 1) cs := fun A cs T => by have := Bk.new (w.alloc A) cs T; rwa [World.size_alloc] at this
 cases TB with
 | false =>
  obtain rfl := hno rfl
  have e0 : unfN (([] : List InsT).length + 1) [] t (startP []) 0 rs = ([], ⟨0, 0, 0, 0, 0⟩, false) := rfl
  rw [e0]
  unfold locV
  clear hSt hNx hAf hno e0
  go_enter Tryz.func22, Tryz.ntmps22
  go_wp2_with fail
  refine (hTh _ (k0 _ _)).mono ?_
  rintro _ w1 ⟨rfl, k1⟩
  have L1 := (bl _ _ _).on k1
  have K1 := (k0 _ _).trans k1
  have z0 := L1.at (i := 0) rfl
  have z1 := L1.at (i := 1) rfl
  have z2 := L1.at (i := 2) rfl
  have z3 := L1.at (i := 3) rfl
  have z4 := L1.at (i := 4) rfl
  have zf := fun i => L1.fr i
  have zl := L1.lt
  clear bp bl k0 k1
  go_wp2
  refine bodyPost_ret (v := .tuple #[.slice none 0 0, .agg #[.int .i64 0, .int .i64 0, .int .i64 0, .int .i64 0, .int .i64 0], .bool false]) ?_ rfl ⟨none, 0, rfl, World.ownsRow_nil _ _ _ _, ?_⟩
  ·
   rw [results_scs rfl]
   go_simp
  ·
   repeat' (first | with_reducible refine On.setNew ?_ (by omega) _ | with_reducible exact K1)
 | true =>
  clear hno
  obtain ⟨E, hE⟩ : ∃ E, E = (unfN (L.length + 1) L t (startP L) 0 rs).1 := ⟨_, rfl⟩
  obtain ⟨EL, hEL⟩ : ∃ EL, EL = (unfN (L.length + 1) L t (startP L) 0 rs).2.1 := ⟨_, rfl⟩
  obtain ⟨MB, hMB⟩ : ∃ MB, MB = (unfN (L.length + 1) L t (startP L) 0 rs).2.2 := ⟨_, rfl⟩
  rw [← hE, ← hEL, ← hMB]
  have hst0 := start_on L
  obtain ⟨⟨pc, q0, q1, q2, q3⟩, hl0⟩ : ∃ l0, startP L = l0 := ⟨_, rfl⟩
  rw [hl0] at hSt hE hEL hMB hst0
  have HU : Hid (E = (unfN (L.length + 1) L t ⟨pc, q0, q1, q2, q3⟩ 0 rs).1 ∧ EL = (unfN (L.length + 1) L t ⟨pc, q0, q1, q2, q3⟩ 0 rs).2.1 ∧ MB = (unfN (L.length + 1) L t ⟨pc, q0, q1, q2, q3⟩ 0 rs).2.2) := ⟨hE, hEL, hMB⟩
  clear hE hEL hMB hl0
  unfold locV at hSt
  go_enter Tryz.func22, Tryz.ntmps22
  go_wp2_with fail
  refine (hTh _ (k0 _ _)).mono ?_
  rintro _ w1 ⟨rfl, k1⟩
  have P1 := (bp _ _ _).on k1
  have L1 : Bk w1 (w.heap.size + 1) _ := (bl _ _ _).on k1
  have K1 := (k0 _ _).trans k1
  have p0 := P1.at (i := 0) rfl
  have p1 := P1.at (i := 1) rfl
  have p2 := P1.at (i := 2) rfl
  have pl := P1.lt
  clear bp bl k0 k1 hTh
  go_wp2_with fail
  refine (hSt _ K1).mono ?_
  rintro _ w2 ⟨rfl, k2⟩
  have P2 := P1.on k2
  have Q2 : Bk w2 (w.heap.size + 1) #[.int .i64 0, .int .i64 0, .int .i64 0, .int .i64 0, .int .i64 0] := L1.on k2
  have K2 := K1.trans k2
  have hs2 := Q2.lt
  have L2 : Bk (w2.alloc (.cells #[.int .i64 pc, .int .i64 q0, .int .i64 q1, .int .i64 q2, .int .i64 q3] 73)) w2.heap.size #[.int .i64 pc, .int .i64 q0, .int .i64 q1, .int .i64 q2, .int .i64 q3] := Bk.new w2 _ _
  clear hSt k2 P1 L1 K1 p0 p1 p2 pl
  go_wp2
  go_loopg [10, 11] (L.length + 1) (fun gg s10 s11 wq => ∃ (l : LocT) (A : List EvT) (k : Nat) (b6 : Option Addr) (d6 : Nat), s10 = .slice b6 A.length d6 ∧ s11 = .int .i64 k ∧ k ≤ rs.length ∧ wq.ownsRow (w2.heap.size + 1) 58 6 (.slice b6 A.length d6) A.length (A.flatMap evC) ∧ Hid (On w wq) ∧ Bk wq w.heap.size #[.slice a1 m1 c1, .slice a2 m2 c2, .slice a LL.length c] ∧ Bk wq (w.heap.size + 1) #[.int .i64 0, .int .i64 0, .int .i64 0, .int .i64 0, .int .i64 0] ∧ Bk wq w2.heap.size #[.int .i64 l.pc, .int .i64 l.r0, .int .i64 l.r1, .int .i64 l.r2, .int .i64 l.r3] ∧ Hid (0 ≤ l.pc ∧ (L.length : Int) + 1 ≤ gg + l.pc ∧ (A.length : Int) ≤ l.pc) ∧ Hid (E = A ++ (unfN gg L t l A.length (rs.drop k)).1 ∧ EL = (unfN gg L t l A.length (rs.drop k)).2.1 ∧ MB = (unfN gg L t l A.length (rs.drop k)).2.2))
  case atStart => exact ⟨⟨pc, q0, q1, q2, q3⟩, [], 0, none, 0, rfl, rfl, Nat.zero_le _, World.ownsRow_nil _ _ _ _, K2.alloc _, P2.alloc _, Q2.alloc _, L2, ⟨hst0, by show (L.length : Int) + 1 ≤ ((L.length + 1 : Nat) : Int) + pc; omega, hst0⟩, HU⟩
  case round =>
   clear HU P2 Q2 L2 K2 hst0
   obtain ⟨⟨pc, q0, q1, q2, q3⟩, A, k, b6, d6, rfl, rfl, hk, hown, HO, PB, QB, LB, hb, HU⟩ := hrel
   simp only at LB
   have p0 := PB.at (i := 0) rfl
   have p1 := PB.at (i := 1) rfl
   have p2 := PB.at (i := 2) rfl
   have pl := PB.lt
   have y0 := LB.at (i := 0) rfl
   have y1 := LB.at (i := 1) rfl
   have y2 := LB.at (i := 2) rfl
   have y3 := LB.at (i := 3) rfl
   have y4 := LB.at (i := 4) rfl
   have yf := fun i => LB.fr i
   have yl := LB.lt
   have hN1 := fun W (k : On w W) => hNx ⟨pc, q0, q1, q2, q3⟩ W k
   unfold nextV insV locV at hN1
   cases hx : nextP L ⟨pc, q0, q1, q2, q3⟩ with
   | none =>
    rw [hx] at hN1
    simp only [Option.getD_none, Option.isSome_none] at hN1
    rw [unf_none hx] at HU
    obtain rfl : A = E := by have := HU.out.1; simpa using this.symm
    obtain ⟨hE', rfl, rfl⟩ := HU.out
    clear hE' HU
    (try simp only)
    clear hNx hAf
    go_wp2_with fail
    refine (hN1 _ HO.out).mono ?_
    rintro _ w3 ⟨rfl, k3⟩
    replace hown := own_on hown k3
    have Q3 := QB.on k3
    have L3 := LB.on k3
    have K3 := HO.out.trans k3
    clear y0 y1 y2 y3 y4 yf yl p0 p1 p2 pl
    have y0 := L3.at (i := 0) rfl
    have y1 := L3.at (i := 1) rfl
    have y2 := L3.at (i := 2) rfl
    have y3 := L3.at (i := 3) rfl
    have y4 := L3.at (i := 4) rfl
    have yf := fun i => L3.fr i
    have yl := L3.lt
    have z0 := Q3.at (i := 0) rfl
    have z1 := Q3.at (i := 1) rfl
    have z2 := Q3.at (i := 2) rfl
    have z3 := Q3.at (i := 3) rfl
    have z4 := Q3.at (i := 4) rfl
    have zf := fun i => Q3.fr i
    have zl := Q3.lt
    go_wp2
    go_region
    go_wp2
    refine bodyPost_ret (v := .tuple #[.slice b6 A.length d6, .agg #[.int .i64 pc, .int .i64 q0, .int .i64 q1, .int .i64 q2, .int .i64 q3], .bool false]) ?_ rfl ⟨b6, d6, ?_, ?_, ?_⟩
    ·
     rw [results_scs rfl]
     go_simp
    ·
     simp only [locV]
    ·
     refine own_mono (base := w2.heap.size + 1) ?_ (by omega)
     repeat' (first | with_reducible refine own_drew ?_ | with_reducible refine own_set ?_ (by omega) _ _ | with_reducible refine World.ownsRow.alloc ?_ _ | with_reducible exact hown)
    ·
     repeat' (first | with_reducible refine On.drew ?_ | with_reducible refine On.setNew ?_ (by omega) _ | with_reducible refine On.alloc ?_ _ | with_reducible exact K3)
   | some x =>
    have hpc := next_at hx
    obtain ⟨hb0, hb1, hb2⟩ := hb.out
    simp only at hpc hb0 hb1 hb2
    rw [hx] at hN1
    simp only [Option.getD_some, Option.isSome_some] at hN1
    obtain ⟨n, hn⟩ : ∃ n, gk = n + 1 := ⟨gk - 1, by omega⟩
    rw [hn] at HU
    have HN : Hid (gk = n + 1) := hn
    have hb3 : (L.length : Int) ≤ n + pc := by omega
    clear hn hb
    have hDn := fun v W => revent_is x ⟨pc, q0, q1, q2, q3⟩ v W
    unfold insV locV at hDn
    go_wp2_with fail
    refine (hN1 _ HO.out).mono ?_
    rintro _ w3 ⟨rfl, k3⟩
    have P3 := PB.on k3
    have Q3 := QB.on k3
    have L3 := LB.on k3
    have own3 := own_on hown k3
    have K3 := HO.out.trans k3
    have hs3 := L3.lt
    obtain ⟨wi, hwi⟩ : ∃ wi, wi = w3.alloc (.cells #[.int .i64 x.k, .int .i64 x.r, .int .i64 x.l, .int .i64 x.a.r, .int .i64 x.a.v, .int .i64 x.o, .int .i64 x.b.r, .int .i64 x.b.v, .int .i64 x.n] 67) := ⟨_, rfl⟩
    have Pi : Bk wi w.heap.size #[.slice a1 m1 c1, .slice a2 m2 c2, .slice a LL.length c] := by rw [hwi]; exact P3.alloc _
    have Qi : Bk wi (w.heap.size + 1) #[.int .i64 0, .int .i64 0, .int .i64 0, .int .i64 0, .int .i64 0] := by rw [hwi]; exact Q3.alloc _
    have Li : Bk wi w2.heap.size #[.int .i64 pc, .int .i64 q0, .int .i64 q1, .int .i64 q2, .int .i64 q3] := by rw [hwi]; exact L3.alloc _
    have Ii : Bk wi w3.heap.size #[.int .i64 x.k, .int .i64 x.r, .int .i64 x.l, .int .i64 x.a.r, .int .i64 x.a.v, .int .i64 x.o, .int .i64 x.b.r, .int .i64 x.b.v, .int .i64 x.n] := by rw [hwi]; exact Bk.new w3 _ _
    have owni : wi.ownsRow (w2.heap.size + 1) 58 6 (.slice b6 A.length d6) A.length (A.flatMap evC) := by rw [hwi]; exact own3.alloc _
    have Ki : On w wi := by rw [hwi]; exact K3.alloc _
    have HWI : Hid (wi = w3.alloc (.cells #[.int .i64 x.k, .int .i64 x.r, .int .i64 x.l, .int .i64 x.a.r, .int .i64 x.a.v, .int .i64 x.o, .int .i64 x.b.r, .int .i64 x.b.v, .int .i64 x.n] 67)) := hwi
    clear hwi y0 y1 y2 y3 y4 yf yl p0 p1 p2 pl PB QB LB hown HO k3 P3 Q3 L3 own3 K3 hN1
    cases hq : readB x.k with
    | true =>
     rcases Nat.lt_or_ge k rs.length with hkl | hkl
     ·
      obtain ⟨vv, hvv, hdr⟩ := drop_cons hkl
      have hv : valP x (rs.drop k) = some (vv, rs.drop (k + 1)) := by unfold valP; rw [hq, hdr]; rfl
      rw [unf_some hx hv] at HU
      obtain ⟨g, off, rfl, hg, hcell⟩ := HR.out.at hvv
      have hc0 : wi.cell? ⟨g, off + k, none⟩ = some (.int .i64 vv) := by
       refine (Ki.cell (p := ⟨g, off + k, none⟩) hg).trans ?_
       have := hcell 0 _ rfl
       simpa using this
      have hgi := Nat.lt_of_lt_of_le hg Ki.size
      have hkne : ((k : Int) == (rs.length : Int)) = false := by simp; omega
      clear hv hdr hvv hcell hg
      have hkk : (x.k == 2) = true ∨ ((x.k == 2) = false ∧ (x.k == 4) = true) := by
       unfold readB at hq
       cases h2 : (x.k == 2) with
       | true => exact Or.inl rfl
       | false => rw [h2] at hq; exact Or.inr ⟨rfl, hq⟩
      clear hq
      have hD := fun W => hDn vv W
      obtain ⟨D, hD0⟩ : ∃ D, D = doneP x ⟨pc, q0, q1, q2, q3⟩ vv := ⟨_, rfl⟩
      rw [← hD0] at hD HU
      obtain ⟨e0, e1, ek, el, er, ew⟩ := D
      clear hD0 hDn
      unfold evV at hD
      simp only at hD
      have hA5 := fun W (k : On w W) => hAf ⟨pc, q0, q1, q2, q3⟩ vv W k
      have hao := after_on vv hx
      obtain ⟨⟨npc, s0, s1, s2, s3⟩, hAp⟩ : ∃ l2, l2 = afterP L ⟨pc, q0, q1, q2, q3⟩ vv := ⟨_, rfl⟩
      rw [← hAp] at hA5 HU hao
      clear hAp hAf hNx
      simp only at hao
      unfold locV at hA5
      rcases hkk with hk2 | ⟨hk2, hk4⟩
      ·
       have x0 := Ii.at (i := 0) rfl
       have x1 := Ii.at (i := 1) rfl
       have x2 := Ii.at (i := 2) rfl
       have x3 := Ii.at (i := 3) rfl
       have x4 := Ii.at (i := 4) rfl
       have x5 := Ii.at (i := 5) rfl
       have x6 := Ii.at (i := 6) rfl
       have x7 := Ii.at (i := 7) rfl
       have x8 := Ii.at (i := 8) rfl
       have xl := Ii.lt
       have y0 := Li.at (i := 0) rfl
       have y1 := Li.at (i := 1) rfl
       have y2 := Li.at (i := 2) rfl
       have y3 := Li.at (i := 3) rfl
       have y4 := Li.at (i := 4) rfl
       have yf := fun i => Li.fr i
       have yl := Li.lt
       go_upto_region 10 with fail
       rw [← HWI.out]
       clear HWI
       go_wp2_with fail
       refine (hD _).mono ?_
       rintro _ w4 ⟨rfl, k4⟩
       have P4 := Pi.on k4
       have Q4 := Qi.on k4
       have L4 := Li.on k4
       have own4 := own_on owni k4
       have K4 := Ki.trans k4
       have hs4 := L4.lt
       have hblk : ∀ g, (Value.slice b6 A.length d6).ownBlock = some g → w2.heap.size + 1 ≤ g := fun g hg => (own4.lt g hg).1
       clear x0 x1 x2 x3 x4 x5 x6 x7 x8 xl
       clear y0 y1 y2 y3 y4 yf yl
       clear Pi Qi Li Ii owni Ki hD k4
       go_wp2_with (at_builtin; refine wpList_append_own _ rfl _ _ 38 rfl (w2.heap.size + 1) 58 i0 (.agg #[.int .i64 0, .int .i64 0, .int .i64 0, .int .i64 0, .int .i64 0, .int .i64 0]) 6 48 Tryz.underlying38 hi0 hz0 hz1 hz2 rfl (by decide) _ _ _ rfl ((own4.alloc _).alloc _) ⟨w4.heap.size + 1, 0, none⟩ 1 1 (evC ⟨t, A.length, ek, el, er, ew⟩) rfl rfl ?c1 ?c2 ?c3 ?c4 ?c5 ?_)
       case c1 => exact news_eq (by simp only [World.size_alloc]) _ _
       case c2 => exact one_ev _
       case c3 => unfold maxLen; omega
       case c4 => omega
       case c5 => simp only [World.size_alloc]; omega
       intro v6 w5 own5 hg5 _
       obtain ⟨b7, d7, rfl⟩ := own_slice own5
       have P5 := Bk.grown ((P4.alloc _).alloc _) hg5 (by omega : w.heap.size < w2.heap.size + 1) hblk
       have Q5 := Bk.grown ((Q4.alloc _).alloc _) hg5 (by omega : w.heap.size + 1 < w2.heap.size + 1) hblk
       have L5 := Bk.grown ((L4.alloc _).alloc _) hg5 (by omega : w2.heap.size < w2.heap.size + 1) hblk
       have K5 : On w w5 := On.grown ((K4.alloc _).alloc _) hg5 (fun g hg => by have := hblk g hg; omega)
       clear P4 Q4 L4 own4 K4 hg5 hblk hs4
       have p0 := P5.at (i := 0) rfl
       have p1 := P5.at (i := 1) rfl
       have p2 := P5.at (i := 2) rfl
       have pl := P5.lt
       have y0 := L5.at (i := 0) rfl
       have y1 := L5.at (i := 1) rfl
       have y2 := L5.at (i := 2) rfl
       have y3 := L5.at (i := 3) rfl
       have y4 := L5.at (i := 4) rfl
       have yf := fun i => L5.fr i
       have yl := L5.lt
       go_wp2_with fail
       refine (hA5 _ K5).mono ?_
       rintro _ w6 ⟨rfl, k6⟩
       have P6 := P5.on k6
       have Q6 := Q5.on k6
       have L6 := L5.on k6
       have own6 := own_on own5 k6
       have K6 := K5.trans k6
       clear y0 y1 y2 y3 y4 yf yl
       clear p0 p1 p2 pl
       clear P5 Q5 L5 own5 K5 k6 hA5
       have y0 := L6.at (i := 0) rfl
       have y1 := L6.at (i := 1) rfl
       have y2 := L6.at (i := 2) rfl
       have y3 := L6.at (i := 3) rfl
       have y4 := L6.at (i := 4) rfl
       have yf := fun i => L6.fr i
       have yl := L6.lt
       go_wp2
       go_roundg n
       case measure => have := HN.out; omega
       case rel =>
        refine ⟨⟨npc, s0, s1, s2, s3⟩, A ++ [⟨t, A.length, ek, el, er, ew⟩], k + 1, b7, d7, ?_, ?_, by omega, ?_, ?_, ?_, ?_, ?_, ?_, ?_⟩
        ·
         simp only [List.length_append, List.length_cons, List.length_nil]
        ·
         go_num
        ·
         rw [show (A ++ [(⟨t, A.length, ek, el, er, ew⟩ : EvT)]).length = A.length + 1 by simp, List.flatMap_append]
         exact own_puts [.int .i64 npc, .int .i64 s0, .int .i64 s1, .int .i64 s2, .int .i64 s3] w6 0 own6 (by omega)
        ·
         show On w _
         repeat' (first | with_reducible refine On.setNew ?_ (by omega) _ | with_reducible exact K6)
        ·
         repeat' (first | with_reducible refine Bk.far ?_ (by omega) _ _ | with_reducible exact P6)
        ·
         repeat' (first | with_reducible refine Bk.far ?_ (by omega) _ _ | with_reducible exact Q6)
        ·
         exact Bk.puts [.int .i64 npc, .int .i64 s0, .int .i64 s1, .int .i64 s2, .int .i64 s3] w6 [.int .i64 pc, .int .i64 q0, .int .i64 q1, .int .i64 q2, .int .i64 q3] 0 L6
        ·
         refine ⟨by show 0 ≤ npc; omega, by show _ ≤ _ + npc; omega, ?_⟩
         simp only [List.length_append, List.length_cons, List.length_nil]
         omega
        ·
         have hu := HU.out
         simp only [List.length_append, List.length_cons, List.length_nil, List.append_assoc, List.cons_append, List.nil_append]
         exact hu
      ·
       have x0 := Ii.at (i := 0) rfl
       have x1 := Ii.at (i := 1) rfl
       have x2 := Ii.at (i := 2) rfl
       have x3 := Ii.at (i := 3) rfl
       have x4 := Ii.at (i := 4) rfl
       have x5 := Ii.at (i := 5) rfl
       have x6 := Ii.at (i := 6) rfl
       have x7 := Ii.at (i := 7) rfl
       have x8 := Ii.at (i := 8) rfl
       have xl := Ii.lt
       have y0 := Li.at (i := 0) rfl
       have y1 := Li.at (i := 1) rfl
       have y2 := Li.at (i := 2) rfl
       have y3 := Li.at (i := 3) rfl
       have y4 := Li.at (i := 4) rfl
       have yf := fun i => Li.fr i
       have yl := Li.lt
       go_upto_region 10 with fail
       rw [← HWI.out]
       clear HWI
       go_wp2_with fail
       refine (hD _).mono ?_
       rintro _ w4 ⟨rfl, k4⟩
       have P4 := Pi.on k4
       have Q4 := Qi.on k4
       have L4 := Li.on k4
       have own4 := own_on owni k4
       have K4 := Ki.trans k4
       have hs4 := L4.lt
       have hblk : ∀ g, (Value.slice b6 A.length d6).ownBlock = some g → w2.heap.size + 1 ≤ g := fun g hg => (own4.lt g hg).1
       clear x0 x1 x2 x3 x4 x5 x6 x7 x8 xl
       clear y0 y1 y2 y3 y4 yf yl
       clear Pi Qi Li Ii owni Ki hD k4
       go_wp2_with (at_builtin; refine wpList_append_own _ rfl _ _ 38 rfl (w2.heap.size + 1) 58 i0 (.agg #[.int .i64 0, .int .i64 0, .int .i64 0, .int .i64 0, .int .i64 0, .int .i64 0]) 6 48 Tryz.underlying38 hi0 hz0 hz1 hz2 rfl (by decide) _ _ _ rfl ((own4.alloc _).alloc _) ⟨w4.heap.size + 1, 0, none⟩ 1 1 (evC ⟨t, A.length, ek, el, er, ew⟩) rfl rfl ?c1 ?c2 ?c3 ?c4 ?c5 ?_)
       case c1 => exact news_eq (by simp only [World.size_alloc]) _ _
       case c2 => exact one_ev _
       case c3 => unfold maxLen; omega
       case c4 => omega
       case c5 => simp only [World.size_alloc]; omega
       intro v6 w5 own5 hg5 _
       obtain ⟨b7, d7, rfl⟩ := own_slice own5
       have P5 := Bk.grown ((P4.alloc _).alloc _) hg5 (by omega : w.heap.size < w2.heap.size + 1) hblk
       have Q5 := Bk.grown ((Q4.alloc _).alloc _) hg5 (by omega : w.heap.size + 1 < w2.heap.size + 1) hblk
       have L5 := Bk.grown ((L4.alloc _).alloc _) hg5 (by omega : w2.heap.size < w2.heap.size + 1) hblk
       have K5 : On w w5 := On.grown ((K4.alloc _).alloc _) hg5 (fun g hg => by have := hblk g hg; omega)
       clear P4 Q4 L4 own4 K4 hg5 hblk hs4
       have p0 := P5.at (i := 0) rfl
       have p1 := P5.at (i := 1) rfl
       have p2 := P5.at (i := 2) rfl
       have pl := P5.lt
       have y0 := L5.at (i := 0) rfl
       have y1 := L5.at (i := 1) rfl
       have y2 := L5.at (i := 2) rfl
       have y3 := L5.at (i := 3) rfl
       have y4 := L5.at (i := 4) rfl
       have yf := fun i => L5.fr i
       have yl := L5.lt
       go_wp2_with fail
       refine (hA5 _ K5).mono ?_
       rintro _ w6 ⟨rfl, k6⟩
       have P6 := P5.on k6
       have Q6 := Q5.on k6
       have L6 := L5.on k6
       have own6 := own_on own5 k6
       have K6 := K5.trans k6
       clear y0 y1 y2 y3 y4 yf yl
       clear p0 p1 p2 pl
       clear P5 Q5 L5 own5 K5 k6 hA5
       have y0 := L6.at (i := 0) rfl
       have y1 := L6.at (i := 1) rfl
       have y2 := L6.at (i := 2) rfl
       have y3 := L6.at (i := 3) rfl
       have y4 := L6.at (i := 4) rfl
       have yf := fun i => L6.fr i
       have yl := L6.lt
       go_wp2
       go_roundg n
       case measure => have := HN.out; omega
       case rel =>
        refine ⟨⟨npc, s0, s1, s2, s3⟩, A ++ [⟨t, A.length, ek, el, er, ew⟩], k + 1, b7, d7, ?_, ?_, by omega, ?_, ?_, ?_, ?_, ?_, ?_, ?_⟩
        ·
         simp only [List.length_append, List.length_cons, List.length_nil]
        ·
         go_num
        ·
         rw [show (A ++ [(⟨t, A.length, ek, el, er, ew⟩ : EvT)]).length = A.length + 1 by simp, List.flatMap_append]
         exact own_puts [.int .i64 npc, .int .i64 s0, .int .i64 s1, .int .i64 s2, .int .i64 s3] w6 0 own6 (by omega)
        ·
         show On w _
         repeat' (first | with_reducible refine On.setNew ?_ (by omega) _ | with_reducible exact K6)
        ·
         repeat' (first | with_reducible refine Bk.far ?_ (by omega) _ _ | with_reducible exact P6)
        ·
         repeat' (first | with_reducible refine Bk.far ?_ (by omega) _ _ | with_reducible exact Q6)
        ·
         exact Bk.puts [.int .i64 npc, .int .i64 s0, .int .i64 s1, .int .i64 s2, .int .i64 s3] w6 [.int .i64 pc, .int .i64 q0, .int .i64 q1, .int .i64 q2, .int .i64 q3] 0 L6
        ·
         refine ⟨by show 0 ≤ npc; omega, by show _ ≤ _ + npc; omega, ?_⟩
         simp only [List.length_append, List.length_cons, List.length_nil]
         omega
        ·
         have hu := HU.out
         simp only [List.length_append, List.length_cons, List.length_nil, List.append_assoc, List.cons_append, List.nil_append]
         exact hu
     ·
      obtain rfl : rs.length = k := by omega
      have hv : valP x (rs.drop rs.length) = none := by unfold valP; rw [hq, List.drop_length]; rfl
      rw [unf_more hx hv] at HU
      obtain rfl : A = E := by have := HU.out.1; simpa using this.symm
      obtain ⟨hE', rfl, rfl⟩ := HU.out
      clear hE' HU
      (try simp only)
      clear hNx hAf hv hDn
      have hkk : (x.k == 2) = true ∨ ((x.k == 2) = false ∧ (x.k == 4) = true) := by
       unfold readB at hq
       cases h2 : (x.k == 2) with
       | true => exact Or.inl rfl
       | false => rw [h2] at hq; exact Or.inr ⟨rfl, hq⟩
      clear hq
      rcases hkk with hk2 | ⟨hk2, hk4⟩
      ·
       have x0 := Ii.at (i := 0) rfl
       have x1 := Ii.at (i := 1) rfl
       have x2 := Ii.at (i := 2) rfl
       have x3 := Ii.at (i := 3) rfl
       have x4 := Ii.at (i := 4) rfl
       have x5 := Ii.at (i := 5) rfl
       have x6 := Ii.at (i := 6) rfl
       have x7 := Ii.at (i := 7) rfl
       have x8 := Ii.at (i := 8) rfl
       have xl := Ii.lt
       have y0 := Li.at (i := 0) rfl
       have y1 := Li.at (i := 1) rfl
       have y2 := Li.at (i := 2) rfl
       have y3 := Li.at (i := 3) rfl
       have y4 := Li.at (i := 4) rfl
       have yf := fun i => Li.fr i
       have yl := Li.lt
       have z0 := Qi.at (i := 0) rfl
       have z1 := Qi.at (i := 1) rfl
       have z2 := Qi.at (i := 2) rfl
       have z3 := Qi.at (i := 3) rfl
       have z4 := Qi.at (i := 4) rfl
       have zf := fun i => Qi.fr i
       have zl := Qi.lt
       go_upto_region 10 with fail
       rw [← HWI.out]
       clear HWI
       go_wp2
       go_region
       go_wp2
       refine bodyPost_ret (v := .tuple #[.slice b6 A.length d6, .agg #[.int .i64 pc, .int .i64 q0, .int .i64 q1, .int .i64 q2, .int .i64 q3], .bool true]) ?_ rfl ⟨b6, d6, ?_, ?_, ?_⟩
       ·
        rw [results_scs rfl]
        go_simp
       ·
        simp only [locV]
       ·
        refine own_mono (base := w2.heap.size + 1) ?_ (by omega)
        repeat' (first | with_reducible refine own_drew ?_ | with_reducible refine own_set ?_ (by omega) _ _ | with_reducible refine World.ownsRow.alloc ?_ _ | with_reducible exact owni)
       ·
        repeat' (first | with_reducible refine On.drew ?_ | with_reducible refine On.setNew ?_ (by omega) _ | with_reducible refine On.alloc ?_ _ | with_reducible exact Ki)
      ·
       have x0 := Ii.at (i := 0) rfl
       have x1 := Ii.at (i := 1) rfl
       have x2 := Ii.at (i := 2) rfl
       have x3 := Ii.at (i := 3) rfl
       have x4 := Ii.at (i := 4) rfl
       have x5 := Ii.at (i := 5) rfl
       have x6 := Ii.at (i := 6) rfl
       have x7 := Ii.at (i := 7) rfl
       have x8 := Ii.at (i := 8) rfl
       have xl := Ii.lt
       have y0 := Li.at (i := 0) rfl
       have y1 := Li.at (i := 1) rfl
       have y2 := Li.at (i := 2) rfl
       have y3 := Li.at (i := 3) rfl
       have y4 := Li.at (i := 4) rfl
       have yf := fun i => Li.fr i
       have yl := Li.lt
       have z0 := Qi.at (i := 0) rfl
       have z1 := Qi.at (i := 1) rfl
       have z2 := Qi.at (i := 2) rfl
       have z3 := Qi.at (i := 3) rfl
       have z4 := Qi.at (i := 4) rfl
       have zf := fun i => Qi.fr i
       have zl := Qi.lt
       go_upto_region 10 with fail
       rw [← HWI.out]
       clear HWI
       go_wp2
       go_region
       go_wp2
       refine bodyPost_ret (v := .tuple #[.slice b6 A.length d6, .agg #[.int .i64 pc, .int .i64 q0, .int .i64 q1, .int .i64 q2, .int .i64 q3], .bool true]) ?_ rfl ⟨b6, d6, ?_, ?_, ?_⟩
       ·
        rw [results_scs rfl]
        go_simp
       ·
        simp only [locV]
       ·
        refine own_mono (base := w2.heap.size + 1) ?_ (by omega)
        repeat' (first | with_reducible refine own_drew ?_ | with_reducible refine own_set ?_ (by omega) _ _ | with_reducible refine World.ownsRow.alloc ?_ _ | with_reducible exact owni)
       ·
        repeat' (first | with_reducible refine On.drew ?_ | with_reducible refine On.setNew ?_ (by omega) _ | with_reducible refine On.alloc ?_ _ | with_reducible exact Ki)
    | false =>
     have hv : valP x (rs.drop k) = some (0, rs.drop k) := by unfold valP; rw [hq]; rfl
     rw [unf_some hx hv] at HU
     clear hv
     have hk2 : (x.k == 2) = false ∧ (x.k == 4) = false := by
      unfold readB at hq
      simpa using hq
     obtain ⟨hk2, hk4⟩ := hk2
     clear hq
     have hD := fun W => hDn 0 W
     obtain ⟨D, hD0⟩ : ∃ D, D = doneP x ⟨pc, q0, q1, q2, q3⟩ 0 := ⟨_, rfl⟩
     rw [← hD0] at hD HU
     obtain ⟨e0, e1, ek, el, er, ew⟩ := D
     clear hD0 hDn
     unfold evV at hD
     simp only at hD
     have hA5 := fun W (k : On w W) => hAf ⟨pc, q0, q1, q2, q3⟩ 0 W k
     have hao := after_on 0 hx
     obtain ⟨⟨npc, s0, s1, s2, s3⟩, hAp⟩ : ∃ l2, l2 = afterP L ⟨pc, q0, q1, q2, q3⟩ 0 := ⟨_, rfl⟩
     rw [← hAp] at hA5 HU hao
     clear hAp hAf hNx
     simp only at hao
     unfold locV at hA5
     have x0 := Ii.at (i := 0) rfl
     have x1 := Ii.at (i := 1) rfl
     have x2 := Ii.at (i := 2) rfl
     have x3 := Ii.at (i := 3) rfl
     have x4 := Ii.at (i := 4) rfl
     have x5 := Ii.at (i := 5) rfl
     have x6 := Ii.at (i := 6) rfl
     have x7 := Ii.at (i := 7) rfl
     have x8 := Ii.at (i := 8) rfl
     have xl := Ii.lt
     have y0 := Li.at (i := 0) rfl
     have y1 := Li.at (i := 1) rfl
     have y2 := Li.at (i := 2) rfl
     have y3 := Li.at (i := 3) rfl
     have y4 := Li.at (i := 4) rfl
     have yf := fun i => Li.fr i
     have yl := Li.lt
     go_upto_region 10 with fail
     rw [← HWI.out]
     clear HWI
     go_wp2_with fail
     refine (hD _).mono ?_
     rintro _ w4 ⟨rfl, k4⟩
     have P4 := Pi.on k4
     have Q4 := Qi.on k4
     have L4 := Li.on k4
     have own4 := own_on owni k4
     have K4 := Ki.trans k4
     have hs4 := L4.lt
     have hblk : ∀ g, (Value.slice b6 A.length d6).ownBlock = some g → w2.heap.size + 1 ≤ g := fun g hg => (own4.lt g hg).1
     clear x0 x1 x2 x3 x4 x5 x6 x7 x8 xl
     clear y0 y1 y2 y3 y4 yf yl
     clear Pi Qi Li Ii owni Ki hD k4
     go_wp2_with (at_builtin; refine wpList_append_own _ rfl _ _ 38 rfl (w2.heap.size + 1) 58 i0 (.agg #[.int .i64 0, .int .i64 0, .int .i64 0, .int .i64 0, .int .i64 0, .int .i64 0]) 6 48 Tryz.underlying38 hi0 hz0 hz1 hz2 rfl (by decide) _ _ _ rfl ((own4.alloc _).alloc _) ⟨w4.heap.size + 1, 0, none⟩ 1 1 (evC ⟨t, A.length, ek, el, er, ew⟩) rfl rfl ?c1 ?c2 ?c3 ?c4 ?c5 ?_)
     case c1 => exact news_eq (by simp only [World.size_alloc]) _ _
     case c2 => exact one_ev _
     case c3 => unfold maxLen; omega
     case c4 => omega
     case c5 => simp only [World.size_alloc]; omega
     intro v6 w5 own5 hg5 _
     obtain ⟨b7, d7, rfl⟩ := own_slice own5
     have P5 := Bk.grown ((P4.alloc _).alloc _) hg5 (by omega : w.heap.size < w2.heap.size + 1) hblk
     have Q5 := Bk.grown ((Q4.alloc _).alloc _) hg5 (by omega : w.heap.size + 1 < w2.heap.size + 1) hblk
     have L5 := Bk.grown ((L4.alloc _).alloc _) hg5 (by omega : w2.heap.size < w2.heap.size + 1) hblk
     have K5 : On w w5 := On.grown ((K4.alloc _).alloc _) hg5 (fun g hg => by have := hblk g hg; omega)
     clear P4 Q4 L4 own4 K4 hg5 hblk hs4
     have p0 := P5.at (i := 0) rfl
     have p1 := P5.at (i := 1) rfl
     have p2 := P5.at (i := 2) rfl
     have pl := P5.lt
     have y0 := L5.at (i := 0) rfl
     have y1 := L5.at (i := 1) rfl
     have y2 := L5.at (i := 2) rfl
     have y3 := L5.at (i := 3) rfl
     have y4 := L5.at (i := 4) rfl
     have yf := fun i => L5.fr i
     have yl := L5.lt
     go_wp2_with fail
     refine (hA5 _ K5).mono ?_
     rintro _ w6 ⟨rfl, k6⟩
     have P6 := P5.on k6
     have Q6 := Q5.on k6
     have L6 := L5.on k6
     have own6 := own_on own5 k6
     have K6 := K5.trans k6
     clear y0 y1 y2 y3 y4 yf yl
     clear p0 p1 p2 pl
     clear P5 Q5 L5 own5 K5 k6 hA5
     have y0 := L6.at (i := 0) rfl
     have y1 := L6.at (i := 1) rfl
     have y2 := L6.at (i := 2) rfl
     have y3 := L6.at (i := 3) rfl
     have y4 := L6.at (i := 4) rfl
     have yf := fun i => L6.fr i
     have yl := L6.lt
     go_wp2
     go_roundg n
     case measure => have := HN.out; omega
     case rel =>
      refine ⟨⟨npc, s0, s1, s2, s3⟩, A ++ [⟨t, A.length, ek, el, er, ew⟩], k, b7, d7, ?_, ?_, by omega, ?_, ?_, ?_, ?_, ?_, ?_, ?_⟩
      ·
       simp only [List.length_append, List.length_cons, List.length_nil]
      ·
       rfl
      ·
       rw [show (A ++ [(⟨t, A.length, ek, el, er, ew⟩ : EvT)]).length = A.length + 1 by simp, List.flatMap_append]
       exact own_puts [.int .i64 npc, .int .i64 s0, .int .i64 s1, .int .i64 s2, .int .i64 s3] w6 0 own6 (by omega)
      ·
       show On w _
       repeat' (first | with_reducible refine On.setNew ?_ (by omega) _ | with_reducible exact K6)
      ·
       repeat' (first | with_reducible refine Bk.far ?_ (by omega) _ _ | with_reducible exact P6)
      ·
       repeat' (first | with_reducible refine Bk.far ?_ (by omega) _ _ | with_reducible exact Q6)
      ·
       exact Bk.puts [.int .i64 npc, .int .i64 s0, .int .i64 s1, .int .i64 s2, .int .i64 s3] w6 [.int .i64 pc, .int .i64 q0, .int .i64 q1, .int .i64 q2, .int .i64 q3] 0 L6
      ·
       refine ⟨by show 0 ≤ npc; omega, by show _ ≤ _ + npc; omega, ?_⟩
       simp only [List.length_append, List.length_cons, List.length_nil]
       omega
      ·
       have hu := HU.out
       simp only [List.length_append, List.length_cons, List.length_nil, List.append_assoc, List.cons_append, List.nil_append]
       exact hu
end Go.Proofs.YtioiabfheeglgaaGreatDoor
