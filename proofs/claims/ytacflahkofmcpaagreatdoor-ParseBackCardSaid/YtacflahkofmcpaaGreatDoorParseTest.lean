/- A whole test, as the parser takes it. -/
import Derived.Test.YtacflahkofmcpaaGreatDoorJ11ParseCondW
import Derived.Deep.RegionLaw
namespace Go.Proofs.YtacflahkofmcpaaGreatDoor
open Go.RowKit

/-- append to a row of the call's own, as one step of a region that draws. -/
theorem step_append_own {P : Program} {ops : Array Oper} {o : Oper} {a : Act} {w : World} {K : Act → World → Prop} {Q : Exit → Act → World → Prop} {E : Prop} (hg : o.guard = none) (s x : Operand) (t : TypeId)
    (ho : o.op = .call { callee := .builtin .append, args := #[s, x], argTypes := #[t, t] })
    (base : Nat) (e : TypeId) (i : TypeInfo) (z : Value) (size bytes : Nat) (ht : P.underlying t = some (.slice e)) (hi : P.info? e = some i) (hz : i.zero = some z)
    (hsize : i.size = size) (hby : i.bytes = bytes) (hzs : z.cells.size = size) (hsz : 0 < size)
    (v : Value) (n : Nat) (xs : List Value) (hs : a.eval s = v) (hown : w.ownsRow base e size v n xs)
    (ad : Addr) (m c : Nat) (news : List Value) (hx : a.eval x = .slice (some ad) m c) (hl : news.length = m * size) (hnews : ∀ j u, news[j]? = some u → w.cell? (ad.add j) = some u) (h1 : ∀ u ∈ news, u.oneCell' = true)
    (h63 : n + m ≤ maxLen) (hbytes : (n + m) * bytes ≤ 140737488355328) (hbase : base ≤ w.heap.size)
    (h : ∀ v' w', w'.ownsRow base e size v' (n + m) (xs ++ news) → w.grownBy w' v.ownBlock → K (a.put o.dst v') w') : if Region.wanted o (yielded ops a.tmps) = true then Oper.wp P o a w K Q else E := by
  have hw : Region.wanted o (yielded ops a.tmps) = true := by simp [Region.wanted, hg]
  rw [if_pos hw]
  exact wp_append_own w s x t ho base e i z size bytes ht hi hz hsize hby hzs hsz v n xs hs hown ad m c news hx hl hnews h1 h63 hbytes hbase fun v' w' h2 h3 _ => h v' w' h2 h3

theorem new_news (w : World) (v : Value) (e : TypeId) : ∀ (j : Nat) (u : Value), [v][j]? = some u → (w.alloc (.cells #[v] e)).cell? ((⟨w.heap.size, 0, none⟩ : Addr).add j) = some u := by
  intro j u hu
  rw [new_cell]
  exact hu
theorem one_news (a : Option Addr) (m c : Nat) : ∀ u ∈ [Value.slice a m c], u.oneCell' = true := by
  intro u hu
  simp only [List.mem_cons, List.not_mem_nil, or_false] at hu
  subst hu
  rfl
theorem base_alloc {b : Nat} {w : World} (h : b ≤ w.heap.size) (o : Obj) : b ≤ (w.alloc o).heap.size := by simp; omega
theorem Bk.at {w : World} {N i : Nat} {cs : Array Value} {v : Value} (h : Bk w N cs) (hv : cs[i]? = some v) : w.cell? ⟨N, i, none⟩ = some v := by obtain ⟨T, e⟩ := h; simp [World.cell?, e, hv]
theorem Bk.fr {w : World} {N : Nat} {cs : Array Value} (h : Bk w N cs) (i : Nat) : w.frozen? ⟨N, i, none⟩ = false := by obtain ⟨T, e⟩ := h; simp [World.frozen?, e]
abbrev IniAt (w : World) (base : Nat) (v : Value) (L : List InitT) : Prop := w.ownsRow base 55 2 v L.length (L.flatMap iniC)
abbrev ThrAt (w : World) (base : Nat) (v : Value) (LL : List (List InsT)) : Prop := Own2 insC 9 48 52 w base v LL
theorem infoThr : (Tryz.prog.info? 48).map (fun i => (i.zero, i.size, i.bytes)) = some (some (.slice none 0 0), 1, 24) := by kernel_rfl

/-- v holds this test. -/
def TestAt (w : World) (base : Nat) (v : Value) (t : TestT) : Prop :=
  ∃ a1 m1 c1 a2 m2 c2 a3 m3 c3, v = .agg #[.string t.name, .slice a1 m1 c1, .slice a2 m2 c2, .int .i64 t.cond.k, .slice a3 m3 c3] ∧ IniAt w base (.slice a1 m1 c1) t.ini ∧ ThrAt w base (.slice a2 m2 c2) t.thr ∧ AnyAt w base (.slice a3 m3 c3) t.cond.any

theorem Bk.new2 (w : World) (o : Obj) (cs : Array Value) (T : TypeId) : Bk ((w.alloc o).alloc (.cells cs T)) (w.heap.size + 1) cs := by
  have h := Bk.new (w.alloc o) cs T
  rwa [World.size_alloc] at h
theorem Bk.drew {w : World} {N : Nat} {cs : Array Value} (h : Bk w N cs) : Bk w.drew N cs := h
theorem Bk.grown {w w' : World} {N base : Nat} {cs : Array Value} {v : Value} (h : Bk w N cs) (hg : w.grownBy w' v.ownBlock) (hN : N < base) (ho : ∀ g, v.ownBlock = some g → base ≤ g) : Bk w' N cs := by
  obtain ⟨T, e⟩ := h
  exact ⟨T, (hg.block N (lt_of_block e) (fun h => by have := ho N h.symm; omega)).trans e⟩
theorem own_grown {w w' : World} {b1 b2 k1 k2 n m : Nat} {eo ei : TypeId} {u v : Value} {xs ys : List Value} (h : w.ownsRow b1 ei k1 u n xs) (ho : w.ownsRow b2 eo k2 v m ys) (hne : eo ≠ ei) (hg : w.grownBy w' v.ownBlock) : w'.ownsRow b1 ei k1 u n xs := own_far h ho hne hg

/-- Threads, condition and end, behind the name and the initial values. -/
def tailP (s : ByteArray) (nm : ByteArray) (ini : List InitT) (S : St) : TestT × St :=
  (⟨nm, ini, (thrP s S).1, (condP s (thrP s S).2).1⟩, endS s (expS s xShut (condP s (thrP s S).2).2))
section
variable (w : World) (p l : Nat) (s : ByteArray) (S : St)
set_option maxHeartbeats 2000000
set_option maxRecDepth 8000
def TestPost (w : World) (p l : Nat) (s : ByteArray) (R : TestT × St) (e : Ending) (w' : World) : Prop :=
  ∃ v, e = .returned v ∧ TestAt w' w.heap.size v R.1 ∧ Px w' p l s R.2 ∧ Wp p l w w'
theorem blockIns_at (h : Px w p l s S) :
    Calls Tryz.prog 78 #[.pointer (some ⟨p, 0, none⟩), .func (.func 79) #[] #[]] w fun e w' => ∃ a m c, e = .returned (.slice a m c) ∧ w'.ownsRow w.heap.size 52 9 (.slice a m c) (insB s S).1.length ((insB s S).1.flatMap insC) ∧ Px w' p l s (insB s S).2 ∧ Wp p l w w' := by
  refine (blockIns_is w p l s S h).mono ?_
  rintro e w' ⟨v, rfl, ho, r⟩
  obtain ⟨a, m, c, rfl⟩ := own_slice ho
  exact ⟨a, m, c, rfl, ho, r⟩
theorem blockIni_at (h : Px w p l s S) :
    Calls Tryz.prog 76 #[.pointer (some ⟨p, 0, none⟩), .func (.func 77) #[] #[]] w fun e w' => ∃ a m c, e = .returned (.slice a m c) ∧ w'.ownsRow w.heap.size 55 2 (.slice a m c) (iniB s S).1.length ((iniB s S).1.flatMap iniC) ∧ Px w' p l s (iniB s S).2 ∧ Wp p l w w' := by
  refine (blockIni_is w p l s S h).mono ?_
  rintro e w' ⟨v, rfl, ho, r⟩
  obtain ⟨a, m, c, rfl⟩ := own_slice ho
  exact ⟨a, m, c, rfl, ho, r⟩
theorem condition_at (h : Px w p l s S) :
    Calls Tryz.prog 80 #[.pointer (some ⟨p, 0, none⟩)] w fun e w' => ∃ a m c, e = .returned (.agg #[.int .i64 (condP s S).1.k, .slice a m c]) ∧ AnyAt w' (w.heap.size + 1) (.slice a m c) (condP s S).1.any ∧ Px w' p l s (condP s S).2 ∧ Wp p l w w' := condition_is w p l s S h

theorem test_plain (q1 : isX s xInit (hdS s S).2 = false) (h : Px w p l s S) :
    Calls Tryz.prog 31 #[.pointer (some ⟨p, 0, none⟩)] w (TestPost w p l s (testP s S)) := by
  obtain ⟨i0, hi, hz0, hz1, hz2⟩ := info_parts infoThr
  have hx : ∀ o1 o2, Px ((w.alloc o1).alloc o2) p l s S := fun o1 o2 => (h.alloc o1).alloc o2
  have hlp := h.lp
  have hll := h.ll
  have hlp1 := Nat.lt_succ_of_lt hlp
  have hll1 := Nat.lt_succ_of_lt hll
  have hsz := h.sz
  have hmS : ∀ S' : St, mS s S' ≤ s.size + 1 := by intro S'; cases S' <;> simp [mS]
  obtain ⟨R0, hR⟩ : ∃ R0, R0 = testP s S := ⟨_, rfl⟩
  rw [← hR]
  unfold testP at hR
  have HR : Hid (R0 = _) := hR
  clear h hR
  go_enter Tryz.func31, Tryz.ntmps31
  go_wp2_with fail
  refine (expect_is _ p l s S xTest (ne_nil _ _) (hx _ _)).mono ?_
  rintro e w1 ⟨rfl, h1, hw1⟩
  have B1 := ((Bk.new w _ _).alloc _).wp hw1 (by omega) (by omega)
  have A1 := (Bk.new2 w _ _ _).wp hw1 (by omega) (by omega)
  have W1 : Hid (Wp p l w w1) := (((Wp.refl p l w).alloc _).alloc _).trans hw1
  clear hw1 hx
  go_wp2_with fail
  refine (name_is _ p l s _ h1).mono ?_
  rintro e w2 ⟨rfl, h2, hw2⟩
  have B2 := B1.wp hw2 (by omega) (by omega)
  have A2 := A1.wp hw2 (by omega) (by omega)
  have W2 : Hid (Wp p l w w2) := W1.out.trans hw2
  obtain ⟨U, ha⟩ := A2
  have ac0 : w2.cell? ⟨w.heap.size + 1, 0, none⟩ = some (.string ⟨#[]⟩) := by simp [World.cell?, ha]
  have ac1 : w2.cell? ⟨w.heap.size + 1, 1, none⟩ = some (.slice none 0 0) := by simp [World.cell?, ha]
  have ac2 : w2.cell? ⟨w.heap.size + 1, 2, none⟩ = some (.slice none 0 0) := by simp [World.cell?, ha]
  have ac3 : w2.cell? ⟨w.heap.size + 1, 3, none⟩ = some (.int .i64 0) := by simp [World.cell?, ha]
  have ac4 : w2.cell? ⟨w.heap.size + 1, 4, none⟩ = some (.slice none 0 0) := by simp [World.cell?, ha]
  have af0 : w2.frozen? ⟨w.heap.size + 1, 0, none⟩ = false := by simp [World.frozen?, ha]
  have af1 : w2.frozen? ⟨w.heap.size + 1, 1, none⟩ = false := by simp [World.frozen?, ha]
  have af2 : w2.frozen? ⟨w.heap.size + 1, 2, none⟩ = false := by simp [World.frozen?, ha]
  have af3 : w2.frozen? ⟨w.heap.size + 1, 3, none⟩ = false := by simp [World.frozen?, ha]
  have af4 : w2.frozen? ⟨w.heap.size + 1, 4, none⟩ = false := by simp [World.frozen?, ha]
  have A2 : Bk w2 (w.heap.size + 1) _ := ⟨U, ha⟩
  clear hw2 B1 A1 h1 W1 ha
  go_wp2_with fail
  refine (expect_is _ p l s _ xOpen (ne_nil _ _) (h2.setFar hlp1 hll1 _)).mono ?_
  rintro e w3 ⟨rfl, h3, hw3⟩
  have B3 := (B2.setFar (by omega) _ _).wp hw3 (by omega) (by omega)
  have A3 := (A2.set _ _).wp hw3 (by omega) (by omega)
  have W3 : Hid (Wp p l w w3) := (W2.out.setNew (Nat.le_succ _) _).trans hw3
  clear hw3 B2 A2 h2 W2 ac0 ac1 ac2 ac3 ac4 af0 af1 af2 af3 af4
  change Px w3 p l s (hdS s S).2 at h3
  change Bk w3 (w.heap.size + 1) #[.string (hdS s S).1, .slice none 0 0, .slice none 0 0, .int .i64 0, .slice none 0 0] at A3
  generalize hdS s S = HD at *
  have hI : initP s HD.2 = ([], HD.2) := by unfold initP; rw [q1]; rfl
  have HR1 : Hid (R0 = tailP s HD.1 [] HD.2) := by have h := HR.out; rw [hI] at h; exact h
  clear HR
  go_wp2_with fail
  refine (acc_no _ p l s _ xInit (ne_nil _ _) q1 h3).mono ?_
  rintro e w4 ⟨rfl, h4, hw4⟩
  have B6 := B3.wp hw4 (by omega) (by omega)
  have A6 := A3.wp hw4 (by omega) (by omega)
  have W6 : Hid (Wp p l w w4) := W3.out.trans hw4
  have hoi6 : IniAt w4 (w.heap.size + 2) (.slice none 0 0) [] := World.ownsRow_nil _ _ _ _
  have h6 := h4
  clear hw4 B3 A3 h3 W3 hI h4
  go_wp2
  go_loopg [] (mS s HD.2) (fun k wr => ∃ (S' : St) (L : List (List InsT)) (a m c : _), k = mS s S' ∧ Px wr p l s S' ∧ ThrAt wr (w.heap.size + 2) (.slice a m c) L ∧ L.length + mS s S' ≤ s.size + 2 ∧ (L ++ (thrP s S').1, (thrP s S').2) = thrP s HD.2 ∧ Bk wr (w.heap.size + 1) #[.string HD.1, .slice none 0 0, .slice a m c, .int .i64 0, .slice none 0 0] ∧ Bk wr w.heap.size #[.string ⟨#[]⟩, .slice none 0 0, .slice none 0 0, .int .i64 0, .slice none 0 0] ∧ IniAt wr (w.heap.size + 2) (.slice none 0 0) [] ∧ Wp p l w wr)
  case atStart => exact ⟨HD.2, [], none, 0, 0, rfl, h6, Own2.nil _ _ _ _ _ _, by simp; have := hmS HD.2; omega, rfl, A6, B6, hoi6, W6.out⟩
  case round =>
    clear A6 B6 hoi6 W6 h6 hmS
    obtain ⟨S', L, ta, tm, tc, hk, hpx, hth, hlen, heq, A7, B7, hoi7, hwp⟩ := hrel
    have HE : Hid ((L ++ (thrP s S').1, (thrP s S').2) = thrP s HD.2) := heq
    clear heq
    cases hX : isX s xThread S' with
    | false =>
      have hend := more_end s (f := insB s) hX
      have hE : thrP s HD.2 = (L, S') := by rw [← HE.out]; unfold thrP; rw [hend]; simp
      have HR2 : Hid (R0 = (⟨HD.1, [], L, (condP s S').1⟩, endS s (expS s xShut (condP s S').2))) := by have h := HR1.out; unfold tailP at h; rw [hE] at h; exact h
      clear hE HE hend HR1
      go_wp2_with fail
      refine (acc_no _ p l s S' xThread (ne_nil _ _) hX hpx).mono ?_
      rintro e w2 ⟨rfl, h2, hw2⟩
      have B8 := B7.wp hw2 (by omega) (by omega)
      have A8 := A7.wp hw2 (by omega) (by omega)
      have W8 : Hid (Wp p l w w2) := hwp.trans hw2
      have th8 := hth.wp hw2 (by omega) (by omega)
      have oi8 := own_wp hoi7 hw2 (by omega) (by omega)
      have L8 : w.heap.size + 2 ≤ w2.heap.size := A8.lt
      clear hw2 hpx A7 B7 hwp hth hoi7
      go_wp2_with fail
      refine (condition_at _ p l s _ h2).mono ?_
      rintro e w3 ⟨ca, cm, cc, rfl, hc3, h3, hw3⟩
      have B9 := B8.wp hw3 (by omega) (by omega)
      have A9 := A8.wp hw3 (by omega) (by omega)
      have W9 : Hid (Wp p l w w3) := W8.out.trans hw3
      have th9 := th8.wp hw3 (by omega) (by omega)
      have oi9 := own_wp oi8 hw3 (by omega) (by omega)
      have hc9 := hc3.mono (show w.heap.size + 2 ≤ w2.heap.size + 1 by omega)
      obtain ⟨U2, ha⟩ := A9
      have ac0 : w3.cell? ⟨w.heap.size + 1, 0, none⟩ = some (.string HD.1) := by simp [World.cell?, ha]
      have ac1 : w3.cell? ⟨w.heap.size + 1, 1, none⟩ = some (.slice none 0 0) := by simp [World.cell?, ha]
      have ac2 : w3.cell? ⟨w.heap.size + 1, 2, none⟩ = some (.slice ta tm tc) := by simp [World.cell?, ha]
      have ac3 : w3.cell? ⟨w.heap.size + 1, 3, none⟩ = some (.int .i64 0) := by simp [World.cell?, ha]
      have ac4 : w3.cell? ⟨w.heap.size + 1, 4, none⟩ = some (.slice none 0 0) := by simp [World.cell?, ha]
      have af0 : w3.frozen? ⟨w.heap.size + 1, 0, none⟩ = false := by simp [World.frozen?, ha]
      have af1 : w3.frozen? ⟨w.heap.size + 1, 1, none⟩ = false := by simp [World.frozen?, ha]
      have af2 : w3.frozen? ⟨w.heap.size + 1, 2, none⟩ = false := by simp [World.frozen?, ha]
      have af3 : w3.frozen? ⟨w.heap.size + 1, 3, none⟩ = false := by simp [World.frozen?, ha]
      have af4 : w3.frozen? ⟨w.heap.size + 1, 4, none⟩ = false := by simp [World.frozen?, ha]
      have A9 : Bk w3 (w.heap.size + 1) _ := ⟨U2, ha⟩
      clear hw3 h2 A8 B8 W8 th8 oi8 hc3 ha L8
      generalize condP s S' = R3 at *
      go_wp2_with fail
      refine (expect_is _ p l s _ xShut (ne_nil _ _) ((h3.setFar hlp1 hll1 _).setFar hlp1 hll1 _)).mono ?_
      rintro e w4 ⟨rfl, h4, hw4⟩
      have B10 := ((B9.setFar (by omega) _ _).setFar (by omega) _ _).wp hw4 (by omega) (by omega)
      have A10 := ((A9.set _ _).set _ _).wp hw4 (by omega) (by omega)
      have W10 : Hid (Wp p l w w4) := ((W9.out.setNew (Nat.le_succ _) _).setNew (Nat.le_succ _) _).trans hw4
      have th10 := ((th9.setFar (by omega) _).setFar (by omega) _).wp hw4 (by omega) (by omega)
      have oi10 := own_wp (own_setFar (own_setFar oi9 (by omega) _) (by omega) _) hw4 (by omega) (by omega)
      have hc10 := ((hc9.setFar (by omega) _).setFar (by omega) _).wp hw4 (by omega) (by omega)
      clear hw4 h3 A9 B9 W9 th9 oi9 hc9 ac0 ac1 ac2 ac3 ac4 af0 af1 af2 af3 af4
      go_wp2_with fail
      refine (end_is _ p l s _ h4).mono ?_
      rintro e w5 ⟨rfl, h5, hw5⟩
      obtain ⟨T3, hB⟩ := B10.wp hw5 (by omega) (by omega)
      obtain ⟨U3, ha⟩ := A10.wp hw5 (by omega) (by omega)
      have W11 : Hid (Wp p l w w5) := W10.out.trans hw5
      have th11 := (th10.wp hw5 (by omega) (by omega)).mono (show w.heap.size + 1 ≤ w.heap.size + 2 by omega)
      have oi11 := own_mono (own_wp oi10 hw5 (by omega) (by omega)) (show w.heap.size + 1 ≤ w.heap.size + 2 by omega)
      have hc11 := (hc10.wp hw5 (by omega) (by omega)).mono (show w.heap.size + 1 ≤ w.heap.size + 2 by omega)
      have dc0 : w5.cell? ⟨w.heap.size, 0, none⟩ = some (.string ⟨#[]⟩) := by simp [World.cell?, hB]
      have dc1 : w5.cell? ⟨w.heap.size, 1, none⟩ = some (.slice none 0 0) := by simp [World.cell?, hB]
      have dc2 : w5.cell? ⟨w.heap.size, 2, none⟩ = some (.slice none 0 0) := by simp [World.cell?, hB]
      have dc3 : w5.cell? ⟨w.heap.size, 3, none⟩ = some (.int .i64 0) := by simp [World.cell?, hB]
      have dc4 : w5.cell? ⟨w.heap.size, 4, none⟩ = some (.slice none 0 0) := by simp [World.cell?, hB]
      have df0 : w5.frozen? ⟨w.heap.size, 0, none⟩ = false := by simp [World.frozen?, hB]
      have df1 : w5.frozen? ⟨w.heap.size, 1, none⟩ = false := by simp [World.frozen?, hB]
      have df2 : w5.frozen? ⟨w.heap.size, 2, none⟩ = false := by simp [World.frozen?, hB]
      have df3 : w5.frozen? ⟨w.heap.size, 3, none⟩ = false := by simp [World.frozen?, hB]
      have df4 : w5.frozen? ⟨w.heap.size, 4, none⟩ = false := by simp [World.frozen?, hB]
      have ac0 : w5.cell? ⟨w.heap.size + 1, 0, none⟩ = some (.string HD.1) := by simp [World.cell?, ha]
      have ac1 : w5.cell? ⟨w.heap.size + 1, 1, none⟩ = some (.slice none 0 0) := by simp [World.cell?, ha]
      have ac2 : w5.cell? ⟨w.heap.size + 1, 2, none⟩ = some (.slice ta tm tc) := by simp [World.cell?, ha]
      have ac3 : w5.cell? ⟨w.heap.size + 1, 3, none⟩ = some (.int .i64 R3.1.k) := by simp [World.cell?, ha]
      have ac4 : w5.cell? ⟨w.heap.size + 1, 4, none⟩ = some (.slice ca cm cc) := by simp [World.cell?, ha]
      have af0 : w5.frozen? ⟨w.heap.size + 1, 0, none⟩ = false := by simp [World.frozen?, ha]
      have af1 : w5.frozen? ⟨w.heap.size + 1, 1, none⟩ = false := by simp [World.frozen?, ha]
      have af2 : w5.frozen? ⟨w.heap.size + 1, 2, none⟩ = false := by simp [World.frozen?, ha]
      have af3 : w5.frozen? ⟨w.heap.size + 1, 3, none⟩ = false := by simp [World.frozen?, ha]
      have af4 : w5.frozen? ⟨w.heap.size + 1, 4, none⟩ = false := by simp [World.frozen?, ha]
      clear hw5 h4 A10 B10 W10 th10 oi10 hc10 hB ha
      have N1 : w.heap.size + 1 ≠ w.heap.size := by omega
      have N2 : w.heap.size ≠ w.heap.size + 1 := by omega
      go_wp2
      (try simp only [Exit.inBlock, Exit.then])
      obtain rfl := HR2.out
      refine bodyPost_ret (v := .agg #[.string HD.1, .slice none 0 0, .slice ta tm tc, .int .i64 R3.1.k, .slice ca cm cc]) ?_ rfl ⟨_, rfl, ⟨_, _, _, _, _, _, _, _, _, rfl, ?_, ?_, ?_⟩, (((((h5.setFar hlp hll _).setFar hlp hll _).setFar hlp hll _).setFar hlp hll _).setFar hlp hll _), (((((W11.out.setNew (Nat.le_refl _) _).setNew (Nat.le_refl _) _).setNew (Nat.le_refl _) _).setNew (Nat.le_refl _) _).setNew (Nat.le_refl _) _)⟩
      · rw [results_cell rfl]
        go_simp
      · exact own_mono (own_setFar (own_setFar (own_setFar (own_setFar (own_setFar oi11 (by omega) _) (by omega) _) (by omega) _) (by omega) _) (by omega) _) (Nat.le_succ _)
      · exact (((((th11.setFar (by omega) _).setFar (by omega) _).setFar (by omega) _).setFar (by omega) _).setFar (by omega) _).mono (Nat.le_succ _)
      · exact (((((hc11.setFar (by omega) _).setFar (by omega) _).setFar (by omega) _).setFar (by omega) _).setFar (by omega) _).mono (Nat.le_succ _)
    | true =>
      have hOn := more_on s (goes_insB s) (ne_nil _ _) hpx.vd hX
      have hL := prt_less s (goes_insB s) (ne_nil _ _) hpx.vd hX
      have HO : Hid (thrP s S' = ((insB s (nx s S')).1 :: (thrP s (insB s (nx s S')).2).1, (thrP s (insB s (nx s S')).2).2)) := hOn
      clear hOn
      go_wp2_with fail
      refine (acc_yes _ p l s S' xThread (ne_nil _ _) hX hpx).mono ?_
      rintro e w2 ⟨rfl, h2, hw2⟩
      have B8 := (B7.wp hw2 (by omega) (by omega)).drew
      have A8 := (A7.wp hw2 (by omega) (by omega)).drew
      have W8 : Hid (Wp p l w w2.drew) := (hwp.trans hw2).drew
      have th8' := hth.wp hw2 (by omega) (by omega)
      have oi8' := own_wp hoi7 hw2 (by omega) (by omega)
      have th8 : ThrAt w2.drew (w.heap.size + 2) (.slice ta tm tc) L := th8'
      have oi8 : IniAt w2.drew (w.heap.size + 2) (.slice none 0 0) [] := oi8'
      have L8 : w.heap.size + 2 ≤ w2.heap.size := A8.lt
      have hP8 := h2.drew
      obtain ⟨U2, ha⟩ := A8
      have ac0 : w2.drew.cell? ⟨w.heap.size + 1, 0, none⟩ = some (.string HD.1) := by simp [World.cell?, ha]
      have ac1 : w2.drew.cell? ⟨w.heap.size + 1, 1, none⟩ = some (.slice none 0 0) := by simp [World.cell?, ha]
      have ac2 : w2.drew.cell? ⟨w.heap.size + 1, 2, none⟩ = some (.slice ta tm tc) := by simp [World.cell?, ha]
      have ac3 : w2.drew.cell? ⟨w.heap.size + 1, 3, none⟩ = some (.int .i64 0) := by simp [World.cell?, ha]
      have ac4 : w2.drew.cell? ⟨w.heap.size + 1, 4, none⟩ = some (.slice none 0 0) := by simp [World.cell?, ha]
      have af0 : w2.drew.frozen? ⟨w.heap.size + 1, 0, none⟩ = false := by simp [World.frozen?, ha]
      have af1 : w2.drew.frozen? ⟨w.heap.size + 1, 1, none⟩ = false := by simp [World.frozen?, ha]
      have af2 : w2.drew.frozen? ⟨w.heap.size + 1, 2, none⟩ = false := by simp [World.frozen?, ha]
      have af3 : w2.drew.frozen? ⟨w.heap.size + 1, 3, none⟩ = false := by simp [World.frozen?, ha]
      have af4 : w2.drew.frozen? ⟨w.heap.size + 1, 4, none⟩ = false := by simp [World.frozen?, ha]
      have A8 : Bk w2.drew (w.heap.size + 1) _ := ⟨U2, ha⟩
      clear hw2 hpx A7 B7 hwp hth hoi7 ha h2 th8' oi8'
      obtain ⟨vs, hn8, hov8, hin8⟩ := th8
      go_wp2
      have hpB : p < w.heap.size + 2 := by omega
      have hlB : l < w.heap.size + 2 := by omega
      have hNp : w.heap.size + 1 ≠ p := by omega
      have hNl : w.heap.size + 1 ≠ l := by omega
      have hltB : ∀ g, (Value.slice ta tm tc).ownBlock = some g → w.heap.size + 2 ≤ g := fun g hg => (hov8.lt g hg).1
      have s1 : Hid (L.length + 1 ≤ maxLen) := by show _ ≤ _; unfold maxLen; omega
      have s2 : Hid ((L.length + 1) * 24 ≤ 140737488355328) := by show _ ≤ _; omega
      have HN : Hid (w.heap.size + 1 < w.heap.size + 2) := Nat.lt_succ_self _
      go_region_law (first | (refine step_append_own rfl (.tmp 19) (.tmp 22) 23 rfl (w.heap.size + 2) 48 i0 (.slice none 0 0) 1 24 Tryz.underlying23 hi hz0 hz1 hz2 rfl (by decide) (.slice ta tm tc) L.length vs (by simp [Act.eval]) (hov3.alloc _) ⟨w3.heap.size, 0, none⟩ 1 1 [.slice a3 m3 c3] (by simp [Act.eval]) rfl (new_news w3 (.slice a3 m3 c3) 48) (one_news a3 m3 c3) s1.out s2.out (base_alloc (Nat.le_trans L8 hw3.size) _) ?_; intro v' w4 hown4 hg4; obtain ⟨a4, m4, c4, rfl⟩ := own_slice hown4; have A10 := Bk.grown (Bk.alloc A9 _) hg4 HN.out hltB; have q4 : w4.cell? ⟨w.heap.size + 1, 2, none⟩ = some (.slice ta tm tc) := Bk.at A10 rfl; have f4 := Bk.fr A10 2) | (go_simp; refine (blockIns_at _ p l s _ hP8).mono ?_; rintro e w3 ⟨a3, m3, c3, rfl, ho3, h3, hw3⟩; have A9 := Bk.wp A8 hw3 hNp hNl; have q3 : w3.cell? ⟨w.heap.size + 1, 2, none⟩ = some (.slice ta tm tc) := Bk.at A9 rfl; have hov3 := own_wp hov8 hw3 hpB hlB; have lt3 := Bk.lt A9))
      all_goals (try go_wp2)
      all_goals (go_roundg (mS s (insB s (nx s S')).2))
      all_goals (try exact hk ▸ hL)
      all_goals
        refine ⟨_, L ++ [(insB s (nx s S')).1], a4, m4, c4, rfl, (px_grown (h3.alloc _) hg4 hpB hlB hltB).setFar hlp1 hll1 _, ?_, ?_, ?_, A10.set 2 _, ?_, ?_, ?_⟩
        · exact (Own2.snoc hn8 (hov3.alloc _) (fun i u M a b => (own_wp (hin8 i u M a b) hw3 hpB hlB).alloc _) (by decide) hg4 hown4 ((own_mono ho3 L8).alloc _)).setFar HN.out _
        · simp; omega
        · rw [← HE.out, HO.out]; simp
        · exact (((B8.wp hw3 (by omega) (by omega)).alloc _).grown (base := w.heap.size + 2) hg4 (by omega) hltB).setFar (by omega) _ _
        · exact own_setFar (own_grown ((own_wp oi8 hw3 hpB hlB).alloc _) (hov3.alloc _) (by decide) hg4) HN.out _
        · exact (wp_grown (base := w.heap.size + 2) ((W8.out.trans hw3).alloc _) hg4 (by omega) hltB).setNew (Nat.le_succ _) _

theorem test_init (q1 : isX s xInit (hdS s S).2 = true) (h : Px w p l s S) :
    Calls Tryz.prog 31 #[.pointer (some ⟨p, 0, none⟩)] w (TestPost w p l s (testP s S)) := by
  obtain ⟨i0, hi, hz0, hz1, hz2⟩ := info_parts infoThr
  have hx : ∀ o1 o2, Px ((w.alloc o1).alloc o2) p l s S := fun o1 o2 => (h.alloc o1).alloc o2
  have hlp := h.lp
  have hll := h.ll
  have hlp1 := Nat.lt_succ_of_lt hlp
  have hll1 := Nat.lt_succ_of_lt hll
  have hsz := h.sz
  have hmS : ∀ S' : St, mS s S' ≤ s.size + 1 := by intro S'; cases S' <;> simp [mS]
  obtain ⟨R0, hR⟩ : ∃ R0, R0 = testP s S := ⟨_, rfl⟩
  rw [← hR]
  unfold testP at hR
  have HR : Hid (R0 = _) := hR
  clear h hR
  go_enter Tryz.func31, Tryz.ntmps31
  go_wp2_with fail
  refine (expect_is _ p l s S xTest (ne_nil _ _) (hx _ _)).mono ?_
  rintro e w1 ⟨rfl, h1, hw1⟩
  have B1 := ((Bk.new w _ _).alloc _).wp hw1 (by omega) (by omega)
  have A1 := (Bk.new2 w _ _ _).wp hw1 (by omega) (by omega)
  have W1 : Hid (Wp p l w w1) := (((Wp.refl p l w).alloc _).alloc _).trans hw1
  clear hw1 hx
  go_wp2_with fail
  refine (name_is _ p l s _ h1).mono ?_
  rintro e w2 ⟨rfl, h2, hw2⟩
  have B2 := B1.wp hw2 (by omega) (by omega)
  have A2 := A1.wp hw2 (by omega) (by omega)
  have W2 : Hid (Wp p l w w2) := W1.out.trans hw2
  obtain ⟨U, ha⟩ := A2
  have ac0 : w2.cell? ⟨w.heap.size + 1, 0, none⟩ = some (.string ⟨#[]⟩) := by simp [World.cell?, ha]
  have ac1 : w2.cell? ⟨w.heap.size + 1, 1, none⟩ = some (.slice none 0 0) := by simp [World.cell?, ha]
  have ac2 : w2.cell? ⟨w.heap.size + 1, 2, none⟩ = some (.slice none 0 0) := by simp [World.cell?, ha]
  have ac3 : w2.cell? ⟨w.heap.size + 1, 3, none⟩ = some (.int .i64 0) := by simp [World.cell?, ha]
  have ac4 : w2.cell? ⟨w.heap.size + 1, 4, none⟩ = some (.slice none 0 0) := by simp [World.cell?, ha]
  have af0 : w2.frozen? ⟨w.heap.size + 1, 0, none⟩ = false := by simp [World.frozen?, ha]
  have af1 : w2.frozen? ⟨w.heap.size + 1, 1, none⟩ = false := by simp [World.frozen?, ha]
  have af2 : w2.frozen? ⟨w.heap.size + 1, 2, none⟩ = false := by simp [World.frozen?, ha]
  have af3 : w2.frozen? ⟨w.heap.size + 1, 3, none⟩ = false := by simp [World.frozen?, ha]
  have af4 : w2.frozen? ⟨w.heap.size + 1, 4, none⟩ = false := by simp [World.frozen?, ha]
  have A2 : Bk w2 (w.heap.size + 1) _ := ⟨U, ha⟩
  clear hw2 B1 A1 h1 W1 ha
  go_wp2_with fail
  refine (expect_is _ p l s _ xOpen (ne_nil _ _) (h2.setFar hlp1 hll1 _)).mono ?_
  rintro e w3 ⟨rfl, h3, hw3⟩
  have B3 := (B2.setFar (by omega) _ _).wp hw3 (by omega) (by omega)
  have A3 := (A2.set _ _).wp hw3 (by omega) (by omega)
  have W3 : Hid (Wp p l w w3) := (W2.out.setNew (Nat.le_succ _) _).trans hw3
  clear hw3 B2 A2 h2 W2 ac0 ac1 ac2 ac3 ac4 af0 af1 af2 af3 af4
  change Px w3 p l s (hdS s S).2 at h3
  change Bk w3 (w.heap.size + 1) #[.string (hdS s S).1, .slice none 0 0, .slice none 0 0, .int .i64 0, .slice none 0 0] at A3
  generalize hdS s S = HD at *
  have hI : initP s HD.2 = iniB s (nx s HD.2) := by unfold initP; rw [q1]; rfl
  have HR1 : Hid (R0 = tailP s HD.1 (iniB s (nx s HD.2)).1 (iniB s (nx s HD.2)).2) := by have h := HR.out; rw [hI] at h; exact h
  clear HR
  go_wp2_with fail
  refine (acc_yes _ p l s _ xInit (ne_nil _ _) q1 h3).mono ?_
  rintro e w4 ⟨rfl, h4, hw4⟩
  have B4 := B3.wp hw4 (by omega) (by omega)
  have A4 := A3.wp hw4 (by omega) (by omega)
  have W4 : Hid (Wp p l w w4) := W3.out.trans hw4
  have L4 : w.heap.size + 2 ≤ w4.heap.size := A4.lt
  clear hw4 B3 A3 h3 W3 hI
  go_wp2_with fail
  refine (blockIni_at _ p l s _ h4).mono ?_
  rintro e w5 ⟨ia, im, ic, rfl, hoi, h5, hw5⟩
  have B5 := B4.wp hw5 (by omega) (by omega)
  have A5 := A4.wp hw5 (by omega) (by omega)
  have W5 : Hid (Wp p l w w5) := W4.out.trans hw5
  have hoi := own_mono hoi L4
  obtain ⟨U', ha⟩ := A5
  have ac0 : w5.cell? ⟨w.heap.size + 1, 0, none⟩ = some (.string HD.1) := by simp [World.cell?, ha]
  have ac1 : w5.cell? ⟨w.heap.size + 1, 1, none⟩ = some (.slice none 0 0) := by simp [World.cell?, ha]
  have ac2 : w5.cell? ⟨w.heap.size + 1, 2, none⟩ = some (.slice none 0 0) := by simp [World.cell?, ha]
  have ac3 : w5.cell? ⟨w.heap.size + 1, 3, none⟩ = some (.int .i64 0) := by simp [World.cell?, ha]
  have ac4 : w5.cell? ⟨w.heap.size + 1, 4, none⟩ = some (.slice none 0 0) := by simp [World.cell?, ha]
  have af0 : w5.frozen? ⟨w.heap.size + 1, 0, none⟩ = false := by simp [World.frozen?, ha]
  have af1 : w5.frozen? ⟨w.heap.size + 1, 1, none⟩ = false := by simp [World.frozen?, ha]
  have af2 : w5.frozen? ⟨w.heap.size + 1, 2, none⟩ = false := by simp [World.frozen?, ha]
  have af3 : w5.frozen? ⟨w.heap.size + 1, 3, none⟩ = false := by simp [World.frozen?, ha]
  have af4 : w5.frozen? ⟨w.heap.size + 1, 4, none⟩ = false := by simp [World.frozen?, ha]
  have A5 : Bk w5 (w.heap.size + 1) _ := ⟨U', ha⟩
  clear hw5 B4 A4 h4 W4 ha
  have B6 := B5.setFar (M := w.heap.size + 1) (by omega) 1 (.slice ia im ic)
  have A6 := A5.set 1 (.slice ia im ic)
  have W6 : Hid (Wp p l w (w5.setCell ⟨w.heap.size + 1, 1, none⟩ (.slice ia im ic))) := W5.out.setNew (Nat.le_succ _) _
  have hoi6 : IniAt (w5.setCell ⟨w.heap.size + 1, 1, none⟩ (.slice ia im ic)) (w.heap.size + 2) (.slice ia im ic) (iniB s (nx s HD.2)).1 := own_setFar hoi (by omega) _
  have h6 := h5.setFar (i := 1) hlp1 hll1 (.slice ia im ic)
  have HF6 : Hid (Bk w5 (w.heap.size + 1) _) := A5
  generalize iniB s (nx s HD.2) = R at *
  go_wp2
  clear B5 A5 W5 hoi h5
  go_loopg [] (mS s R.2) (fun k wr => ∃ (S' : St) (L : List (List InsT)) (a m c : _), k = mS s S' ∧ Px wr p l s S' ∧ ThrAt wr (w.heap.size + 2) (.slice a m c) L ∧ L.length + mS s S' ≤ s.size + 2 ∧ (L ++ (thrP s S').1, (thrP s S').2) = thrP s R.2 ∧ Bk wr (w.heap.size + 1) #[.string HD.1, .slice ia im ic, .slice a m c, .int .i64 0, .slice none 0 0] ∧ Bk wr w.heap.size #[.string ⟨#[]⟩, .slice none 0 0, .slice none 0 0, .int .i64 0, .slice none 0 0] ∧ IniAt wr (w.heap.size + 2) (.slice ia im ic) R.1 ∧ Wp p l w wr)
  case atStart => exact ⟨R.2, [], none, 0, 0, rfl, h6, Own2.nil _ _ _ _ _ _, by simp; have := hmS R.2; omega, rfl, A6, B6, hoi6, W6.out⟩
  case round =>
    clear A6 B6 hoi6 W6 h6 hmS
    obtain ⟨S', L, ta, tm, tc, hk, hpx, hth, hlen, heq, A7, B7, hoi7, hwp⟩ := hrel
    have HE : Hid ((L ++ (thrP s S').1, (thrP s S').2) = thrP s R.2) := heq
    clear heq
    cases hX : isX s xThread S' with
    | false =>
      have hend := more_end s (f := insB s) hX
      have hE : thrP s R.2 = (L, S') := by rw [← HE.out]; unfold thrP; rw [hend]; simp
      have HR2 : Hid (R0 = (⟨HD.1, R.1, L, (condP s S').1⟩, endS s (expS s xShut (condP s S').2))) := by have h := HR1.out; unfold tailP at h; rw [hE] at h; exact h
      clear hE HE hend HR1
      go_wp2_with fail
      refine (acc_no _ p l s S' xThread (ne_nil _ _) hX hpx).mono ?_
      rintro e w2 ⟨rfl, h2, hw2⟩
      have B8 := B7.wp hw2 (by omega) (by omega)
      have A8 := A7.wp hw2 (by omega) (by omega)
      have W8 : Hid (Wp p l w w2) := hwp.trans hw2
      have th8 := hth.wp hw2 (by omega) (by omega)
      have oi8 := own_wp hoi7 hw2 (by omega) (by omega)
      have L8 : w.heap.size + 2 ≤ w2.heap.size := A8.lt
      clear hw2 hpx A7 B7 hwp hth hoi7
      go_wp2_with fail
      refine (condition_at _ p l s _ h2).mono ?_
      rintro e w3 ⟨ca, cm, cc, rfl, hc3, h3, hw3⟩
      have B9 := B8.wp hw3 (by omega) (by omega)
      have A9 := A8.wp hw3 (by omega) (by omega)
      have W9 : Hid (Wp p l w w3) := W8.out.trans hw3
      have th9 := th8.wp hw3 (by omega) (by omega)
      have oi9 := own_wp oi8 hw3 (by omega) (by omega)
      have hc9 := hc3.mono (show w.heap.size + 2 ≤ w2.heap.size + 1 by omega)
      obtain ⟨U2, ha⟩ := A9
      have ac0 : w3.cell? ⟨w.heap.size + 1, 0, none⟩ = some (.string HD.1) := by simp [World.cell?, ha]
      have ac1 : w3.cell? ⟨w.heap.size + 1, 1, none⟩ = some (.slice ia im ic) := by simp [World.cell?, ha]
      have ac2 : w3.cell? ⟨w.heap.size + 1, 2, none⟩ = some (.slice ta tm tc) := by simp [World.cell?, ha]
      have ac3 : w3.cell? ⟨w.heap.size + 1, 3, none⟩ = some (.int .i64 0) := by simp [World.cell?, ha]
      have ac4 : w3.cell? ⟨w.heap.size + 1, 4, none⟩ = some (.slice none 0 0) := by simp [World.cell?, ha]
      have af0 : w3.frozen? ⟨w.heap.size + 1, 0, none⟩ = false := by simp [World.frozen?, ha]
      have af1 : w3.frozen? ⟨w.heap.size + 1, 1, none⟩ = false := by simp [World.frozen?, ha]
      have af2 : w3.frozen? ⟨w.heap.size + 1, 2, none⟩ = false := by simp [World.frozen?, ha]
      have af3 : w3.frozen? ⟨w.heap.size + 1, 3, none⟩ = false := by simp [World.frozen?, ha]
      have af4 : w3.frozen? ⟨w.heap.size + 1, 4, none⟩ = false := by simp [World.frozen?, ha]
      have A9 : Bk w3 (w.heap.size + 1) _ := ⟨U2, ha⟩
      clear hw3 h2 A8 B8 W8 th8 oi8 hc3 ha L8
      generalize condP s S' = R3 at *
      go_wp2_with fail
      refine (expect_is _ p l s _ xShut (ne_nil _ _) ((h3.setFar hlp1 hll1 _).setFar hlp1 hll1 _)).mono ?_
      rintro e w4 ⟨rfl, h4, hw4⟩
      have B10 := ((B9.setFar (by omega) _ _).setFar (by omega) _ _).wp hw4 (by omega) (by omega)
      have A10 := ((A9.set _ _).set _ _).wp hw4 (by omega) (by omega)
      have W10 : Hid (Wp p l w w4) := ((W9.out.setNew (Nat.le_succ _) _).setNew (Nat.le_succ _) _).trans hw4
      have th10 := ((th9.setFar (by omega) _).setFar (by omega) _).wp hw4 (by omega) (by omega)
      have oi10 := own_wp (own_setFar (own_setFar oi9 (by omega) _) (by omega) _) hw4 (by omega) (by omega)
      have hc10 := ((hc9.setFar (by omega) _).setFar (by omega) _).wp hw4 (by omega) (by omega)
      clear hw4 h3 A9 B9 W9 th9 oi9 hc9 ac0 ac1 ac2 ac3 ac4 af0 af1 af2 af3 af4
      go_wp2_with fail
      refine (end_is _ p l s _ h4).mono ?_
      rintro e w5 ⟨rfl, h5, hw5⟩
      obtain ⟨T3, hB⟩ := B10.wp hw5 (by omega) (by omega)
      obtain ⟨U3, ha⟩ := A10.wp hw5 (by omega) (by omega)
      have W11 : Hid (Wp p l w w5) := W10.out.trans hw5
      have th11 := (th10.wp hw5 (by omega) (by omega)).mono (show w.heap.size + 1 ≤ w.heap.size + 2 by omega)
      have oi11 := own_mono (own_wp oi10 hw5 (by omega) (by omega)) (show w.heap.size + 1 ≤ w.heap.size + 2 by omega)
      have hc11 := (hc10.wp hw5 (by omega) (by omega)).mono (show w.heap.size + 1 ≤ w.heap.size + 2 by omega)
      have dc0 : w5.cell? ⟨w.heap.size, 0, none⟩ = some (.string ⟨#[]⟩) := by simp [World.cell?, hB]
      have dc1 : w5.cell? ⟨w.heap.size, 1, none⟩ = some (.slice none 0 0) := by simp [World.cell?, hB]
      have dc2 : w5.cell? ⟨w.heap.size, 2, none⟩ = some (.slice none 0 0) := by simp [World.cell?, hB]
      have dc3 : w5.cell? ⟨w.heap.size, 3, none⟩ = some (.int .i64 0) := by simp [World.cell?, hB]
      have dc4 : w5.cell? ⟨w.heap.size, 4, none⟩ = some (.slice none 0 0) := by simp [World.cell?, hB]
      have df0 : w5.frozen? ⟨w.heap.size, 0, none⟩ = false := by simp [World.frozen?, hB]
      have df1 : w5.frozen? ⟨w.heap.size, 1, none⟩ = false := by simp [World.frozen?, hB]
      have df2 : w5.frozen? ⟨w.heap.size, 2, none⟩ = false := by simp [World.frozen?, hB]
      have df3 : w5.frozen? ⟨w.heap.size, 3, none⟩ = false := by simp [World.frozen?, hB]
      have df4 : w5.frozen? ⟨w.heap.size, 4, none⟩ = false := by simp [World.frozen?, hB]
      have ac0 : w5.cell? ⟨w.heap.size + 1, 0, none⟩ = some (.string HD.1) := by simp [World.cell?, ha]
      have ac1 : w5.cell? ⟨w.heap.size + 1, 1, none⟩ = some (.slice ia im ic) := by simp [World.cell?, ha]
      have ac2 : w5.cell? ⟨w.heap.size + 1, 2, none⟩ = some (.slice ta tm tc) := by simp [World.cell?, ha]
      have ac3 : w5.cell? ⟨w.heap.size + 1, 3, none⟩ = some (.int .i64 R3.1.k) := by simp [World.cell?, ha]
      have ac4 : w5.cell? ⟨w.heap.size + 1, 4, none⟩ = some (.slice ca cm cc) := by simp [World.cell?, ha]
      have af0 : w5.frozen? ⟨w.heap.size + 1, 0, none⟩ = false := by simp [World.frozen?, ha]
      have af1 : w5.frozen? ⟨w.heap.size + 1, 1, none⟩ = false := by simp [World.frozen?, ha]
      have af2 : w5.frozen? ⟨w.heap.size + 1, 2, none⟩ = false := by simp [World.frozen?, ha]
      have af3 : w5.frozen? ⟨w.heap.size + 1, 3, none⟩ = false := by simp [World.frozen?, ha]
      have af4 : w5.frozen? ⟨w.heap.size + 1, 4, none⟩ = false := by simp [World.frozen?, ha]
      clear hw5 h4 A10 B10 W10 th10 oi10 hc10 hB ha
      have N1 : w.heap.size + 1 ≠ w.heap.size := by omega
      have N2 : w.heap.size ≠ w.heap.size + 1 := by omega
      go_wp2
      (try simp only [Exit.inBlock, Exit.then])
      obtain rfl := HR2.out
      refine bodyPost_ret (v := .agg #[.string HD.1, .slice ia im ic, .slice ta tm tc, .int .i64 R3.1.k, .slice ca cm cc]) ?_ rfl ⟨_, rfl, ⟨_, _, _, _, _, _, _, _, _, rfl, ?_, ?_, ?_⟩, (((((h5.setFar hlp hll _).setFar hlp hll _).setFar hlp hll _).setFar hlp hll _).setFar hlp hll _), (((((W11.out.setNew (Nat.le_refl _) _).setNew (Nat.le_refl _) _).setNew (Nat.le_refl _) _).setNew (Nat.le_refl _) _).setNew (Nat.le_refl _) _)⟩
      · rw [results_cell rfl]
        go_simp
      · exact own_mono (own_setFar (own_setFar (own_setFar (own_setFar (own_setFar oi11 (by omega) _) (by omega) _) (by omega) _) (by omega) _) (by omega) _) (Nat.le_succ _)
      · exact (((((th11.setFar (by omega) _).setFar (by omega) _).setFar (by omega) _).setFar (by omega) _).setFar (by omega) _).mono (Nat.le_succ _)
      · exact (((((hc11.setFar (by omega) _).setFar (by omega) _).setFar (by omega) _).setFar (by omega) _).setFar (by omega) _).mono (Nat.le_succ _)
    | true =>
      have hOn := more_on s (goes_insB s) (ne_nil _ _) hpx.vd hX
      have hL := prt_less s (goes_insB s) (ne_nil _ _) hpx.vd hX
      have HO : Hid (thrP s S' = ((insB s (nx s S')).1 :: (thrP s (insB s (nx s S')).2).1, (thrP s (insB s (nx s S')).2).2)) := hOn
      clear hOn
      go_wp2_with fail
      refine (acc_yes _ p l s S' xThread (ne_nil _ _) hX hpx).mono ?_
      rintro e w2 ⟨rfl, h2, hw2⟩
      have B8 := (B7.wp hw2 (by omega) (by omega)).drew
      have A8 := (A7.wp hw2 (by omega) (by omega)).drew
      have W8 : Hid (Wp p l w w2.drew) := (hwp.trans hw2).drew
      have th8' := hth.wp hw2 (by omega) (by omega)
      have oi8' := own_wp hoi7 hw2 (by omega) (by omega)
      have th8 : ThrAt w2.drew (w.heap.size + 2) (.slice ta tm tc) L := th8'
      have oi8 : IniAt w2.drew (w.heap.size + 2) (.slice ia im ic) R.1 := oi8'
      have L8 : w.heap.size + 2 ≤ w2.heap.size := A8.lt
      have hP8 := h2.drew
      obtain ⟨U2, ha⟩ := A8
      have ac0 : w2.drew.cell? ⟨w.heap.size + 1, 0, none⟩ = some (.string HD.1) := by simp [World.cell?, ha]
      have ac1 : w2.drew.cell? ⟨w.heap.size + 1, 1, none⟩ = some (.slice ia im ic) := by simp [World.cell?, ha]
      have ac2 : w2.drew.cell? ⟨w.heap.size + 1, 2, none⟩ = some (.slice ta tm tc) := by simp [World.cell?, ha]
      have ac3 : w2.drew.cell? ⟨w.heap.size + 1, 3, none⟩ = some (.int .i64 0) := by simp [World.cell?, ha]
      have ac4 : w2.drew.cell? ⟨w.heap.size + 1, 4, none⟩ = some (.slice none 0 0) := by simp [World.cell?, ha]
      have af0 : w2.drew.frozen? ⟨w.heap.size + 1, 0, none⟩ = false := by simp [World.frozen?, ha]
      have af1 : w2.drew.frozen? ⟨w.heap.size + 1, 1, none⟩ = false := by simp [World.frozen?, ha]
      have af2 : w2.drew.frozen? ⟨w.heap.size + 1, 2, none⟩ = false := by simp [World.frozen?, ha]
      have af3 : w2.drew.frozen? ⟨w.heap.size + 1, 3, none⟩ = false := by simp [World.frozen?, ha]
      have af4 : w2.drew.frozen? ⟨w.heap.size + 1, 4, none⟩ = false := by simp [World.frozen?, ha]
      have A8 : Bk w2.drew (w.heap.size + 1) _ := ⟨U2, ha⟩
      clear hw2 hpx A7 B7 hwp hth hoi7 ha h2 th8' oi8'
      obtain ⟨vs, hn8, hov8, hin8⟩ := th8
      go_wp2
      have hpB : p < w.heap.size + 2 := by omega
      have hlB : l < w.heap.size + 2 := by omega
      have hNp : w.heap.size + 1 ≠ p := by omega
      have hNl : w.heap.size + 1 ≠ l := by omega
      have hltB : ∀ g, (Value.slice ta tm tc).ownBlock = some g → w.heap.size + 2 ≤ g := fun g hg => (hov8.lt g hg).1
      have s1 : Hid (L.length + 1 ≤ maxLen) := by show _ ≤ _; unfold maxLen; omega
      have s2 : Hid ((L.length + 1) * 24 ≤ 140737488355328) := by show _ ≤ _; omega
      have HN : Hid (w.heap.size + 1 < w.heap.size + 2) := Nat.lt_succ_self _
      go_region_law (first | (refine step_append_own rfl (.tmp 19) (.tmp 22) 23 rfl (w.heap.size + 2) 48 i0 (.slice none 0 0) 1 24 Tryz.underlying23 hi hz0 hz1 hz2 rfl (by decide) (.slice ta tm tc) L.length vs (by simp [Act.eval]) (hov3.alloc _) ⟨w3.heap.size, 0, none⟩ 1 1 [.slice a3 m3 c3] (by simp [Act.eval]) rfl (new_news w3 (.slice a3 m3 c3) 48) (one_news a3 m3 c3) s1.out s2.out (base_alloc (Nat.le_trans L8 hw3.size) _) ?_; intro v' w4 hown4 hg4; obtain ⟨a4, m4, c4, rfl⟩ := own_slice hown4; have A10 := Bk.grown (Bk.alloc A9 _) hg4 HN.out hltB; have q4 : w4.cell? ⟨w.heap.size + 1, 2, none⟩ = some (.slice ta tm tc) := Bk.at A10 rfl; have f4 := Bk.fr A10 2) | (go_simp; refine (blockIns_at _ p l s _ hP8).mono ?_; rintro e w3 ⟨a3, m3, c3, rfl, ho3, h3, hw3⟩; have A9 := Bk.wp A8 hw3 hNp hNl; have q3 : w3.cell? ⟨w.heap.size + 1, 2, none⟩ = some (.slice ta tm tc) := Bk.at A9 rfl; have hov3 := own_wp hov8 hw3 hpB hlB; have lt3 := Bk.lt A9))
      all_goals (try go_wp2)
      all_goals (go_roundg (mS s (insB s (nx s S')).2))
      all_goals (try exact hk ▸ hL)
      all_goals
        refine ⟨_, L ++ [(insB s (nx s S')).1], a4, m4, c4, rfl, (px_grown (h3.alloc _) hg4 hpB hlB hltB).setFar hlp1 hll1 _, ?_, ?_, ?_, A10.set 2 _, ?_, ?_, ?_⟩
        · exact (Own2.snoc hn8 (hov3.alloc _) (fun i u M a b => (own_wp (hin8 i u M a b) hw3 hpB hlB).alloc _) (by decide) hg4 hown4 ((own_mono ho3 L8).alloc _)).setFar HN.out _
        · simp; omega
        · rw [← HE.out, HO.out]; simp
        · exact (((B8.wp hw3 (by omega) (by omega)).alloc _).grown (base := w.heap.size + 2) hg4 (by omega) hltB).setFar (by omega) _ _
        · exact own_setFar (own_grown ((own_wp oi8 hw3 hpB hlB).alloc _) (hov3.alloc _) (by decide) hg4) HN.out _
        · exact (wp_grown (base := w.heap.size + 2) ((W8.out.trans hw3).alloc _) hg4 (by omega) hltB).setNew (Nat.le_succ _) _

/-- A WHOLE TEST. -/
theorem test_is (h : Px w p l s S) :
    Calls Tryz.prog 31 #[.pointer (some ⟨p, 0, none⟩)] w (TestPost w p l s (testP s S)) := by
  cases q1 : isX s xInit (hdS s S).2 with
  | true => exact test_init w p l s S q1 h
  | false => exact test_plain w p l s S q1 h
end
end Go.Proofs.YtacflahkofmcpaaGreatDoor
