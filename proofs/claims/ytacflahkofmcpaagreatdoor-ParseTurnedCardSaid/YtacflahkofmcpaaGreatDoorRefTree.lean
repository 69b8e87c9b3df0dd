/- What the document's Tree answers (behind look). -/
import Derived.Test.YtacflahkofmcpaaGreatDoorJ21RefTreeB
import Derived.Deep.RegionLaw
import Derived.Deep.DeepCutAuto
namespace Go.Proofs.YtacflahkofmcpaaGreatDoor
open Go.RowKit

theorem Tr.start (w : World) (s : ByteArray) : Tr w ((((w.alloc (.cells z5 28)).alloc (.cells z2 36)).alloc (.cells (rdC s 0 0 ⟨#[]⟩ 0 0 0 0) 78)).alloc (.cells z5 28)) s (startS s) ⟨#[]⟩ (.slice none 0 0) (.slice none 0 0) 0 (.slice none 0 0) [] [] [] := by
  have b0 : Bk ((((w.alloc (.cells z5 28)).alloc (.cells z2 36)).alloc (.cells (rdC s 0 0 ⟨#[]⟩ 0 0 0 0) 78)).alloc (.cells z5 28)) w.heap.size z5 := (((Bk.new w _ _).alloc _).alloc _).alloc _
  have b1 : Bk ((((w.alloc (.cells z5 28)).alloc (.cells z2 36)).alloc (.cells (rdC s 0 0 ⟨#[]⟩ 0 0 0 0) 78)).alloc (.cells z5 28)) (w.heap.size + 1) z2 := ((Bk.new2 w _ _ _).alloc _).alloc _
  have b2 : Bk ((((w.alloc (.cells z5 28)).alloc (.cells z2 36)).alloc (.cells (rdC s 0 0 ⟨#[]⟩ 0 0 0 0) 78)).alloc (.cells z5 28)) (w.heap.size + 2) (rdC s 0 0 ⟨#[]⟩ 0 0 0 0) := by
    have h := Bk.new2 (w.alloc (.cells z5 28)) (.cells z2 36) (rdC s 0 0 ⟨#[]⟩ 0 0 0 0) 78
    rw [World.size_alloc] at h
    exact h.alloc _
  have b3 : Bk ((((w.alloc (.cells z5 28)).alloc (.cells z2 36)).alloc (.cells (rdC s 0 0 ⟨#[]⟩ 0 0 0 0) 78)).alloc (.cells z5 28)) (w.heap.size + 3) z5 := by
    have h := Bk.new2 ((w.alloc (.cells z5 28)).alloc (.cells z2 36)) (.cells (rdC s 0 0 ⟨#[]⟩ 0 0 0 0) 78) z5 28
    rw [World.size_alloc, World.size_alloc] at h
    exact h
  exact ⟨((((On.refl w).alloc _).alloc _).alloc _).alloc _, ⟨true, 0, 0, ⟨#[]⟩, 0, 0, 0, 0, b2, Nat.zero_le _, fun _ => ⟨rfl, rfl, rfl⟩, fun h => by cases h⟩, b0, b1, b3, World.ownsRow_nil _ _ _ _, Own2.nil _ _ _ _ _ _, Own2.nil _ _ _ _ _ _⟩

theorem word_ro (w : World) (r : Nat) (s : ByteArray) (S : St) (hL : LookOk) (hs : s.size ≤ 4000) (h : Ro w r s S) :
    Calls Tryz.prog 35 #[.pointer (some ⟨r, 0, none⟩)] w fun e w' => e = .returned (.string (nameP s S).1) ∧ Ro w' r s (nameP s S).2 ∧ Wr r w w' := by
  obtain ⟨o, h⟩ := h
  exact word_is w r s S hL hs o h

theorem ini_snoc {w : World} {b : Nat} {v : Value} {L : List InitT} {x : InitT} (h : w.ownsRow b 55 2 v (L.length + 1) (L.flatMap iniC ++ iniC x)) : IniAt w b v (L ++ [x]) := by
  show w.ownsRow b 55 2 v (L ++ [x]).length ((L ++ [x]).flatMap iniC)
  simpa using h
theorem Rx.grown {w w' : World} {r base : Nat} {s : ByteArray} {S : St} {o : Bool} {v : Value} (h : Rx w r s S o) (hg : w.grownBy w' v.ownBlock) (hr : r < base) (ho : ∀ g, v.ownBlock = some g → base ≤ g) : Rx w' r s S o := by
  obtain ⟨a, k, x, q, t, c, e, hb, h1⟩ := h
  exact ⟨a, k, x, q, t, c, e, hb.grown hg hr ho, h1⟩
theorem more_er {s : ByteArray} {α : Type} {f : St → α × St} {x : ByteArray} (e : Nat × Nat) (hx : x.toList ≠ []) : moreP s f x (.error e) = ([], .error e) := more_end s (isX_er e hx)
theorem Wr.grown {r : Nat} {x w w' : World} {v : Value} (h : Wr r x w) (hg : w.grownBy w' v.ownBlock) (hv : ∀ g, v.ownBlock = some g → x.heap.size ≤ g) : Wr r x w' :=
  ⟨hg.os.trans h.os, hg.tape.trans h.tape, hg.output.trans h.output, Nat.le_trans h.size hg.size, fun k hk hne => (hg.block k (Nat.lt_of_lt_of_le hk h.size) (fun e => by have := hv k e.symm; omega)).trans (h.block k hk hne)⟩
theorem rins_at (w : World) (r : Nat) (s : ByteArray) (S : St) (hL : LookOk) (hs : s.size ≤ 4000) (h : Ro w r s S) :
    Calls Tryz.prog 40 #[.pointer (some ⟨r, 0, none⟩)] w fun e w' => ∃ x : InsT, e = .returned (.agg #[.int .i64 x.k, .int .i64 x.r, .int .i64 x.l, .int .i64 x.a.r, .int .i64 x.a.v, .int .i64 x.o, .int .i64 x.b.r, .int .i64 x.b.v, .int .i64 x.n]) ∧ (flB (expS s xSemi (insP s S).2) = false → x = (insP s S).1) ∧ Ro w' r s (expS s xSemi (insP s S).2) ∧ Wr r w w' := rins_is w r s S hL hs h
theorem rins_err (w : World) (r : Nat) (s : ByteArray) (er : Nat × Nat) (hL : LookOk) (hs : s.size ≤ 4000) (h : Ro w r s (.error er)) :
    Calls Tryz.prog 40 #[.pointer (some ⟨r, 0, none⟩)] w fun e w' => ∃ x : InsT, e = .returned (.agg #[.int .i64 x.k, .int .i64 x.r, .int .i64 x.l, .int .i64 x.a.r, .int .i64 x.a.v, .int .i64 x.o, .int .i64 x.b.r, .int .i64 x.b.v, .int .i64 x.n]) ∧ Rx w' r s (.error er) false ∧ Wr r w w' := by
  obtain ⟨c, p⟩ := er
  have hE : expS s xEq (regP s (.error (c, p))).2 = .error (c, p) := by rw [reg_er]; exact exp_er _ (ne_nil _ _)
  refine (rins_told w r s (.error (c, p)) hL hs (isX_er _ (ne_nil _ _)) (isX_er _ (ne_nil _ _)) (isX_er _ (ne_nil _ _)) (by rw [hE]; exact isX_er _ (ne_nil _ _)) (by rw [hE]; exact isX_er _ (ne_nil _ _)) (c := c) (e := p) (by rw [hE]; exact opd_er _) h).mono ?_
  rintro e w' ⟨rfl, h1, h2⟩
  exact ⟨_, rfl, h1, h2⟩
theorem ratom_at (w : World) (r : Nat) (s : ByteArray) (S : St) (hL : LookOk) (hs : s.size ≤ 4000) (h : Ro w r s S) :
    Calls Tryz.prog 41 #[.pointer (some ⟨r, 0, none⟩)] w fun e w' => ∃ x : AtomT, e = .returned (.agg #[.int .i64 x.t, .int .i64 x.r, .int .i64 x.l, .int .i64 x.v]) ∧ (flB (atomP s S).2 = false → x = (atomP s S).1) ∧ Ro w' r s (atomP s S).2 ∧ Wr r w w' := ratom_is w r s S hL hs h
theorem isX_other {s x y : ByteArray} {S : St} (h : isX s x S = true) (hne : (x.data.toList == y.data.toList) = false) : isX s y S = false := by
  unfold isX at h ⊢
  rw [beq_iff_eq.1 h]
  exact hne
theorem cond_er {s : ByteArray} (e : Nat × Nat) : condP s (.error e) = (⟨0, []⟩, .error e) := by unfold condP; rw [isX_er _ (ne_nil _ _), isX_er _ (ne_nil _ _)]; rfl
theorem thr_er {s : ByteArray} (e : Nat × Nat) : thrP s (.error e) = ([], .error e) := more_er e (ne_nil _ _)
theorem end_er {s : ByteArray} (e : Nat × Nat) : endS s (.error e) = .error e := by unfold endS; rw [if_neg (by simp [tokK])]; rfl
theorem flB_cond {s : ByteArray} {S : St} (h : flB (condP s S).2 = false) : flB S = false := by
  cases S with
  | ok a => rfl
  | error e => rw [cond_er] at h; cases h
theorem flB_thr {s : ByteArray} {S : St} (h : flB (thrP s S).2 = false) : flB S = false := by
  cases S with
  | ok a => rfl
  | error e => rw [thr_er] at h; cases h
theorem end_ok {s : ByteArray} {HD : ByteArray × St} {IP : List InitT × St} {S' : St} {a : Nat} (h1 : hdS s (startS s) = HD) (h2 : initP s HD.2 = IP) (h3 : S' = (thrP s IP.2).2) (h4 : endS s (expS s xShut (condP s S').2) = .ok a) : endP (testP s (startS s)) = (⟨HD.1, IP.1, (thrP s IP.2).1, (condP s S').1⟩, 0, 0) := by
  subst h1; subst h2; subst h3
  unfold endP testP
  simp only [h4]
  rfl
theorem end_no {s : ByteArray} {HD : ByteArray × St} {IP : List InitT × St} {S' : St} {c p : Nat} (h1 : hdS s (startS s) = HD) (h2 : initP s HD.2 = IP) (h3 : S' = (thrP s IP.2).2) (h4 : endS s (expS s xShut (condP s S').2) = .error (c, p)) : endP (testP s (startS s)) = (noTest, c, p) := by
  subst h1; subst h2; subst h3
  unfold endP testP
  simp only [h4]
  rfl
theorem test_tr {w0 w : World} {s : ByteArray} {S : St} {nm : ByteArray} {a1 a2 a3 : Option Addr} {m1 c1 m2 c2 m3 c3 : Nat} {k : Int} {li : List InitT} {lt : List (List InsT)} {la : List (List AtomT)} (h : Tr w0 w s S nm (.slice a1 m1 c1) (.slice a2 m2 c2) k (.slice a3 m3 c3) li lt la) :
    TestAt w (w0.heap.size + 4) (.agg #[.string nm, .slice a1 m1 c1, .slice a2 m2 c2, .int .i64 k, .slice a3 m3 c3]) ⟨nm, li, lt, ⟨k, la⟩⟩ :=
  ⟨a1, m1, c1, a2, m2, c2, a3, m3, c3, rfl, h.i1, h.i2, h.i3⟩
theorem no_test (w : World) (b : Nat) : TestAt w b (.agg z5) noTest :=
  ⟨none, 0, 0, none, 0, 0, none, 0, 0, rfl, World.ownsRow_nil _ _ _ _, Own2.nil _ _ _ _ _ _, Own2.nil _ _ _ _ _ _⟩
theorem infoAtomR : (Tryz.prog.info? 58).map (fun i => (i.zero, i.size, i.bytes)) = some (some (.agg #[.int .i64 0, .int .i64 0, .int .i64 0, .int .i64 0]), 4, 32) := by kernel_rfl
theorem flB_rows {s : ByteArray} {S : St} (h : flB (moreP s (rowP s) xOr (moreP s (atomP s) xAnd S).2).2 = false) : flB S = false := by
  cases S with
  | ok a => rfl
  | error e => rw [more_er e (ne_nil _ _), more_er e (ne_nil _ _)] at h; cases h
theorem Tn.ro' {w : World} {r : Nat} {s : ByteArray} {S : St} (h : Tn w r s S) (hv : Vd s S) : Ro w r s S := by
  obtain ⟨a, rfl, h2, h3⟩ := h
  exact Tn.ro ⟨a, rfl, h2, h3⟩ hv.1
theorem Tn.lk {w : World} {r : Nat} {s : ByteArray} {a : Nat} (h : Tn w r s (.ok a)) (he : eC pB s a = 0) : Lk w r s (.ok a) := by
  obtain ⟨a', h1, h2, h3⟩ := h
  obtain rfl : a = a' := by simpa using h1
  exact Or.inl ⟨a, rfl, h2, he, h3⟩
theorem Tn.grown {w w' : World} {r base : Nat} {s : ByteArray} {S : St} {v : Value} (h : Tn w r s S) (hg : w.grownBy w' v.ownBlock) (hr : r < base) (ho : ∀ g, v.ownBlock = some g → base ≤ g) : Tn w' r s S := by
  obtain ⟨a, h1, h2, h3⟩ := h
  exact ⟨a, h1, h2, h3.grown hg hr ho⟩
theorem is_nolk (w : World) (r : Nat) (s : ByteArray) (S : St) (hL : LookOk) (hs : s.size ≤ 4000) (x : ByteArray) (hx : x.toList ≠ []) (hn : NoNum s x) (q : isX s x S = false) (h : Ro w r s S) :
    Calls Tryz.prog 36 #[.pointer (some ⟨r, 0, none⟩), .string x] w fun e w' => e = .returned (.bool false) ∧ Lk w' r s S ∧ Wr r w w' := by
  obtain ⟨o, h⟩ := h
  refine (is_is w r s S hL x hx hn hs o h).mono ?_
  rintro e w' ⟨rfl, h1, k⟩
  rw [q]
  exact ⟨rfl, h1, k⟩
theorem Lk.tn {w : World} {r : Nat} {s : ByteArray} {S : St} {x : ByteArray} (h : Lk w r s S) (hx : x.toList ≠ []) (q : isX s x S = true) : Tn w r s S := by
  obtain ⟨a, rfl⟩ := fl_err s q hx
  exact ⟨a, rfl, h.good.1, h.good.2.2⟩
/-- What is held of a test that was read so far. -/
def Held (w0 w : World) (s : ByteArray) (R : TestT × St) : Prop :=
  ∃ t : TestT, (flB R.2 = false → t = R.1) ∧ ∃ a1 m1 c1 a2 m2 c2 a3 m3 c3, Tr w0 w s R.2 t.name (.slice a1 m1 c1) (.slice a2 m2 c2) t.cond.k (.slice a3 m3 c3) t.ini t.thr t.cond.any

section
set_option maxHeartbeats 16000000
set_option maxRecDepth 8000
theorem rtree_short (w : World) (s : ByteArray) (hL : LookOk) (hs : s.size ≤ 4000) :
    Calls Tryz.prog 13 #[.string s] w (ParsePost w (endP (testP s (startS s)))) := by
  have T0 := Tr.start w s
  have hlen : ¬ (4000 : Int) < (s.size : Int) := by omega
  obtain ⟨i0, hi, hz0, hz1, hz2⟩ := info_parts infoIni
  go_enter Tryz.func13, Tryz.ntmps13
  go_wp2_with fail
  refine (eat_ro _ (w.heap.size + 2) s _ hL hs xTest (ne_nil _ _) (nnTest s) T0.ro).mono ?_
  rintro e w1 ⟨rfl, h1, hw1⟩
  have T1 := T0.wr hw1 h1
  clear h1 hw1 T0
  go_wp2_with fail
  refine (word_ro _ (w.heap.size + 2) s _ hL hs T1.ro).mono ?_
  rintro e w2 ⟨rfl, h2, hw2⟩
  have T2 := T1.wr hw2 h2
  have t0 : w2.cell? ⟨w.heap.size + 3, 0, none⟩ = some (.string ⟨#[]⟩) := T2.tb.at rfl
  have tf0 : w2.frozen? ⟨w.heap.size + 3, 0, none⟩ = false := T2.tb.fr 0
  have tl := T2.tb.lt
  clear h2 hw2 T1
  go_wp2_with fail
  refine (eat_ro _ (w.heap.size + 2) s _ hL hs xOpen (ne_nil _ _) (nnOpen s) (T2.name _).ro).mono ?_
  rintro e w3 ⟨rfl, h3, hw3⟩
  have T3 : Tr w w3 s (hdS s (startS s)).2 (hdS s (startS s)).1 (.slice none 0 0) (.slice none 0 0) 0 (.slice none 0 0) [] [] [] := (T2.name _).wr hw3 h3
  clear h3 hw3 T2 t0 tf0 tl
  obtain ⟨HD, hHD⟩ : ∃ HD, hdS s (startS s) = HD := ⟨_, rfl⟩
  rw [hHD] at T3
  have HHD : Hid (hdS s (startS s) = HD) := hHD
  clear hHD
  go_wp2_with fail
  obtain ⟨o3, r3⟩ := T3.ro
  refine (is_is _ (w.heap.size + 2) s _ hL xInit (ne_nil _ _) (nnInit s) hs o3 r3).mono ?_
  rintro e w4 ⟨rfl, h4, hw4⟩
  clear r3
  go_upto_if 27 with fail
  go_cut [6] (fun u6 wx => ∃ (L : List InitT) (a1 : Option Addr) (m1 c1 : Nat), (flB (initP s HD.2).2 = false → L = (initP s HD.2).1) ∧ Tr w wx s (initP s HD.2).2 HD.1 (.slice a1 m1 c1) (.slice none 0 0) 0 (.slice none 0 0) L [] [])
  case first =>
    cases q : isX s xInit HD.2 with
    | false =>
      have hE : initP s HD.2 = ([], HD.2) := by unfold initP; rw [q]; rfl
      have HE : Hid (initP s HD.2 = ([], HD.2)) := hE
      clear hE
      have T4 := T3.wr hw4 h4.rx
      go_wp2
      go_meet
      rw [HE.out]
      exact ⟨[], none, 0, 0, fun _ => rfl, T4⟩
    | true =>
      have HE : Hid (initP s HD.2 = blkP s (iniP s) (expS s xOpen (nx s HD.2))) := by show _ = _; unfold initP iniB; rw [q]; rfl
      have h4 := h4.tn (ne_nil _ _) q
      go_wp2_with fail
      refine (go1_ro _ (w.heap.size + 2) s _ h4).mono ?_
      rintro e w5 ⟨rfl, h5, hw5⟩
      have T5 := T3.wr (hw4.trans hw5) h5
      clear h4 hw4 h5 hw5 T3
      go_wp2_with fail
      refine (eat_ro _ (w.heap.size + 2) s _ hL hs xOpen (ne_nil _ _) (nnOpen s) T5.ro).mono ?_
      rintro e w6 ⟨rfl, h6, hw6⟩
      have T6 := T5.wr hw6 h6
      obtain ⟨o0, r6⟩ := h6
      clear hw6 T5
      generalize expS s xOpen (nx s HD.2) = S4 at T6 r6 HE
      have hmS : mS s S4 ≤ s.size + 1 := by cases S4 <;> simp [mS]
      go_wp2
      go_loopg [6] (mS s S4 + (if o0 then 1 else 0)) (fun k u wr => ∃ (S' : St) (o : Bool) (L : List InitT) (a1 : Option Addr) (m1 c1 : Nat), k = mS s S' + (if o then 1 else 0) ∧ Rx wr (w.heap.size + 2) s S' o ∧ Tr w wr s S' HD.1 (.slice a1 m1 c1) (.slice none 0 0) 0 (.slice none 0 0) L [] [] ∧ L.length + (mS s S' + (if o then 1 else 0)) ≤ s.size + 3 ∧ (blkP s (iniP s) S').2 = (blkP s (iniP s) S4).2 ∧ (flB (blkP s (iniP s) S').2 = false → L ++ (blkP s (iniP s) S').1 = (blkP s (iniP s) S4).1))
      case atStart => exact ⟨S4, o0, [], none, 0, 0, rfl, r6, T6, by simp; split <;> omega, rfl, fun _ => rfl⟩
      case round =>
        obtain ⟨S', o, L, a1, m1, c1, hk, hr, hT, hlen', hst, hval⟩ := hrel
        have HST : Hid ((blkP s (iniP s) S').2 = (blkP s (iniP s) S4).2) := hst
        have HVAL : Hid (flB (blkP s (iniP s) S').2 = false → L ++ (blkP s (iniP s) S').1 = (blkP s (iniP s) S4).1) := hval
        have hv := hT.ro.vd
        have lr := hT.ro.lt
        clear hst hval T6 r6
        cases o with
        | false =>
          obtain ⟨a, kk, x, qq, t, c, ee, hb, ha, _, h2⟩ := hr
          obtain ⟨hc, rfl⟩ := h2 rfl
          have e6 : wr.cell? ⟨w.heap.size + 2, 6, none⟩ = some (.int .i64 c) := hb.at rfl
          have hc0 : ((c : Int) == 0) = false := by rw [beq_eq_false_iff_ne]; omega
          clear hb h2
          go_wp2_with fail
          refine (eat_ro _ (w.heap.size + 2) s _ hL hs xShut (ne_nil _ _) (nnShut s) hT.ro).mono ?_
          rintro e w7 ⟨rfl, h7, hw7⟩
          have T7 := hT.wr hw7 h7
          go_wp2
          go_meet
          rw [HE.out, ← HST.out]
          rw [exp_er _ (ne_nil _ _)] at T7
          have hE := blk_fl s (f := iniP s) (S := .error (c, ee)) rfl
          rw [hE]
          exact ⟨L, a1, m1, c1, (fun h => by cases h), T7⟩
        | true =>
          have e6 : wr.cell? ⟨w.heap.size + 2, 6, none⟩ = some (.int .i64 0) := by
            obtain ⟨a, kk, x, qq, t, c, ee, hb, ha, h1, _⟩ := hr
            obtain ⟨rfl, _, _⟩ := h1 rfl
            exact hb.at rfl
          simp only [if_true] at hk hlen'
          clear hr
          cases qx : isX s xShut S' with
          | true =>
            obtain ⟨a, rfl⟩ := fl_err s qx (ne_nil _ _)
            go_wp2_with fail
            refine (is_yes _ (w.heap.size + 2) s _ hL hs xShut (ne_nil _ _) (nnShut s) qx hT.ro).mono ?_
            rintro e w8 ⟨rfl, h8, hw8⟩
            go_wp2_with fail
            refine (eat_ro _ (w.heap.size + 2) s _ hL hs xShut (ne_nil _ _) (nnShut s) (h8.ro hv.1)).mono ?_
            rintro e w9 ⟨rfl, h9, hw9⟩
            have T9 := hT.wr (hw8.trans hw9) h9
            go_wp2
            go_meet
            have hE := blk_end s (f := iniP s) (S := .ok a) rfl qx
            have hX : expS s xShut (.ok a) = nx s (.ok a) := by unfold expS; rw [if_pos qx]
            rw [hX] at T9
            have hV := HVAL.out
            rw [hE] at hV
            rw [HE.out, ← HST.out, hE]
            refine ⟨L, a1, m1, c1, fun h => ?_, T9⟩
            have := hV h
            simp only [List.append_nil] at this
            exact this
          | false =>
            cases S' with
            | error er =>
              go_wp2_with fail
              refine (is_no _ (w.heap.size + 2) s _ hL hs xShut (ne_nil _ _) (nnShut s) qx hT.ro).mono ?_
              rintro e w8 ⟨rfl, h8, hw8⟩
              go_wp2_with fail
              refine (loc_ro _ (w.heap.size + 2) s _ hL hs h8).mono ?_
              rintro e w9 ⟨rfl, h9, hw9⟩
              have W9 : Wr (w.heap.size + 2) wr w9 := hw8.trans hw9
              have z9 := W9.size
              have nM : w.heap.size + 2 ≠ w9.heap.size := by omega
              have mM : w9.heap.size ≠ w.heap.size + 2 := by omega
              clear hw8 hw9 h8
              go_wp2_with fail
              refine (eat_ro _ (w.heap.size + 2) s _ hL hs xEq (ne_nil _ _) (nnEq s) (h9.alloc _)).mono ?_
              rintro e w10 ⟨rfl, h10, hw10⟩
              have B10 := (Bk.new w9 _ _).wr hw10 mM
              have W10 := (W9.alloc _).trans hw10
              clear hw10 h9 W9
              go_wp2_with fail
              have h10 : Ro w10 (w.heap.size + 2) s (.error er) := by rw [show (locP s (.error er)).2 = .error er from named_er _ _ er, exp_er er (ne_nil _ _)] at h10; exact h10
              refine (num_ro _ (w.heap.size + 2) s _ hL hs h10).mono ?_
              rintro e w11 ⟨rfl, h11, hw11⟩
              have h11 : Ro w11 (w.heap.size + 2) s (.error er) := by rw [num_er] at h11; exact h11
              have B11 := B10.wr hw11 mM
              have W11 := W10.trans hw11
              have b0 : w11.cell? ⟨w9.heap.size, 0, none⟩ = _ := B11.at rfl
              have b1 : w11.cell? ⟨w9.heap.size, 1, none⟩ = _ := B11.at rfl
              have bf : w11.frozen? ⟨w9.heap.size, 1, none⟩ = false := B11.fr 1
              have bl := B11.lt
              clear hw11 h10 W10 B10
              go_wp2_with fail
              refine (eat_told _ (w.heap.size + 2) s er hL hs xSemi (ne_nil _ _) (nnSemi s) (h11.setFar nM _)).mono ?_
              rintro e w12 ⟨rfl, h12, hw12⟩
              have B12 := (B11.set 1 _).wr hw12 mM
              have W12 : Wr (w.heap.size + 2) wr w12 := (W11.setNew z9 _).trans hw12
              have T12 := hT.wr W12 ⟨false, h12⟩
              have d0 : w12.cell? ⟨w9.heap.size, 0, none⟩ = _ := B12.at rfl
              have d1 : w12.cell? ⟨w9.heap.size, 1, none⟩ = _ := B12.at rfl
              have dl := B12.lt
              have t1 : w12.cell? ⟨w.heap.size + 3, 1, none⟩ = some (.slice a1 m1 c1) := T12.tb.at rfl
              have tl := T12.tb.lt
              clear hw12 W11 W12 B11 B12 b0 b1 bf bl h11 hT
              go_wp2_with (at_builtin; refine wpList_append_own _ rfl _ _ 22 rfl (w.heap.size + 4) 55 i0 (.agg #[.int .i64 0, .int .i64 0]) 2 16 Tryz.underlying22 hi hz0 hz1 hz2 rfl (by decide) _ _ _ rfl (T12.i1.alloc _) ⟨w12.heap.size, 0, none⟩ 1 1 [.int .i64 (locP s (.error er)).1, .int .i64 (numP s (.error er)).1] rfl rfl ?c1 ?c2 ?c3 ?c4 ?c5 ?_)
              case c1 =>
                intro j u hu
                rw [new_cell]
                exact hu
              case c2 =>
                intro u hu
                simp only [List.mem_cons, List.not_mem_nil, or_false] at hu
                rcases hu with rfl | rfl <;> rfl
              case c3 => unfold maxLen; omega
              case c4 => omega
              case c5 => have := T12.on.size; have := T12.tb.lt; simp; omega
              intro v' w13 hown13 hg13 _
              obtain ⟨a4, m4, c4, rfl⟩ := own_slice hown13
              have hb4 := own_lo T12.i1
              have tb := (T12.alloc (.cells _ _)).tb.grown hg13 (by omega) hb4
              have t2 : w13.cell? ⟨w.heap.size + 3, 1, none⟩ = _ := tb.at rfl
              have tf : w13.frozen? ⟨w.heap.size + 3, 1, none⟩ = false := tb.fr 1
              have tl2 := tb.lt
              have T13 := (T12.alloc (.cells _ _)).putIni (li' := L ++ [⟨(locP s (.error er)).1, (numP s (.error er)).1⟩]) hg13 (ini_snoc hown13)
              go_wp2
              go_roundg (mS s (.error er) + (if false then 1 else 0))
              case measure => simp [mS] at hk ⊢; omega
              case rel =>
                have hE := blk_fl s (f := iniP s) (S := .error er) rfl
                refine ⟨.error er, false, _, a4, m4, c4, rfl, ?_, T13, ?_, HST.out, ?_⟩
                · exact ((h12.alloc _).grown hg13 (by omega) hb4).setFar (by omega) _
                · simp [mS] at hlen' ⊢; omega
                · rw [hE]; intro h; cases h
            | ok a =>
              go_wp2_with fail
              refine (is_no _ (w.heap.size + 2) s _ hL hs xShut (ne_nil _ _) (nnShut s) qx hT.ro).mono ?_
              rintro e w8 ⟨rfl, h8, hw8⟩
              go_wp2_with fail
              refine (loc_ro _ (w.heap.size + 2) s _ hL hs h8).mono ?_
              rintro e w9 ⟨rfl, h9, hw9⟩
              have W9 : Wr (w.heap.size + 2) wr w9 := hw8.trans hw9
              have z9 := W9.size
              have nM : w.heap.size + 2 ≠ w9.heap.size := by omega
              have mM : w9.heap.size ≠ w.heap.size + 2 := by omega
              clear hw8 hw9 h8
              go_wp2_with fail
              refine (eat_ro _ (w.heap.size + 2) s _ hL hs xEq (ne_nil _ _) (nnEq s) (h9.alloc _)).mono ?_
              rintro e w10 ⟨rfl, h10, hw10⟩
              have B10 := (Bk.new w9 _ _).wr hw10 mM
              have W10 := (W9.alloc _).trans hw10
              clear hw10 h9 W9
              go_wp2_with fail
              refine (num_ro _ (w.heap.size + 2) s _ hL hs h10).mono ?_
              rintro e w11 ⟨rfl, h11, hw11⟩
              have B11 := B10.wr hw11 mM
              have W11 := W10.trans hw11
              have b0 : w11.cell? ⟨w9.heap.size, 0, none⟩ = _ := B11.at rfl
              have b1 : w11.cell? ⟨w9.heap.size, 1, none⟩ = _ := B11.at rfl
              have bf : w11.frozen? ⟨w9.heap.size, 1, none⟩ = false := B11.fr 1
              have bl := B11.lt
              clear hw11 h10 W10 B10
              go_wp2_with fail
              refine (eat_ro _ (w.heap.size + 2) s _ hL hs xSemi (ne_nil _ _) (nnSemi s) (h11.setFar nM _)).mono ?_
              rintro e w12 ⟨rfl, h12, hw12⟩
              have B12 := (B11.set 1 _).wr hw12 mM
              have W12 : Wr (w.heap.size + 2) wr w12 := (W11.setNew z9 _).trans hw12
              have T12 := hT.wr W12 h12
              have d0 : w12.cell? ⟨w9.heap.size, 0, none⟩ = _ := B12.at rfl
              have d1 : w12.cell? ⟨w9.heap.size, 1, none⟩ = _ := B12.at rfl
              have dl := B12.lt
              have t1 : w12.cell? ⟨w.heap.size + 3, 1, none⟩ = some (.slice a1 m1 c1) := T12.tb.at rfl
              have tl := T12.tb.lt
              clear hw12 W11 W12 B11 B12 b0 b1 bf bl h11 hT
              go_wp2_with (at_builtin; refine wpList_append_own _ rfl _ _ 22 rfl (w.heap.size + 4) 55 i0 (.agg #[.int .i64 0, .int .i64 0]) 2 16 Tryz.underlying22 hi hz0 hz1 hz2 rfl (by decide) _ _ _ rfl (T12.i1.alloc _) ⟨w12.heap.size, 0, none⟩ 1 1 [.int .i64 (locP s (.ok a)).1, .int .i64 (numP s (expS s xEq (locP s (.ok a)).2)).1] rfl rfl ?c1 ?c2 ?c3 ?c4 ?c5 ?_)
              case c1 =>
                intro j u hu
                rw [new_cell]
                exact hu
              case c2 =>
                intro u hu
                simp only [List.mem_cons, List.not_mem_nil, or_false] at hu
                rcases hu with rfl | rfl <;> rfl
              case c3 => unfold maxLen; omega
              case c4 => omega
              case c5 => have := T12.on.size; have := T12.tb.lt; simp; omega
              intro v' w13 hown13 hg13 _
              obtain ⟨a4, m4, c4, rfl⟩ := own_slice hown13
              have hb4 := own_lo T12.i1
              have tb := (T12.alloc (.cells _ _)).tb.grown hg13 (by omega) hb4
              have t2 : w13.cell? ⟨w.heap.size + 3, 1, none⟩ = _ := tb.at rfl
              have tf : w13.frozen? ⟨w.heap.size + 3, 1, none⟩ = false := tb.fr 1
              have tl2 := tb.lt
              have T13 := (T12.alloc (.cells _ _)).putIni (li' := L ++ [(iniP s (.ok a)).1]) hg13 (ini_snoc hown13)
              have hless := blk_less s (goes_ini s) hv rfl
              have hon := blk_on s (goes_ini s) hv rfl qx
              obtain ⟨o2, hx2⟩ := T13.ro
              go_wp2
              go_roundg (mS s (expS s xSemi (iniP s (.ok a)).2) + (if o2 then 1 else 0))
              case measure => rw [hk]; split <;> omega
              case rel =>
                refine ⟨_, o2, _, a4, m4, c4, rfl, hx2, T13, ?_, ?_, ?_⟩
                · simp; split <;> omega
                · rw [← HST.out, hon]
                · intro h
                  rw [← HVAL.out (by rw [hon]; exact h), hon]
                  simp
  case rest =>
    obtain ⟨L, a1, m1, c1, hLv, T5⟩ := hcut
    generalize hIP : initP s HD.2 = IP at hLv T5
    have HIP : Hid (initP s HD.2 = IP) := hIP
    have HLV : Hid (flB IP.2 = false → L = IP.1) := hLv
    clear hIP hLv T3 h4 hw4
    obtain ⟨j0, hj, hy0, hy1, hy2⟩ := info_parts infoThr
    obtain ⟨k0, hk0, hx0, hx1, hx2⟩ := info_parts infoIns
    have hmS : mS s IP.2 ≤ s.size + 1 := by cases IP.2 <;> simp [mS]
    go_wp2
    go_loopg [7] (mS s IP.2) (fun k u wr => ∃ (S' : St) (LL : List (List InsT)) (a2 : Option Addr) (m2 c2 : Nat), k = mS s S' ∧ Tr w wr s S' HD.1 (.slice a1 m1 c1) (.slice a2 m2 c2) 0 (.slice none 0 0) L LL [] ∧ LL.length + mS s S' ≤ s.size + 2 ∧ (moreP s (insB s) xThread S').2 = (thrP s IP.2).2 ∧ (flB (moreP s (insB s) xThread S').2 = false → LL ++ (moreP s (insB s) xThread S').1 = (thrP s IP.2).1))
    case atStart => exact ⟨IP.2, [], none, 0, 0, rfl, T5, by simp; omega, rfl, fun _ => rfl⟩
    case round =>
      obtain ⟨S', LL, a2, m2, c2, hk, hT, hlen', hst, hval⟩ := hrel
      have HST : Hid ((moreP s (insB s) xThread S').2 = (thrP s IP.2).2) := hst
      have HVAL : Hid (flB (moreP s (insB s) xThread S').2 = false → LL ++ (moreP s (insB s) xThread S').1 = (thrP s IP.2).1) := hval
      have hv := hT.ro.vd
      clear hst hval T5
      cases qx : isX s xThread S' with
      | false =>
        have hE : moreP s (insB s) xThread S' = ([], S') := more_end s qx
        have HS6 : Hid (S' = (thrP s IP.2).2) := by show _ = _; rw [← HST.out, hE]
        have HV6 : Hid (flB S' = false → LL = (thrP s IP.2).1) := by
          intro h
          have := HVAL.out (by rw [hE]; exact h)
          rw [hE] at this
          simpa using this
        clear hE HST HVAL
        go_wp2_with fail
        refine (is_no _ (w.heap.size + 2) s _ hL hs xThread (ne_nil _ _) (nnThread s) qx hT.ro).mono ?_
        rintro e w6 ⟨rfl, h6, hw6⟩
        have T6 := hT.wr hw6 h6
        clear hT h6 hw6
        cases q1 : isX s xExists S' with
        | true =>
          obtain ⟨SC, hSC⟩ : ∃ SC, SC = (condP s S').2 := ⟨_, rfl⟩
          have hCE : condP s S' = (⟨1, (rowsP s (nx s S')).1⟩, expS s xSemi (rowsP s (nx s S')).2) := by unfold condP; rw [q1]; rfl
          have HSC : Hid (SC = (condP s S').2) := hSC
          have HCE : Hid (condP s S' = (⟨1, (rowsP s (nx s S')).1⟩, expS s xSemi (rowsP s (nx s S')).2)) := hCE
          clear hSC hCE
          have q2 : isX s xForall S' = false := isX_other q1 (by decide)
          go_wp2_with fail
          refine (is_yes _ (w.heap.size + 2) s _ hL hs xExists (ne_nil _ _) (nnExists s) q1 T6.ro).mono ?_
          rintro e w7 ⟨rfl, h7, hw7⟩
          have T7 := T6.wr hw7 (h7.ro' hv)
          have t3 : w7.cell? ⟨w.heap.size + 3, 3, none⟩ = some (.int .i64 0) := T7.tb.at rfl
          have tf3 : w7.frozen? ⟨w.heap.size + 3, 3, none⟩ = false := T7.tb.fr 3
          have tl3 := T7.tb.lt
          clear hw7 h7 T6
          go_wp2_with fail
          refine (is_nolk _ (w.heap.size + 2) s _ hL hs xForall (ne_nil _ _) (nnForall s) q2 (T7.kind 1).ro).mono ?_
          rintro e w8 ⟨rfl, h8, hw8⟩
          have T8 := (T7.kind 1).wr hw8 h8.rx
          clear hw8 T7 t3 tf3 tl3
          go_wp2_with fail
          refine (go1_ro _ (w.heap.size + 2) s _ (h8.tn (ne_nil _ _) q1)).mono ?_
          rintro e w9 ⟨rfl, h9, hw9⟩
          have T9 := T8.wr hw9 h9
          clear hw9 h8 h9 T8
          go_wp2_with fail
          refine (ratom_at _ (w.heap.size + 2) s _ hL hs T9.ro).mono ?_
          rintro e w10 ⟨x, rfl, hx, h10, hw10⟩
          have T10 := T9.wr hw10 h10
          have hr10 : w.heap.size + 4 ≤ w10.heap.size := T10.tb.lt
          have hmA : mS s (atomP s (nx s S')).2 ≤ s.size + 1 := by cases (atomP s (nx s S')).2 <;> simp [mS]
          have HX : Hid (flB (atomP s (nx s S')).2 = false → x = (atomP s (nx s S')).1) := hx
          clear hw10 T9 hx
          obtain ⟨n0, hn0, hw0, hw1, hw2⟩ := info_parts infoAtomR
          obtain ⟨g0, hg0, hv0, hv1, hv2⟩ := info_parts infoRow
          go_wp2
          go_loopg [8] (mS s (atomP s (nx s S')).2) (fun kk u wq => ∃ (S'' : St) (D : List (List AtomT)) (c : List AtomT) (wb : World) (Sb : St) (a8 : Option Addr) (m8 c8 : Nat) (a3 : Option Addr) (m3 c3 : Nat), kk = mS s S'' ∧ u = .slice a8 m8 c8 ∧ Ro wq (w.heap.size + 2) s S'' ∧ Tr w wb s Sb HD.1 (.slice a1 m1 c1) (.slice a2 m2 c2) 1 (.slice a3 m3 c3) L LL D ∧ Wr (w.heap.size + 2) wb wq ∧ wq.ownsRow wb.heap.size 58 4 (.slice a8 m8 c8) c.length (c.flatMap atomC) ∧ (D.length + mS s S'' ≤ s.size + 3 ∧ c.length + mS s S'' ≤ s.size + 3) ∧ (moreP s (rowP s) xOr (moreP s (atomP s) xAnd S'').2).2 = (rowsP s (nx s S')).2 ∧ (flB (moreP s (rowP s) xOr (moreP s (atomP s) xAnd S'').2).2 = false → D ++ (c ++ (moreP s (atomP s) xAnd S'').1) :: (moreP s (rowP s) xOr (moreP s (atomP s) xAnd S'').2).1 = (rowsP s (nx s S')).1))
          case atStart =>
            refine ⟨_, [], [x], w10, _, _, _, _, none, 0, 0, rfl, rfl, h10.alloc _, T10, (Wr.refl _ _).alloc _, own_one w10 #[.int .i64 x.t, .int .i64 x.r, .int .i64 x.l, .int .i64 x.v] 58 4 w10.heap.size rfl (Nat.le_refl _), ⟨by simp; omega, by simp; omega⟩, rfl, ?_⟩
            intro h
            rw [HX.out (flB_rows h)]
            rfl
          case round =>
            obtain ⟨S'', D, c, wb, Sb, a8, m8, c8, a3, m3, c3, hkk, rfl, hro, Tb, hW, hown, hlen2, hst2, hval2⟩ := hrel
            have HST2 : Hid ((moreP s (rowP s) xOr (moreP s (atomP s) xAnd S'').2).2 = (rowsP s (nx s S')).2) := hst2
            have HVAL2 : Hid (flB (moreP s (rowP s) xOr (moreP s (atomP s) xAnd S'').2).2 = false → D ++ (c ++ (moreP s (atomP s) xAnd S'').1) :: (moreP s (rowP s) xOr (moreP s (atomP s) xAnd S'').2).1 = (rowsP s (nx s S')).1) := hval2
            have hv2' := hro.vd
            have hwb : w.heap.size + 4 ≤ wb.heap.size := Tb.tb.lt
            have hDc : D.length ≤ 9000 ∧ c.length ≤ 9000 := by omega
            clear hst2 hval2 T10 h10
            cases qa : isX s xAnd S'' with
            | true =>
              have qo : isX s xOr S'' = false := isX_other qa (by decide)
              have hlessA := prt_less s (goes_atom s) (ne_nil _ _) hv2' qa
              have honA := more_on s (goes_atom s) (ne_nil _ _) hv2' qa
              go_wp2_with fail
              refine (is_yes _ (w.heap.size + 2) s _ hL hs xAnd (ne_nil _ _) (nnAnd s) qa hro).mono ?_
              rintro e w11 ⟨rfl, h11, hw11⟩
              go_wp2_with fail
              refine (is_nolk _ (w.heap.size + 2) s _ hL hs xOr (ne_nil _ _) (nnOr s) qo (h11.ro' hv2')).mono ?_
              rintro e w12 ⟨rfl, h12, hw12⟩
              go_wp2_with fail
              refine (go1_ro _ (w.heap.size + 2) s _ (h12.tn (ne_nil _ _) qa)).mono ?_
              rintro e w13 ⟨rfl, h13, hw13⟩
              have W13 := ((hW.trans hw11).trans hw12).trans hw13
              have own13 := own_wr (own_wr (own_wr hown hw11 (by omega)) hw12 (by omega)) hw13 (by omega)
              clear h11 hw11 h12 hw12 hw13 hW hown
              go_wp2_with fail
              refine (ratom_at _ (w.heap.size + 2) s _ hL hs h13).mono ?_
              rintro e w14 ⟨y, rfl, hy, h14, hw14⟩
              have W14 := W13.trans hw14
              have own14 := own_wr own13 hw14 (by omega)
              have hz14 := W14.size
              have HY : Hid (flB (atomP s (nx s S'')).2 = false → y = (atomP s (nx s S'')).1) := hy
              clear hw14 h13 W13 own13 hy
              go_wp2_with (at_builtin; refine wpList_append_own _ rfl _ _ 59 rfl wb.heap.size 58 n0 (.agg #[.int .i64 0, .int .i64 0, .int .i64 0, .int .i64 0]) 4 32 Tryz.underlying59 hn0 hw0 hw1 hw2 rfl (by decide) _ _ _ rfl (own14.alloc _) ⟨w14.heap.size, 0, none⟩ 1 1 (atomC y) rfl rfl ?c1 ?c2 ?c3 ?c4 ?c5 ?_)
              case c1 =>
                intro j u hu
                rw [new_cell]
                exact hu
              case c2 =>
                intro u hu
                simp only [atomC, List.mem_cons, List.not_mem_nil, or_false] at hu
                rcases hu with rfl | rfl | rfl | rfl <;> rfl
              case c3 => unfold maxLen; first | omega | (simp; omega) | decide
              case c4 => first | omega | (simp; omega) | decide
              case c5 => simp; omega
              intro v' w15 hown15 hg15 _
              obtain ⟨a9, m9, c9, rfl⟩ := own_slice hown15
              have hb9 := own_lo own14
              have W15 := (W14.alloc _).grown hg15 hb9
              have h15 := (h14.alloc (.cells _ _)).grown hg15 (by omega) hb9
              go_wp2
              go_roundg (mS s (atomP s (nx s S'')).2)
              case measure => rw [hkk]; exact hlessA
              case rel =>
                refine ⟨_, D, c ++ [y], wb, Sb, a9, m9, c9, a3, m3, c3, rfl, rfl, h15, Tb, W15, by simpa using hown15, ⟨by omega, by simp; omega⟩, by rw [← HST2.out, honA], ?_⟩
                intro h
                rw [HY.out (flB_rows h), ← HVAL2.out (by rw [honA]; exact h), honA]
                simp
            | false =>
              have hME := more_end s (f := atomP s) qa
              cases qo : isX s xOr S'' with
              | true =>
                have hlessO := prt_less s (goes_row s) (ne_nil _ _) hv2' qo
                have honO := more_on s (goes_row s) (ne_nil _ _) hv2' qo
                go_wp2_with fail
                refine (is_no _ (w.heap.size + 2) s _ hL hs xAnd (ne_nil _ _) (nnAnd s) qa hro).mono ?_
                rintro e w11 ⟨rfl, h11, hw11⟩
                go_wp2_with fail
                refine (is_yes _ (w.heap.size + 2) s _ hL hs xOr (ne_nil _ _) (nnOr s) qo h11).mono ?_
                rintro e w12 ⟨rfl, h12, hw12⟩
                go_wp2_with fail
                refine (is_yes _ (w.heap.size + 2) s _ hL hs xOr (ne_nil _ _) (nnOr s) qo (h12.ro' hv2')).mono ?_
                rintro e w13 ⟨rfl, h13, hw13⟩
                have W13 := ((hW.trans hw11).trans hw12).trans hw13
                have own13 := own_wr (own_wr (own_wr hown hw11 (by omega)) hw12 (by omega)) hw13 (by omega)
                have T13 := Tb.wr W13 (h13.ro' hv2')
                have t4 : w13.cell? ⟨w.heap.size + 3, 4, none⟩ = some (.slice a3 m3 c3) := T13.tb.at rfl
                have tl4 := T13.tb.lt
                obtain ⟨vs, hn, hov, hin⟩ := T13.i3
                clear h11 hw11 h12 hw12 hw13 hW hown W13
                go_wp2_with (at_builtin; refine wpList_append_own _ rfl _ _ 24 rfl (w.heap.size + 4) 59 g0 (.slice none 0 0) 1 24 Tryz.underlying24 hg0 hv0 hv1 hv2 rfl (by decide) _ _ _ rfl (hov.alloc _) ⟨w13.heap.size, 0, none⟩ 1 1 [.slice a8 m8 c8] rfl rfl ?c1 ?c2 ?c3 ?c4 ?c5 ?_)
                case c1 => exact new_news w13 (.slice a8 m8 c8) 59
                case c2 => exact one_news a8 m8 c8
                case c3 => unfold maxLen; omega
                case c4 => omega
                case c5 => simp; omega
                intro v' w14 hown14 hg14 _
                obtain ⟨a9, m9, c9, rfl⟩ := own_slice hown14
                have hb9 := own_lo hov
                have tb := (T13.alloc (.cells _ _)).tb.grown hg14 (by omega) hb9
                have t5 : w14.cell? ⟨w.heap.size + 3, 4, none⟩ = _ := tb.at rfl
                have tf5 : w14.frozen? ⟨w.heap.size + 3, 4, none⟩ = false := tb.fr 4
                have tl5 := tb.lt
                have T14 := (T13.alloc (.cells _ _)).putAny (la' := D ++ [c]) (hov.alloc _) hg14 (Own2.snoc hn (hov.alloc _) (fun i u L a b => (hin i u L a b).alloc _) (by decide) hg14 hown14 ((own_mono own13 hwb).alloc _))
                have tn14 := ((h13.alloc (.cells _ _)).grown hg14 (by omega) hb9)
                clear T13 h13 t4 tl4 hov hin hg14 hown14 tb
                go_wp2_with fail
                refine (go1_ro _ (w.heap.size + 2) s _ (tn14.setFar (by omega) _)).mono ?_
                rintro e w15 ⟨rfl, h15, hw15⟩
                go_wp2_with fail
                refine (ratom_at _ (w.heap.size + 2) s _ hL hs h15).mono ?_
                rintro e w16 ⟨y, rfl, hy, h16, hw16⟩
                have W16 := hw15.trans hw16
                have hz16 := W16.size
                have hz14 : w.heap.size + 4 ≤ (w14.setCell ⟨w.heap.size + 3, 4, none⟩ (.slice a9 m9 c9)).heap.size := T14.tb.lt
                have HY : Hid (flB (atomP s (nx s S'')).2 = false → y = (atomP s (nx s S'')).1) := hy
                obtain ⟨WB, hWB⟩ : ∃ WB, WB = w14.setCell ⟨w.heap.size + 3, 4, none⟩ (.slice a9 m9 c9) := ⟨_, rfl⟩
                rw [← hWB] at W16 T14 hz16 hz14
                clear hw15 hw16 h15 hy hWB tn14 Tb
                have ownN := World.ownsRow_nil w16 WB.heap.size 58 4
                go_wp2_with (at_builtin; refine wpList_append_own _ rfl _ _ 59 rfl WB.heap.size 58 n0 (.agg #[.int .i64 0, .int .i64 0, .int .i64 0, .int .i64 0]) 4 32 Tryz.underlying59 hn0 hw0 hw1 hw2 rfl (by decide) _ _ _ rfl (ownN.alloc _) ⟨w16.heap.size, 0, none⟩ 1 1 (atomC y) rfl rfl ?c1 ?c2 ?c3 ?c4 ?c5 ?_)
                case c1 =>
                  intro j u hu
                  rw [new_cell]
                  exact hu
                case c2 =>
                  intro u hu
                  simp only [atomC, List.mem_cons, List.not_mem_nil, or_false] at hu
                  rcases hu with rfl | rfl | rfl | rfl <;> rfl
                case c3 => unfold maxLen; first | omega | (simp; omega) | decide
                case c4 => first | omega | (simp; omega) | decide
                case c5 => simp; omega
                intro v'' w17 hown17 hg17 _
                obtain ⟨b9, n9, d9, rfl⟩ := own_slice hown17
                have hbN : ∀ g, (Value.slice none 0 0).ownBlock = some g → WB.heap.size ≤ g := fun g e => by cases e
                have W17 := (W16.alloc _).grown hg17 hbN
                have h17 := (h16.alloc (.cells _ _)).grown hg17 (by omega) hbN
                have honA2 : rowP s (nx s S'') = ((atomP s (nx s S'')).1 :: (moreP s (atomP s) xAnd (atomP s (nx s S'')).2).1, (moreP s (atomP s) xAnd (atomP s (nx s S'')).2).2) := rfl
                have hlessR : mS s (atomP s (nx s S'')).2 < mS s S'' := by obtain ⟨b, rfl⟩ := fl_err s qo (ne_nil _ _); exact Nat.lt_of_le_of_lt (mS_atom s _) (mS_take s (ne_nil _ _) qo hv2'.2)
                go_wp2
                go_roundg (mS s (atomP s (nx s S'')).2)
                case measure => rw [hkk]; exact hlessR
                case rel =>
                  refine ⟨_, D ++ [c], [y], WB, S'', b9, n9, d9, a9, m9, c9, rfl, rfl, h17, T14, W17, by simpa using hown17, ⟨by simp; omega, by simp; omega⟩, ?_, ?_⟩
                  · rw [← HST2.out, hME, honO, honA2]
                  · intro h
                    have h' := HVAL2.out (by rw [hME, honO, honA2]; exact h)
                    rw [hME, honO, honA2] at h'
                    rw [HY.out (flB_rows h), ← h']
                    simp
              | false =>
                have hQE := more_end s (f := rowP s) qo
                go_wp2_with fail
                refine (is_no _ (w.heap.size + 2) s _ hL hs xAnd (ne_nil _ _) (nnAnd s) qa hro).mono ?_
                rintro e w11 ⟨rfl, h11, hw11⟩
                go_wp2_with fail
                refine (is_no _ (w.heap.size + 2) s _ hL hs xOr (ne_nil _ _) (nnOr s) qo h11).mono ?_
                rintro e w12 ⟨rfl, h12, hw12⟩
                have W12 := (hW.trans hw11).trans hw12
                have own12 := own_wr (own_wr hown hw11 (by omega)) hw12 (by omega)
                have T12 := Tb.wr W12 h12
                have t4 : w12.cell? ⟨w.heap.size + 3, 4, none⟩ = some (.slice a3 m3 c3) := T12.tb.at rfl
                have tl4 := T12.tb.lt
                obtain ⟨vs, hn, hov, hin⟩ := T12.i3
                clear h11 hw11 h12 hw12 hW hown W12 Tb
                go_wp2_with (at_builtin; refine wpList_append_own _ rfl _ _ 24 rfl (w.heap.size + 4) 59 g0 (.slice none 0 0) 1 24 Tryz.underlying24 hg0 hv0 hv1 hv2 rfl (by decide) _ _ _ rfl (hov.alloc _) ⟨w12.heap.size, 0, none⟩ 1 1 [.slice a8 m8 c8] rfl rfl ?c1 ?c2 ?c3 ?c4 ?c5 ?_)
                case c1 => exact new_news w12 (.slice a8 m8 c8) 59
                case c2 => exact one_news a8 m8 c8
                case c3 => unfold maxLen; omega
                case c4 => omega
                case c5 => simp; omega
                intro v' w14 hown14 hg14 _
                obtain ⟨a9, m9, c9, rfl⟩ := own_slice hown14
                have hb9 := own_lo hov
                have tb := (T12.alloc (.cells _ _)).tb.grown hg14 (by omega) hb9
                have t5 : w14.cell? ⟨w.heap.size + 3, 4, none⟩ = _ := tb.at rfl
                have tf5 : w14.frozen? ⟨w.heap.size + 3, 4, none⟩ = false := tb.fr 4
                have tl5 := tb.lt
                have T14 := (T12.alloc (.cells _ _)).putAny (la' := D ++ [c]) (hov.alloc _) hg14 (Own2.snoc hn (hov.alloc _) (fun i u L a b => (hin i u L a b).alloc _) (by decide) hg14 hown14 ((own_mono own12 hwb).alloc _))
                have hSS : expS s xSemi S'' = SC := by rw [HSC.out, HCE.out, ← HST2.out, hME, hQE]
                have HC : Hid (flB SC = false → (⟨1, D ++ [c]⟩ : CondT) = (condP s S').1) := by
                  intro h
                  rw [← hSS] at h
                  have hf : flB S'' = false := by
                    cases hq9 : S'' with
                    | ok b => rfl
                    | error er => rw [hq9, exp_er _ (ne_nil _ _)] at h; cases h
                  have h' := HVAL2.out (by rw [hME, hQE]; exact hf)
                  rw [hME, hQE] at h'
                  rw [HCE.out, ← h']
                  simp
                clear T12 t4 tl4 hov hin hg14 hown14 tb HST2 HVAL2
                go_wp2_with fail
                refine (eat_ro _ (w.heap.size + 2) s _ hL hs xSemi (ne_nil _ _) (nnSemi s) T14.ro).mono ?_
                rintro e w15 ⟨rfl, h15, hw15⟩
                have Tc := T14.wr hw15 h15
                rw [hSS] at Tc
                clear h15 hw15 T14 hSS
                go_wp2_with fail
                refine (eat_ro _ (w.heap.size + 2) s _ hL hs xShut (ne_nil _ _) (nnShut s) Tc.ro).mono ?_
                rintro e w30 ⟨rfl, h30, hw30⟩
                have T30 := Tc.wr hw30 h30
                clear hw30 Tc
                cases hSE : expS s xShut SC with
                | ok a =>
                  rw [hSE] at T30
                  have hv30 := T30.ro.vd
                  go_wp2_with fail
                  refine (look_tn _ (w.heap.size + 2) s _ hL hs rfl T30.ro).mono ?_
                  rintro e w31 ⟨rfl, ⟨h31, he31, e6, lr⟩, hw31⟩
                  have T31 := T30.wr hw31 (h31.ro he31)
                  clear hw31 T30 h30
                  by_cases hk4 : kd s a = 4
                  · have hq : ((kd s a : Int) != 4) = false := by rw [hk4]; rfl
                    have za0 : w31.cell? ⟨w.heap.size, 0, none⟩ = _ := T31.r0.at rfl
                    have zaf0 : w31.frozen? ⟨w.heap.size, 0, none⟩ = false := T31.r0.fr 0
                    have za1 : w31.cell? ⟨w.heap.size, 1, none⟩ = _ := T31.r0.at rfl
                    have zaf1 : w31.frozen? ⟨w.heap.size, 1, none⟩ = false := T31.r0.fr 1
                    have za2 : w31.cell? ⟨w.heap.size, 2, none⟩ = _ := T31.r0.at rfl
                    have zaf2 : w31.frozen? ⟨w.heap.size, 2, none⟩ = false := T31.r0.fr 2
                    have za3 : w31.cell? ⟨w.heap.size, 3, none⟩ = _ := T31.r0.at rfl
                    have zaf3 : w31.frozen? ⟨w.heap.size, 3, none⟩ = false := T31.r0.fr 3
                    have za4 : w31.cell? ⟨w.heap.size, 4, none⟩ = _ := T31.r0.at rfl
                    have zaf4 : w31.frozen? ⟨w.heap.size, 4, none⟩ = false := T31.r0.fr 4
                    have zb0 : w31.cell? ⟨w.heap.size + 1, 0, none⟩ = _ := T31.r1.at rfl
                    have zbf0 : w31.frozen? ⟨w.heap.size + 1, 0, none⟩ = false := T31.r1.fr 0
                    have zb1 : w31.cell? ⟨w.heap.size + 1, 1, none⟩ = _ := T31.r1.at rfl
                    have zbf1 : w31.frozen? ⟨w.heap.size + 1, 1, none⟩ = false := T31.r1.fr 1
                    have zt0 : w31.cell? ⟨w.heap.size + 3, 0, none⟩ = _ := T31.tb.at rfl
                    have zt1 : w31.cell? ⟨w.heap.size + 3, 1, none⟩ = _ := T31.tb.at rfl
                    have zt2 : w31.cell? ⟨w.heap.size + 3, 2, none⟩ = _ := T31.tb.at rfl
                    have zt3 : w31.cell? ⟨w.heap.size + 3, 3, none⟩ = _ := T31.tb.at rfl
                    have zt4 : w31.cell? ⟨w.heap.size + 3, 4, none⟩ = _ := T31.tb.at rfl
                    have la := T31.r0.lt
                    have lb := T31.r1.lt
                    have lt := T31.tb.lt
                    have hR : endP (testP s (startS s)) = (⟨HD.1, IP.1, (thrP s IP.2).1, (condP s S').1⟩, 0, 0) := by
                      have hE : (endS s (expS s xShut (condP s S').2)) = .ok a := by rw [← HSC.out, hSE]; unfold endS; rw [if_pos (show tokK s (.ok a) = 4 from hk4)]
                      exact end_ok HHD.out HIP.out HS6.out hE
                    have hf1 : flB SC = false := by
                      cases hq2 : SC with
                      | ok b => rfl
                      | error er => rw [hq2, exp_er _ (ne_nil _ _)] at hSE; cases hSE
                    have hf2 : flB S' = false := flB_cond (by rw [← HSC.out]; exact hf1)
                    have hf3 : flB IP.2 = false := flB_thr (by rw [← HS6.out]; exact hf2)
                    have HV : Hid (L = IP.1 ∧ LL = (thrP s IP.2).1 ∧ (⟨1, (D ++ [c])⟩ : CondT) = (condP s S').1) := ⟨HLV.out hf3, HV6.out hf2, HC.out hf1⟩
                    have HRR : Hid (endP (testP s (startS s)) = (⟨HD.1, IP.1, (thrP s IP.2).1, (condP s S').1⟩, 0, 0)) := hR
                    have HTT : Hid (Tr w w31 s (.ok a) HD.1 (.slice a1 m1 c1) (.slice a2 m2 c2) 1 (.slice a9 m9 c9) L LL (D ++ [c])) := T31
                    clear hR hf1 hf2 hf3 T31 h31 hSE
                    go_wp2
                    (try simp only [Exit.inBlock, Exit.then])
                    rw [HRR.out]
                    refine bodyPost_ret (v := .tuple #[.agg #[.string HD.1, .slice a1 m1 c1, .slice a2 m2 c2, .int .i64 1, (.slice a9 m9 c9)], .agg #[.int .i64 0, .int .i64 0]]) ?_ rfl ⟨_, rfl, ?_, ?_⟩
                    · rw [results_cells2 rfl]
                      go_simp
                    · obtain ⟨e1, e2, e3⟩ := HV.out
                      rw [← e1, ← e2, ← e3]
                      have H0 := test_tr HTT.out
                      refine TestAt.mono (base := w.heap.size + 4) ?_ (by omega)
                      repeat' (first | with_reducible exact H0 | with_reducible refine TestAt.setFar ?_ (by omega) _ | with_reducible refine TestAt.alloc ?_ _)
                    · have ON := HTT.out.on
                      repeat' (first | with_reducible exact ON | with_reducible refine On.setNew ?_ (by omega) _ | with_reducible refine On.alloc ?_ _)
                  · have hq : ((kd s a : Int) != 4) = true := by simp; omega
                    have hLk : ∀ ob, Lk (w31.alloc ob) (w.heap.size + 2) s (.ok a) := fun ob => (h31.alloc ob).lk he31
                    go_wp2_with fail
                    refine (rfail_is _ (w.heap.size + 2) s (.ok a) 6 (by decide) (hLk _)).mono ?_
                    rintro e wE ⟨rfl, hE, hwE⟩
                    have TE := (T31.alloc _).wr hwE hE.rx
                    obtain ⟨cE, pE, hbE, hcE, hpE⟩ : ∃ (cE pE : Nat), (∃ a' k' x' q' t', Bk wE (w.heap.size + 2) (rdC s a' k' x' q' t' cE pE)) ∧ cE = 6 ∧ pE = pl s a := by
                      rcases hE with ⟨a', ha', _⟩ | ⟨a', k', x', q', t', c', e', he', hc', _, hb'⟩
                      · cases ha'
                      · have : (6, pl s a) = (c', e') := by simpa [flS] using he'
                        simp only [Prod.mk.injEq] at this
                        exact ⟨c', e', ⟨a', k', x', q', t', hb'⟩, this.1.symm, this.2.symm⟩
                    obtain ⟨a', k', x', q', t', hbE⟩ := hbE
                    have hEE : endS s (expS s xShut SC) = .error (cE, pE) := by rw [hSE, hcE, hpE]; unfold endS; rw [if_neg (show ¬ tokK s (.ok a) = 4 from hk4)]; rfl
                    have hc0 : cE ≠ 0 := by omega
                    clear hcE hpE hE hwE T31 h31 hLk
                    obtain ⟨r0, r1, r2, r3, r4, r5, r6, r7, r8, r9, r10, r11, r12, r13, r14, r15⟩ := rFacts hbE
                    have za0 : wE.cell? ⟨w.heap.size, 0, none⟩ = _ := TE.r0.at rfl
                    have zaf0 : wE.frozen? ⟨w.heap.size, 0, none⟩ = false := TE.r0.fr 0
                    have za1 : wE.cell? ⟨w.heap.size, 1, none⟩ = _ := TE.r0.at rfl
                    have zaf1 : wE.frozen? ⟨w.heap.size, 1, none⟩ = false := TE.r0.fr 1
                    have za2 : wE.cell? ⟨w.heap.size, 2, none⟩ = _ := TE.r0.at rfl
                    have zaf2 : wE.frozen? ⟨w.heap.size, 2, none⟩ = false := TE.r0.fr 2
                    have za3 : wE.cell? ⟨w.heap.size, 3, none⟩ = _ := TE.r0.at rfl
                    have zaf3 : wE.frozen? ⟨w.heap.size, 3, none⟩ = false := TE.r0.fr 3
                    have za4 : wE.cell? ⟨w.heap.size, 4, none⟩ = _ := TE.r0.at rfl
                    have zaf4 : wE.frozen? ⟨w.heap.size, 4, none⟩ = false := TE.r0.fr 4
                    have zb0 : wE.cell? ⟨w.heap.size + 1, 0, none⟩ = _ := TE.r1.at rfl
                    have zbf0 : wE.frozen? ⟨w.heap.size + 1, 0, none⟩ = false := TE.r1.fr 0
                    have zb1 : wE.cell? ⟨w.heap.size + 1, 1, none⟩ = _ := TE.r1.at rfl
                    have zbf1 : wE.frozen? ⟨w.heap.size + 1, 1, none⟩ = false := TE.r1.fr 1
                    have la := TE.r0.lt
                    have lb := TE.r1.lt
                    have HRR : Hid (endP (testP s (startS s)) = (noTest, cE, pE)) := end_no HHD.out HIP.out HS6.out (by rw [← HSC.out]; exact hEE)
                    have hqE : ((cE : Int) != 0) = true := by simp; omega
                    have hqE0 : ((cE : Int) == 0) = false := by rw [beq_eq_false_iff_ne]; omega
                    have HON : Hid (On w wE) := TE.on
                    clear hbE TE hSE
                    go_wp2_with fail
                    go_region_law (fail)
                    all_goals
                      (try go_wp2)
                      (try simp only [Exit.inBlock, Exit.then])
                      rw [HRR.out]
                      refine bodyPost_ret (v := .tuple #[.agg z5, .agg #[.int .i64 cE, .int .i64 pE]]) ?_ rfl ⟨_, rfl, no_test _ _, ?_⟩
                      · rw [results_cells2 rfl]
                        go_simp
                      · have ON := HON.out
                        repeat' (first | with_reducible exact ON | with_reducible refine On.drew ?_ | with_reducible refine On.setNew ?_ (by omega) _ | with_reducible refine On.alloc ?_ _)
                | error er =>
                  obtain ⟨cE, pE⟩ := er
                  rw [hSE] at T30
                  obtain ⟨o30, r30⟩ := T30.ro
                  go_wp2_with fail
                  refine (hL _ (w.heap.size + 2) s _ o30 hs r30).mono ?_
                  rintro e wE' ⟨rfl, hE, hwE⟩
                  have TE' := T30.wr hwE hE.rx
                  obtain ⟨hc0, hbE'⟩ : cE ≠ 0 ∧ ∃ a' k' x' q' t', Bk wE' (w.heap.size + 2) (rdC s a' k' x' q' t' cE pE) := by
                    rcases hE with ⟨a', ha', _⟩ | ⟨a', k', x', q', t', c', e', he', hc', _, hb'⟩
                    · cases ha'
                    · have : (cE, pE) = (c', e') := by simpa using he'
                      simp only [Prod.mk.injEq] at this
                      obtain ⟨rfl, rfl⟩ := this
                      exact ⟨hc', ⟨a', k', x', q', t', hb'⟩⟩
                  obtain ⟨a', k', x', q', t', hbE⟩ := hbE'
                  have hEE : endS s (expS s xShut SC) = .error (cE, pE) := by rw [hSE]; exact end_er _
                  obtain ⟨wE, hwEE⟩ : ∃ wE, wE = wE' := ⟨_, rfl⟩
                  subst hwEE
                  have TE := TE'
                  clear hE hwE T30 r30 h30 TE'
                  simp only [lkA]
                  obtain ⟨r0, r1, r2, r3, r4, r5, r6, r7, r8, r9, r10, r11, r12, r13, r14, r15⟩ := rFacts hbE
                  have za0 : wE.cell? ⟨w.heap.size, 0, none⟩ = _ := TE.r0.at rfl
                  have zaf0 : wE.frozen? ⟨w.heap.size, 0, none⟩ = false := TE.r0.fr 0
                  have za1 : wE.cell? ⟨w.heap.size, 1, none⟩ = _ := TE.r0.at rfl
                  have zaf1 : wE.frozen? ⟨w.heap.size, 1, none⟩ = false := TE.r0.fr 1
                  have za2 : wE.cell? ⟨w.heap.size, 2, none⟩ = _ := TE.r0.at rfl
                  have zaf2 : wE.frozen? ⟨w.heap.size, 2, none⟩ = false := TE.r0.fr 2
                  have za3 : wE.cell? ⟨w.heap.size, 3, none⟩ = _ := TE.r0.at rfl
                  have zaf3 : wE.frozen? ⟨w.heap.size, 3, none⟩ = false := TE.r0.fr 3
                  have za4 : wE.cell? ⟨w.heap.size, 4, none⟩ = _ := TE.r0.at rfl
                  have zaf4 : wE.frozen? ⟨w.heap.size, 4, none⟩ = false := TE.r0.fr 4
                  have zb0 : wE.cell? ⟨w.heap.size + 1, 0, none⟩ = _ := TE.r1.at rfl
                  have zbf0 : wE.frozen? ⟨w.heap.size + 1, 0, none⟩ = false := TE.r1.fr 0
                  have zb1 : wE.cell? ⟨w.heap.size + 1, 1, none⟩ = _ := TE.r1.at rfl
                  have zbf1 : wE.frozen? ⟨w.heap.size + 1, 1, none⟩ = false := TE.r1.fr 1
                  have la := TE.r0.lt
                  have lb := TE.r1.lt
                  have HRR : Hid (endP (testP s (startS s)) = (noTest, cE, pE)) := end_no HHD.out HIP.out HS6.out (by rw [← HSC.out]; exact hEE)
                  have hqE : ((cE : Int) != 0) = true := by simp; omega
                  have hqE0 : ((cE : Int) == 0) = false := by rw [beq_eq_false_iff_ne]; omega
                  have HON : Hid (On w wE) := TE.on
                  clear hbE TE hSE
                  go_wp2_with fail
                  go_region_law (fail)
                  all_goals
                    (try go_wp2)
                    (try simp only [Exit.inBlock, Exit.then])
                    rw [HRR.out]
                    refine bodyPost_ret (v := .tuple #[.agg z5, .agg #[.int .i64 cE, .int .i64 pE]]) ?_ rfl ⟨_, rfl, no_test _ _, ?_⟩
                    · rw [results_cells2 rfl]
                      go_simp
                    · have ON := HON.out
                      repeat' (first | with_reducible exact ON | with_reducible refine On.drew ?_ | with_reducible refine On.setNew ?_ (by omega) _ | with_reducible refine On.alloc ?_ _)
        | false =>
          cases q2 : isX s xForall S' with
          | true =>
            obtain ⟨SC, hSC⟩ : ∃ SC, SC = (condP s S').2 := ⟨_, rfl⟩
            have hCE : condP s S' = (⟨2, (rowsP s (nx s S')).1⟩, expS s xSemi (rowsP s (nx s S')).2) := by unfold condP; rw [q1, q2]; rfl
            have HSC : Hid (SC = (condP s S').2) := hSC
            have HCE : Hid (condP s S' = (⟨2, (rowsP s (nx s S')).1⟩, expS s xSemi (rowsP s (nx s S')).2)) := hCE
            clear hSC hCE
            go_wp2_with fail
            refine (is_no _ (w.heap.size + 2) s _ hL hs xExists (ne_nil _ _) (nnExists s) q1 T6.ro).mono ?_
            rintro e w6' ⟨rfl, h6, hw6⟩
            go_wp2_with fail
            refine (is_yes _ (w.heap.size + 2) s _ hL hs xForall (ne_nil _ _) (nnForall s) q2 h6).mono ?_
            rintro e w7 ⟨rfl, h7, hw7⟩
            have T7 := T6.wr (hw6.trans hw7) (h7.ro' hv)
            have t3 : w7.cell? ⟨w.heap.size + 3, 3, none⟩ = some (.int .i64 0) := T7.tb.at rfl
            have tf3 : w7.frozen? ⟨w.heap.size + 3, 3, none⟩ = false := T7.tb.fr 3
            have tl3 := T7.tb.lt
            clear hw7 h7 T6 h6 hw6
            go_wp2_with fail
            refine (is_yes _ (w.heap.size + 2) s _ hL hs xForall (ne_nil _ _) (nnForall s) q2 (T7.kind 1).ro).mono ?_
            rintro e w8 ⟨rfl, h8, hw8⟩
            have T8 := (T7.kind 1).wr hw8 (h8.ro' hv)
            have u3 : w8.cell? ⟨w.heap.size + 3, 3, none⟩ = some (.int .i64 1) := T8.tb.at rfl
            have uf3 : w8.frozen? ⟨w.heap.size + 3, 3, none⟩ = false := T8.tb.fr 3
            have ul3 := T8.tb.lt
            clear hw8 T7 t3 tf3 tl3
            go_wp2_with fail
            refine (go1_ro _ (w.heap.size + 2) s _ (h8.setFar (by omega) _)).mono ?_
            rintro e w9 ⟨rfl, h9, hw9⟩
            have T9 := (T8.kind 2).wr hw9 h9
            clear hw9 h8 h9 T8 u3 uf3 ul3
            go_wp2_with fail
            refine (ratom_at _ (w.heap.size + 2) s _ hL hs T9.ro).mono ?_
            rintro e w10 ⟨x, rfl, hx, h10, hw10⟩
            have T10 := T9.wr hw10 h10
            have hr10 : w.heap.size + 4 ≤ w10.heap.size := T10.tb.lt
            have hmA : mS s (atomP s (nx s S')).2 ≤ s.size + 1 := by cases (atomP s (nx s S')).2 <;> simp [mS]
            have HX : Hid (flB (atomP s (nx s S')).2 = false → x = (atomP s (nx s S')).1) := hx
            clear hw10 T9 hx
            obtain ⟨n0, hn0, hw0, hw1, hw2⟩ := info_parts infoAtomR
            obtain ⟨g0, hg0, hv0, hv1, hv2⟩ := info_parts infoRow
            go_wp2
            go_loopg [8] (mS s (atomP s (nx s S')).2) (fun kk u wq => ∃ (S'' : St) (D : List (List AtomT)) (c : List AtomT) (wb : World) (Sb : St) (a8 : Option Addr) (m8 c8 : Nat) (a3 : Option Addr) (m3 c3 : Nat), kk = mS s S'' ∧ u = .slice a8 m8 c8 ∧ Ro wq (w.heap.size + 2) s S'' ∧ Tr w wb s Sb HD.1 (.slice a1 m1 c1) (.slice a2 m2 c2) 2 (.slice a3 m3 c3) L LL D ∧ Wr (w.heap.size + 2) wb wq ∧ wq.ownsRow wb.heap.size 58 4 (.slice a8 m8 c8) c.length (c.flatMap atomC) ∧ (D.length + mS s S'' ≤ s.size + 3 ∧ c.length + mS s S'' ≤ s.size + 3) ∧ (moreP s (rowP s) xOr (moreP s (atomP s) xAnd S'').2).2 = (rowsP s (nx s S')).2 ∧ (flB (moreP s (rowP s) xOr (moreP s (atomP s) xAnd S'').2).2 = false → D ++ (c ++ (moreP s (atomP s) xAnd S'').1) :: (moreP s (rowP s) xOr (moreP s (atomP s) xAnd S'').2).1 = (rowsP s (nx s S')).1))
            case atStart =>
              refine ⟨_, [], [x], w10, _, _, _, _, none, 0, 0, rfl, rfl, h10.alloc _, T10, (Wr.refl _ _).alloc _, own_one w10 #[.int .i64 x.t, .int .i64 x.r, .int .i64 x.l, .int .i64 x.v] 58 4 w10.heap.size rfl (Nat.le_refl _), ⟨by simp; omega, by simp; omega⟩, rfl, ?_⟩
              intro h
              rw [HX.out (flB_rows h)]
              rfl
            case round =>
              obtain ⟨S'', D, c, wb, Sb, a8, m8, c8, a3, m3, c3, hkk, rfl, hro, Tb, hW, hown, hlen2, hst2, hval2⟩ := hrel
              have HST2 : Hid ((moreP s (rowP s) xOr (moreP s (atomP s) xAnd S'').2).2 = (rowsP s (nx s S')).2) := hst2
              have HVAL2 : Hid (flB (moreP s (rowP s) xOr (moreP s (atomP s) xAnd S'').2).2 = false → D ++ (c ++ (moreP s (atomP s) xAnd S'').1) :: (moreP s (rowP s) xOr (moreP s (atomP s) xAnd S'').2).1 = (rowsP s (nx s S')).1) := hval2
              have hv2' := hro.vd
              have hwb : w.heap.size + 4 ≤ wb.heap.size := Tb.tb.lt
              have hDc : D.length ≤ 9000 ∧ c.length ≤ 9000 := by omega
              clear hst2 hval2 T10 h10
              cases qa : isX s xAnd S'' with
              | true =>
                have qo : isX s xOr S'' = false := isX_other qa (by decide)
                have hlessA := prt_less s (goes_atom s) (ne_nil _ _) hv2' qa
                have honA := more_on s (goes_atom s) (ne_nil _ _) hv2' qa
                go_wp2_with fail
                refine (is_yes _ (w.heap.size + 2) s _ hL hs xAnd (ne_nil _ _) (nnAnd s) qa hro).mono ?_
                rintro e w11 ⟨rfl, h11, hw11⟩
                go_wp2_with fail
                refine (is_nolk _ (w.heap.size + 2) s _ hL hs xOr (ne_nil _ _) (nnOr s) qo (h11.ro' hv2')).mono ?_
                rintro e w12 ⟨rfl, h12, hw12⟩
                go_wp2_with fail
                refine (go1_ro _ (w.heap.size + 2) s _ (h12.tn (ne_nil _ _) qa)).mono ?_
                rintro e w13 ⟨rfl, h13, hw13⟩
                have W13 := ((hW.trans hw11).trans hw12).trans hw13
                have own13 := own_wr (own_wr (own_wr hown hw11 (by omega)) hw12 (by omega)) hw13 (by omega)
                clear h11 hw11 h12 hw12 hw13 hW hown
                go_wp2_with fail
                refine (ratom_at _ (w.heap.size + 2) s _ hL hs h13).mono ?_
                rintro e w14 ⟨y, rfl, hy, h14, hw14⟩
                have W14 := W13.trans hw14
                have own14 := own_wr own13 hw14 (by omega)
                have hz14 := W14.size
                have HY : Hid (flB (atomP s (nx s S'')).2 = false → y = (atomP s (nx s S'')).1) := hy
                clear hw14 h13 W13 own13 hy
                go_wp2_with (at_builtin; refine wpList_append_own _ rfl _ _ 59 rfl wb.heap.size 58 n0 (.agg #[.int .i64 0, .int .i64 0, .int .i64 0, .int .i64 0]) 4 32 Tryz.underlying59 hn0 hw0 hw1 hw2 rfl (by decide) _ _ _ rfl (own14.alloc _) ⟨w14.heap.size, 0, none⟩ 1 1 (atomC y) rfl rfl ?c1 ?c2 ?c3 ?c4 ?c5 ?_)
                case c1 =>
                  intro j u hu
                  rw [new_cell]
                  exact hu
                case c2 =>
                  intro u hu
                  simp only [atomC, List.mem_cons, List.not_mem_nil, or_false] at hu
                  rcases hu with rfl | rfl | rfl | rfl <;> rfl
                case c3 => unfold maxLen; first | omega | (simp; omega) | decide
                case c4 => first | omega | (simp; omega) | decide
                case c5 => simp; omega
                intro v' w15 hown15 hg15 _
                obtain ⟨a9, m9, c9, rfl⟩ := own_slice hown15
                have hb9 := own_lo own14
                have W15 := (W14.alloc _).grown hg15 hb9
                have h15 := (h14.alloc (.cells _ _)).grown hg15 (by omega) hb9
                go_wp2
                go_roundg (mS s (atomP s (nx s S'')).2)
                case measure => rw [hkk]; exact hlessA
                case rel =>
                  refine ⟨_, D, c ++ [y], wb, Sb, a9, m9, c9, a3, m3, c3, rfl, rfl, h15, Tb, W15, by simpa using hown15, ⟨by omega, by simp; omega⟩, by rw [← HST2.out, honA], ?_⟩
                  intro h
                  rw [HY.out (flB_rows h), ← HVAL2.out (by rw [honA]; exact h), honA]
                  simp
              | false =>
                have hME := more_end s (f := atomP s) qa
                cases qo : isX s xOr S'' with
                | true =>
                  have hlessO := prt_less s (goes_row s) (ne_nil _ _) hv2' qo
                  have honO := more_on s (goes_row s) (ne_nil _ _) hv2' qo
                  go_wp2_with fail
                  refine (is_no _ (w.heap.size + 2) s _ hL hs xAnd (ne_nil _ _) (nnAnd s) qa hro).mono ?_
                  rintro e w11 ⟨rfl, h11, hw11⟩
                  go_wp2_with fail
                  refine (is_yes _ (w.heap.size + 2) s _ hL hs xOr (ne_nil _ _) (nnOr s) qo h11).mono ?_
                  rintro e w12 ⟨rfl, h12, hw12⟩
                  go_wp2_with fail
                  refine (is_yes _ (w.heap.size + 2) s _ hL hs xOr (ne_nil _ _) (nnOr s) qo (h12.ro' hv2')).mono ?_
                  rintro e w13 ⟨rfl, h13, hw13⟩
                  have W13 := ((hW.trans hw11).trans hw12).trans hw13
                  have own13 := own_wr (own_wr (own_wr hown hw11 (by omega)) hw12 (by omega)) hw13 (by omega)
                  have T13 := Tb.wr W13 (h13.ro' hv2')
                  have t4 : w13.cell? ⟨w.heap.size + 3, 4, none⟩ = some (.slice a3 m3 c3) := T13.tb.at rfl
                  have tl4 := T13.tb.lt
                  obtain ⟨vs, hn, hov, hin⟩ := T13.i3
                  clear h11 hw11 h12 hw12 hw13 hW hown W13
                  go_wp2_with (at_builtin; refine wpList_append_own _ rfl _ _ 24 rfl (w.heap.size + 4) 59 g0 (.slice none 0 0) 1 24 Tryz.underlying24 hg0 hv0 hv1 hv2 rfl (by decide) _ _ _ rfl (hov.alloc _) ⟨w13.heap.size, 0, none⟩ 1 1 [.slice a8 m8 c8] rfl rfl ?c1 ?c2 ?c3 ?c4 ?c5 ?_)
                  case c1 => exact new_news w13 (.slice a8 m8 c8) 59
                  case c2 => exact one_news a8 m8 c8
                  case c3 => unfold maxLen; omega
                  case c4 => omega
                  case c5 => simp; omega
                  intro v' w14 hown14 hg14 _
                  obtain ⟨a9, m9, c9, rfl⟩ := own_slice hown14
                  have hb9 := own_lo hov
                  have tb := (T13.alloc (.cells _ _)).tb.grown hg14 (by omega) hb9
                  have t5 : w14.cell? ⟨w.heap.size + 3, 4, none⟩ = _ := tb.at rfl
                  have tf5 : w14.frozen? ⟨w.heap.size + 3, 4, none⟩ = false := tb.fr 4
                  have tl5 := tb.lt
                  have T14 := (T13.alloc (.cells _ _)).putAny (la' := D ++ [c]) (hov.alloc _) hg14 (Own2.snoc hn (hov.alloc _) (fun i u L a b => (hin i u L a b).alloc _) (by decide) hg14 hown14 ((own_mono own13 hwb).alloc _))
                  have tn14 := ((h13.alloc (.cells _ _)).grown hg14 (by omega) hb9)
                  clear T13 h13 t4 tl4 hov hin hg14 hown14 tb
                  go_wp2_with fail
                  refine (go1_ro _ (w.heap.size + 2) s _ (tn14.setFar (by omega) _)).mono ?_
                  rintro e w15 ⟨rfl, h15, hw15⟩
                  go_wp2_with fail
                  refine (ratom_at _ (w.heap.size + 2) s _ hL hs h15).mono ?_
                  rintro e w16 ⟨y, rfl, hy, h16, hw16⟩
                  have W16 := hw15.trans hw16
                  have hz16 := W16.size
                  have hz14 : w.heap.size + 4 ≤ (w14.setCell ⟨w.heap.size + 3, 4, none⟩ (.slice a9 m9 c9)).heap.size := T14.tb.lt
                  have HY : Hid (flB (atomP s (nx s S'')).2 = false → y = (atomP s (nx s S'')).1) := hy
                  obtain ⟨WB, hWB⟩ : ∃ WB, WB = w14.setCell ⟨w.heap.size + 3, 4, none⟩ (.slice a9 m9 c9) := ⟨_, rfl⟩
                  rw [← hWB] at W16 T14 hz16 hz14
                  clear hw15 hw16 h15 hy hWB tn14 Tb
                  have ownN := World.ownsRow_nil w16 WB.heap.size 58 4
                  go_wp2_with (at_builtin; refine wpList_append_own _ rfl _ _ 59 rfl WB.heap.size 58 n0 (.agg #[.int .i64 0, .int .i64 0, .int .i64 0, .int .i64 0]) 4 32 Tryz.underlying59 hn0 hw0 hw1 hw2 rfl (by decide) _ _ _ rfl (ownN.alloc _) ⟨w16.heap.size, 0, none⟩ 1 1 (atomC y) rfl rfl ?c1 ?c2 ?c3 ?c4 ?c5 ?_)
                  case c1 =>
                    intro j u hu
                    rw [new_cell]
                    exact hu
                  case c2 =>
                    intro u hu
                    simp only [atomC, List.mem_cons, List.not_mem_nil, or_false] at hu
                    rcases hu with rfl | rfl | rfl | rfl <;> rfl
                  case c3 => unfold maxLen; first | omega | (simp; omega) | decide
                  case c4 => first | omega | (simp; omega) | decide
                  case c5 => simp; omega
                  intro v'' w17 hown17 hg17 _
                  obtain ⟨b9, n9, d9, rfl⟩ := own_slice hown17
                  have hbN : ∀ g, (Value.slice none 0 0).ownBlock = some g → WB.heap.size ≤ g := fun g e => by cases e
                  have W17 := (W16.alloc _).grown hg17 hbN
                  have h17 := (h16.alloc (.cells _ _)).grown hg17 (by omega) hbN
                  have honA2 : rowP s (nx s S'') = ((atomP s (nx s S'')).1 :: (moreP s (atomP s) xAnd (atomP s (nx s S'')).2).1, (moreP s (atomP s) xAnd (atomP s (nx s S'')).2).2) := rfl
                  have hlessR : mS s (atomP s (nx s S'')).2 < mS s S'' := by obtain ⟨b, rfl⟩ := fl_err s qo (ne_nil _ _); exact Nat.lt_of_le_of_lt (mS_atom s _) (mS_take s (ne_nil _ _) qo hv2'.2)
                  go_wp2
                  go_roundg (mS s (atomP s (nx s S'')).2)
                  case measure => rw [hkk]; exact hlessR
                  case rel =>
                    refine ⟨_, D ++ [c], [y], WB, S'', b9, n9, d9, a9, m9, c9, rfl, rfl, h17, T14, W17, by simpa using hown17, ⟨by simp; omega, by simp; omega⟩, ?_, ?_⟩
                    · rw [← HST2.out, hME, honO, honA2]
                    · intro h
                      have h' := HVAL2.out (by rw [hME, honO, honA2]; exact h)
                      rw [hME, honO, honA2] at h'
                      rw [HY.out (flB_rows h), ← h']
                      simp
                | false =>
                  have hQE := more_end s (f := rowP s) qo
                  go_wp2_with fail
                  refine (is_no _ (w.heap.size + 2) s _ hL hs xAnd (ne_nil _ _) (nnAnd s) qa hro).mono ?_
                  rintro e w11 ⟨rfl, h11, hw11⟩
                  go_wp2_with fail
                  refine (is_no _ (w.heap.size + 2) s _ hL hs xOr (ne_nil _ _) (nnOr s) qo h11).mono ?_
                  rintro e w12 ⟨rfl, h12, hw12⟩
                  have W12 := (hW.trans hw11).trans hw12
                  have own12 := own_wr (own_wr hown hw11 (by omega)) hw12 (by omega)
                  have T12 := Tb.wr W12 h12
                  have t4 : w12.cell? ⟨w.heap.size + 3, 4, none⟩ = some (.slice a3 m3 c3) := T12.tb.at rfl
                  have tl4 := T12.tb.lt
                  obtain ⟨vs, hn, hov, hin⟩ := T12.i3
                  clear h11 hw11 h12 hw12 hW hown W12 Tb
                  go_wp2_with (at_builtin; refine wpList_append_own _ rfl _ _ 24 rfl (w.heap.size + 4) 59 g0 (.slice none 0 0) 1 24 Tryz.underlying24 hg0 hv0 hv1 hv2 rfl (by decide) _ _ _ rfl (hov.alloc _) ⟨w12.heap.size, 0, none⟩ 1 1 [.slice a8 m8 c8] rfl rfl ?c1 ?c2 ?c3 ?c4 ?c5 ?_)
                  case c1 => exact new_news w12 (.slice a8 m8 c8) 59
                  case c2 => exact one_news a8 m8 c8
                  case c3 => unfold maxLen; omega
                  case c4 => omega
                  case c5 => simp; omega
                  intro v' w14 hown14 hg14 _
                  obtain ⟨a9, m9, c9, rfl⟩ := own_slice hown14
                  have hb9 := own_lo hov
                  have tb := (T12.alloc (.cells _ _)).tb.grown hg14 (by omega) hb9
                  have t5 : w14.cell? ⟨w.heap.size + 3, 4, none⟩ = _ := tb.at rfl
                  have tf5 : w14.frozen? ⟨w.heap.size + 3, 4, none⟩ = false := tb.fr 4
                  have tl5 := tb.lt
                  have T14 := (T12.alloc (.cells _ _)).putAny (la' := D ++ [c]) (hov.alloc _) hg14 (Own2.snoc hn (hov.alloc _) (fun i u L a b => (hin i u L a b).alloc _) (by decide) hg14 hown14 ((own_mono own12 hwb).alloc _))
                  have hSS : expS s xSemi S'' = SC := by rw [HSC.out, HCE.out, ← HST2.out, hME, hQE]
                  have HC : Hid (flB SC = false → (⟨2, D ++ [c]⟩ : CondT) = (condP s S').1) := by
                    intro h
                    rw [← hSS] at h
                    have hf : flB S'' = false := by
                      cases hq9 : S'' with
                      | ok b => rfl
                      | error er => rw [hq9, exp_er _ (ne_nil _ _)] at h; cases h
                    have h' := HVAL2.out (by rw [hME, hQE]; exact hf)
                    rw [hME, hQE] at h'
                    rw [HCE.out, ← h']
                    simp
                  clear T12 t4 tl4 hov hin hg14 hown14 tb HST2 HVAL2
                  go_wp2_with fail
                  refine (eat_ro _ (w.heap.size + 2) s _ hL hs xSemi (ne_nil _ _) (nnSemi s) T14.ro).mono ?_
                  rintro e w15 ⟨rfl, h15, hw15⟩
                  have Tc := T14.wr hw15 h15
                  rw [hSS] at Tc
                  clear h15 hw15 T14 hSS
                  go_wp2_with fail
                  refine (eat_ro _ (w.heap.size + 2) s _ hL hs xShut (ne_nil _ _) (nnShut s) Tc.ro).mono ?_
                  rintro e w30 ⟨rfl, h30, hw30⟩
                  have T30 := Tc.wr hw30 h30
                  clear hw30 Tc
                  cases hSE : expS s xShut SC with
                  | ok a =>
                    rw [hSE] at T30
                    have hv30 := T30.ro.vd
                    go_wp2_with fail
                    refine (look_tn _ (w.heap.size + 2) s _ hL hs rfl T30.ro).mono ?_
                    rintro e w31 ⟨rfl, ⟨h31, he31, e6, lr⟩, hw31⟩
                    have T31 := T30.wr hw31 (h31.ro he31)
                    clear hw31 T30 h30
                    by_cases hk4 : kd s a = 4
                    · have hq : ((kd s a : Int) != 4) = false := by rw [hk4]; rfl
                      have za0 : w31.cell? ⟨w.heap.size, 0, none⟩ = _ := T31.r0.at rfl
                      have zaf0 : w31.frozen? ⟨w.heap.size, 0, none⟩ = false := T31.r0.fr 0
                      have za1 : w31.cell? ⟨w.heap.size, 1, none⟩ = _ := T31.r0.at rfl
                      have zaf1 : w31.frozen? ⟨w.heap.size, 1, none⟩ = false := T31.r0.fr 1
                      have za2 : w31.cell? ⟨w.heap.size, 2, none⟩ = _ := T31.r0.at rfl
                      have zaf2 : w31.frozen? ⟨w.heap.size, 2, none⟩ = false := T31.r0.fr 2
                      have za3 : w31.cell? ⟨w.heap.size, 3, none⟩ = _ := T31.r0.at rfl
                      have zaf3 : w31.frozen? ⟨w.heap.size, 3, none⟩ = false := T31.r0.fr 3
                      have za4 : w31.cell? ⟨w.heap.size, 4, none⟩ = _ := T31.r0.at rfl
                      have zaf4 : w31.frozen? ⟨w.heap.size, 4, none⟩ = false := T31.r0.fr 4
                      have zb0 : w31.cell? ⟨w.heap.size + 1, 0, none⟩ = _ := T31.r1.at rfl
                      have zbf0 : w31.frozen? ⟨w.heap.size + 1, 0, none⟩ = false := T31.r1.fr 0
                      have zb1 : w31.cell? ⟨w.heap.size + 1, 1, none⟩ = _ := T31.r1.at rfl
                      have zbf1 : w31.frozen? ⟨w.heap.size + 1, 1, none⟩ = false := T31.r1.fr 1
                      have zt0 : w31.cell? ⟨w.heap.size + 3, 0, none⟩ = _ := T31.tb.at rfl
                      have zt1 : w31.cell? ⟨w.heap.size + 3, 1, none⟩ = _ := T31.tb.at rfl
                      have zt2 : w31.cell? ⟨w.heap.size + 3, 2, none⟩ = _ := T31.tb.at rfl
                      have zt3 : w31.cell? ⟨w.heap.size + 3, 3, none⟩ = _ := T31.tb.at rfl
                      have zt4 : w31.cell? ⟨w.heap.size + 3, 4, none⟩ = _ := T31.tb.at rfl
                      have la := T31.r0.lt
                      have lb := T31.r1.lt
                      have lt := T31.tb.lt
                      have hR : endP (testP s (startS s)) = (⟨HD.1, IP.1, (thrP s IP.2).1, (condP s S').1⟩, 0, 0) := by
                        have hE : (endS s (expS s xShut (condP s S').2)) = .ok a := by rw [← HSC.out, hSE]; unfold endS; rw [if_pos (show tokK s (.ok a) = 4 from hk4)]
                        exact end_ok HHD.out HIP.out HS6.out hE
                      have hf1 : flB SC = false := by
                        cases hq2 : SC with
                        | ok b => rfl
                        | error er => rw [hq2, exp_er _ (ne_nil _ _)] at hSE; cases hSE
                      have hf2 : flB S' = false := flB_cond (by rw [← HSC.out]; exact hf1)
                      have hf3 : flB IP.2 = false := flB_thr (by rw [← HS6.out]; exact hf2)
                      have HV : Hid (L = IP.1 ∧ LL = (thrP s IP.2).1 ∧ (⟨2, (D ++ [c])⟩ : CondT) = (condP s S').1) := ⟨HLV.out hf3, HV6.out hf2, HC.out hf1⟩
                      have HRR : Hid (endP (testP s (startS s)) = (⟨HD.1, IP.1, (thrP s IP.2).1, (condP s S').1⟩, 0, 0)) := hR
                      have HTT : Hid (Tr w w31 s (.ok a) HD.1 (.slice a1 m1 c1) (.slice a2 m2 c2) 2 (.slice a9 m9 c9) L LL (D ++ [c])) := T31
                      clear hR hf1 hf2 hf3 T31 h31 hSE
                      go_wp2
                      (try simp only [Exit.inBlock, Exit.then])
                      rw [HRR.out]
                      refine bodyPost_ret (v := .tuple #[.agg #[.string HD.1, .slice a1 m1 c1, .slice a2 m2 c2, .int .i64 2, (.slice a9 m9 c9)], .agg #[.int .i64 0, .int .i64 0]]) ?_ rfl ⟨_, rfl, ?_, ?_⟩
                      · rw [results_cells2 rfl]
                        go_simp
                      · obtain ⟨e1, e2, e3⟩ := HV.out
                        rw [← e1, ← e2, ← e3]
                        have H0 := test_tr HTT.out
                        refine TestAt.mono (base := w.heap.size + 4) ?_ (by omega)
                        repeat' (first | with_reducible exact H0 | with_reducible refine TestAt.setFar ?_ (by omega) _ | with_reducible refine TestAt.alloc ?_ _)
                      · have ON := HTT.out.on
                        repeat' (first | with_reducible exact ON | with_reducible refine On.setNew ?_ (by omega) _ | with_reducible refine On.alloc ?_ _)
                    · have hq : ((kd s a : Int) != 4) = true := by simp; omega
                      have hLk : ∀ ob, Lk (w31.alloc ob) (w.heap.size + 2) s (.ok a) := fun ob => (h31.alloc ob).lk he31
                      go_wp2_with fail
                      refine (rfail_is _ (w.heap.size + 2) s (.ok a) 6 (by decide) (hLk _)).mono ?_
                      rintro e wE ⟨rfl, hE, hwE⟩
                      have TE := (T31.alloc _).wr hwE hE.rx
                      obtain ⟨cE, pE, hbE, hcE, hpE⟩ : ∃ (cE pE : Nat), (∃ a' k' x' q' t', Bk wE (w.heap.size + 2) (rdC s a' k' x' q' t' cE pE)) ∧ cE = 6 ∧ pE = pl s a := by
                        rcases hE with ⟨a', ha', _⟩ | ⟨a', k', x', q', t', c', e', he', hc', _, hb'⟩
                        · cases ha'
                        · have : (6, pl s a) = (c', e') := by simpa [flS] using he'
                          simp only [Prod.mk.injEq] at this
                          exact ⟨c', e', ⟨a', k', x', q', t', hb'⟩, this.1.symm, this.2.symm⟩
                      obtain ⟨a', k', x', q', t', hbE⟩ := hbE
                      have hEE : endS s (expS s xShut SC) = .error (cE, pE) := by rw [hSE, hcE, hpE]; unfold endS; rw [if_neg (show ¬ tokK s (.ok a) = 4 from hk4)]; rfl
                      have hc0 : cE ≠ 0 := by omega
                      clear hcE hpE hE hwE T31 h31 hLk
                      obtain ⟨r0, r1, r2, r3, r4, r5, r6, r7, r8, r9, r10, r11, r12, r13, r14, r15⟩ := rFacts hbE
                      have za0 : wE.cell? ⟨w.heap.size, 0, none⟩ = _ := TE.r0.at rfl
                      have zaf0 : wE.frozen? ⟨w.heap.size, 0, none⟩ = false := TE.r0.fr 0
                      have za1 : wE.cell? ⟨w.heap.size, 1, none⟩ = _ := TE.r0.at rfl
                      have zaf1 : wE.frozen? ⟨w.heap.size, 1, none⟩ = false := TE.r0.fr 1
                      have za2 : wE.cell? ⟨w.heap.size, 2, none⟩ = _ := TE.r0.at rfl
                      have zaf2 : wE.frozen? ⟨w.heap.size, 2, none⟩ = false := TE.r0.fr 2
                      have za3 : wE.cell? ⟨w.heap.size, 3, none⟩ = _ := TE.r0.at rfl
                      have zaf3 : wE.frozen? ⟨w.heap.size, 3, none⟩ = false := TE.r0.fr 3
                      have za4 : wE.cell? ⟨w.heap.size, 4, none⟩ = _ := TE.r0.at rfl
                      have zaf4 : wE.frozen? ⟨w.heap.size, 4, none⟩ = false := TE.r0.fr 4
                      have zb0 : wE.cell? ⟨w.heap.size + 1, 0, none⟩ = _ := TE.r1.at rfl
                      have zbf0 : wE.frozen? ⟨w.heap.size + 1, 0, none⟩ = false := TE.r1.fr 0
                      have zb1 : wE.cell? ⟨w.heap.size + 1, 1, none⟩ = _ := TE.r1.at rfl
                      have zbf1 : wE.frozen? ⟨w.heap.size + 1, 1, none⟩ = false := TE.r1.fr 1
                      have la := TE.r0.lt
                      have lb := TE.r1.lt
                      have HRR : Hid (endP (testP s (startS s)) = (noTest, cE, pE)) := end_no HHD.out HIP.out HS6.out (by rw [← HSC.out]; exact hEE)
                      have hqE : ((cE : Int) != 0) = true := by simp; omega
                      have hqE0 : ((cE : Int) == 0) = false := by rw [beq_eq_false_iff_ne]; omega
                      have HON : Hid (On w wE) := TE.on
                      clear hbE TE hSE
                      go_wp2_with fail
                      go_region_law (fail)
                      all_goals
                        (try go_wp2)
                        (try simp only [Exit.inBlock, Exit.then])
                        rw [HRR.out]
                        refine bodyPost_ret (v := .tuple #[.agg z5, .agg #[.int .i64 cE, .int .i64 pE]]) ?_ rfl ⟨_, rfl, no_test _ _, ?_⟩
                        · rw [results_cells2 rfl]
                          go_simp
                        · have ON := HON.out
                          repeat' (first | with_reducible exact ON | with_reducible refine On.drew ?_ | with_reducible refine On.setNew ?_ (by omega) _ | with_reducible refine On.alloc ?_ _)
                  | error er =>
                    obtain ⟨cE, pE⟩ := er
                    rw [hSE] at T30
                    obtain ⟨o30, r30⟩ := T30.ro
                    go_wp2_with fail
                    refine (hL _ (w.heap.size + 2) s _ o30 hs r30).mono ?_
                    rintro e wE' ⟨rfl, hE, hwE⟩
                    have TE' := T30.wr hwE hE.rx
                    obtain ⟨hc0, hbE'⟩ : cE ≠ 0 ∧ ∃ a' k' x' q' t', Bk wE' (w.heap.size + 2) (rdC s a' k' x' q' t' cE pE) := by
                      rcases hE with ⟨a', ha', _⟩ | ⟨a', k', x', q', t', c', e', he', hc', _, hb'⟩
                      · cases ha'
                      · have : (cE, pE) = (c', e') := by simpa using he'
                        simp only [Prod.mk.injEq] at this
                        obtain ⟨rfl, rfl⟩ := this
                        exact ⟨hc', ⟨a', k', x', q', t', hb'⟩⟩
                    obtain ⟨a', k', x', q', t', hbE⟩ := hbE'
                    have hEE : endS s (expS s xShut SC) = .error (cE, pE) := by rw [hSE]; exact end_er _
                    obtain ⟨wE, hwEE⟩ : ∃ wE, wE = wE' := ⟨_, rfl⟩
                    subst hwEE
                    have TE := TE'
                    clear hE hwE T30 r30 h30 TE'
                    simp only [lkA]
                    obtain ⟨r0, r1, r2, r3, r4, r5, r6, r7, r8, r9, r10, r11, r12, r13, r14, r15⟩ := rFacts hbE
                    have za0 : wE.cell? ⟨w.heap.size, 0, none⟩ = _ := TE.r0.at rfl
                    have zaf0 : wE.frozen? ⟨w.heap.size, 0, none⟩ = false := TE.r0.fr 0
                    have za1 : wE.cell? ⟨w.heap.size, 1, none⟩ = _ := TE.r0.at rfl
                    have zaf1 : wE.frozen? ⟨w.heap.size, 1, none⟩ = false := TE.r0.fr 1
                    have za2 : wE.cell? ⟨w.heap.size, 2, none⟩ = _ := TE.r0.at rfl
                    have zaf2 : wE.frozen? ⟨w.heap.size, 2, none⟩ = false := TE.r0.fr 2
                    have za3 : wE.cell? ⟨w.heap.size, 3, none⟩ = _ := TE.r0.at rfl
                    have zaf3 : wE.frozen? ⟨w.heap.size, 3, none⟩ = false := TE.r0.fr 3
                    have za4 : wE.cell? ⟨w.heap.size, 4, none⟩ = _ := TE.r0.at rfl
                    have zaf4 : wE.frozen? ⟨w.heap.size, 4, none⟩ = false := TE.r0.fr 4
                    have zb0 : wE.cell? ⟨w.heap.size + 1, 0, none⟩ = _ := TE.r1.at rfl
                    have zbf0 : wE.frozen? ⟨w.heap.size + 1, 0, none⟩ = false := TE.r1.fr 0
                    have zb1 : wE.cell? ⟨w.heap.size + 1, 1, none⟩ = _ := TE.r1.at rfl
                    have zbf1 : wE.frozen? ⟨w.heap.size + 1, 1, none⟩ = false := TE.r1.fr 1
                    have la := TE.r0.lt
                    have lb := TE.r1.lt
                    have HRR : Hid (endP (testP s (startS s)) = (noTest, cE, pE)) := end_no HHD.out HIP.out HS6.out (by rw [← HSC.out]; exact hEE)
                    have hqE : ((cE : Int) != 0) = true := by simp; omega
                    have hqE0 : ((cE : Int) == 0) = false := by rw [beq_eq_false_iff_ne]; omega
                    have HON : Hid (On w wE) := TE.on
                    clear hbE TE hSE
                    go_wp2_with fail
                    go_region_law (fail)
                    all_goals
                      (try go_wp2)
                      (try simp only [Exit.inBlock, Exit.then])
                      rw [HRR.out]
                      refine bodyPost_ret (v := .tuple #[.agg z5, .agg #[.int .i64 cE, .int .i64 pE]]) ?_ rfl ⟨_, rfl, no_test _ _, ?_⟩
                      · rw [results_cells2 rfl]
                        go_simp
                      · have ON := HON.out
                        repeat' (first | with_reducible exact ON | with_reducible refine On.drew ?_ | with_reducible refine On.setNew ?_ (by omega) _ | with_reducible refine On.alloc ?_ _)
          | false =>
            obtain ⟨SC, hSC⟩ : ∃ SC, SC = (condP s S').2 := ⟨_, rfl⟩
            have hCE : condP s S' = (⟨0, []⟩, S') := by unfold condP; rw [q1, q2]; rfl
            have HSC : Hid (SC = (condP s S').2) := hSC
            have HC : Hid (flB SC = false → (⟨0, []⟩ : CondT) = (condP s S').1) := fun _ => by rw [hCE]
            have hSS : S' = SC := by rw [hSC, hCE]
            clear hSC hCE
            go_wp2_with fail
            refine (is_no _ (w.heap.size + 2) s _ hL hs xExists (ne_nil _ _) (nnExists s) q1 T6.ro).mono ?_
            rintro e w7 ⟨rfl, h7, hw7⟩
            go_wp2_with fail
            refine (is_no _ (w.heap.size + 2) s _ hL hs xForall (ne_nil _ _) (nnForall s) q2 h7).mono ?_
            rintro e w8 ⟨rfl, h8, hw8⟩
            have Tc := T6.wr (hw7.trans hw8) h8
            rw [hSS] at Tc
            clear h7 hw7 h8 hw8 T6 hSS
            go_wp2_with fail
            refine (eat_ro _ (w.heap.size + 2) s _ hL hs xShut (ne_nil _ _) (nnShut s) Tc.ro).mono ?_
            rintro e w30 ⟨rfl, h30, hw30⟩
            have T30 := Tc.wr hw30 h30
            clear hw30 Tc
            cases hSE : expS s xShut SC with
            | ok a =>
              rw [hSE] at T30
              have hv30 := T30.ro.vd
              go_wp2_with fail
              refine (look_tn _ (w.heap.size + 2) s _ hL hs rfl T30.ro).mono ?_
              rintro e w31 ⟨rfl, ⟨h31, he31, e6, lr⟩, hw31⟩
              have T31 := T30.wr hw31 (h31.ro he31)
              clear hw31 T30 h30
              by_cases hk4 : kd s a = 4
              · have hq : ((kd s a : Int) != 4) = false := by rw [hk4]; rfl
                have za0 : w31.cell? ⟨w.heap.size, 0, none⟩ = _ := T31.r0.at rfl
                have zaf0 : w31.frozen? ⟨w.heap.size, 0, none⟩ = false := T31.r0.fr 0
                have za1 : w31.cell? ⟨w.heap.size, 1, none⟩ = _ := T31.r0.at rfl
                have zaf1 : w31.frozen? ⟨w.heap.size, 1, none⟩ = false := T31.r0.fr 1
                have za2 : w31.cell? ⟨w.heap.size, 2, none⟩ = _ := T31.r0.at rfl
                have zaf2 : w31.frozen? ⟨w.heap.size, 2, none⟩ = false := T31.r0.fr 2
                have za3 : w31.cell? ⟨w.heap.size, 3, none⟩ = _ := T31.r0.at rfl
                have zaf3 : w31.frozen? ⟨w.heap.size, 3, none⟩ = false := T31.r0.fr 3
                have za4 : w31.cell? ⟨w.heap.size, 4, none⟩ = _ := T31.r0.at rfl
                have zaf4 : w31.frozen? ⟨w.heap.size, 4, none⟩ = false := T31.r0.fr 4
                have zb0 : w31.cell? ⟨w.heap.size + 1, 0, none⟩ = _ := T31.r1.at rfl
                have zbf0 : w31.frozen? ⟨w.heap.size + 1, 0, none⟩ = false := T31.r1.fr 0
                have zb1 : w31.cell? ⟨w.heap.size + 1, 1, none⟩ = _ := T31.r1.at rfl
                have zbf1 : w31.frozen? ⟨w.heap.size + 1, 1, none⟩ = false := T31.r1.fr 1
                have zt0 : w31.cell? ⟨w.heap.size + 3, 0, none⟩ = _ := T31.tb.at rfl
                have zt1 : w31.cell? ⟨w.heap.size + 3, 1, none⟩ = _ := T31.tb.at rfl
                have zt2 : w31.cell? ⟨w.heap.size + 3, 2, none⟩ = _ := T31.tb.at rfl
                have zt3 : w31.cell? ⟨w.heap.size + 3, 3, none⟩ = _ := T31.tb.at rfl
                have zt4 : w31.cell? ⟨w.heap.size + 3, 4, none⟩ = _ := T31.tb.at rfl
                have la := T31.r0.lt
                have lb := T31.r1.lt
                have lt := T31.tb.lt
                have hR : endP (testP s (startS s)) = (⟨HD.1, IP.1, (thrP s IP.2).1, (condP s S').1⟩, 0, 0) := by
                  have hE : (endS s (expS s xShut (condP s S').2)) = .ok a := by rw [← HSC.out, hSE]; unfold endS; rw [if_pos (show tokK s (.ok a) = 4 from hk4)]
                  exact end_ok HHD.out HIP.out HS6.out hE
                have hf1 : flB SC = false := by
                  cases hq2 : SC with
                  | ok b => rfl
                  | error er => rw [hq2, exp_er _ (ne_nil _ _)] at hSE; cases hSE
                have hf2 : flB S' = false := flB_cond (by rw [← HSC.out]; exact hf1)
                have hf3 : flB IP.2 = false := flB_thr (by rw [← HS6.out]; exact hf2)
                have HV : Hid (L = IP.1 ∧ LL = (thrP s IP.2).1 ∧ (⟨0, []⟩ : CondT) = (condP s S').1) := ⟨HLV.out hf3, HV6.out hf2, HC.out hf1⟩
                have HRR : Hid (endP (testP s (startS s)) = (⟨HD.1, IP.1, (thrP s IP.2).1, (condP s S').1⟩, 0, 0)) := hR
                have HTT : Hid (Tr w w31 s (.ok a) HD.1 (.slice a1 m1 c1) (.slice a2 m2 c2) 0 (.slice none 0 0) L LL []) := T31
                clear hR hf1 hf2 hf3 T31 h31 hSE
                go_wp2
                (try simp only [Exit.inBlock, Exit.then])
                rw [HRR.out]
                refine bodyPost_ret (v := .tuple #[.agg #[.string HD.1, .slice a1 m1 c1, .slice a2 m2 c2, .int .i64 0, (.slice none 0 0)], .agg #[.int .i64 0, .int .i64 0]]) ?_ rfl ⟨_, rfl, ?_, ?_⟩
                · rw [results_cells2 rfl]
                  go_simp
                · obtain ⟨e1, e2, e3⟩ := HV.out
                  rw [← e1, ← e2, ← e3]
                  have H0 := test_tr HTT.out
                  refine TestAt.mono (base := w.heap.size + 4) ?_ (by omega)
                  repeat' (first | with_reducible exact H0 | with_reducible refine TestAt.setFar ?_ (by omega) _ | with_reducible refine TestAt.alloc ?_ _)
                · have ON := HTT.out.on
                  repeat' (first | with_reducible exact ON | with_reducible refine On.setNew ?_ (by omega) _ | with_reducible refine On.alloc ?_ _)
              · have hq : ((kd s a : Int) != 4) = true := by simp; omega
                have hLk : ∀ ob, Lk (w31.alloc ob) (w.heap.size + 2) s (.ok a) := fun ob => (h31.alloc ob).lk he31
                go_wp2_with fail
                refine (rfail_is _ (w.heap.size + 2) s (.ok a) 6 (by decide) (hLk _)).mono ?_
                rintro e wE ⟨rfl, hE, hwE⟩
                have TE := (T31.alloc _).wr hwE hE.rx
                obtain ⟨cE, pE, hbE, hcE, hpE⟩ : ∃ (cE pE : Nat), (∃ a' k' x' q' t', Bk wE (w.heap.size + 2) (rdC s a' k' x' q' t' cE pE)) ∧ cE = 6 ∧ pE = pl s a := by
                  rcases hE with ⟨a', ha', _⟩ | ⟨a', k', x', q', t', c', e', he', hc', _, hb'⟩
                  · cases ha'
                  · have : (6, pl s a) = (c', e') := by simpa [flS] using he'
                    simp only [Prod.mk.injEq] at this
                    exact ⟨c', e', ⟨a', k', x', q', t', hb'⟩, this.1.symm, this.2.symm⟩
                obtain ⟨a', k', x', q', t', hbE⟩ := hbE
                have hEE : endS s (expS s xShut SC) = .error (cE, pE) := by rw [hSE, hcE, hpE]; unfold endS; rw [if_neg (show ¬ tokK s (.ok a) = 4 from hk4)]; rfl
                have hc0 : cE ≠ 0 := by omega
                clear hcE hpE hE hwE T31 h31 hLk
                obtain ⟨r0, r1, r2, r3, r4, r5, r6, r7, r8, r9, r10, r11, r12, r13, r14, r15⟩ := rFacts hbE
                have za0 : wE.cell? ⟨w.heap.size, 0, none⟩ = _ := TE.r0.at rfl
                have zaf0 : wE.frozen? ⟨w.heap.size, 0, none⟩ = false := TE.r0.fr 0
                have za1 : wE.cell? ⟨w.heap.size, 1, none⟩ = _ := TE.r0.at rfl
                have zaf1 : wE.frozen? ⟨w.heap.size, 1, none⟩ = false := TE.r0.fr 1
                have za2 : wE.cell? ⟨w.heap.size, 2, none⟩ = _ := TE.r0.at rfl
                have zaf2 : wE.frozen? ⟨w.heap.size, 2, none⟩ = false := TE.r0.fr 2
                have za3 : wE.cell? ⟨w.heap.size, 3, none⟩ = _ := TE.r0.at rfl
                have zaf3 : wE.frozen? ⟨w.heap.size, 3, none⟩ = false := TE.r0.fr 3
                have za4 : wE.cell? ⟨w.heap.size, 4, none⟩ = _ := TE.r0.at rfl
                have zaf4 : wE.frozen? ⟨w.heap.size, 4, none⟩ = false := TE.r0.fr 4
                have zb0 : wE.cell? ⟨w.heap.size + 1, 0, none⟩ = _ := TE.r1.at rfl
                have zbf0 : wE.frozen? ⟨w.heap.size + 1, 0, none⟩ = false := TE.r1.fr 0
                have zb1 : wE.cell? ⟨w.heap.size + 1, 1, none⟩ = _ := TE.r1.at rfl
                have zbf1 : wE.frozen? ⟨w.heap.size + 1, 1, none⟩ = false := TE.r1.fr 1
                have la := TE.r0.lt
                have lb := TE.r1.lt
                have HRR : Hid (endP (testP s (startS s)) = (noTest, cE, pE)) := end_no HHD.out HIP.out HS6.out (by rw [← HSC.out]; exact hEE)
                have hqE : ((cE : Int) != 0) = true := by simp; omega
                have hqE0 : ((cE : Int) == 0) = false := by rw [beq_eq_false_iff_ne]; omega
                have HON : Hid (On w wE) := TE.on
                clear hbE TE hSE
                go_wp2_with fail
                go_region_law (fail)
                all_goals
                  (try go_wp2)
                  (try simp only [Exit.inBlock, Exit.then])
                  rw [HRR.out]
                  refine bodyPost_ret (v := .tuple #[.agg z5, .agg #[.int .i64 cE, .int .i64 pE]]) ?_ rfl ⟨_, rfl, no_test _ _, ?_⟩
                  · rw [results_cells2 rfl]
                    go_simp
                  · have ON := HON.out
                    repeat' (first | with_reducible exact ON | with_reducible refine On.drew ?_ | with_reducible refine On.setNew ?_ (by omega) _ | with_reducible refine On.alloc ?_ _)
            | error er =>
              obtain ⟨cE, pE⟩ := er
              rw [hSE] at T30
              obtain ⟨o30, r30⟩ := T30.ro
              go_wp2_with fail
              refine (hL _ (w.heap.size + 2) s _ o30 hs r30).mono ?_
              rintro e wE' ⟨rfl, hE, hwE⟩
              have TE' := T30.wr hwE hE.rx
              obtain ⟨hc0, hbE'⟩ : cE ≠ 0 ∧ ∃ a' k' x' q' t', Bk wE' (w.heap.size + 2) (rdC s a' k' x' q' t' cE pE) := by
                rcases hE with ⟨a', ha', _⟩ | ⟨a', k', x', q', t', c', e', he', hc', _, hb'⟩
                · cases ha'
                · have : (cE, pE) = (c', e') := by simpa using he'
                  simp only [Prod.mk.injEq] at this
                  obtain ⟨rfl, rfl⟩ := this
                  exact ⟨hc', ⟨a', k', x', q', t', hb'⟩⟩
              obtain ⟨a', k', x', q', t', hbE⟩ := hbE'
              have hEE : endS s (expS s xShut SC) = .error (cE, pE) := by rw [hSE]; exact end_er _
              obtain ⟨wE, hwEE⟩ : ∃ wE, wE = wE' := ⟨_, rfl⟩
              subst hwEE
              have TE := TE'
              clear hE hwE T30 r30 h30 TE'
              simp only [lkA]
              obtain ⟨r0, r1, r2, r3, r4, r5, r6, r7, r8, r9, r10, r11, r12, r13, r14, r15⟩ := rFacts hbE
              have za0 : wE.cell? ⟨w.heap.size, 0, none⟩ = _ := TE.r0.at rfl
              have zaf0 : wE.frozen? ⟨w.heap.size, 0, none⟩ = false := TE.r0.fr 0
              have za1 : wE.cell? ⟨w.heap.size, 1, none⟩ = _ := TE.r0.at rfl
              have zaf1 : wE.frozen? ⟨w.heap.size, 1, none⟩ = false := TE.r0.fr 1
              have za2 : wE.cell? ⟨w.heap.size, 2, none⟩ = _ := TE.r0.at rfl
              have zaf2 : wE.frozen? ⟨w.heap.size, 2, none⟩ = false := TE.r0.fr 2
              have za3 : wE.cell? ⟨w.heap.size, 3, none⟩ = _ := TE.r0.at rfl
              have zaf3 : wE.frozen? ⟨w.heap.size, 3, none⟩ = false := TE.r0.fr 3
              have za4 : wE.cell? ⟨w.heap.size, 4, none⟩ = _ := TE.r0.at rfl
              have zaf4 : wE.frozen? ⟨w.heap.size, 4, none⟩ = false := TE.r0.fr 4
              have zb0 : wE.cell? ⟨w.heap.size + 1, 0, none⟩ = _ := TE.r1.at rfl
              have zbf0 : wE.frozen? ⟨w.heap.size + 1, 0, none⟩ = false := TE.r1.fr 0
              have zb1 : wE.cell? ⟨w.heap.size + 1, 1, none⟩ = _ := TE.r1.at rfl
              have zbf1 : wE.frozen? ⟨w.heap.size + 1, 1, none⟩ = false := TE.r1.fr 1
              have la := TE.r0.lt
              have lb := TE.r1.lt
              have HRR : Hid (endP (testP s (startS s)) = (noTest, cE, pE)) := end_no HHD.out HIP.out HS6.out (by rw [← HSC.out]; exact hEE)
              have hqE : ((cE : Int) != 0) = true := by simp; omega
              have hqE0 : ((cE : Int) == 0) = false := by rw [beq_eq_false_iff_ne]; omega
              have HON : Hid (On w wE) := TE.on
              clear hbE TE hSE
              go_wp2_with fail
              go_region_law (fail)
              all_goals
                (try go_wp2)
                (try simp only [Exit.inBlock, Exit.then])
                rw [HRR.out]
                refine bodyPost_ret (v := .tuple #[.agg z5, .agg #[.int .i64 cE, .int .i64 pE]]) ?_ rfl ⟨_, rfl, no_test _ _, ?_⟩
                · rw [results_cells2 rfl]
                  go_simp
                · have ON := HON.out
                  repeat' (first | with_reducible exact ON | with_reducible refine On.drew ?_ | with_reducible refine On.setNew ?_ (by omega) _ | with_reducible refine On.alloc ?_ _)
      | true =>
        have hless := prt_less s (goes_insB s) (ne_nil _ _) hv qx
        have hon := more_on s (goes_insB s) (ne_nil _ _) hv qx
        go_wp2_with fail
        refine (is_yes _ (w.heap.size + 2) s _ hL hs xThread (ne_nil _ _) (nnThread s) qx hT.ro).mono ?_
        rintro e w6 ⟨rfl, h6, hw6⟩
        go_wp2_with fail
        refine (go1_ro _ (w.heap.size + 2) s _ h6).mono ?_
        rintro e w7 ⟨rfl, h7, hw7⟩
        have T7 := hT.wr (hw6.trans hw7) h7
        clear h6 hw6 h7 hw7 hT
        go_wp2_with fail
        refine (eat_ro _ (w.heap.size + 2) s _ hL hs xOpen (ne_nil _ _) (nnOpen s) T7.ro).mono ?_
        rintro e wb ⟨rfl, h8, hw8⟩
        have T8 := T7.wr hw8 h8
        have hwb : w.heap.size + 4 ≤ wb.heap.size := T8.tb.lt
        obtain ⟨o0, r8⟩ := h8
        clear hw8 T7
        obtain ⟨S6, hS6⟩ : ∃ S6, S6 = expS s xOpen (nx s S') := ⟨_, rfl⟩
        rw [← hS6] at T8 r8
        have HB : Hid (insB s (nx s S') = blkP s (insP s) S6) := by show _ = _; rw [hS6]; rfl
        have hmS6 : mS s S6 ≤ s.size + 1 := by cases S6 <;> simp [mS]
        clear hS6
        go_wp2
        go_loopg [7] (mS s S6 + (if o0 then 1 else 0)) (fun kk u wq => ∃ (S'' : St) (o : Bool) (l : List InsT) (a7 : Option Addr) (m7 c7 : Nat), kk = mS s S'' + (if o then 1 else 0) ∧ u = .slice a7 m7 c7 ∧ Rx wq (w.heap.size + 2) s S'' o ∧ Wr (w.heap.size + 2) wb wq ∧ wq.ownsRow wb.heap.size 52 9 (.slice a7 m7 c7) l.length (l.flatMap insC) ∧ l.length + (mS s S'' + (if o then 1 else 0)) ≤ s.size + 3 ∧ (blkP s (insP s) S'').2 = (blkP s (insP s) S6).2 ∧ (flB (blkP s (insP s) S'').2 = false → l ++ (blkP s (insP s) S'').1 = (blkP s (insP s) S6).1))
        case atStart =>
          refine ⟨S6, o0, [], _, _, _, rfl, rfl, r8.alloc _, (Wr.refl _ _).alloc _, ?_, by simp; split <;> omega, rfl, fun _ => rfl⟩
          exact ⟨rfl, Or.inr ⟨wb.heap.size, 0, #[], rfl, Nat.le_refl _, heap_alloc_new wb _, Nat.le_refl _, by decide, rfl, rfl⟩⟩
        case round =>
          obtain ⟨S'', o, l, a7, m7, c7, hkk, rfl, hr, hW, hown, hlen2, hst2, hval2⟩ := hrel
          have HST2 : Hid ((blkP s (insP s) S'').2 = (blkP s (insP s) S6).2) := hst2
          have HVAL2 : Hid (flB (blkP s (insP s) S'').2 = false → l ++ (blkP s (insP s) S'').1 = (blkP s (insP s) S6).1) := hval2
          have hro : Ro wr (w.heap.size + 2) s S'' := ⟨o, hr⟩
          have hv2 := hro.vd
          have lr := hro.lt
          have hl20 : LL.length ≤ 9000 := by omega
          clear hst2 hval2 r8
          cases o with
          | false =>
            obtain ⟨a, kz, x, qq, tt, cc, ee, hb, ha, _, h2⟩ := hr
            obtain ⟨hc, rfl⟩ := h2 rfl
            have e6 : wr.cell? ⟨w.heap.size + 2, 6, none⟩ = some (.int .i64 cc) := hb.at rfl
            have hc0 : ((cc : Int) == 0) = false := by rw [beq_eq_false_iff_ne]; omega
            have hE := blk_fl s (f := insP s) (S := .error (cc, ee)) rfl
            have hstE : expS s xShut (.error (cc, ee)) = (insB s (nx s S')).2 := by rw [HB.out, ← HST2.out, hE]; exact exp_er _ (ne_nil _ _)
            have hlv : flB (insB s (nx s S')).2 = false → l = (insB s (nx s S')).1 := by
              intro h
              rw [HB.out, ← HST2.out, hE] at h
              cases h
            clear hb h2 hE
            go_wp2_with fail
            refine (eat_ro _ (w.heap.size + 2) s _ hL hs xShut (ne_nil _ _) (nnShut s) hro).mono ?_
            rintro e w20 ⟨rfl, h20, hw20⟩
            have W20 : Wr (w.heap.size + 2) wb w20 := hW.trans hw20
            have T20 := T8.wr W20 h20
            have o20 := own_wr hown hw20 (by omega)
            have t2 : w20.cell? ⟨w.heap.size + 3, 2, none⟩ = some (.slice a2 m2 c2) := T20.tb.at rfl
            have tl := T20.tb.lt
            obtain ⟨vs, hn, hov, hin⟩ := T20.i2
            clear hw20 W20
            go_wp2_with (at_builtin; refine wpList_append_own _ rfl _ _ 23 rfl (w.heap.size + 4) 48 j0 (.slice none 0 0) 1 24 Tryz.underlying23 hj hy0 hy1 hy2 rfl (by decide) _ _ _ rfl (hov.alloc _) ⟨w20.heap.size, 0, none⟩ 1 1 [.slice a7 m7 c7] rfl rfl ?c1 ?c2 ?c3 ?c4 ?c5 ?_)
            case c1 => exact new_news w20 (.slice a7 m7 c7) 48
            case c2 => exact one_news a7 m7 c7
            case c3 => unfold maxLen; omega
            case c4 => omega
            case c5 => simp; omega
            intro v' w21 hown21 hg21 _
            obtain ⟨a9, m9, c9, rfl⟩ := own_slice hown21
            have hb9 := own_lo hov
            have tb := (T20.alloc (.cells _ _)).tb.grown hg21 (by omega) hb9
            have t3 : w21.cell? ⟨w.heap.size + 3, 2, none⟩ = _ := tb.at rfl
            have tf : w21.frozen? ⟨w.heap.size + 3, 2, none⟩ = false := tb.fr 2
            have tl2 := tb.lt
            have T21 := (T20.alloc (.cells _ _)).putThr (lt' := LL ++ [l]) (hov.alloc _) hg21 (Own2.snoc hn (hov.alloc _) (fun i u L a b => (hin i u L a b).alloc _) (by decide) hg21 hown21 ((own_mono o20 hwb).alloc _))
            skip
            go_wp2
            go_roundg (mS s (insB s (nx s S')).2)
            case measure => rw [hk]; exact hless
            case rel =>
              rw [hstE] at T21
              refine ⟨_, LL ++ [l], a9, m9, c9, rfl, T21, by simp; omega, by rw [← HST.out, hon], ?_⟩
              intro h
              have hf : flB (insB s (nx s S')).2 = false := by
                cases hq : (insB s (nx s S')).2 with
                | ok b => rfl
                | error er => rw [hq, more_er _ (ne_nil _ _)] at h; cases h
              rw [← HVAL.out (by rw [hon]; exact h), hon, hlv hf]
              simp
          | true =>
            have e6 : wr.cell? ⟨w.heap.size + 2, 6, none⟩ = some (.int .i64 0) := by
              obtain ⟨a, kz, x, qq, tt, cc, ee, hb, ha, h1, _⟩ := hr
              obtain ⟨rfl, _, _⟩ := h1 rfl
              exact hb.at rfl
            simp only [if_true] at hkk hlen2
            clear hr
            cases qy : isX s xShut S'' with
            | true =>
              obtain ⟨b, rfl⟩ := fl_err s qy (ne_nil _ _)
              have hE := blk_end s (f := insP s) (S := .ok b) rfl qy
              have hstE : expS s xShut (.ok b) = (insB s (nx s S')).2 := by rw [HB.out, ← HST2.out, hE]; unfold expS; rw [if_pos qy]
              have hlv : flB (insB s (nx s S')).2 = false → l = (insB s (nx s S')).1 := by
                intro h
                rw [HB.out, ← HST2.out] at h
                have := HVAL2.out h
                rw [hE] at this
                rw [HB.out]
                simpa using this
              clear hE
              go_wp2_with fail
              refine (is_yes _ (w.heap.size + 2) s _ hL hs xShut (ne_nil _ _) (nnShut s) qy hro).mono ?_
              rintro e w19 ⟨rfl, h19, hw19⟩
              have hW19 := hW.trans hw19
              have hown := own_wr hown hw19 (by omega)
              clear hw19 hW
              go_wp2_with fail
              refine (eat_ro _ (w.heap.size + 2) s _ hL hs xShut (ne_nil _ _) (nnShut s) (h19.ro hv2.1)).mono ?_
              rintro e w20 ⟨rfl, h20, hw20⟩
              have W20 : Wr (w.heap.size + 2) wb w20 := hW19.trans hw20
              have T20 := T8.wr W20 h20
              have o20 := own_wr hown hw20 (by omega)
              have t2 : w20.cell? ⟨w.heap.size + 3, 2, none⟩ = some (.slice a2 m2 c2) := T20.tb.at rfl
              have tl := T20.tb.lt
              obtain ⟨vs, hn, hov, hin⟩ := T20.i2
              clear hw20 W20
              go_wp2_with (at_builtin; refine wpList_append_own _ rfl _ _ 23 rfl (w.heap.size + 4) 48 j0 (.slice none 0 0) 1 24 Tryz.underlying23 hj hy0 hy1 hy2 rfl (by decide) _ _ _ rfl (hov.alloc _) ⟨w20.heap.size, 0, none⟩ 1 1 [.slice a7 m7 c7] rfl rfl ?c1 ?c2 ?c3 ?c4 ?c5 ?_)
              case c1 => exact new_news w20 (.slice a7 m7 c7) 48
              case c2 => exact one_news a7 m7 c7
              case c3 => unfold maxLen; omega
              case c4 => omega
              case c5 => simp; omega
              intro v' w21 hown21 hg21 _
              obtain ⟨a9, m9, c9, rfl⟩ := own_slice hown21
              have hb9 := own_lo hov
              have tb := (T20.alloc (.cells _ _)).tb.grown hg21 (by omega) hb9
              have t3 : w21.cell? ⟨w.heap.size + 3, 2, none⟩ = _ := tb.at rfl
              have tf : w21.frozen? ⟨w.heap.size + 3, 2, none⟩ = false := tb.fr 2
              have tl2 := tb.lt
              have T21 := (T20.alloc (.cells _ _)).putThr (lt' := LL ++ [l]) (hov.alloc _) hg21 (Own2.snoc hn (hov.alloc _) (fun i u L a b => (hin i u L a b).alloc _) (by decide) hg21 hown21 ((own_mono o20 hwb).alloc _))
              skip
              go_wp2
              go_roundg (mS s (insB s (nx s S')).2)
              case measure => rw [hk]; exact hless
              case rel =>
                rw [hstE] at T21
                refine ⟨_, LL ++ [l], a9, m9, c9, rfl, T21, by simp; omega, by rw [← HST.out, hon], ?_⟩
                intro h
                have hf : flB (insB s (nx s S')).2 = false := by
                  cases hq : (insB s (nx s S')).2 with
                  | ok b => rfl
                  | error er => rw [hq, more_er _ (ne_nil _ _)] at h; cases h
                rw [← HVAL.out (by rw [hon]; exact h), hon, hlv hf]
                simp
            | false =>
              cases S'' with
              | error er =>
                go_wp2_with fail
                refine (is_no _ (w.heap.size + 2) s _ hL hs xShut (ne_nil _ _) (nnShut s) qy hro).mono ?_
                rintro e w18 ⟨rfl, h18, hw18⟩
                go_wp2_with fail
                refine (rins_err _ (w.heap.size + 2) s er hL hs h18).mono ?_
                rintro e w19 ⟨x, rfl, h19, hw19⟩
                have W19 : Wr (w.heap.size + 2) wb w19 := (hW.trans hw18).trans hw19
                have hown19 := own_wr (own_wr hown hw18 (by omega)) hw19 (by omega)
                have hz19 := W19.size
                clear hw18 hw19 h18 hW hown
                go_wp2_with (at_builtin; refine wpList_append_own _ rfl _ _ 48 rfl wb.heap.size 52 k0 (.agg #[.int .i64 0, .int .i64 0, .int .i64 0, .int .i64 0, .int .i64 0, .int .i64 0, .int .i64 0, .int .i64 0, .int .i64 0]) 9 72 Tryz.underlying48 hk0 hx0 hx1 hx2 rfl (by decide) _ _ _ rfl (hown19.alloc _) ⟨w19.heap.size, 0, none⟩ 1 1 (insC x) rfl rfl ?c1 ?c2 ?c3 ?c4 ?c5 ?_)
                case c1 =>
                  intro j u hu
                  rw [new_cell]
                  exact hu
                case c2 =>
                  intro u hu
                  simp only [insC, List.mem_cons, List.not_mem_nil, or_false] at hu
                  rcases hu with rfl | rfl | rfl | rfl | rfl | rfl | rfl | rfl | rfl <;> rfl
                case c3 => unfold maxLen; omega
                case c4 => omega
                case c5 => simp; omega
                intro v' w22 hown22 hg22 _
                obtain ⟨a9, m9, c9, rfl⟩ := own_slice hown22
                have hb9 := own_lo hown19
                have W22 := (W19.alloc _).grown hg22 hb9
                have h22 := (h19.alloc _).grown hg22 (by omega) hb9
                go_wp2
                go_roundg (mS s (.error er) + (if false then 1 else 0))
                case measure => simp [mS] at hkk ⊢; omega
                case rel =>
                  have hE := blk_fl s (f := insP s) (S := .error er) rfl
                  refine ⟨.error er, false, l ++ [x], a9, m9, c9, rfl, rfl, h22, W22, by simpa using hown22, ?_, HST2.out, ?_⟩
                  · simp [mS] at hlen2 ⊢; omega
                  · rw [hE]; intro h; cases h
              | ok b =>
                go_wp2_with fail
                refine (is_no _ (w.heap.size + 2) s _ hL hs xShut (ne_nil _ _) (nnShut s) qy hro).mono ?_
                rintro e w18 ⟨rfl, h18, hw18⟩
                go_wp2_with fail
                refine (rins_at _ (w.heap.size + 2) s _ hL hs h18).mono ?_
                rintro e w19 ⟨x, rfl, hx, h19, hw19⟩
                have W19 : Wr (w.heap.size + 2) wb w19 := (hW.trans hw18).trans hw19
                have hown19 := own_wr (own_wr hown hw18 (by omega)) hw19 (by omega)
                have hz19 := W19.size
                clear hw18 hw19 h18 hW hown
                go_wp2_with (at_builtin; refine wpList_append_own _ rfl _ _ 48 rfl wb.heap.size 52 k0 (.agg #[.int .i64 0, .int .i64 0, .int .i64 0, .int .i64 0, .int .i64 0, .int .i64 0, .int .i64 0, .int .i64 0, .int .i64 0]) 9 72 Tryz.underlying48 hk0 hx0 hx1 hx2 rfl (by decide) _ _ _ rfl (hown19.alloc _) ⟨w19.heap.size, 0, none⟩ 1 1 (insC x) rfl rfl ?c1 ?c2 ?c3 ?c4 ?c5 ?_)
                case c1 =>
                  intro j u hu
                  rw [new_cell]
                  exact hu
                case c2 =>
                  intro u hu
                  simp only [insC, List.mem_cons, List.not_mem_nil, or_false] at hu
                  rcases hu with rfl | rfl | rfl | rfl | rfl | rfl | rfl | rfl | rfl <;> rfl
                case c3 => unfold maxLen; omega
                case c4 => omega
                case c5 => simp; omega
                intro v' w22 hown22 hg22 _
                obtain ⟨a9, m9, c9, rfl⟩ := own_slice hown22
                have hb9 := own_lo hown19
                have W22 := (W19.alloc _).grown hg22 hb9
                have hless2 := blk_less s (goes_ins s) hv2 rfl
                have hon2 := blk_on s (goes_ins s) hv2 rfl qy
                obtain ⟨o2, h22⟩ := (h19.alloc (.cells _ _)).grown hg22 (by omega) hb9
                go_wp2
                go_roundg (mS s (expS s xSemi (insP s (.ok b)).2) + (if o2 then 1 else 0))
                case measure => rw [hkk]; split <;> omega
                case rel =>
                  refine ⟨_, o2, l ++ [x], a9, m9, c9, rfl, rfl, h22, W22, by simpa using hown22, ?_, ?_, ?_⟩
                  · simp; split <;> omega
                  · rw [← HST2.out, hon2]
                  · intro h
                    have hf : flB (expS s xSemi (insP s (.ok b)).2) = false := by
                      cases hq : expS s xSemi (insP s (.ok b)).2 with
                      | ok b' => rfl
                      | error er => rw [hq, blk_fl s (S := .error er) rfl] at h; cases h
                    rw [hx hf, ← HVAL2.out (by rw [hon2]; exact h), hon2]
                    simp
end
end Go.Proofs.YtacflahkofmcpaaGreatDoor
