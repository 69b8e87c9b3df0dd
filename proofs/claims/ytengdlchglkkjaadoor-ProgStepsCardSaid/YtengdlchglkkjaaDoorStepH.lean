/- prog.Compile of a test that is small enough and has no init. -/
import Derived.Test.YtengdlchglkkjaaDoorStepG
import Derived.Test.YtengdlchglkkjaaDoorSmallBH
namespace Go.Proofs.YtengdlchglkkjaaDoor
open Go.RowKit

theorem rd_bytes {w : World} {base : Nat} {e : TypeId} {a : Option Addr} {c : Nat} {LT : List UInt8} (h : w.ownsRow base e 1 (.slice a LT.length c) LT.length (LT.map byteV)) : Rd byteC 1 w (.slice a LT.length c) LT := by
  refine Rd.own (C := byteC) (k := 1) (fun _ => rfl) (base := base) (e := e) ?_
  have e1 : LT.flatMap byteC = LT.map byteV := by
    clear h
    induction LT with
    | nil => rfl
    | cons b LT ih => rw [List.flatMap_cons, ih]; rfl
  rw [e1]
  exact h
theorem ne_thr : (59 : TypeId) ≠ 53 := by decide
set_option maxHeartbeats 8000000 in
set_option maxRecDepth 8000 in
theorem compile0_is (t : TestT) (LT : List UInt8) (hLT : lettersN (locsN t) = LT) (v : Value) (w : World) (lw : Lw w) (hd : Db w) (h : TestRd w v t) (hc : checkT t = 0) (hi : t.ini = []) (h26 : LT.length ≤ 26)
    (hl : ∀ L ∈ t.thr, L.length ≤ 1000000 ∧ ∀ x ∈ L, hasLocB x.k = true → 0 < LT.length) (h4 : t.thr.length ≤ 1000) :
    Calls Tryd.prog 15 #[v] w fun e w' => ∃ pv, e = .returned (.tuple #[pv, .int .i64 0]) ∧ ProgRd w' pv (t.thr.map (placedP LT)) ∧ On w w' := by
  obtain ⟨i0, hi0, hz0, hz1, hz2⟩ := info_parts infoThr
  have hC := fun W (k : On w W) => check_is t v W (lw.on k) (h.on k)
  have hO := fun W (k : On w W) => locs_is t v W (hd.on k) (h.on k)
  rw [hc] at hC
  rw [hLT] at hO
  obtain ⟨a1, c1, a2, c2, a3, c3, rfl, hnm, r1, r2, r3⟩ := h.ex
  rw [hi] at r1 hC hO ⊢
  have R2 : Hid (Rd2 insC 9 w (.slice a2 t.thr.length c2) t.thr) := r2
  have HL : Hid (∀ L ∈ t.thr, L.length ≤ 1000000 ∧ ∀ x ∈ L, hasLocB x.k = true → 0 < LT.length) := hl
  clear h r1 r2 r3 hnm hl lw hd hc hLT
  have hB := fun al cl W => beg0_is LT.length al a1 cl c1 W h26
  have k0 : ∀ A B, On w ((w.alloc A).alloc B) := fun A B => ((On.refl w).alloc A).alloc B
  have bt : ∀ cs T B, Bk ((w.alloc (.cells cs T)).alloc B) w.heap.size cs := fun cs T B => (Bk.new w cs T).alloc B
  have br : ∀ A cs T, Bk ((w.alloc A).alloc (.cells cs T)) (w.heap.size + 1) cs := fun A cs T => by have := Bk.new (w.alloc A) cs T; rwa [World.size_alloc] at this
  generalize t.name = nm at *
  generalize t.cond.k = kk at *
  generalize t.cond.any.length = m3 at *
  generalize t.thr = TT at *
  simp only [List.length_nil] at hC hO ⊢
  go_enter Tryd.func15, Tryd.ntmps15
  go_wp2_with fail
  refine (hC _ (k0 _ _)).mono ?_
  rintro e w1 ⟨rfl, k1⟩
  have T1 := (bt _ _ _).on k1
  have Z1 := (br _ _ _).on k1
  have K1 : Hid (On w w1) := (k0 _ _).trans k1
  have x0 := T1.at (i := 0) rfl
  have x1 := T1.at (i := 1) rfl
  have x2 := T1.at (i := 2) rfl
  have x3 := T1.at (i := 3) rfl
  have x4 := T1.at (i := 4) rfl
  have xl := T1.lt
  clear hC k1 bt br k0
  go_wp2_with fail
  refine (hO _ K1.out).mono ?_
  rintro e w2 ⟨al, cl, rfl, ho, k2⟩
  have T2 := T1.on k2
  have Z2 := Z1.on k2
  have K2 : Hid (On w w2) := K1.out.trans k2
  have B2 : Hid (Rd byteC 1 w2 (.slice al LT.length cl) LT) := rd_bytes ho
  clear hO k2 ho K1 T1 Z1 x0 x1 x2 x3 x4 xl
  have x1 := T2.at (i := 1) rfl
  have xl := T2.lt
  go_wp2_with fail
  refine (hB al cl w2).mono ?_
  rintro e w3 ⟨ai, mi, ci, rfl, k3⟩
  have T3 := T2.on k3
  have Z3 := Z2.on k3
  have K3 : Hid (On w w3) := K2.out.trans k3
  have B3 : Hid (Rd byteC 1 w3 (.slice al LT.length cl) LT) := B2.out.on k3
  clear hB k3 B2 K2 T2 Z2 x1 xl
  have x2 := T3.at (i := 2) rfl
  have xl := T3.lt
  have zl := Z3.lt
  have hPn : ∀ cs T, Bk (w3.alloc (.cells cs T)) w3.heap.size cs := fun cs T => Bk.new w3 cs T
  go_wp2
  clear x2
  go_loopg [26] TT.length (fun gg s26 wq => ∃ (n : Nat) (a : Option Addr) (c : Nat), n ≤ TT.length ∧ gg = TT.length - n ∧ s26 = .int .i64 n ∧ Hid (On w3 wq) ∧ Bk wq w3.heap.size #[.slice al LT.length cl, .slice ai mi ci, .slice a n c] ∧ Hid (Own2 insC 9 59 53 wq (w3.heap.size + 1) (.slice a n c) ((TT.take n).map (placedP LT))))
  case atStart => exact ⟨0, none, 0, Nat.zero_le _, rfl, rfl, (On.refl w3).alloc _, hPn _ _, Own2.nil _ _ _ _ _ _⟩
  case round =>
    clear hPn
    obtain ⟨n, a, c, hn, hk, rfl, HO, PB, HW⟩ := hrel
    have pl := PB.lt
    rcases Nat.lt_or_ge n TT.length with hlt | hge
    · obtain ⟨x, hx⟩ : ∃ x, TT[n]? = some x := ⟨_, List.getElem?_eq_getElem hlt⟩
      obtain ⟨g, off, rfl, hg, ax, cx, v0, hxm, rx⟩ := (R2.out.on (K3.out.trans HO.out)).row hx
      obtain ⟨hx6, hxl⟩ := HL.out x (List.mem_of_getElem? hx)
      have hP := placed_is LT x ax cx al cl wr.drew (rx.on (On.refl wr).drew) (B3.out.on (HO.out.drew)) hx6 hxl
      have HX : Hid ((TT.take n).map (placedP LT) ++ [placedP LT x] = (TT.take (n + 1)).map (placedP LT)) := by
        show _ = _
        rw [List.take_add_one, hx]
        simp
      have hS : ∀ W, On wr.drew W → W.cell? ⟨w3.heap.size, 2, none⟩ = some (.slice a n c) := fun W k => (PB.on (show On wr W from (On.refl wr).drew.trans k)).at (i := 2) rfl
      have hS0 : wr.cell? ⟨w3.heap.size, 2, none⟩ = some (.slice a n c) := PB.at (i := 2) rfl
      have hpx : (placedP LT x).length = x.length := by unfold placedP; simp
      clear hx rx
      go_wp2
      clear v0
      refine region_fin (fun W => W.cell? ⟨w3.heap.size, 2, none⟩ = some (.slice a n c)) 8 9 (by kernel_rfl) rfl ?_
      refine fin_take 0 (v := ?_) rfl (by kernel_rfl) (by kernel_rfl) (by kernel_rfl) (by kernel_rfl) (fun _ _ _ h => h) rfl ?_ (hS _ (On.refl _)) ?_
      rotate_left
      · intro W hW
        go_simp
        (try with_reducible rfl)
      simp only [Act.put, List.setIfInBounds_toArray, List.set_cons_zero, List.set_cons_succ]
      refine fin_take 1 (v := ?_) rfl (by kernel_rfl) (by kernel_rfl) (by kernel_rfl) (by kernel_rfl) (fun _ _ _ h => h) rfl ?_ (hS _ (On.refl _)) ?_
      rotate_left
      · intro W hW
        go_simp
        (try with_reducible rfl)
      simp only [Act.put, List.setIfInBounds_toArray, List.set_cons_zero, List.set_cons_succ]
      refine fin_take 2 (v := ?_) rfl (by kernel_rfl) (by kernel_rfl) (by kernel_rfl) (by kernel_rfl) (fun _ _ _ h => h) rfl ?_ (hS _ (On.refl _)) ?_
      rotate_left
      · intro W hW
        go_simp
        (try with_reducible rfl)
      simp only [Act.put, List.setIfInBounds_toArray, List.set_cons_zero, List.set_cons_succ]
      refine fin_take 3 (v := ?_) rfl (by kernel_rfl) (by kernel_rfl) (by kernel_rfl) (by kernel_rfl) (fun _ _ _ h => h) rfl ?_ (hS _ (On.refl _)) ?_
      rotate_left
      · intro W hW
        go_simp
        (try with_reducible rfl)
      simp only [Act.put, List.setIfInBounds_toArray, List.set_cons_zero, List.set_cons_succ]
      refine fin_one 4 rfl rfl (by kernel_rfl) (fun K hK => ?_)
      go_simp
      refine hP.mono ?_
      rintro e w4 ⟨au, cu, rfl, hu, k4⟩
      have hS4 := hS w4 k4
      have hS5 := hS _ (k4.alloc (.cells #[.slice au x.length cu] 59))
      have k4' : On wr w4 := (On.refl wr).drew.trans k4
      refine hK.out _ _ (fun _ => hS4) ?_
      clear hK
      refine fin_one 5 rfl rfl (by kernel_rfl) (fun K hK => ?_)
      go_simp
      refine hK.out _ _ (fun _ => hS5) ?_
      clear hK
      obtain ⟨vs, hvl, hov, hin⟩ := HW.out
      have hvn : ((TT.take n).map (placedP LT)).length = n := by simp; omega
      rw [hvn] at hov hvl
      have own4 := own_on hov (k4'.alloc (.cells #[.slice au x.length cu] 59))
      refine fin_one 6 rfl rfl (by kernel_rfl) (fun K hK => ?_)
      refine wp_append_own _ (.tmp 31) (.tmp 35) 23 rfl (w3.heap.size + 1) 59 i0 (.slice none 0 0) 1 24 Tryd.underlying23 hi0 hz0 hz1 hz2 rfl (by decide) (.slice a n c) n vs rfl own4 ⟨w4.heap.size, 0, none⟩ 1 1 [.slice au x.length cu] rfl rfl (news_at w4 _ _) (one_slice _ _ _) (by unfold maxLen; omega) (by omega) (by simp only [World.size_alloc]; have := k4'.size; omega) ?_
      intro v' w5 hown5 hg5 _
      obtain ⟨a', c', rfl⟩ := own_slice hown5
      have blk : ∀ b, (Value.slice a n c).ownBlock = some b → w3.heap.size + 1 ≤ b := fun b hb => (hov.lt b hb).1
      have PB5 : Bk w5 w3.heap.size _ := ((PB.on k4').alloc (.cells #[.slice au x.length cu] 59)).grown hg5 (Nat.lt_succ_self _) blk
      have O5 : On w3 w5 := ((HO.out.trans k4').alloc (.cells #[.slice au x.length cu] 59)).grown hg5 (fun b hb => Nat.le_of_succ_le (blk b hb))
      have hS6 := PB5.at (i := 2) rfl
      have F6 := fun i => PB5.fr i
      have hu1 : (w4.alloc (.cells #[.slice au x.length cu] 59)).ownsRow (w3.heap.size + 1) 53 9 (.slice au x.length cu) (placedP LT x).length ((placedP LT x).flatMap insC) := by
        rw [hpx]
        exact own_mono (own_on hu ((On.refl w4).alloc _)) pl
      have W5 := Own2.snoc (C := insC) (k := 9) (hvl.trans hvn.symm) (by rw [hvn]; exact own4) (fun i u L hiu hL => own_on (hin i u L hiu hL) (k4'.alloc (.cells #[.slice au x.length cu] 59))) ne_thr hg5 (by rw [hvn]; exact hown5) hu1
      rw [HX.out] at W5
      have HW5 : Hid _ := W5
      clear W5 hu1 own4 hown5 hov hin hg5 hu HX
      refine hK.out _ _ (fun _ => hS6) ?_
      simp only [Act.put, List.setIfInBounds_toArray, List.set_cons_zero, List.set_cons_succ]
      clear hK
      refine fin_take 7 (v := ?_) rfl (by kernel_rfl) (by kernel_rfl) (by kernel_rfl) (by kernel_rfl) (fun _ _ _ h => h) rfl ?_ hS6 ?_
      rotate_left
      · intro W hW
        go_simp
        (try with_reducible rfl)
      simp only [Act.put, List.setIfInBounds_toArray, List.set_cons_zero, List.set_cons_succ]
      refine fin_one 8 rfl rfl (by kernel_rfl) (fun K hK => ?_)
      go_simp
      refine hK.out _ _ (fun h => absurd rfl h) ?_
      refine fin_done (by kernel_rfl) (NoPanic.normal ?_)
      go_wp2
      go_roundg (TT.length - (n + 1))
      case measure => omega
      case rel => exact ⟨n + 1, a', c', by omega, rfl, by go_num, O5.setNew (Nat.le_refl _) _, Bk.puts [.slice a' (n + 1) c'] w5 [.slice al LT.length cl, .slice ai mi ci, .slice a n c] 2 PB5, Own2.set HW5.out (Nat.lt_succ_self _) 2 _⟩
    · obtain rfl : n = TT.length := by omega
      have H2 := HW.out
      rw [List.take_length] at H2
      have KO : On w wr := K3.out.trans HO.out
      have R : Hid (Own2 insC 9 59 53 wr (w3.heap.size + 1) (.slice a TT.length c) (TT.map (placedP LT))) := H2
      have hw3 : w.heap.size + 1 < w3.heap.size + 1 := by omega
      have y0 := PB.at (i := 0) rfl
      have y1 := PB.at (i := 1) rfl
      have y2 := PB.at (i := 2) rfl
      have ZB := Z3.on HO.out
      have z0 := ZB.at (i := 0) rfl
      have z1 := ZB.at (i := 1) rfl
      have z2 := ZB.at (i := 2) rfl
      have zf := fun i => ZB.fr i
      clear H2 HW
      go_wp2
      refine bodyPost_ret (v := .tuple #[.agg #[.slice al LT.length cl, .slice ai mi ci, .slice a TT.length c], .int .i64 0]) ?_ rfl ⟨_, rfl, ?_, ?_⟩
      · rw [results_cell_slot rfl]
        go_simp
      · exact ⟨al, LT.length, cl, ai, mi, ci, a, c, by rw [List.length_map], by rw [List.length_map]; exact (Own2.puts [.slice al LT.length cl, .slice ai mi ci, .slice a TT.length c] wr 0 R.out hw3).rd (fun _ => rfl)⟩
      · repeat' (first | with_reducible refine On.setNew ?_ (by omega) _ | with_reducible exact KO)
end Go.Proofs.YtengdlchglkkjaaDoor
