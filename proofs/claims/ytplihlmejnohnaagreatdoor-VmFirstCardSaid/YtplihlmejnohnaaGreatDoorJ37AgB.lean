/- prog.Compile: its answer lies in blocks of its own. (As CompW, its end told in full.) -/
import Derived.Test.YtplihlmejnohnaaGreatDoorJ22CompOk
import Derived.Test.YtplihlmejnohnaaGreatDoorJ35VmB
import Derived.Test.YtplihlmejnohnaaGreatDoorJ36AgS
import Derived.Lib.BufferRead
namespace Go.Proofs.YtplihlmejnohnaaGreatDoor
open Go.RowKit

/-- v is a program of the call's own. -/
structure ProgOw (base : Nat) (w : World) (v : Value) (LT : List UInt8) (IN : List Int) (LL : List (List InsT)) : Prop where
  ex : ∃ a1 c1 a2 c2 a3 c3, v = .agg #[.slice a1 LT.length c1, .slice a2 IN.length c2, .slice a3 LL.length c3] ∧ w.ownsRow base 5 1 (.slice a1 LT.length c1) LT.length (LT.map byteV) ∧ w.ownsRow base 2 1 (.slice a2 IN.length c2) IN.length (IN.map i64V) ∧ Own2 insC 9 117 107 w base (.slice a3 LL.length c3) LL
theorem own_keep {w W : World} {lo hi base k n : Nat} {e : TypeId} {v : Value} {xs : List Value} (o : ∀ g, lo ≤ g → g < hi → W.heap[g]? = w.heap[g]?) (h : w.ownsRow base e k v n xs) (hl : lo ≤ base) (hh : w.heap.size ≤ hi) : W.ownsRow base e k v n xs := by
  refine ⟨h.1, ?_⟩
  rcases h.2 with h2 | ⟨g, cap, cur, hv, hb, he, r⟩
  · exact Or.inl h2
  · have := lt_of_block he
    exact Or.inr ⟨g, cap, cur, hv, hb, (o g (by omega) (by omega)).trans he, r⟩
theorem Own2.keep {α : Type} {C : α → List Value} {k : Nat} {eo ei : TypeId} {w W : World} {lo hi base : Nat} {v : Value} {LL : List (List α)} (o : ∀ g, lo ≤ g → g < hi → W.heap[g]? = w.heap[g]?) (h : Own2 C k eo ei w base v LL) (hl : lo ≤ base) (hh : w.heap.size ≤ hi) : Own2 C k eo ei W base v LL := by
  obtain ⟨vs, h1, h2, h3⟩ := h
  exact ⟨vs, h1, own_keep o h2 hl hh, fun j x L a b => own_keep o (h3 j x L a b) hl hh⟩
section
variable {base b2 lo hi : Nat} {w W : World} {v : Value} {LT : List UInt8} {IN : List Int} {LL : List (List InsT)}
theorem ProgOw.keep (h : ProgOw base w v LT IN LL) (o : ∀ g, lo ≤ g → g < hi → W.heap[g]? = w.heap[g]?) (hl : lo ≤ base) (hh : w.heap.size ≤ hi) : ProgOw base W v LT IN LL := by
  obtain ⟨a1, c1, a2, c2, a3, c3, e, h1, h2, h3⟩ := h.ex
  exact ⟨a1, c1, a2, c2, a3, c3, e, own_keep o h1 hl hh, own_keep o h2 hl hh, h3.keep o hl hh⟩
theorem ProgOw.mono (h : ProgOw base w v LT IN LL) (hb : b2 ≤ base) : ProgOw b2 w v LT IN LL := by
  obtain ⟨a1, c1, a2, c2, a3, c3, e, h1, h2, h3⟩ := h.ex
  exact ⟨a1, c1, a2, c2, a3, c3, e, own_mono h1 hb, own_mono h2 hb, h3.mono hb⟩
theorem ProgOw.fl (h : ProgOw base w v LT IN LL) : ProgFl w v LT IN LL := by
  obtain ⟨a1, c1, a2, c2, a3, c3, e, h1, h2, h3⟩ := h.ex
  exact ⟨a1, c1, a2, c2, a3, c3, e, rd_bytes h1, rd_i64 rfl h2, h3.rd (fun _ => rfl)⟩
theorem ProgOw.on (h : ProgOw base w v LT IN LL) (k : On w W) : ProgOw base W v LT IN LL := h.keep (lo := 0) (hi := w.heap.size) (fun g _ hg => k.block g hg) (Nat.zero_le _) (Nat.le_refl _)
end
set_option maxHeartbeats 8000000 in
set_option maxRecDepth 8000 in
theorem compile_own (t : TestT) (LT : List UInt8) (hLT : lettersN (locsN t) = LT) (v : Value) (w : World) (lw : Lw w) (hd : Db w) (h : TestRd w v t) (hc : checkT t = 0) (h26 : LT.length ≤ 26) (hpl : ∀ x ∈ t.ini, ∃ k : Nat, k < LT.length ∧ plc LT x.l = (k : Int))
    (hl : ∀ L ∈ t.thr, L.length ≤ 1000000 ∧ ∀ x ∈ L, hasLocB x.k = true → 0 < LT.length) (h4 : t.thr.length ≤ 1000) :
    Calls Tryz.prog 56 #[v] w fun e w' => ∃ pv, e = .returned (.tuple #[pv, .int .i64 0]) ∧ ProgOw w.heap.size w' pv LT (begP LT t.ini) (t.thr.map (placedP LT)) ∧ On w w' := by
  obtain ⟨i0, hi0, hz0, hz1, hz2⟩ := info_parts infoThr
  have hC := fun W (k : On w W) => check_is t v W (lw.on k) (h.on k)
  have hO := fun W (k : On w W) => locs_is t v W (hd.on k) (h.on k)
  rw [hc] at hC
  rw [hLT] at hO
  obtain ⟨a1, c1, a2, c2, a3, c3, rfl, hnm, r1, r2, r3⟩ := h.ex
  have R1 : Hid (Rd iniC 2 w (.slice a1 t.ini.length c1) t.ini) := r1
  have R2 : Hid (Rd2 insC 9 w (.slice a2 t.thr.length c2) t.thr) := r2
  have HL : Hid (∀ L ∈ t.thr, L.length ≤ 1000000 ∧ ∀ x ∈ L, hasLocB x.k = true → 0 < LT.length) := hl
  clear h r1 r2 r3 hnm hl lw hd hc hLT
  have hB := fun al cl W (k : On w W) (hl : Rd byteC 1 W (.slice al LT.length cl) LT) => begs_is LT t.ini al a1 cl c1 W hl (R1.out.on k) h26 hpl
  have hbl : (begP LT t.ini).length = LT.length := begP_len LT t.ini
  have k0 : ∀ A B, On w ((w.alloc A).alloc B) := fun A B => ((On.refl w).alloc A).alloc B
  have bt : ∀ cs T B, Bk ((w.alloc (.cells cs T)).alloc B) w.heap.size cs := fun cs T B => (Bk.new w cs T).alloc B
  have br : ∀ A cs T, Bk ((w.alloc A).alloc (.cells cs T)) (w.heap.size + 1) cs := fun A cs T => by have := Bk.new (w.alloc A) cs T; rwa [World.size_alloc] at this
  generalize t.name = nm at *
  generalize t.cond.k = kk at *
  generalize t.cond.any.length = m3 at *
  generalize t.thr = TT at *
  generalize begP LT t.ini = IN at *
  generalize t.ini.length = m1 at *
  go_enter Tryz.func56, Tryz.ntmps56
  go_wp2_with fail
  refine (hC _ (k0 _ _)).mono ?_
  rintro e w1 ⟨rfl, k1⟩
  have T1 := (bt _ _ _).on k1
  have Z1 := (br _ _ _).on k1
  have K1 : Hid (On w w1) := (k0 _ _).trans k1
  have x0 := T1.at (i := 0) rfl
  have x1 := T1.at (i := 1) rfl
  have x2 := T1.at (i := 2) rfl
  have x3 := T1.at (i := 3) rfl
  have x4 := T1.at (i := 4) rfl
  have xl := T1.lt
  clear hC k1 bt br k0
  go_wp2_with fail
  refine (hO _ K1.out).mono ?_
  rintro e w2 ⟨al, cl, rfl, ho, k2⟩
  have T2 := T1.on k2
  have Z2 := Z1.on k2
  have K2 : Hid (On w w2) := K1.out.trans k2
  have B2 : Hid (Rd byteC 1 w2 (.slice al LT.length cl) LT) := rd_bytes ho
  have LO2 : Hid (w2.ownsRow w1.heap.size 5 1 (.slice al LT.length cl) LT.length (LT.map byteV)) := ho
  have hw1 : w.heap.size + 1 < w1.heap.size := Z1.lt
  have kw12 := k2.size
  clear hO k2 ho K1 T1 Z1 x0 x1 x2 x3 x4 xl
  have x1 := T2.at (i := 1) rfl
  have xl := T2.lt
  go_wp2_with fail
  refine (hB al cl w2 K2.out B2.out).mono ?_
  rintro e w3 ⟨ai, ci, rfl, hi3, k3⟩
  have LO3 : Hid (w3.ownsRow w1.heap.size 5 1 (.slice al LT.length cl) LT.length (LT.map byteV)) := own_on LO2.out k3
  have IO3 : Hid (w3.ownsRow w2.heap.size 2 1 (.slice ai LT.length ci) LT.length (IN.map i64V)) := hi3
  clear hi3 LO2
  have T3 := T2.on k3
  have Z3 := Z2.on k3
  have K3 : Hid (On w w3) := K2.out.trans k3
  have B3 : Hid (Rd byteC 1 w3 (.slice al LT.length cl) LT) := B2.out.on k3
  clear hB k3 B2 K2 T2 Z2 x1 xl
  have x2 := T3.at (i := 2) rfl
  have xl := T3.lt
  have zl := Z3.lt
  have hPn : ∀ cs T, Bk (w3.alloc (.cells cs T)) w3.heap.size cs := fun cs T => Bk.new w3 cs T
  go_wp2
  clear x2
  go_loopg [26] TT.length (fun gg s26 wq => ∃ (n : Nat) (a : Option Addr) (c : Nat), n ≤ TT.length ∧ gg = TT.length - n ∧ s26 = .int .i64 n ∧ Hid (On w3 wq) ∧ Bk wq w3.heap.size #[.slice al LT.length cl, .slice ai LT.length ci, .slice a n c] ∧ Hid (Own2 insC 9 117 107 wq (w3.heap.size + 1) (.slice a n c) ((TT.take n).map (placedP LT))))
  case atStart => exact ⟨0, none, 0, Nat.zero_le _, rfl, rfl, (On.refl w3).alloc _, hPn _ _, Own2.nil _ _ _ _ _ _⟩
  case round =>
    clear hPn
    obtain ⟨n, a, c, hn, hk, rfl, HO, PB, HW⟩ := hrel
    have pl := PB.lt
    rcases Nat.lt_or_ge n TT.length with hlt | hge
    · obtain ⟨x, hx⟩ : ∃ x, TT[n]? = some x := ⟨_, List.getElem?_eq_getElem hlt⟩
      obtain ⟨g, off, rfl, hg, ax, cx, v0, hxm, rx⟩ := (R2.out.on (K3.out.trans HO.out)).row hx
      obtain ⟨hx6, hxl⟩ := HL.out x (List.mem_of_getElem? hx)
      have hP := placed_is LT x ax cx al cl wr.drew (rx.on (On.refl wr).drew) (B3.out.on (HO.out.drew)) hx6 hxl
      have HX : Hid ((TT.take n).map (placedP LT) ++ [placedP LT x] = (TT.take (n + 1)).map (placedP LT)) := by
        show _ = _
        rw [List.take_add_one, hx]
        simp
      have hS : ∀ W, On wr.drew W → W.cell? ⟨w3.heap.size, 2, none⟩ = some (.slice a n c) := fun W k => (PB.on (show On wr W from (On.refl wr).drew.trans k)).at (i := 2) rfl
      have hS0 : wr.cell? ⟨w3.heap.size, 2, none⟩ = some (.slice a n c) := PB.at (i := 2) rfl
      have hpx : (placedP LT x).length = x.length := by unfold placedP; simp
      clear hx rx
      go_wp2
      clear v0
      refine region_fin (fun W => W.cell? ⟨w3.heap.size, 2, none⟩ = some (.slice a n c)) 8 9 (by kernel_rfl) rfl ?_
      refine fin_take 0 (v := ?_) rfl (by kernel_rfl) (by kernel_rfl) (by kernel_rfl) (by kernel_rfl) (fun _ _ _ h => h) rfl ?_ (hS _ (On.refl _)) ?_
      rotate_left
      · intro W hW
        go_simp
        (try with_reducible rfl)
      simp only [Act.put, List.setIfInBounds_toArray, List.set_cons_zero, List.set_cons_succ]
      refine fin_take 1 (v := ?_) rfl (by kernel_rfl) (by kernel_rfl) (by kernel_rfl) (by kernel_rfl) (fun _ _ _ h => h) rfl ?_ (hS _ (On.refl _)) ?_
      rotate_left
      · intro W hW
        go_simp
        (try with_reducible rfl)
      simp only [Act.put, List.setIfInBounds_toArray, List.set_cons_zero, List.set_cons_succ]
      refine fin_take 2 (v := ?_) rfl (by kernel_rfl) (by kernel_rfl) (by kernel_rfl) (by kernel_rfl) (fun _ _ _ h => h) rfl ?_ (hS _ (On.refl _)) ?_
      rotate_left
      · intro W hW
        go_simp
        (try with_reducible rfl)
      simp only [Act.put, List.setIfInBounds_toArray, List.set_cons_zero, List.set_cons_succ]
      refine fin_take 3 (v := ?_) rfl (by kernel_rfl) (by kernel_rfl) (by kernel_rfl) (by kernel_rfl) (fun _ _ _ h => h) rfl ?_ (hS _ (On.refl _)) ?_
      rotate_left
      · intro W hW
        go_simp
        (try with_reducible rfl)
      simp only [Act.put, List.setIfInBounds_toArray, List.set_cons_zero, List.set_cons_succ]
      refine fin_one 4 rfl rfl (by kernel_rfl) (fun K hK => ?_)
      go_simp
      refine hP.mono ?_
      rintro e w4 ⟨au, cu, rfl, hu, k4⟩
      have hS4 := hS w4 k4
      have hS5 := hS _ (k4.alloc (.cells #[.slice au x.length cu] 117))
      have k4' : On wr w4 := (On.refl wr).drew.trans k4
      refine hK.out _ _ (fun _ => hS4) ?_
      clear hK
      refine fin_one 5 rfl rfl (by kernel_rfl) (fun K hK => ?_)
      go_simp
      refine hK.out _ _ (fun _ => hS5) ?_
      clear hK
      obtain ⟨vs, hvl, hov, hin⟩ := HW.out
      have hvn : ((TT.take n).map (placedP LT)).length = n := by simp; omega
      rw [hvn] at hov hvl
      have own4 := own_on hov (k4'.alloc (.cells #[.slice au x.length cu] 117))
      refine fin_one 6 rfl rfl (by kernel_rfl) (fun K hK => ?_)
      refine wp_append_own _ (.tmp 31) (.tmp 35) 25 rfl (w3.heap.size + 1) 117 i0 (.slice none 0 0) 1 24 Tryz.underlying25 hi0 hz0 hz1 hz2 rfl (by decide) (.slice a n c) n vs rfl own4 ⟨w4.heap.size, 0, none⟩ 1 1 [.slice au x.length cu] rfl rfl (news_at w4 _ _) (one_slice _ _ _) (by unfold maxLen; omega) (by omega) (by simp only [World.size_alloc]; have := k4'.size; omega) ?_
      intro v' w5 hown5 hg5 _
      obtain ⟨a', c', rfl⟩ := own_slice hown5
      have blk : ∀ b, (Value.slice a n c).ownBlock = some b → w3.heap.size + 1 ≤ b := fun b hb => (hov.lt b hb).1
      have PB5 : Bk w5 w3.heap.size _ := ((PB.on k4').alloc (.cells #[.slice au x.length cu] 117)).grown hg5 (Nat.lt_succ_self _) blk
      have O5 : On w3 w5 := ((HO.out.trans k4').alloc (.cells #[.slice au x.length cu] 117)).grown hg5 (fun b hb => Nat.le_of_succ_le (blk b hb))
      have hS6 := PB5.at (i := 2) rfl
      have F6 := fun i => PB5.fr i
      have hu1 : (w4.alloc (.cells #[.slice au x.length cu] 117)).ownsRow (w3.heap.size + 1) 107 9 (.slice au x.length cu) (placedP LT x).length ((placedP LT x).flatMap insC) := by
        rw [hpx]
        exact own_mono (own_on hu ((On.refl w4).alloc _)) pl
      have W5 := Own2.snoc (C := insC) (k := 9) (hvl.trans hvn.symm) (by rw [hvn]; exact own4) (fun i u L hiu hL => own_on (hin i u L hiu hL) (k4'.alloc (.cells #[.slice au x.length cu] 117))) ne_thr hg5 (by rw [hvn]; exact hown5) hu1
      rw [HX.out] at W5
      have HW5 : Hid _ := W5
      clear W5 hu1 own4 hown5 hov hin hg5 hu HX
      refine hK.out _ _ (fun _ => hS6) ?_
      simp only [Act.put, List.setIfInBounds_toArray, List.set_cons_zero, List.set_cons_succ]
      clear hK
      refine fin_take 7 (v := ?_) rfl (by kernel_rfl) (by kernel_rfl) (by kernel_rfl) (by kernel_rfl) (fun _ _ _ h => h) rfl ?_ hS6 ?_
      rotate_left
      · intro W hW
        go_simp
        (try with_reducible rfl)
      simp only [Act.put, List.setIfInBounds_toArray, List.set_cons_zero, List.set_cons_succ]
      refine fin_one 8 rfl rfl (by kernel_rfl) (fun K hK => ?_)
      go_simp
      refine hK.out _ _ (fun h => absurd rfl h) ?_
      refine fin_done (by kernel_rfl) (NoPanic.normal ?_)
      go_wp2
      go_roundg (TT.length - (n + 1))
      case measure => omega
      case rel => exact ⟨n + 1, a', c', by omega, rfl, by go_num, O5.setNew (Nat.le_refl _) _, Bk.puts [.slice a' (n + 1) c'] w5 [.slice al LT.length cl, .slice ai LT.length ci, .slice a n c] 2 PB5, Own2.set HW5.out (Nat.lt_succ_self _) 2 _⟩
    · obtain rfl : n = TT.length := by omega
      have H2 := HW.out
      rw [List.take_length] at H2
      have KO : On w wr := K3.out.trans HO.out
      have R : Hid (Own2 insC 9 117 107 wr (w3.heap.size + 1) (.slice a TT.length c) (TT.map (placedP LT))) := H2
      have hw3 : w.heap.size + 1 < w3.heap.size + 1 := by omega
      have y0 := PB.at (i := 0) rfl
      have y1 := PB.at (i := 1) rfl
      have y2 := PB.at (i := 2) rfl
      have ZB := Z3.on HO.out
      have z0 := ZB.at (i := 0) rfl
      have z1 := ZB.at (i := 1) rfl
      have z2 := ZB.at (i := 2) rfl
      have zf := fun i => ZB.fr i
      clear H2 HW
      go_wp2
      refine bodyPost_ret (v := .tuple #[.agg #[.slice al LT.length cl, .slice ai LT.length ci, .slice a TT.length c], .int .i64 0]) ?_ rfl ⟨_, rfl, ?_, ?_⟩
      · rw [results_cell_slot rfl]
        go_simp
      · refine ⟨al, cl, ai, ci, a, c, by rw [List.length_map, hbl], ?_, ?_, ?_⟩
        · exact own_mono (own_puts [.slice al LT.length cl, .slice ai LT.length ci, .slice a TT.length c] wr 0 (own_on LO3.out HO.out) hw1) (by omega)
        · rw [hbl]; exact own_mono (own_puts [.slice al LT.length cl, .slice ai LT.length ci, .slice a TT.length c] wr 0 (own_on IO3.out HO.out) (by omega)) (by omega)
        · rw [List.length_map]; exact Own2.mono (Own2.puts [.slice al LT.length cl, .slice ai LT.length ci, .slice a TT.length c] wr 0 R.out hw3) (by omega)
      · repeat' (first | with_reducible refine On.setNew ?_ (by omega) _ | with_reducible exact KO)
theorem comp_own (t : TestT) (v : Value) (w : World) (lw : Lw w) (hd : Db w) (h : TestRd w v t) (hc : checkT t = 0) :
    Calls Tryz.prog 56 #[v] w fun e w' => ∃ pv, e = .returned (.tuple #[pv, .int .i64 0]) ∧ ProgOw w.heap.size w' pv (ltOf t) (inOf t) (llOf t) ∧ On w w' := by
  obtain ⟨h1, h2, h3, h4⟩ := ok_small t hc
  exact compile_own t (ltOf t) rfl v w lw hd h hc (letters_len _) (fun x hx => by obtain ⟨k, a, b, _⟩ := ini_place t h1 x hx; exact ⟨k, a, b⟩)
    (fun L hL => ⟨by have := h3 L hL; omega, fun x hx hk => has_letters t h1 L hL x hx hk⟩) (by omega)
end Go.Proofs.YtplihlmejnohnaaGreatDoor

namespace Go.Proofs.YtplihlmejnohnaaGreatDoor
open Go.RowKit

theorem conv_rdL {w : World} {a : Option Addr} {c : Nat} {l : List UInt8} (h : Rd byteC 1 w (.slice a l.length c) l) :
    (convert 23 9 (.slice a l.length c)).run Tryz.prog w = .ok (.string ⟨l.toArray⟩) w := by
  cases a with
  | none =>
    rcases Nat.eq_zero_or_pos l.length with h0 | h0
    · have hl : l = [] := List.eq_nil_of_length_eq_zero h0
      subst hl
      exact Lib.run_convert_nil_bytes w _ _ 5 c Tryz.underlying23 Tryz.underlying5 Tryz.underlying9
    · obtain ⟨g, off, ha, _⟩ := h.at (i := 0) (List.getElem?_eq_getElem h0)
      cases ha
  | some ad =>
    refine run_convert_bytes_back (P := Tryz.prog) w _ _ 5 ad c l Tryz.underlying23 Tryz.underlying5 Tryz.underlying9 (fun j hj => ?_)
    obtain ⟨g, off, ha, _, hc⟩ := h.at (List.getElem?_eq_getElem hj)
    have := hc 0 _ rfl
    obtain rfl := Option.some.inj ha
    rw [Nat.mul_one, Nat.add_zero] at this
    rw [Addr.add_lit]
    exact this
theorem prog_infoV : (Tryz.prog.info? 27).map (fun i => (i.zero, i.size)) = some (some (.agg #[.slice none 0 0, .slice none 0 0, .slice none 0 0]), 3) := by kernel_rfl
theorem prog_zeroV : ∀ w, (zeroValue 27).run Tryz.prog w = .ok (.agg #[.slice none 0 0, .slice none 0 0, .slice none 0 0]) w := (zero_of_info prog_infoV).1
theorem prog_sz : (Tryz.prog.info? 27).map (·.size) = some 3 := (zero_of_info prog_infoV).2
theorem fields_prog : Tryz.prog.underlying 27 = some (.struct (Tryz.prog.fieldsOf 27)) := by kernel_rfl
theorem prog_one (a b c : Option Addr) (m n k x y z : Nat) : ∀ v ∈ (#[.slice a m x, .slice b n y, .slice c k z] : Array Value), v.oneCell' = true := by
  intro v hv
  simp only [List.mem_toArray, List.mem_cons, List.not_mem_nil, or_false] at hv
  rcases hv with rfl | rfl | rfl <;> rfl
theorem res_prog2 {fn : Func} {q u : Tmp} (h : fn.results = #[.cell q 27, .tmp u]) {tmps : Array Value} {w : World} {N : Nat} {cs : Array Value} (hq : tmps.getD q undef = .pointer (some ⟨N, 0, none⟩)) (hb : Tb w N cs 27) (hs : cs.size = 3) {v : Value} (hu : tmps.getD u undef = v) : (results fn tmps).run Tryz.prog w = .ok (.tuple #[.agg cs, v]) w := by
  have hl : cs.toList.length = 3 := by simpa using hs
  have hw : Tb w N cs.toList.toArray 27 := by simpa using hb
  rw [results_cell_slot h, hq, hu]
  simp only [asAddr, Sem.run_pure, Result.andThen_ok, run_loadVar_mid w N 0 27 cs.toList _ hw.whole fields_prog rfl (by rw [hl]; exact prog_sz)]
  try simp
theorem bequal_is (L : List UInt8) (a b : Option Addr) (c d : Nat) (w : World) (h : Rd byteC 1 w (.slice a L.length c) L) (k : Rd byteC 1 w (.slice b L.length d) L) :
    Calls Tryz.prog 58 #[.slice a L.length c, .slice b L.length d] w fun e w' => e = .returned (.bool true) ∧ On w w' := by
  have h1 := conv_rdL h
  have h2 := conv_rdL k
  clear h k
  go_enter Tryz.func58, Tryz.ntmps58
  go_wp2
  go_ret
  exact ⟨by simp, On.refl w⟩
set_option maxHeartbeats 4000000 in
set_option maxRecDepth 8000 in
theorem again_is (LT : List UInt8) (IN : List Int) (LL : List (List InsT)) (v : Value) (w : World) (lw : Lw w) (hd : Db w) (h : ProgFl w v LT IN LL) (hA : AgOk LT IN LL) :
    Calls Tryz.prog 31 #[v] w fun e w' => ∃ pv, e = .returned (.tuple #[pv, .bool true]) ∧ ProgOw (w.heap.size + 2) w' pv LT IN LL ∧ On w w' := by
  have HP : Hid (ProgFl w v LT IN LL) := h
  have HL : Hid (Lw w) := lw
  have HD : Hid (Db w) := hd
  have hl4 := hA.fit.loc
  have hl5 := hA.fit.thr
  have cF := fun W (k : On w W) => fit_is LT IN LL v W (HP.out.on k) hA.fit
  have cS := fun W (k : On w W) => source_is LT IN LL v W (HP.out.on k) hA.il (fun L hL => ⟨by have := (hA.fit.ins L hL).1; omega, (hA.fit.ins L hL).2⟩) (by omega) (by omega)
  have cC : ∀ tv W, On w W → TestRd W tv (srcT LT IN LL) → Calls Tryz.prog 56 #[tv] W fun e w' => ∃ pv, e = .returned (.tuple #[pv, .int .i64 0]) ∧ ProgOw W.heap.size w' pv LT IN LL ∧ On W w' := fun tv W k ht => by
    have := comp_own (srcT LT IN LL) tv W (HL.out.on k) (HD.out.on k) ht hA.chk
    rw [hA.lt, hA.ini, hA.ll] at this
    exact this
  have hil := hA.il
  obtain ⟨a1, c1, a2, c2, a3, c3, rfl, r1, r2, r3⟩ := h.ex
  have H1 : Hid (Rd byteC 1 w (.slice a1 LT.length c1) LT) := r1
  obtain ⟨W1, hW1⟩ : ∃ W1, W1 = (w.alloc (.cells #[.slice a1 LT.length c1, .slice a2 LT.length c2, .slice a3 LL.length c3] 27)).alloc (.cells #[.slice none 0 0, .slice none 0 0, .slice none 0 0] 27) := ⟨_, rfl⟩
  have K1 : Hid (On w W1) := by show On _ _; rw [hW1]; exact ((On.refl w).alloc _).alloc _
  have P1 : Tb W1 w.heap.size #[.slice a1 LT.length c1, .slice a2 LT.length c2, .slice a3 LL.length c3] 27 := by rw [hW1]; exact (Tb.new w _ _).alloc _
  have R1 : Tb W1 (w.heap.size + 1) #[.slice none 0 0, .slice none 0 0, .slice none 0 0] 27 := by
    rw [hW1]
    have := Tb.new (w.alloc (.cells #[.slice a1 LT.length c1, .slice a2 LT.length c2, .slice a3 LL.length c3] 27)) #[.slice none 0 0, .slice none 0 0, .slice none 0 0] 27
    rwa [World.size_alloc] at this
  rw [hil] at cF cS ⊢
  clear h r1 r2 r3 hl4 hl5 lw hd hil
  go_enter Tryz.func31, Tryz.ntmps31
  go_wp2_with fail
  rw [← hW1]
  clear hW1
  refine (cF _ K1.out).mono ?_
  rintro _ w2 ⟨rfl, k2⟩
  have P2 := P1.on k2
  have R2 := R1.on k2
  have K2 : Hid (On w w2) := K1.out.trans k2
  have p0 := P2.at (i := 0) (v := .slice a1 LT.length c1) rfl
  have p1 := P2.at (i := 1) (v := .slice a2 LT.length c2) rfl
  have p2 := P2.at (i := 2) (v := .slice a3 LL.length c3) rfl
  have pl := P2.lt
  have hne : ((LT.length : Int) != (LT.length : Int)) = false := by simp
  clear P1 R1 k2 cF
  go_wp2_with fail
  refine (cS _ K2.out).mono ?_
  rintro _ w3 ⟨tv, rfl, ht, k3⟩
  have K3 : Hid (On w w3) := K2.out.trans k3
  have P3 := P2.on k3
  have R3 := R2.on k3
  clear cS P2 R2 p0 p1 p2 pl k3
  go_wp2_with fail
  refine (cC _ _ K3.out ht).mono ?_
  rintro _ w4 ⟨pv, rfl, hpv, k4⟩
  obtain ⟨b1, d1, b2, d2, b3, d3, rfl, s1, s2, s3⟩ := hpv.ex
  have HV : Hid (ProgOw w3.heap.size w4 (.agg #[.slice b1 LT.length d1, .slice b2 IN.length d2, .slice b3 LL.length d3]) LT IN LL) := hpv
  have K4 : Hid (On w w4) := K3.out.trans k4
  have P4 := P3.on k4
  have R4 := R3.on k4
  have S1 : Hid (Rd byteC 1 w4 (.slice b1 LT.length d1) LT) := rd_bytes s1
  have L3 := R3.lt
  obtain ⟨m2, hm2⟩ : ∃ m2, m2 = IN.length := ⟨_, rfl⟩
  rw [← hm2] at HV ⊢
  clear cC ht P3 R3 k4 hpv s1 s2 s3 hm2
  go_wp2_with (refine wpList_al rfl rfl prog_zeroV ?_)
  intro wa ka ba
  go_wp2_with (refine wpList_sto (cs := #[.slice b1 LT.length d1, .slice b2 m2 d2, .slice b3 LL.length d3]) rfl rfl rfl rfl ba prog_sz rfl (prog_one _ _ _ _ _ _ _ _ _) ?_)
  intro wj BJ oj
  have KJ : On w4 wj := oj.on ka (Nat.le_refl _)
  have p0 := (P4.on KJ).at (i := 0) (v := .slice a1 LT.length c1) rfl
  have pl := (P4.on KJ).lt
  have j0 := BJ.at (i := 0) (v := .slice b1 LT.length d1) rfl
  have jl := BJ.lt
  have cE := fun W (k : On wj W) => bequal_is LT b1 a1 d1 c1 W (S1.out.on (KJ.trans k)) (H1.out.on (K4.out.trans (KJ.trans k)))
  have R5 := R4.on KJ
  clear ka ba oj
  go_wp2_with fail
  refine (cE _ (On.refl wj)).mono ?_
  rintro _ w5 ⟨rfl, k5⟩
  have B5 := BJ.on k5
  have R6 := R5.on k5
  clear cE p0 pl j0 jl
  go_wp2_with (first | (refine wpList_sto (cs := #[.slice b1 LT.length d1, .slice b2 m2 d2, .slice b3 LL.length d3]) rfl rfl rfl rfl R6 prog_sz rfl (prog_one _ _ _ _ _ _ _ _ _) ?_) | (refine wpList_load_mid rfl 27 _ rfl w4.heap.size 0 rfl [.slice b1 LT.length d1, .slice b2 m2 d2, .slice b3 LL.length d3] _ (Tb.whole (cs := [.slice b1 LT.length d1, .slice b2 m2 d2, .slice b3 LL.length d3]) B5) fields_prog rfl (by exact prog_sz) ?_))
  intro ws bs os
  go_wp2
  (try simp only [Exit.inBlock, Exit.then]); refine bodyPost_ret (res_prog2 rfl rfl bs rfl rfl) rfl ?_
  refine ⟨_, rfl, ?_, (os.on ((K4.out.trans KJ).trans k5) (by omega))⟩
  have OS : On w4 w5 := KJ.trans k5
  exact (HV.out.keep (W := ws) (lo := w.heap.size + 2) (hi := w4.heap.size) (fun g h1 h2 => (os.block g (by have := OS.size; omega) (by omega)).trans (OS.block g h2)) (by omega) (Nat.le_refl _)).mono (by omega)
end Go.Proofs.YtplihlmejnohnaaGreatDoor
