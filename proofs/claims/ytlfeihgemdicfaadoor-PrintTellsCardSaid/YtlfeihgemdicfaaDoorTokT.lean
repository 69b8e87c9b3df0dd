/- print.testTokens, print.gap. -/
import Derived.Test.YtlfeihgemdicfaaDoorTokC
import Derived.Laws.OwnMore
namespace Go.Proofs.YtlfeihgemdicfaaDoor
open Go.RowKit

/-- Numbers of 64 bits, and few of everything. -/
structure TestB (t : TestT) : Prop where
  ini : ∀ x ∈ t.ini, B64 x.v
  thr : ∀ L ∈ t.thr, ∀ x ∈ L, B64 x.a.v ∧ B64 x.b.v ∧ B64 x.n
  any : ∀ r ∈ t.cond.any, ∀ x ∈ r, B64 x.t ∧ B64 x.v
  l1 : t.ini.length ≤ 1000
  l2 : t.thr.length ≤ 1000
  l3 : ∀ L ∈ t.thr, L.length ≤ 1000
  l4 : t.cond.any.length ≤ 1000
  l5 : ∀ r ∈ t.cond.any, r.length ≤ 1000
theorem srows_wp {o : Oper} {a : Act} {w : World} {K : Act → World → Prop} {Q : Exit → Act → World → Prop} (s x : Operand)
    (ho : o.op = .call { callee := .builtin .append, args := #[s, x], argTypes := #[60, 60] })
    {base b2 : Nat} {v u : Value} {X Y : List ByteArray} (hs : a.eval s = v) (hx : a.eval x = u) (hv : Sr w base v X) (hu : Sr w b2 u Y) (hl : X.length + Y.length ≤ 1000000000) (hb : base ≤ w.heap.size)
    (h : ∀ v' w', Sr w' base v' (X ++ Y) → w.grownBy w' v.ownBlock → K (a.put o.dst v') w') : o.wp Tryd.prog a w K Q := by
  obtain ⟨i0, hi, hz0, hz1, hz2⟩ := str_parts
  rcases hu.2 with ⟨hu0, hY⟩ | ⟨g, cap, cur, hu0, _⟩
  · have hY' : Y = [] := List.eq_nil_of_length_eq_zero hY
    subst hY'
    have hrun := run_append_owned_none (P := Tryd.prog) (w := w) base 60 o.type 9 i0 1 Tryd.underlying60 hi v X.length _ hv
    unfold Oper.wp
    simp [execOp, ho, resolve, invoke, builtin, hs, hx, hu0, hrun, Result.andThen]
    exact h v w (by simpa using hv) (World.grownBy.refl _ _)
  · rw [hu0] at hx
    refine wp_append_own w s x 60 ho base 9 i0 (.string ⟨#[]⟩) 1 16 Tryd.underlying60 hi hz0 hz1 hz2 rfl (by decide) v X.length _ hs hv ⟨g, 0, none⟩ Y.length cap (Y.map Value.string) hx (by simp) (fun j y hy => ?_) (str_one Y) (by unfold maxLen; omega) (by omega) hb fun v' w' h1 h2 _ => h v' w' (by unfold Sr; simpa using h1) h2
    exact World.ownsRow.cells hu (g := g) (by rw [hu0]; rfl) j y hy
theorem srows_list {ops : Array Oper} {rest : List Oper} {o : Oper} {a : Act} {w : World} {Q : Exit → Act → World → Prop} (hgd : o.guard = none) (s x : Operand)
    (ho : o.op = .call { callee := .builtin .append, args := #[s, x], argTypes := #[60, 60] })
    {base b2 : Nat} {v u : Value} {X Y : List ByteArray} (hs : a.eval s = v) (hx : a.eval x = u) (hv : Sr w base v X) (hu : Sr w b2 u Y) (hl : X.length + Y.length ≤ 1000000000) (hb : base ≤ w.heap.size)
    (h : ∀ v' w', Sr w' base v' (X ++ Y) → w.grownBy w' v.ownBlock → wpList Tryd.prog ops Q rest (a.put o.dst v') w') : wpList Tryd.prog ops Q (o :: rest) a w :=
  wpList_plain hgd fun _ hK => srows_wp s x ho hs hx hv hu hl hb fun v' w' h1 h2 => hK _ _ (h v' w' h1 h2)
theorem Sr.lt {w : World} {base g : Nat} {v : Value} {L : List ByteArray} (h : Sr w base v L) (hg : v.ownBlock = some g) : base ≤ g := (World.ownsRow.lt h g hg).1
theorem cond_atoms {t : TestT} (h : testOk t = true) (hB : TestB t) : ∀ r ∈ t.cond.any, ∀ x ∈ r, atomOk x = true ∧ B64 x.t ∧ B64 x.v := by
  intro r hr x hx
  unfold testOk at h
  simp only [Bool.and_eq_true] at h
  have h4 := h.2
  unfold condOk at h4
  split at h4
  · have : t.cond.any.length = 0 := by simpa using h4
    rw [List.eq_nil_of_length_eq_zero this] at hr
    simp at hr
  · split at h4
    · rw [Bool.and_eq_true, List.all_eq_true] at h4
      have h5 := h4.2 r hr
      unfold rowOk at h5
      rw [Bool.and_eq_true, List.all_eq_true] at h5
      exact ⟨h5.2 x hx, hB.any r hr x hx⟩
    · cases h4
theorem thr_len (T : List (List InsT)) (h : ∀ L ∈ T, L.length ≤ 1000) : (T.flatMap (blockTk xThr insTk)).length ≤ 10003 * T.length := by
  induction T with
  | nil => simp
  | cons L T ih =>
    have h1 := blkIns_lens L
    have h2 := h L (by simp)
    have h3 := ih (fun L' hL' => h L' (by simp [hL']))
    rw [List.flatMap_cons, List.length_append, List.length_cons]
    have h4 : (blockTk xThr insTk L).length = 3 + (L.flatMap insTk).length := by
      unfold blockTk
      simp
      omega
    omega
set_option maxHeartbeats 4000000 in
set_option maxRecDepth 8000 in
theorem testTokens_is (t : TestT) (a1 a2 a3 : Option Addr) (c1 c2 c3 : Nat) (w : World) (lw : Lw w) (r1 : Rd iniC 2 w (.slice a1 t.ini.length c1) t.ini) (r2 : Rd2 insC 9 w (.slice a2 t.thr.length c2) t.thr) (r3 : Rd2 atomC 4 w (.slice a3 t.cond.any.length c3) t.cond.any) (hok : testOk t = true) (hB : TestB t) :
    Calls Tryd.prog 24 #[.agg #[.string t.name, .slice a1 t.ini.length c1, .slice a2 t.thr.length c2, .int .i64 t.cond.k, .slice a3 t.cond.any.length c3]] w fun e w' => ∃ v, e = .returned v ∧ Sr w' w.heap.size v (testTk t) ∧ On w w' := by
  have hatoms := cond_atoms hok hB
  have hok2 := hok
  unfold testOk at hok2
  simp only [Bool.and_eq_true, List.all_eq_true] at hok2
  obtain ⟨⟨⟨_, o2⟩, o3⟩, _⟩ := hok2
  have hI := fun W (k : On w W) => blkIni_is xIni t.ini a1 c1 W (r1.on k) (fun x hx => ⟨o2 x hx, hB.ini x hx⟩) (by have := hB.l1; omega)
  have HT : Hid (∀ L ∈ t.thr, ∀ a c W, On w W → Rd insC 9 W (.slice a L.length c) L → Calls Tryd.prog 51 #[.string xThr, .slice a L.length c, .func (.func 43) #[] #[]] W fun e w' => ∃ v, e = .returned v ∧ Sr w' W.heap.size v (blockTk xThr insTk L) ∧ On W w') := fun L hL a c W k hR => by
    refine blkIns_is xThr L a c W (lw.on k) hR (fun x hx => ⟨?_, hB.thr L hL x hx⟩) (by have := hB.l3 L hL; omega)
    have := o3 L hL
    unfold threadOk at this
    rw [List.all_eq_true] at this
    exact this x hx
  have hC := fun W (k : On w W) => condTokens_is t.cond a3 c3 W (r3.on k) hatoms hB.l4 hB.l5
  have HR2 : Hid (Rd2 insC 9 w (.slice a2 t.thr.length c2) t.thr) := r2
  have n1 := hB.l1
  have n2 := hB.l2
  have HN3 : Hid (∀ L ∈ t.thr, L.length ≤ 1000) := hB.l3
  have n4 := any_len t.cond.any (if t.cond.k == 1 then xEx else xFa) hB.l5
  have n5 : (condTk t.cond).length ≤ 6000001 := by
    unfold condTk
    have := hB.l4
    split
    · simp
    · rw [List.length_append, List.length_cons, List.length_nil]
      omega
  have n6 : (blockTk xIni iniTk t.ini).length ≤ 100000 := by
    have := blkIni_lens t.ini
    unfold blockTk
    simp only [List.length_append, List.length_cons, List.length_nil]
    omega
  clear n4
  have bk : ∀ cs T, Bk (w.alloc (.cells cs T)) w.heap.size cs := fun cs T => Bk.new w cs T
  have hcap : t.thr.length ≤ 9223372036854775807 := by omega
  obtain ⟨RES, hRES⟩ : ∃ RES, RES = testTk t := ⟨_, rfl⟩
  rw [← hRES]
  have HRES : Hid (RES = ([xTst, t.name, xOp] ++ (if 0 < t.ini.length then blockTk xIni iniTk t.ini else [])) ++ t.thr.flatMap (blockTk xThr insTk) ++ condTk t.cond ++ [xCl]) := hRES
  clear hRES r1 r2 r3 hok hB lw hatoms o2 o3
  generalize t.cond.any.length = m3 at *
  generalize condTk t.cond = CT at *
  generalize t.cond.k = kk at *
  generalize t.thr = TH at *
  generalize blockTk xIni iniTk t.ini = BI at *
  generalize t.ini.length = m1 at *
  generalize t.name = nm at *
  have B0 := bk #[.string nm, .slice a1 m1 c1, .slice a2 TH.length c2, .int .i64 kk, .slice a3 m3 c3] 29
  obtain ⟨W0, hW0⟩ : ∃ W0, W0 = w.alloc (.cells #[.string nm, .slice a1 m1 c1, .slice a2 TH.length c2, .int .i64 kk, .slice a3 m3 c3] 29) := ⟨_, rfl⟩
  have k0 : On w W0 := by rw [hW0]; exact (On.refl w).alloc _
  rw [← hW0] at B0
  have hs0 : W0.heap.size = w.heap.size + 1 := by rw [hW0, World.size_alloc]
  have R0 : Sr (W0.alloc (.cells #[.string ⟨#[116, 101, 115, 116]⟩, .string nm, .string ⟨#[123]⟩] 9)) (w.heap.size + 1) (.slice (some ⟨W0.heap.size, 0, none⟩) 3 3) [xTst, nm, xOp] := Sr.new W0 [xTst, nm, xOp] (w.heap.size + 1) (by omega) (by simp)
  rw [hs0] at R0
  have HW0 : Hid (W0 = w.alloc (.cells #[.string nm, .slice a1 m1 c1, .slice a2 TH.length c2, .int .i64 kk, .slice a3 m3 c3] 29)) := hW0
  obtain ⟨W1, hW1⟩ : ∃ W1, W1 = W0.alloc (.cells #[.string ⟨#[116, 101, 115, 116]⟩, .string nm, .string ⟨#[123]⟩] 9) := ⟨_, rfl⟩
  have K1 : On w W1 := by rw [hW1]; exact k0.alloc _
  have B1 : Bk W1 w.heap.size #[.string nm, .slice a1 m1 c1, .slice a2 TH.length c2, .int .i64 kk, .slice a3 m3 c3] := by rw [hW1]; exact B0.alloc _
  rw [← hW1] at R0
  have HW1 : Hid (W1 = W0.alloc (.cells #[.string ⟨#[116, 101, 115, 116]⟩, .string nm, .string ⟨#[123]⟩] 9)) := hW1
  have x0 := B0.at (i := 0) rfl
  have s0 := B0.lt
  have x1 := B1.at (i := 1) rfl
  have s1 := B1.lt
  clear hW0 hW1 bk k0
  by_cases hm : 0 < m1
  · have hmd : decide (0 < m1) = true := decide_eq_true hm
    have HX0 : Hid (RES = [xTst, nm, xOp] ++ BI ++ TH.flatMap (blockTk xThr insTk) ++ CT ++ [xCl]) := by
      show RES = _
      rw [HRES.out, if_pos hm]
    clear HRES
    go_enter Tryd.func24, Tryd.ntmps24
    go_wp2_with (fail)
    rw [← HW0.out, ← HW1.out]
    clear HW0 HW1 x0 s0
    refine (hI _ K1).mono ?_
    rintro _ w2 ⟨v2, rfl, r2, k2⟩
    have R2 := R0.on k2
    have hs2 : w.heap.size + 1 ≤ w2.heap.size := by have := k2.size; have := B1.lt; omega
    have hlt2 : ∀ q, (Value.slice (some ⟨w.heap.size + 1, 0, none⟩) 3 3).ownBlock = some q → w.heap.size + 1 ≤ q := fun q hq => R2.lt hq
    go_wp2_with (at_builtin; refine srows_list rfl _ _ rfl rfl rfl R2 r2 (by simp only [List.length_cons, List.length_nil]; omega) hs2 ?_)
    intro v3 w3 r3 g3
    have KK : On w w3 := (K1.trans k2).grown g3 (fun q hq => by have := hlt2 q hq; omega)
    have BB : Bk w3 w.heap.size #[.string nm, .slice a1 m1 c1, .slice a2 TH.length c2, .int .i64 kk, .slice a3 m3 c3] := (B1.on k2).grown g3 (Nat.lt_succ_self _) hlt2
    obtain ⟨XX, hXX⟩ : ∃ XX, XX = [xTst, nm, xOp] ++ BI := ⟨_, rfl⟩
    have hxl : XX.length ≤ 200000 := by rw [hXX, List.length_append]; simp only [List.length_cons, List.length_nil]; omega
    have RR : Sr w3 (w.heap.size + 1) v3 XX := by rw [hXX]; exact r3
    rw [← hXX] at HX0
    have HX : Hid (RES = (XX ++ TH.flatMap (blockTk xThr insTk)) ++ CT ++ [xCl]) := HX0
    clear hXX HX0 r3 g3 R2 r2 hI R0 B1 K1 k2 x1 s1
    have x2 := BB.at (i := 2) rfl
    have s2 := BB.lt
    go_wp2
    clear x2 s2
    go_loopg [3, 21] TH.length (fun gg s3 s21 wr => ∃ n : Nat, n ≤ TH.length ∧ gg = TH.length - n ∧ s21 = .int .i64 n ∧ Hid (On w wr) ∧ Hid (Bk wr w.heap.size #[.string nm, .slice a1 m1 c1, .slice a2 TH.length c2, .int .i64 kk, .slice a3 m3 c3]) ∧ w.heap.size + 1 ≤ wr.heap.size ∧ Hid (Sr wr (w.heap.size + 1) s3 (XX ++ (TH.take n).flatMap (blockTk xThr insTk))))
    case atStart => exact ⟨0, Nat.zero_le _, rfl, rfl, KK, BB, BB.lt, (by show Sr _ _ _ _; simpa using RR)⟩
    case round =>
      clear KK BB RR
      obtain ⟨n, hn, hk, rfl, HO, HB, hs, HR⟩ := hrel
      rcases Nat.lt_or_ge n TH.length with hlt | hge
      · obtain ⟨L, hL⟩ : ∃ L, TH[n]? = some L := ⟨_, List.getElem?_eq_getElem hlt⟩
        have hLm := List.mem_of_getElem? hL
        obtain ⟨g, off, hga, hg, ax, cx, hcx, _, hrx⟩ := (HR2.out.on HO.out).row hL
        subst hga
        have hT := HT.out L hLm ax cx wr HO.out hrx
        have hlen := HN3.out L hLm
        have hl1 := blkIns_lens L
        have hl2 := thr_len (TH.take n) (fun L' hL' => HN3.out L' (List.mem_of_mem_take hL'))
        have hl3 : (blockTk xThr insTk L).length ≤ 20000 := by unfold blockTk; simp only [List.length_append, List.length_cons, List.length_nil]; omega
        have hl4 : (TH.take n).length ≤ 1000 := by rw [List.length_take]; omega
        have HNX : Hid ((TH.take (n + 1)).flatMap (blockTk xThr insTk) = (TH.take n).flatMap (blockTk xThr insTk) ++ blockTk xThr insTk L) := take_next (blockTk xThr insTk) hL
        clear hrx hL hLm hl1
        generalize blockTk xThr insTk L = BT at *
        obtain ⟨PX, hPX⟩ : ∃ PX, PX = XX ++ (TH.take n).flatMap (blockTk xThr insTk) := ⟨_, rfl⟩
        have hpl : PX.length ≤ 20000000 := by rw [hPX, List.length_append]; omega
        rw [← hPX] at HR
        have HPX : Hid (PX = XX ++ (TH.take n).flatMap (blockTk xThr insTk)) := hPX
        clear hPX hl2 hl4
        generalize L.length = ll at *
        go_wp2_with fail
        refine hT.mono ?_
        rintro _ w3 ⟨v3, rfl, r3, k3⟩
        have R3 := HR.out.on k3
        have hs3 : w.heap.size + 1 ≤ w3.heap.size := Nat.le_trans hs k3.size
        have hlt3 : ∀ q, u3.ownBlock = some q → w.heap.size + 1 ≤ q := fun q hq => R3.lt hq
        clear hT hcx
        go_wp2_with (at_builtin; refine srows_list rfl _ _ rfl rfl rfl R3 r3 (by omega) hs3 ?_)
        intro v4 w4 r4 g4
        have HO4 : Hid (On w w4) := (HO.out.trans k3).grown g4 (fun q hq => by have := hlt3 q hq; omega)
        have HB4 : Hid (Bk w4 w.heap.size _) := (HB.out.on k3).grown g4 (Nat.lt_succ_self _) hlt3
        have hs4 : w.heap.size + 1 ≤ w4.heap.size := Nat.le_trans hs3 g4.size
        have HR4 : Hid (Sr w4 (w.heap.size + 1) v4 (XX ++ (TH.take (n + 1)).flatMap (blockTk xThr insTk))) := by rw [HNX.out, ← List.append_assoc, ← HPX.out]; exact r4
        clear r4 g4 R3 r3 HO HB HR k3
        go_wp2
        go_roundg (TH.length - (n + 1))
        case measure => omega
        case rel => exact ⟨n + 1, hlt, rfl, by congr 1, HO4, HB4, hs4, HR4⟩
      · have hl2 := thr_len TH HN3.out
        have hcc := hC wr HO.out
        have x3 := HB.out.at (i := 3) rfl
        have x4 := HB.out.at (i := 4) rfl
        have s3 := HB.out.lt
        rw [List.take_of_length_le hge] at HR
        obtain ⟨PX, hPX⟩ : ∃ PX, PX = XX ++ TH.flatMap (blockTk xThr insTk) := ⟨_, rfl⟩
        have hpl : PX.length ≤ 20000000 := by rw [hPX, List.length_append]; omega
        rw [← hPX] at HR HX
        clear hPX hl2 HB
        go_wp2_with fail
        refine hcc.mono ?_
        rintro _ w3 ⟨v3, rfl, r3, k3⟩
        have R3 := HR.out.on k3
        have hs3 : w.heap.size + 1 ≤ w3.heap.size := Nat.le_trans hs k3.size
        have hlt3 : ∀ q, u3.ownBlock = some q → w.heap.size + 1 ≤ q := fun q hq => R3.lt hq
        clear hcc x3 x4 s3
        go_wp2_with (at_builtin; refine srows_list rfl _ _ rfl rfl rfl R3 r3 (by omega) hs3 ?_)
        intro v4 w4 r4 g4
        have K4 : On w w4 := (HO.out.trans k3).grown g4 (fun q hq => by have := hlt3 q hq; omega)
        have hs4 : w.heap.size + 1 ≤ w4.heap.size := Nat.le_trans hs3 g4.size
        have R4 := r4.on ((On.refl w4).alloc (.cells #[.string ⟨#[125]⟩] 9))
        have rc : Sr (w4.alloc (.cells #[.string ⟨#[125]⟩] 9)) 0 (.slice (some ⟨w4.heap.size, 0, none⟩) 1 1) [xCl] := Sr.new w4 [xCl] 0 (Nat.zero_le _) (by simp)
        have hlt4 : ∀ q, v4.ownBlock = some q → w.heap.size + 1 ≤ q := fun q hq => r4.lt hq
        have hl5 : (PX ++ CT).length ≤ 30000000 := by rw [List.length_append]; omega
        have hs5 : w.heap.size + 1 ≤ (w4.alloc (.cells #[.string ⟨#[125]⟩] 9)).heap.size := by rw [World.size_alloc]; omega
        clear r4 g4 R3 r3 HR k3 hpl
        generalize PX ++ CT = PC at *
        go_wp2_with (at_builtin; refine srows_list rfl _ _ rfl rfl rfl R4 rc (by rw [List.length_cons, List.length_nil]; omega) hs5 ?_)
        intro v5 w5 r5 g5
        have K5 : On w w5 := (K4.alloc _).grown g5 (fun q hq => by have := hlt4 q hq; omega)
        have HR5 : Hid (Sr w5 w.heap.size v5 RES) := by
          show Sr w5 w.heap.size v5 RES
          rw [HX.out]
          exact own_mono r5 (Nat.le_succ _)
        clear r5 g5 R4 rc
        go_wp2
        go_ret
        exact ⟨v5, rfl, HR5.out, K5⟩
  · have hmd : decide (0 < m1) = false := decide_eq_false hm
    have HX0 : Hid (RES = [xTst, nm, xOp] ++ TH.flatMap (blockTk xThr insTk) ++ CT ++ [xCl]) := by
      show RES = _
      rw [HRES.out, if_neg hm, List.append_nil]
    clear HRES
    obtain ⟨XX, hXX⟩ : ∃ XX, XX = [xTst, nm, xOp] := ⟨_, rfl⟩
    have hxl : XX.length ≤ 200000 := by rw [hXX]; simp only [List.length_cons, List.length_nil]; omega
    rw [← hXX] at HX0 R0
    have HX : Hid (RES = (XX ++ TH.flatMap (blockTk xThr insTk)) ++ CT ++ [xCl]) := HX0
    have KK := K1
    have BB := B1
    have RR := R0
    have x2' := B1.at (i := 2) rfl
    clear hXX HX0 hI R0 B1 K1
    go_enter Tryd.func24, Tryd.ntmps24
    have x2 := BB.at (i := 2) rfl
    have s2 := BB.lt
    go_wp2
    rw [← HW0.out, ← HW1.out]
    clear x2 s2 x0 s0 x1 s1 HW0 HW1
    go_loopg [3, 21] TH.length (fun gg s3 s21 wr => ∃ n : Nat, n ≤ TH.length ∧ gg = TH.length - n ∧ s21 = .int .i64 n ∧ Hid (On w wr) ∧ Hid (Bk wr w.heap.size #[.string nm, .slice a1 m1 c1, .slice a2 TH.length c2, .int .i64 kk, .slice a3 m3 c3]) ∧ w.heap.size + 1 ≤ wr.heap.size ∧ Hid (Sr wr (w.heap.size + 1) s3 (XX ++ (TH.take n).flatMap (blockTk xThr insTk))))
    case atStart => exact ⟨0, Nat.zero_le _, rfl, rfl, KK, BB, BB.lt, (by show Sr _ _ _ _; simpa using RR)⟩
    case round =>
      clear KK BB RR
      obtain ⟨n, hn, hk, rfl, HO, HB, hs, HR⟩ := hrel
      rcases Nat.lt_or_ge n TH.length with hlt | hge
      · obtain ⟨L, hL⟩ : ∃ L, TH[n]? = some L := ⟨_, List.getElem?_eq_getElem hlt⟩
        have hLm := List.mem_of_getElem? hL
        obtain ⟨g, off, hga, hg, ax, cx, hcx, _, hrx⟩ := (HR2.out.on HO.out).row hL
        subst hga
        have hT := HT.out L hLm ax cx wr HO.out hrx
        have hlen := HN3.out L hLm
        have hl1 := blkIns_lens L
        have hl2 := thr_len (TH.take n) (fun L' hL' => HN3.out L' (List.mem_of_mem_take hL'))
        have hl3 : (blockTk xThr insTk L).length ≤ 20000 := by unfold blockTk; simp only [List.length_append, List.length_cons, List.length_nil]; omega
        have hl4 : (TH.take n).length ≤ 1000 := by rw [List.length_take]; omega
        have HNX : Hid ((TH.take (n + 1)).flatMap (blockTk xThr insTk) = (TH.take n).flatMap (blockTk xThr insTk) ++ blockTk xThr insTk L) := take_next (blockTk xThr insTk) hL
        clear hrx hL hLm hl1
        generalize blockTk xThr insTk L = BT at *
        obtain ⟨PX, hPX⟩ : ∃ PX, PX = XX ++ (TH.take n).flatMap (blockTk xThr insTk) := ⟨_, rfl⟩
        have hpl : PX.length ≤ 20000000 := by rw [hPX, List.length_append]; omega
        rw [← hPX] at HR
        have HPX : Hid (PX = XX ++ (TH.take n).flatMap (blockTk xThr insTk)) := hPX
        clear hPX hl2 hl4
        generalize L.length = ll at *
        go_wp2_with fail
        refine hT.mono ?_
        rintro _ w3 ⟨v3, rfl, r3, k3⟩
        have R3 := HR.out.on k3
        have hs3 : w.heap.size + 1 ≤ w3.heap.size := Nat.le_trans hs k3.size
        have hlt3 : ∀ q, u3.ownBlock = some q → w.heap.size + 1 ≤ q := fun q hq => R3.lt hq
        clear hT hcx
        go_wp2_with (at_builtin; refine srows_list rfl _ _ rfl rfl rfl R3 r3 (by omega) hs3 ?_)
        intro v4 w4 r4 g4
        have HO4 : Hid (On w w4) := (HO.out.trans k3).grown g4 (fun q hq => by have := hlt3 q hq; omega)
        have HB4 : Hid (Bk w4 w.heap.size _) := (HB.out.on k3).grown g4 (Nat.lt_succ_self _) hlt3
        have hs4 : w.heap.size + 1 ≤ w4.heap.size := Nat.le_trans hs3 g4.size
        have HR4 : Hid (Sr w4 (w.heap.size + 1) v4 (XX ++ (TH.take (n + 1)).flatMap (blockTk xThr insTk))) := by rw [HNX.out, ← List.append_assoc, ← HPX.out]; exact r4
        clear r4 g4 R3 r3 HO HB HR k3
        go_wp2
        go_roundg (TH.length - (n + 1))
        case measure => omega
        case rel => exact ⟨n + 1, hlt, rfl, by congr 1, HO4, HB4, hs4, HR4⟩
      · have hl2 := thr_len TH HN3.out
        have hcc := hC wr HO.out
        have x3 := HB.out.at (i := 3) rfl
        have x4 := HB.out.at (i := 4) rfl
        have s3 := HB.out.lt
        rw [List.take_of_length_le hge] at HR
        obtain ⟨PX, hPX⟩ : ∃ PX, PX = XX ++ TH.flatMap (blockTk xThr insTk) := ⟨_, rfl⟩
        have hpl : PX.length ≤ 20000000 := by rw [hPX, List.length_append]; omega
        rw [← hPX] at HR HX
        clear hPX hl2 HB
        go_wp2_with fail
        refine hcc.mono ?_
        rintro _ w3 ⟨v3, rfl, r3, k3⟩
        have R3 := HR.out.on k3
        have hs3 : w.heap.size + 1 ≤ w3.heap.size := Nat.le_trans hs k3.size
        have hlt3 : ∀ q, u3.ownBlock = some q → w.heap.size + 1 ≤ q := fun q hq => R3.lt hq
        clear hcc x3 x4 s3
        go_wp2_with (at_builtin; refine srows_list rfl _ _ rfl rfl rfl R3 r3 (by omega) hs3 ?_)
        intro v4 w4 r4 g4
        have K4 : On w w4 := (HO.out.trans k3).grown g4 (fun q hq => by have := hlt3 q hq; omega)
        have hs4 : w.heap.size + 1 ≤ w4.heap.size := Nat.le_trans hs3 g4.size
        have R4 := r4.on ((On.refl w4).alloc (.cells #[.string ⟨#[125]⟩] 9))
        have rc : Sr (w4.alloc (.cells #[.string ⟨#[125]⟩] 9)) 0 (.slice (some ⟨w4.heap.size, 0, none⟩) 1 1) [xCl] := Sr.new w4 [xCl] 0 (Nat.zero_le _) (by simp)
        have hlt4 : ∀ q, v4.ownBlock = some q → w.heap.size + 1 ≤ q := fun q hq => r4.lt hq
        have hl5 : (PX ++ CT).length ≤ 30000000 := by rw [List.length_append]; omega
        have hs5 : w.heap.size + 1 ≤ (w4.alloc (.cells #[.string ⟨#[125]⟩] 9)).heap.size := by rw [World.size_alloc]; omega
        clear r4 g4 R3 r3 HR k3 hpl
        generalize PX ++ CT = PC at *
        go_wp2_with (at_builtin; refine srows_list rfl _ _ rfl rfl rfl R4 rc (by rw [List.length_cons, List.length_nil]; omega) hs5 ?_)
        intro v5 w5 r5 g5
        have K5 : On w w5 := (K4.alloc _).grown g5 (fun q hq => by have := hlt4 q hq; omega)
        have HR5 : Hid (Sr w5 w.heap.size v5 RES) := by
          show Sr w5 w.heap.size v5 RES
          rw [HX.out]
          exact own_mono r5 (Nat.le_succ _)
        clear r5 g5 R4 rc
        go_wp2
        go_ret
        exact ⟨v5, rfl, HR5.out, K5⟩
theorem gap_is (s : ByteArray) (w : World) : Calls Tryd.prog 27 #[.string s] w fun e w' => e = .returned (.int .u8 (gapB s).toNat) ∧ w' = w := by
  have e0 : s.toList = s.data.toList := ByteArray.toList_eq s
  have eg : gapB s = if endTk s then 10 else 32 := rfl
  have ee : endTk s = (s.toList == [123] || s.toList == [59] || s.toList == [125]) := by rw [e0]; rfl
  rw [eg, ee]
  clear e0 eg ee
  cases b1 : s.toList == [123] with
  | true =>
    go_enter Tryd.func27, Tryd.ntmps27
    go_wp2
    go_ret
    exact ⟨rfl, rfl⟩
  | false =>
    cases b2 : s.toList == [59] with
    | true =>
      go_enter Tryd.func27, Tryd.ntmps27
      go_wp2
      go_ret
      exact ⟨rfl, rfl⟩
    | false =>
      cases b3 : s.toList == [125] with
      | true =>
        go_enter Tryd.func27, Tryd.ntmps27
        go_wp2
        go_ret
        exact ⟨rfl, rfl⟩
      | false =>
        go_enter Tryd.func27, Tryd.ntmps27
        go_wp2
        go_ret
        exact ⟨rfl, rfl⟩
end Go.Proofs.YtlfeihgemdicfaaDoor
