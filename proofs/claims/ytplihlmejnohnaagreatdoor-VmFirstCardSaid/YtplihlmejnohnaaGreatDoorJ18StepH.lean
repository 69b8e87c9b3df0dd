/- Rows of a made test: what Small and others lay and keep. -/
import Derived.Test.YtplihlmejnohnaaGreatDoorJ17SmallB
import Derived.Test.YtplihlmejnohnaaGreatDoorJ16StepF
namespace Go.Proofs.YtplihlmejnohnaaGreatDoor
open Go.RowKit

theorem infoIns : (Tryz.prog.info? 107).map (fun i => (i.zero, i.size, i.bytes)) = some (some (.agg #[.int .i64 0, .int .i64 0, .int .i64 0, .int .i64 0, .int .i64 0, .int .i64 0, .int .i64 0, .int .i64 0, .int .i64 0]), 9, 72) := by kernel_rfl
theorem infoThr : (Tryz.prog.info? 117).map (fun i => (i.zero, i.size, i.bytes)) = some (some (.slice none 0 0), 1, 24) := by kernel_rfl
theorem infoInit : (Tryz.prog.info? 116).map (fun i => (i.zero, i.size, i.bytes)) = some (some (.agg #[.int .i64 0, .int .i64 0]), 2, 16) := by kernel_rfl
abbrev iniO (w : World) (base : Nat) (v : Value) (L : List InitT) : Prop := w.ownsRow base 116 2 v L.length (L.flatMap iniC)
theorem news_at (w : World) (cs : Array Value) (e : TypeId) : ∀ (j : Nat) (u : Value), cs.toList[j]? = some u → (w.alloc (.cells cs e)).cell? ((⟨w.heap.size, 0, none⟩ : Addr).add j) = some u := by
  intro j u hu
  rw [new_cell]
  exact hu
theorem one_ini (x y : Int) : ∀ u ∈ iniC ⟨x, y⟩, u.oneCell' = true := by
  intro u hu
  simp only [iniC, List.mem_cons, List.not_mem_nil, or_false] at hu
  rcases hu with rfl | rfl <;> rfl
theorem one_max : 0 + 1 ≤ maxLen := by decide
theorem one_bytes : (0 + 1) * 16 ≤ 140737488355328 := by decide
theorem base_alloc {b : Nat} {w : World} (h : b ≤ w.heap.size) (o : Obj) : b ≤ (w.alloc o).heap.size := by simp; omega
theorem own_set {w : World} {base k n N : Nat} {e : TypeId} {v : Value} {xs : List Value} (h : w.ownsRow base e k v n xs) (hN : N < base) (i : Nat) (u : Value) : (w.setCell ⟨N, i, none⟩ u).ownsRow base e k v n xs :=
  ownsRow_setCell_other h (fun hg => by have := (h.lt N hg).1; omega) u
theorem Own2.set {α : Type} {C : α → List Value} {k : Nat} {eo ei : TypeId} {w : World} {base N : Nat} {v : Value} {LL : List (List α)} (h : Own2 C k eo ei w base v LL) (hN : N < base) (i : Nat) (u : Value) : Own2 C k eo ei (w.setCell ⟨N, i, none⟩ u) base v LL := by
  obtain ⟨vs, h1, h2, h3⟩ := h
  exact ⟨vs, h1, own_set h2 hN i u, fun j x L a b => own_set (h3 j x L a b) hN i u⟩
theorem own_puts {base k n N : Nat} {e : TypeId} {v : Value} {xs : List Value} : ∀ (vs : List Value) (w : World) (o : Nat), w.ownsRow base e k v n xs → N < base → (putCells w N o vs).ownsRow base e k v n xs
  | [], _, _, h, _ => h
  | u :: vs, _, o, h, hN => own_puts vs _ _ (own_set h hN o u) hN
theorem Own2.puts {α : Type} {C : α → List Value} {k : Nat} {eo ei : TypeId} {base N : Nat} {v : Value} {LL : List (List α)} : ∀ (vs : List Value) (w : World) (o : Nat), Own2 C k eo ei w base v LL → N < base → Own2 C k eo ei (putCells w N o vs) base v LL
  | [], _, _, h, _ => h
  | u :: vs, _, o, h, hN => Own2.puts vs _ _ (h.set hN o u) hN
theorem one_slice (a : Option Addr) (m c : Nat) : ∀ u ∈ [Value.slice a m c], u.oneCell' = true := by
  intro u hu
  simp only [List.mem_cons, List.not_mem_nil, or_false] at hu
  subst hu
  rfl
theorem none_own {b : Nat} : ∀ g, (Value.slice none 0 0).ownBlock = some g → b ≤ g := fun g h => by cases h
theorem news_two (w : World) (o : Obj) (cs : Array Value) (e : TypeId) : ∀ (j : Nat) (u : Value), cs.toList[j]? = some u → ((w.alloc o).alloc (.cells cs e)).cell? ((⟨w.heap.size + 1, 0, none⟩ : Addr).add j) = some u := by
  intro j u hu
  have := new_cell (w.alloc o) cs e j
  rw [World.size_alloc] at this
  rw [this]
  exact hu
theorem one_ins (x : InsT) : ∀ u ∈ insC x, u.oneCell' = true := by
  intro u hu
  simp only [insC, List.mem_cons, List.not_mem_nil, or_false] at hu
  rcases hu with rfl | rfl | rfl | rfl | rfl | rfl | rfl | rfl | rfl <;> rfl
theorem one_ins2 (x y : InsT) : ∀ u ∈ insC x ++ insC y, u.oneCell' = true := by
  intro u hu
  rcases List.mem_append.1 hu with h | h
  · exact one_ins x u h
  · exact one_ins y u h
abbrev zIns : Value := .agg #[.int .i64 0, .int .i64 0, .int .i64 0, .int .i64 0, .int .i64 0, .int .i64 0, .int .i64 0, .int .i64 0, .int .i64 0]
abbrev anyO (w : World) (base : Nat) (v : Value) (LL : List (List AtomT)) : Prop := Own2 atomC 4 121 120 w base v LL
/-- v is this test, in rows of its own. -/
def TOwn (w : World) (base : Nat) (v : Value) (t : TestT) : Prop :=
  ∃ a1 c1 a2 c2 a3 c3, v = .agg #[.string t.name, .slice a1 t.ini.length c1, .slice a2 t.thr.length c2, .int .i64 t.cond.k, .slice a3 t.cond.any.length c3] ∧ iniO w base (.slice a1 t.ini.length c1) t.ini ∧ thrO w base (.slice a2 t.thr.length c2) t.thr ∧ anyO w base (.slice a3 t.cond.any.length c3) t.cond.any
theorem Own2.mono {α : Type} {C : α → List Value} {k : Nat} {eo ei : TypeId} {w : World} {base base' : Nat} {v : Value} {LL : List (List α)} (h : Own2 C k eo ei w base v LL) (hb : base' ≤ base) : Own2 C k eo ei w base' v LL := by
  obtain ⟨vs, h1, h2, h3⟩ := h
  exact ⟨vs, h1, own_mono h2 hb, fun i u L a b => own_mono (h3 i u L a b) hb⟩
theorem flat_len {α : Type} {C : α → List Value} {k : Nat} (hC : ∀ x, (C x).length = k) : ∀ L : List α, (L.flatMap C).length = L.length * k
  | [] => by simp
  | x :: L => by rw [List.flatMap_cons, List.length_append, hC, flat_len hC L, List.length_cons, Nat.succ_mul, Nat.add_comm]
theorem own_bk {α : Type} {C : α → List Value} {k : Nat} (hC : ∀ x, (C x).length = k) {w : World} {N base : Nat} {e : TypeId} {L : List α} (h : w.heap[N]? = some (.cells (L.flatMap C).toArray e (0, 0))) (hb : base ≤ N) (hm : L.length ≤ maxLen) : w.ownsRow base e k (.slice (some ⟨N, 0, none⟩) L.length L.length) L.length (L.flatMap C) := by
  have hl := flat_len hC L
  refine ⟨hl, Or.inr ⟨N, L.length, _, rfl, hb, h, Nat.le_refl _, hm, by simpa using hl, ?_⟩⟩
  rw [List.take_of_length_le (by simp [hl])]
theorem any_new (W : World) (n base : Nat) (hn : W.heap.size = n) (hb : base ≤ n) (R1 R2 : List AtomT) (h1 : R1.length ≤ maxLen) (h2 : R2.length ≤ maxLen) (eo ei : TypeId) :
    Own2 atomC 4 eo ei (((W.alloc (.cells (R1.flatMap atomC).toArray ei)).alloc (.cells (R2.flatMap atomC).toArray ei)).alloc (.cells #[.slice (some ⟨n, 0, none⟩) R1.length R1.length, .slice (some ⟨n + 1, 0, none⟩) R2.length R2.length] eo)) base (.slice (some ⟨n + 1 + 1, 0, none⟩) 2 2) [R1, R2] := by
  subst hn
  have a1 := own_bk (C := atomC) (k := 4) (fun _ => rfl) (base := base) (L := R1) (heap_alloc_new W (.cells (R1.flatMap atomC).toArray ei)) hb h1
  have a2 := own_bk (C := atomC) (k := 4) (fun _ => rfl) (base := base) (L := R2) (heap_alloc_new (W.alloc (.cells (R1.flatMap atomC).toArray ei)) (.cells (R2.flatMap atomC).toArray ei)) (by rw [World.size_alloc]; omega) h2
  rw [World.size_alloc] at a2
  have a3 := own_bk (C := oneC) (k := 1) (fun _ => rfl) (base := base) (L := [.slice (some ⟨W.heap.size, 0, none⟩) R1.length R1.length, .slice (some ⟨W.heap.size + 1, 0, none⟩) R2.length R2.length]) (heap_alloc_new ((W.alloc (.cells (R1.flatMap atomC).toArray ei)).alloc (.cells (R2.flatMap atomC).toArray ei)) (.cells #[.slice (some ⟨W.heap.size, 0, none⟩) R1.length R1.length, .slice (some ⟨W.heap.size + 1, 0, none⟩) R2.length R2.length] eo)) (by rw [World.size_alloc, World.size_alloc]; omega) (by show 2 ≤ maxLen; decide)
  rw [World.size_alloc, World.size_alloc] at a3
  refine ⟨[.slice (some ⟨W.heap.size, 0, none⟩) R1.length R1.length, .slice (some ⟨W.heap.size + 1, 0, none⟩) R2.length R2.length], rfl, a3, fun i u L hi hL => ?_⟩
  match i, hi, hL with
  | 0, hi, hL =>
    simp only [List.getElem?_cons_zero, Option.some.injEq] at hi hL
    subst hi; subst hL
    exact (a1.alloc _).alloc _
  | 1, hi, hL =>
    simp only [List.getElem?_cons_succ, List.getElem?_cons_zero, Option.some.injEq] at hi hL
    subst hi; subst hL
    exact a2.alloc _
  | i + 2, hi, _ => simp at hi
end Go.Proofs.YtplihlmejnohnaaGreatDoor

namespace Go.Proofs.YtplihlmejnohnaaGreatDoor
open Go.RowKit

set_option maxHeartbeats 8000000 in
set_option maxRecDepth 8000 in
theorem compile0_is (t : TestT) (LT : List UInt8) (hLT : lettersN (locsN t) = LT) (v : Value) (w : World) (lw : Lw w) (hd : Db w) (h : TestRd w v t) (hc : checkT t = 0) (hi : t.ini = []) (h26 : LT.length ≤ 26)
    (hl : ∀ L ∈ t.thr, L.length ≤ 1000000 ∧ ∀ x ∈ L, hasLocB x.k = true → 0 < LT.length) (h4 : t.thr.length ≤ 1000) :
    Calls Tryz.prog 56 #[v] w fun e w' => ∃ pv, e = .returned (.tuple #[pv, .int .i64 0]) ∧ ProgRd w' pv (t.thr.map (placedP LT)) ∧ On w w' := by
  obtain ⟨i0, hi0, hz0, hz1, hz2⟩ := info_parts infoThr
  have hC := fun W (k : On w W) => check_is t v W (lw.on k) (h.on k)
  have hO := fun W (k : On w W) => locs_is t v W (hd.on k) (h.on k)
  rw [hc] at hC
  rw [hLT] at hO
  obtain ⟨a1, c1, a2, c2, a3, c3, rfl, hnm, r1, r2, r3⟩ := h.ex
  rw [hi] at r1 hC hO ⊢
  have R2 : Hid (Rd2 insC 9 w (.slice a2 t.thr.length c2) t.thr) := r2
  have HL : Hid (∀ L ∈ t.thr, L.length ≤ 1000000 ∧ ∀ x ∈ L, hasLocB x.k = true → 0 < LT.length) := hl
  clear h r1 r2 r3 hnm hl lw hd hc hLT
  have hB := fun al cl W => beg0_is LT.length al a1 cl c1 W h26
  have k0 : ∀ A B, On w ((w.alloc A).alloc B) := fun A B => ((On.refl w).alloc A).alloc B
  have bt : ∀ cs T B, Bk ((w.alloc (.cells cs T)).alloc B) w.heap.size cs := fun cs T B => (Bk.new w cs T).alloc B
  have br : ∀ A cs T, Bk ((w.alloc A).alloc (.cells cs T)) (w.heap.size + 1) cs := fun A cs T => by have := Bk.new (w.alloc A) cs T; rwa [World.size_alloc] at this
  generalize t.name = nm at *
  generalize t.cond.k = kk at *
  generalize t.cond.any.length = m3 at *
  generalize t.thr = TT at *
  simp only [List.length_nil] at hC hO ⊢
  go_enter Tryz.func56, Tryz.ntmps56
  go_wp2_with fail
  refine (hC _ (k0 _ _)).mono ?_
  rintro e w1 ⟨rfl, k1⟩
  have T1 := (bt _ _ _).on k1
  have Z1 := (br _ _ _).on k1
  have K1 : Hid (On w w1) := (k0 _ _).trans k1
  have x0 := T1.at (i := 0) rfl
  have x1 := T1.at (i := 1) rfl
  have x2 := T1.at (i := 2) rfl
  have x3 := T1.at (i := 3) rfl
  have x4 := T1.at (i := 4) rfl
  have xl := T1.lt
  clear hC k1 bt br k0
  go_wp2_with fail
  refine (hO _ K1.out).mono ?_
  rintro e w2 ⟨al, cl, rfl, ho, k2⟩
  have T2 := T1.on k2
  have Z2 := Z1.on k2
  have K2 : Hid (On w w2) := K1.out.trans k2
  have B2 : Hid (Rd byteC 1 w2 (.slice al LT.length cl) LT) := rd_bytes ho
  clear hO k2 ho K1 T1 Z1 x0 x1 x2 x3 x4 xl
  have x1 := T2.at (i := 1) rfl
  have xl := T2.lt
  go_wp2_with fail
  refine (hB al cl w2).mono ?_
  rintro e w3 ⟨ai, mi, ci, rfl, k3⟩
  have T3 := T2.on k3
  have Z3 := Z2.on k3
  have K3 : Hid (On w w3) := K2.out.trans k3
  have B3 : Hid (Rd byteC 1 w3 (.slice al LT.length cl) LT) := B2.out.on k3
  clear hB k3 B2 K2 T2 Z2 x1 xl
  have x2 := T3.at (i := 2) rfl
  have xl := T3.lt
  have zl := Z3.lt
  have hPn : ∀ cs T, Bk (w3.alloc (.cells cs T)) w3.heap.size cs := fun cs T => Bk.new w3 cs T
  go_wp2
  clear x2
  go_loopg [26] TT.length (fun gg s26 wq => ∃ (n : Nat) (a : Option Addr) (c : Nat), n ≤ TT.length ∧ gg = TT.length - n ∧ s26 = .int .i64 n ∧ Hid (On w3 wq) ∧ Bk wq w3.heap.size #[.slice al LT.length cl, .slice ai mi ci, .slice a n c] ∧ Hid (Own2 insC 9 117 107 wq (w3.heap.size + 1) (.slice a n c) ((TT.take n).map (placedP LT))))
  case atStart => exact ⟨0, none, 0, Nat.zero_le _, rfl, rfl, (On.refl w3).alloc _, hPn _ _, Own2.nil _ _ _ _ _ _⟩
  case round =>
    clear hPn
    obtain ⟨n, a, c, hn, hk, rfl, HO, PB, HW⟩ := hrel
    have pl := PB.lt
    rcases Nat.lt_or_ge n TT.length with hlt | hge
    · obtain ⟨x, hx⟩ : ∃ x, TT[n]? = some x := ⟨_, List.getElem?_eq_getElem hlt⟩
      obtain ⟨g, off, rfl, hg, ax, cx, v0, hxm, rx⟩ := (R2.out.on (K3.out.trans HO.out)).row hx
      obtain ⟨hx6, hxl⟩ := HL.out x (List.mem_of_getElem? hx)
      have hP := placed_is LT x ax cx al cl wr.drew (rx.on (On.refl wr).drew) (B3.out.on (HO.out.drew)) hx6 hxl
      have HX : Hid ((TT.take n).map (placedP LT) ++ [placedP LT x] = (TT.take (n + 1)).map (placedP LT)) := by
        show _ = _
        rw [List.take_add_one, hx]
        simp
      have hS : ∀ W, On wr.drew W → W.cell? ⟨w3.heap.size, 2, none⟩ = some (.slice a n c) := fun W k => (PB.on (show On wr W from (On.refl wr).drew.trans k)).at (i := 2) rfl
      have hS0 : wr.cell? ⟨w3.heap.size, 2, none⟩ = some (.slice a n c) := PB.at (i := 2) rfl
      have hpx : (placedP LT x).length = x.length := by unfold placedP; simp
      clear hx rx
      go_wp2
      clear v0
      refine region_fin (fun W => W.cell? ⟨w3.heap.size, 2, none⟩ = some (.slice a n c)) 8 9 (by kernel_rfl) rfl ?_
      refine fin_take 0 (v := ?_) rfl (by kernel_rfl) (by kernel_rfl) (by kernel_rfl) (by kernel_rfl) (fun _ _ _ h => h) rfl ?_ (hS _ (On.refl _)) ?_
      rotate_left
      · intro W hW
        go_simp
        (try with_reducible rfl)
      simp only [Act.put, List.setIfInBounds_toArray, List.set_cons_zero, List.set_cons_succ]
      refine fin_take 1 (v := ?_) rfl (by kernel_rfl) (by kernel_rfl) (by kernel_rfl) (by kernel_rfl) (fun _ _ _ h => h) rfl ?_ (hS _ (On.refl _)) ?_
      rotate_left
      · intro W hW
        go_simp
        (try with_reducible rfl)
      simp only [Act.put, List.setIfInBounds_toArray, List.set_cons_zero, List.set_cons_succ]
      refine fin_take 2 (v := ?_) rfl (by kernel_rfl) (by kernel_rfl) (by kernel_rfl) (by kernel_rfl) (fun _ _ _ h => h) rfl ?_ (hS _ (On.refl _)) ?_
      rotate_left
      · intro W hW
        go_simp
        (try with_reducible rfl)
      simp only [Act.put, List.setIfInBounds_toArray, List.set_cons_zero, List.set_cons_succ]
      refine fin_take 3 (v := ?_) rfl (by kernel_rfl) (by kernel_rfl) (by kernel_rfl) (by kernel_rfl) (fun _ _ _ h => h) rfl ?_ (hS _ (On.refl _)) ?_
      rotate_left
      · intro W hW
        go_simp
        (try with_reducible rfl)
      simp only [Act.put, List.setIfInBounds_toArray, List.set_cons_zero, List.set_cons_succ]
      refine fin_one 4 rfl rfl (by kernel_rfl) (fun K hK => ?_)
      go_simp
      refine hP.mono ?_
      rintro e w4 ⟨au, cu, rfl, hu, k4⟩
      have hS4 := hS w4 k4
      have hS5 := hS _ (k4.alloc (.cells #[.slice au x.length cu] 117))
      have k4' : On wr w4 := (On.refl wr).drew.trans k4
      refine hK.out _ _ (fun _ => hS4) ?_
      clear hK
      refine fin_one 5 rfl rfl (by kernel_rfl) (fun K hK => ?_)
      go_simp
      refine hK.out _ _ (fun _ => hS5) ?_
      clear hK
      obtain ⟨vs, hvl, hov, hin⟩ := HW.out
      have hvn : ((TT.take n).map (placedP LT)).length = n := by simp; omega
      rw [hvn] at hov hvl
      have own4 := own_on hov (k4'.alloc (.cells #[.slice au x.length cu] 117))
      refine fin_one 6 rfl rfl (by kernel_rfl) (fun K hK => ?_)
      refine wp_append_own _ (.tmp 31) (.tmp 35) 25 rfl (w3.heap.size + 1) 117 i0 (.slice none 0 0) 1 24 Tryz.underlying25 hi0 hz0 hz1 hz2 rfl (by decide) (.slice a n c) n vs rfl own4 ⟨w4.heap.size, 0, none⟩ 1 1 [.slice au x.length cu] rfl rfl (news_at w4 _ _) (one_slice _ _ _) (by unfold maxLen; omega) (by omega) (by simp only [World.size_alloc]; have := k4'.size; omega) ?_
      intro v' w5 hown5 hg5 _
      obtain ⟨a', c', rfl⟩ := own_slice hown5
      have blk : ∀ b, (Value.slice a n c).ownBlock = some b → w3.heap.size + 1 ≤ b := fun b hb => (hov.lt b hb).1
      have PB5 : Bk w5 w3.heap.size _ := ((PB.on k4').alloc (.cells #[.slice au x.length cu] 117)).grown hg5 (Nat.lt_succ_self _) blk
      have O5 : On w3 w5 := ((HO.out.trans k4').alloc (.cells #[.slice au x.length cu] 117)).grown hg5 (fun b hb => Nat.le_of_succ_le (blk b hb))
      have hS6 := PB5.at (i := 2) rfl
      have F6 := fun i => PB5.fr i
      have hu1 : (w4.alloc (.cells #[.slice au x.length cu] 117)).ownsRow (w3.heap.size + 1) 107 9 (.slice au x.length cu) (placedP LT x).length ((placedP LT x).flatMap insC) := by
        rw [hpx]
        exact own_mono (own_on hu ((On.refl w4).alloc _)) pl
      have W5 := Own2.snoc (C := insC) (k := 9) (hvl.trans hvn.symm) (by rw [hvn]; exact own4) (fun i u L hiu hL => own_on (hin i u L hiu hL) (k4'.alloc (.cells #[.slice au x.length cu] 117))) ne_thr hg5 (by rw [hvn]; exact hown5) hu1
      rw [HX.out] at W5
      have HW5 : Hid _ := W5
      clear W5 hu1 own4 hown5 hov hin hg5 hu HX
      refine hK.out _ _ (fun _ => hS6) ?_
      simp only [Act.put, List.setIfInBounds_toArray, List.set_cons_zero, List.set_cons_succ]
      clear hK
      refine fin_take 7 (v := ?_) rfl (by kernel_rfl) (by kernel_rfl) (by kernel_rfl) (by kernel_rfl) (fun _ _ _ h => h) rfl ?_ hS6 ?_
      rotate_left
      · intro W hW
        go_simp
        (try with_reducible rfl)
      simp only [Act.put, List.setIfInBounds_toArray, List.set_cons_zero, List.set_cons_succ]
      refine fin_one 8 rfl rfl (by kernel_rfl) (fun K hK => ?_)
      go_simp
      refine hK.out _ _ (fun h => absurd rfl h) ?_
      refine fin_done (by kernel_rfl) (NoPanic.normal ?_)
      go_wp2
      go_roundg (TT.length - (n + 1))
      case measure => omega
      case rel => exact ⟨n + 1, a', c', by omega, rfl, by go_num, O5.setNew (Nat.le_refl _) _, Bk.puts [.slice a' (n + 1) c'] w5 [.slice al LT.length cl, .slice ai mi ci, .slice a n c] 2 PB5, Own2.set HW5.out (Nat.lt_succ_self _) 2 _⟩
    · obtain rfl : n = TT.length := by omega
      have H2 := HW.out
      rw [List.take_length] at H2
      have KO : On w wr := K3.out.trans HO.out
      have R : Hid (Own2 insC 9 117 107 wr (w3.heap.size + 1) (.slice a TT.length c) (TT.map (placedP LT))) := H2
      have hw3 : w.heap.size + 1 < w3.heap.size + 1 := by omega
      have y0 := PB.at (i := 0) rfl
      have y1 := PB.at (i := 1) rfl
      have y2 := PB.at (i := 2) rfl
      have ZB := Z3.on HO.out
      have z0 := ZB.at (i := 0) rfl
      have z1 := ZB.at (i := 1) rfl
      have z2 := ZB.at (i := 2) rfl
      have zf := fun i => ZB.fr i
      clear H2 HW
      go_wp2
      refine bodyPost_ret (v := .tuple #[.agg #[.slice al LT.length cl, .slice ai mi ci, .slice a TT.length c], .int .i64 0]) ?_ rfl ⟨_, rfl, ?_, ?_⟩
      · rw [results_cell_slot rfl]
        go_simp
      · exact ⟨al, LT.length, cl, ai, mi, ci, a, c, by rw [List.length_map], by rw [List.length_map]; exact (Own2.puts [.slice al LT.length cl, .slice ai mi ci, .slice a TT.length c] wr 0 R.out hw3).rd (fun _ => rfl)⟩
      · repeat' (first | with_reducible refine On.setNew ?_ (by omega) _ | with_reducible exact KO)
end Go.Proofs.YtplihlmejnohnaaGreatDoor
