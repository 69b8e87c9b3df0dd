/- The walk of the law WellBounds. -/
import Derived.Test.YtjjmkacfkjkhgaaDoorBoundsP
import Derived.Test.YtjjmkacfkjkhgaaDoorStepH
import Derived.Test.YtjjmkacfkjkhgaaDoorAwake5
namespace Go.Proofs.YtjjmkacfkjkhgaaDoor
open Go.RowKit

theorem own_ne_wa {w w' : World} {B base k n : Nat} {e : TypeId} {v : Value} {xs : List Value} (h : w.ownsRow base e k v n xs) (kk : Wa B w w') (hB : ∀ b, v.ownBlock = some b → b ≠ B) : w'.ownsRow base e k v n xs := by
  refine ⟨h.1, ?_⟩
  rcases h.2 with h2 | ⟨g, cap, cur, rfl, hb, hh, r⟩
  · exact Or.inl h2
  · exact Or.inr ⟨g, cap, cur, rfl, hb, (kk.block g (lt_of_block hh) (fun e => hB g rfl (Option.some.inj e))).trans hh, r⟩
theorem cell_wa {w w' : World} {B g o : Nat} (kk : Wa B w w') (hg : g < w.heap.size) (hne : g ≠ B) : w'.cell? ⟨g, o, none⟩ = w.cell? ⟨g, o, none⟩ := by
  unfold World.cell?
  rw [kk.block g hg (fun e => hne (Option.some.inj e))]
theorem own_ne_own {w : World} {b1 b2 k1 k2 n m g c : Nat} {e1 e2 : TypeId} {v : Value} {xs ys : List Value} (h : w.ownsRow b1 e1 k1 (.slice (some ⟨g, 0, none⟩) n c) n xs) (h2 : w.ownsRow b2 e2 k2 v m ys) (hne : e2 ≠ e1) : ∀ b, v.ownBlock = some b → b ≠ g := by
  intro b hb e
  subst e
  rcases h.2 with ⟨h0, _⟩ | ⟨g1, c1, cur1, hv1, _, hh1, _⟩
  · cases h0
  · simp only [Value.slice.injEq, Option.some.injEq, Addr.mk.injEq] at hv1
    obtain ⟨⟨rfl, _⟩, _⟩ := hv1
    rcases h2.2 with ⟨hn, _⟩ | ⟨g2, c2, cur2, hv2, _, hh2, _⟩
    · rw [hn] at hb; cases hb
    · rw [hv2] at hb
      simp only [Value.ownBlock, Option.some.injEq] at hb
      subst hb
      rw [hh1] at hh2
      simp only [Option.some.injEq, Obj.cells.injEq] at hh2
      exact hne hh2.2.1.symm
theorem Own2.far {α : Type} {C : α → List Value} {k : Nat} {eo ei : TypeId} {w w' : World} {base b2 k2 m : Nat} {e2 : TypeId} {v v2 : Value} {LL : List (List α)} {ys : List Value} (h : Own2 C k eo ei w base v LL) (ho : w.ownsRow b2 e2 k2 v2 m ys) (h1 : e2 ≠ eo) (h2 : e2 ≠ ei) (hg : w.grownBy w' v2.ownBlock) : Own2 C k eo ei w' base v LL := by
  obtain ⟨vs, hl, hv, hi⟩ := h
  exact ⟨vs, hl, own_far hv ho h1 hg, fun i u L a b => own_far (hi i u L a b) ho h2 hg⟩
def fillB (m k : Nat) : List InsT := List.replicate k fenT ++ List.replicate (m - k) insZ
theorem fillB_len {m k : Nat} (h : k ≤ m) : (fillB m k).length = m := by unfold fillB; simp; omega
theorem fillB_step {m k : Nat} (h : k < m) : (fillB m k).set k fenT = fillB m (k + 1) := by
  unfold fillB
  rw [show m - k = (m - (k + 1)) + 1 by omega, rep_succ]
  have := set_split (List.replicate k fenT) (List.replicate (m - (k + 1)) insZ) insZ fenT
  rw [List.length_replicate] at this
  rw [this, List.replicate_succ' (n := k)]
  simp
theorem fillB_all (m : Nat) : fillB m m = rowB m := by unfold fillB rowB; simp
theorem fillB_zero (m : Nat) : fillB m 0 = List.replicate m insZ := by unfold fillB; simp
theorem fillB_at {m k : Nat} (h : k < m) : (fillB m k)[k]? = some insZ := by
  unfold fillB
  rw [List.getElem?_append_right (by simp), List.length_replicate, Nat.sub_self, List.getElem?_replicate, if_pos (by omega)]
theorem infoAtmE : (Tryd.prog.info? 39).map (fun i => (i.zero, i.size, i.bytes)) = some (some (.agg #[.int .i64 0, .int .i64 0, .int .i64 0, .int .i64 0]), 4, 32) := by kernel_rfl
theorem infoRowE : (Tryd.prog.info? 40).map (fun i => (i.zero, i.size, i.bytes)) = some (some (.slice none 0 0), 1, 24) := by kernel_rfl
theorem made_atm (n : Nat) : (madeCells (Value.agg #[.int .i64 0, .int .i64 0, .int .i64 0, .int .i64 0]).cells (n * 4)).toList = (List.replicate n atmB).flatMap atomC := by
  apply List.ext_getElem?
  intro j
  have hl : ((List.replicate n atmB).flatMap atomC).length = n * 4 := by simp [List.length_flatMap, atomC]
  by_cases hj : j < n * 4
  · have h1 : (List.replicate n atmB)[j / 4]? = some atmB := by rw [List.getElem?_replicate]; simp; omega
    have h2 := flat_at atomC 4 (fun _ => rfl) (List.replicate n atmB) (j / 4) (j % 4) atmB h1 (Nat.mod_lt _ (by decide))
    rw [show j / 4 * 4 + j % 4 = j by omega] at h2
    rw [h2]
    have h3 : (madeCells (Value.agg #[.int .i64 0, .int .i64 0, .int .i64 0, .int .i64 0]).cells (n * 4)).toList[j]? = some ((Value.agg #[.int .i64 0, .int .i64 0, .int .i64 0, .int .i64 0]).cells[j % (Value.agg #[.int .i64 0, .int .i64 0, .int .i64 0, .int .i64 0]).cells.size]!) := by simp [madeCells, hj]
    rw [h3]
    have h4 : ∀ k, k < 4 → some ((Value.agg #[.int .i64 0, .int .i64 0, .int .i64 0, .int .i64 0]).cells[k]!) = (atomC atmB)[k]? := fun k hk => by
      match k, hk with
      | 0, _ => rfl
      | 1, _ => rfl
      | 2, _ => rfl
      | 3, _ => rfl
    exact h4 (j % 4) (Nat.mod_lt _ (by decide))
  · have h5 : (madeCells (Value.agg #[.int .i64 0, .int .i64 0, .int .i64 0, .int .i64 0]).cells (n * 4)).toList[j]? = none := List.getElem?_eq_none (by simp [madeCells]; omega)
    rw [h5, List.getElem?_eq_none (by rw [hl]; omega)]
theorem good_iff (th ins la lo ro at' : Nat) : goodB th ins la lo ro at' = true ↔ (1 ≤ th ∧ th ≤ 4 ∧ (th = 1 ∨ ins ≤ 10) ∧ la ≤ 10 ∧ allB th ins la th ≤ 24 ∧ lo ≤ 4 ∧ ((ro = 0 ∨ at' = 0) ∨ (ro ≤ 8 ∧ at' ≤ 8))) := by
  unfold goodB condB
  split
  · rename_i h
    have e : ((⟨2, anyB ro at'⟩ : CondT).k == 0) = false := rfl
    rw [e]
    simp only [Bool.and_eq_true, Bool.or_eq_true, decide_eq_true_eq, beq_iff_eq, Bool.false_eq_true, false_or]
    omega
  · rename_i h
    have e : ((⟨0, []⟩ : CondT).k == 0) = true := rfl
    rw [e]
    simp only [Bool.and_eq_true, Bool.or_eq_true, decide_eq_true_eq, beq_iff_eq, true_or, and_true]
    omega
theorem ne1 : (32 : TypeId) ≠ 33 := by decide
theorem ne2 : (32 : TypeId) ≠ 37 := by decide
theorem ne3 : (40 : TypeId) ≠ 33 := by decide
theorem ne4 : (40 : TypeId) ≠ 37 := by decide
theorem ne5 : (40 : TypeId) ≠ 32 := by decide
theorem ne6 : (40 : TypeId) ≠ 39 := by decide
set_option maxHeartbeats 16000000 in
set_option maxRecDepth 8000 in
theorem wellBounds_walk (x1 x2 x3 x4 x5 x6 : Int) (w : World) (hw : Lw w ∧ Db w) :
    Calls Tryd.prog 4 #[.int .i64 x1, .int .i64 x2, .int .i64 x3, .int .i64 x4, .int .i64 x5, .int .i64 x6] w fun e w' => e = .returned (.bool true) ∧ On w w' := by
  obtain ⟨lw, hd⟩ := hw
  obtain ⟨i0, hi0, hz0, hz1, hz2⟩ := info_parts infoThr
  obtain ⟨i1, hi1, y0, y1, y2⟩ := info_parts infoInsE
  have hA := fun W (k : On w W) => awake5_is W (lw.on k) (hd.on k)
  obtain ⟨th, bth, e1⟩ := low3 x1
  obtain ⟨ins, bins, e2⟩ := low4 x2
  obtain ⟨la, bla, e3⟩ := low4 x3
  obtain ⟨lo, blo, e4⟩ := low3 x4
  obtain ⟨ro, bro, e5⟩ := low4 x5
  obtain ⟨at', bat, e6⟩ := low4 x6
  have hsum : ∀ i, allB th ins la i ≤ 16 * i := by
    intro i
    induction i with
    | zero => exact Nat.le_refl _
    | succ i ih =>
      show allB th ins la i + wide th ins la i ≤ _
      have : wide th ins la i ≤ 15 := by unfold wide; split <;> omega
      omega
  have bt : ∀ cs T, Bk (w.alloc (.cells cs T)) w.heap.size cs := fun cs T => Bk.new w cs T
  go_enter Tryd.func4, Tryd.ntmps4
  go_wp2
  go_loopg [14, 15] th (fun gg s14 s15 wq => ∃ (i : Nat) (a : Option Addr) (c : Nat), i ≤ th ∧ gg = th - i ∧ s15 = .int .i64 i ∧ s14 = .int .i64 (allB th ins la i : Nat) ∧ Hid (On w wq) ∧ Bk wq w.heap.size #[.string ⟨#[110]⟩, .slice none 0 0, .slice a i c, .int .i64 0, .slice none 0 0] ∧ Hid (Own2 insC 9 33 37 wq (w.heap.size + 1) (.slice a i c) (thrB th ins la i)))
  case atStart => exact ⟨0, none, 0, Nat.zero_le _, rfl, rfl, rfl, (On.refl w).alloc _, bt _ _, Own2.nil _ _ _ _ _ _⟩
  case round =>
    clear bt
    obtain ⟨i, a, c, hith, hk, rfl, rfl, HO, PB, HW⟩ := hrel
    have pl := PB.lt
    have hsi := hsum i
    rcases Nat.lt_or_ge i th with hlt | hge
    · by_cases hl1 : i + 1 = th
      · have hwd : wide th ins la i = la := by unfold wide; rw [if_pos hl1]
        have hq : ((i : Int) == (th : Int) - 1) = true := by simp; omega
        clear hl1
        have hall : allB th ins la (i + 1) = allB th ins la i + la := by show allB th ins la i + wide th ins la i = _; rw [hwd]
        obtain ⟨w2, hmk, hrow, hgr⟩ := run_make_full (P := Tryd.prog) wr.drew (w.heap.size + 1) 33 37 i1 (insV insZ) 9 Tryd.underlying33 hi1 y0 y1 .i64 .i64 la (by rw [y2]; omega) (by unfold maxLen; omega) pl
        rw [made_ins, ← fillB_zero] at hrow
        have k2 : On wr w2 := ((On.refl wr).drew).grownNone hgr
        have hS : ∀ W, On wr W → W.cell? ⟨w.heap.size, 2, none⟩ = some (.slice a i c) := fun W k => (PB.on k).at (i := 2) rfl
        have hS0 : wr.cell? ⟨w.heap.size, 2, none⟩ = some (.slice a i c) := hS wr (On.refl wr)
        have hS2 := hS w2 k2
        have hS3 := hS _ (k2.alloc (.cells #[.slice (some ⟨wr.heap.size, 0, none⟩) la la] 33))
        have hmk' : (Instr.makeSlice 33 (.int .i64 (la : Int)) (.int .i64 (la : Int))).run Tryd.prog wr.drew = .ok (.slice (some ⟨wr.heap.size, 0, none⟩) la la) w2 := hmk
        have HRow : Hid (w2.ownsRow (w.heap.size + 1) 37 9 (.slice (some ⟨wr.heap.size, 0, none⟩) la la) la ((fillB la 0).flatMap insC)) := hrow
        clear hrow hgr hmk
        go_wp2
        refine region_fin (fun W => W.cell? ⟨w.heap.size, 2, none⟩ = some (.slice a i c)) 7 8 (by kernel_rfl) rfl ?_
        refine fin_take 0 (v := ?_) rfl (by kernel_rfl) (by kernel_rfl) (by kernel_rfl) (by kernel_rfl) (fun _ _ _ h => h) rfl ?_ (hS _ (On.refl wr).drew) ?_
        rotate_left
        · intro W hW
          go_simp
          (try with_reducible rfl)
        simp only [Act.put, List.setIfInBounds_toArray, List.set_cons_zero, List.set_cons_succ]
        refine fin_take 1 (v := ?_) rfl (by kernel_rfl) (by kernel_rfl) (by kernel_rfl) (by kernel_rfl) (fun _ _ _ h => h) rfl ?_ (hS _ (On.refl wr).drew) ?_
        rotate_left
        · intro W hW
          go_simp
          (try with_reducible rfl)
        simp only [Act.put, List.setIfInBounds_toArray, List.set_cons_zero, List.set_cons_succ]
        refine fin_take 2 (v := ?_) rfl (by kernel_rfl) (by kernel_rfl) (by kernel_rfl) (by kernel_rfl) (fun _ _ _ h => h) rfl ?_ (hS _ (On.refl wr).drew) ?_
        rotate_left
        · intro W hW
          go_simp
          (try with_reducible rfl)
        simp only [Act.put, List.setIfInBounds_toArray, List.set_cons_zero, List.set_cons_succ]
        refine fin_one 3 rfl rfl (by kernel_rfl) (fun K hK => ?_)
        go_simp
        refine hK.out _ _ (fun _ => hS2) ?_
        clear hK
        refine fin_one 4 rfl rfl (by kernel_rfl) (fun K hK => ?_)
        go_simp
        refine hK.out _ _ (fun _ => hS3) ?_
        clear hK
        obtain ⟨vs, hvl, hov, hin⟩ := HW.out
        rw [thrB_len] at hov hvl
        have own4 := own_on hov (k2.alloc (.cells #[.slice (some ⟨wr.heap.size, 0, none⟩) la la] 33))
        refine fin_one 5 rfl rfl (by kernel_rfl) (fun K hK => ?_)
        refine wp_append_own _ (.tmp 50) (.tmp 53) 23 rfl (w.heap.size + 1) 33 i0 (.slice none 0 0) 1 24 Tryd.underlying23 hi0 hz0 hz1 hz2 rfl (by decide) (.slice a i c) i vs rfl own4 ⟨w2.heap.size, 0, none⟩ 1 1 [.slice (some ⟨wr.heap.size, 0, none⟩) la la] rfl rfl (news_at w2 _ _) (one_slice _ _ _) (by unfold maxLen; omega) (by omega) (by simp only [World.size_alloc]; have := k2.size; omega) ?_
        intro v' w5 hown5 hg5 _
        obtain ⟨a', c', rfl⟩ := own_slice hown5
        have blk : ∀ b, (Value.slice a i c).ownBlock = some b → w.heap.size + 1 ≤ b := fun b hb => (hov.lt b hb).1
        have PB5 : Bk w5 w.heap.size _ := ((PB.on k2).alloc (.cells #[.slice (some ⟨wr.heap.size, 0, none⟩) la la] 33)).grown hg5 (Nat.lt_succ_self _) blk
        have O5 : On w w5 := ((HO.out.trans k2).alloc (.cells #[.slice (some ⟨wr.heap.size, 0, none⟩) la la] 33)).grown hg5 (fun b hb => Nat.le_of_succ_le (blk b hb))
        have hS6 := PB5.at (i := 2) rfl
        have F6 := fun j => PB5.fr j
        have new5 := own_far (own_on HRow.out ((On.refl w2).alloc (.cells #[.slice (some ⟨wr.heap.size, 0, none⟩) la la] 33))) own4 ne_thr hg5
        have old5 : ∀ (j : Nat) (u : Value) (L : List InsT), vs[j]? = some u → (thrB th ins la i)[j]? = some L → w5.ownsRow (w.heap.size + 1) 37 9 u L.length (L.flatMap insC) ∧ ∀ b, u.ownBlock = some b → b ≠ wr.heap.size := fun j u L hu hL => ⟨own_far (own_on (hin j u L hu hL) (k2.alloc (.cells #[.slice (some ⟨wr.heap.size, 0, none⟩) la la] 33))) own4 ne_thr hg5, fun b hb => by have := ((hin j u L hu hL).lt b hb).2; omega⟩
        have out5 := own_ne_own new5 hown5 ne_thr
        refine hK.out _ _ (fun _ => hS6) ?_
        simp only [Act.put, List.setIfInBounds_toArray, List.set_cons_zero, List.set_cons_succ]
        clear hK
        refine fin_take 6 (v := ?_) rfl (by kernel_rfl) (by kernel_rfl) (by kernel_rfl) (by kernel_rfl) (fun _ _ _ h => h) rfl ?_ hS6 ?_
        rotate_left
        · intro W hW
          go_simp
          (try with_reducible rfl)
        simp only [Act.put, List.setIfInBounds_toArray, List.set_cons_zero, List.set_cons_succ]
        refine fin_one 7 rfl rfl (by kernel_rfl) (fun K hK => ?_)
        go_simp
        refine hK.out _ _ (fun h => absurd rfl h) ?_
        refine fin_done (by kernel_rfl) (NoPanic.normal ?_)
        obtain ⟨W6, hW6⟩ : ∃ W6, W6 = w5.setCell ⟨w.heap.size, 2, none⟩ (.slice a' (i + 1) c') := ⟨_, rfl⟩
        have PB6 : Bk W6 w.heap.size #[.string ⟨#[110]⟩, .slice none 0 0, .slice a' (i + 1) c', .int .i64 0, .slice none 0 0] := by rw [hW6]; exact Bk.puts [.slice a' (i + 1) c'] w5 [.string ⟨#[110]⟩, .slice none 0 0, .slice a i c, .int .i64 0, .slice none 0 0] 2 PB5
        have O6 : Hid (On w W6) := by show On w W6; rw [hW6]; exact O5.setNew (Nat.le_refl _) _
        have new6 : Hid (W6.ownsRow (w.heap.size + 1) 37 9 (.slice (some ⟨wr.heap.size, 0, none⟩) la la) la ((fillB la 0).flatMap insC)) := by show World.ownsRow _ _ _ _ _ _ _; rw [hW6]; exact own_set new5 (Nat.lt_succ_self _) _ _
        have own6 : Hid (W6.ownsRow (w.heap.size + 1) 33 1 (.slice a' (i + 1) c') (i + 1) (vs ++ [.slice (some ⟨wr.heap.size, 0, none⟩) la la])) := by show World.ownsRow _ _ _ _ _ _ _; rw [hW6]; exact own_set hown5 (Nat.lt_succ_self _) _ _
        have old6 : Hid (∀ (j : Nat) (u : Value) (L : List InsT), vs[j]? = some u → (thrB th ins la i)[j]? = some L → W6.ownsRow (w.heap.size + 1) 37 9 u L.length (L.flatMap insC) ∧ ∀ b, u.ownBlock = some b → b ≠ wr.heap.size) := fun j u L hu hL => ⟨by rw [hW6]; exact own_set (old5 j u L hu hL).1 (Nat.lt_succ_self _) _ _, (old5 j u L hu hL).2⟩
        have OUT : Hid (∀ b, (Value.slice a' (i + 1) c').ownBlock = some b → b ≠ wr.heap.size) := out5
        obtain ⟨go, co, hv6, _, _, hlo, hco⟩ := own_cells own6.out (by omega)
        simp only [Value.slice.injEq, true_and] at hv6
        obtain ⟨rfl, rfl⟩ := hv6
        have hgo : go ≠ wr.heap.size := OUT.out go rfl
        have hc6 : W6.cell? ⟨go, i, none⟩ = some (.slice (some ⟨wr.heap.size, 0, none⟩) la la) := hco i _ (by rw [List.getElem?_append_right (by omega), hvl, Nat.sub_self]; rfl)
        have g6 : wr.heap.size < W6.heap.size := own_lt new6.out
        clear new5 old5 hown5 hg5 own4 hov hin hS6 F6 PB5 O5 out5 HRow hco hS hS0 hS2 hS3 hmk' blk PB HO
        try rw [← hW6]
        go_wp2
        clear hW6
        obtain ⟨V, hVw⟩ : ∃ V, V = wr := ⟨_, rfl⟩
        subst hVw
        go_loopg [17] la (fun gg s17 wq => ∃ k : Nat, k ≤ la ∧ gg = la - k ∧ s17 = .int .i64 k ∧ Hid (Wa V.heap.size W6 wq) ∧ V.heap.size < wq.heap.size ∧ Hid (wq.ownsRow (w.heap.size + 1) 37 9 (.slice (some ⟨V.heap.size, 0, none⟩) la la) la ((fillB la k).flatMap insC)))
        case atStart => exact ⟨0, Nat.zero_le _, rfl, rfl, Wa.refl _ _, g6, new6⟩
        case round =>
          clear new6
          obtain ⟨k, hkm, hgk, rfl, KW, gl, NR⟩ := hrel
          have PK := PB6.wa KW.out (by omega)
          rcases Nat.lt_or_ge k la with hkl | hkg
          · have t2 := PK.at (i := 2) rfl
            have tl := PK.lt
            have oc : wr.cell? ⟨go, i, none⟩ = _ := (cell_wa KW.out hlo hgo).trans hc6
            have zc : ∀ j, j < 9 → wr.cell? ⟨V.heap.size, k * 9 + j, none⟩ = some (.int .i64 0) := fun j hj => by
              rw [NR.out.cellAt _ (by omega), flat_at insC 9 (fun _ => rfl) _ _ _ _ (fillB_at hkl) hj]
              match j, hj with
              | 0, _ => rfl
              | 1, _ => rfl
              | 2, _ => rfl
              | 3, _ => rfl
              | 4, _ => rfl
              | 5, _ => rfl
              | 6, _ => rfl
              | 7, _ => rfl
              | 8, _ => rfl
            have zf := fun j => NR.out.frozenAt j
            have z0 : wr.cell? ⟨V.heap.size, k * 9, none⟩ = _ := zc 0 (by decide)
            have z1 := zc 1 (by decide)
            have z2 := zc 2 (by decide)
            have z3 := zc 3 (by decide)
            have z4 := zc 4 (by decide)
            have z5 := zc 5 (by decide)
            have z6 := zc 6 (by decide)
            have z7 := zc 7 (by decide)
            have z8 := zc 8 (by decide)
            have hp := row_put (L := fillB la k) (c := la) (k := k) (by rw [fillB_len (by omega)]; exact NR.out) (by rw [fillB_len (by omega)]; exact hkl) fenT
            rw [fillB_len (by omega), fillB_step hkl] at hp
            have HP : Hid _ := hp
            clear hp zc
            go_wp2
            go_roundg (la - (k + 1))
            case measure => omega
            case rel =>
              rw [puts9]
              exact ⟨k + 1, by omega, rfl, by go_num, Wa.puts (w := wr) _ wr (k * 9) KW.out, by rw [size_puts]; exact gl, HP.out⟩
          · obtain rfl : la = k := by omega
            have NF := NR.out
            rw [fillB_all] at NF
            have hown7 := own_ne_wa own6.out KW.out OUT.out
            have W7 : Hid (Own2 insC 9 33 37 wr (w.heap.size + 1) (.slice (some ⟨go, 0, none⟩) (i + 1) c') (thrB th ins la (i + 1))) := by
              refine ⟨vs ++ [.slice (some ⟨V.heap.size, 0, none⟩) la la], ?_, ?_, ?_⟩
              · rw [thrB_len, List.length_append, hvl]; rfl
              · rw [thrB_len]; exact hown7
              · intro j u L hu hL
                rw [← thrB_step] at hL
                rcases Nat.lt_or_ge j vs.length with h | h
                · rw [List.getElem?_append_left h] at hu
                  rw [List.getElem?_append_left (by rw [thrB_len]; omega)] at hL
                  exact own_ne_wa (old6.out j u L hu hL).1 KW.out (old6.out j u L hu hL).2
                · have hj : j = vs.length := by
                    rcases Nat.lt_or_ge vs.length j with h' | h'
                    · rw [List.getElem?_eq_none (by simp; omega)] at hu; cases hu
                    · omega
                  subst hj
                  rw [List.getElem?_append_right (Nat.le_refl _), Nat.sub_self] at hu
                  rw [List.getElem?_append_right (by rw [thrB_len]; omega), thrB_len, hvl, Nat.sub_self, hwd] at hL
                  simp only [List.getElem?_cons_zero, Option.some.injEq] at hu hL
                  subst hu; subst hL
                  rw [show (rowB la).length = la by unfold rowB; simp]
                  exact NF
            have O7 : On w wr := On.wa O6.out KW.out (by omega)
            clear hown7 NF NR
            go_wp2
            go_roundg (th - (i + 1))
            case measure => omega
            case rel => exact ⟨i + 1, some ⟨go, 0, none⟩, c', by omega, rfl, by go_num, by rw [hall]; go_num, O7, PK, W7.out⟩
      · have hwd : wide th ins la i = ins := by unfold wide; rw [if_neg hl1]
        have hq : ((i : Int) == (th : Int) - 1) = false := by simp; omega
        clear hl1
        have hall : allB th ins la (i + 1) = allB th ins la i + ins := by show allB th ins la i + wide th ins la i = _; rw [hwd]
        obtain ⟨w2, hmk, hrow, hgr⟩ := run_make_full (P := Tryd.prog) wr.drew (w.heap.size + 1) 33 37 i1 (insV insZ) 9 Tryd.underlying33 hi1 y0 y1 .i64 .i64 ins (by rw [y2]; omega) (by unfold maxLen; omega) pl
        rw [made_ins, ← fillB_zero] at hrow
        have k2 : On wr w2 := ((On.refl wr).drew).grownNone hgr
        have hS : ∀ W, On wr W → W.cell? ⟨w.heap.size, 2, none⟩ = some (.slice a i c) := fun W k => (PB.on k).at (i := 2) rfl
        have hS0 : wr.cell? ⟨w.heap.size, 2, none⟩ = some (.slice a i c) := hS wr (On.refl wr)
        have hS2 := hS w2 k2
        have hS3 := hS _ (k2.alloc (.cells #[.slice (some ⟨wr.heap.size, 0, none⟩) ins ins] 33))
        have hmk' : (Instr.makeSlice 33 (.int .i64 (ins : Int)) (.int .i64 (ins : Int))).run Tryd.prog wr.drew = .ok (.slice (some ⟨wr.heap.size, 0, none⟩) ins ins) w2 := hmk
        have HRow : Hid (w2.ownsRow (w.heap.size + 1) 37 9 (.slice (some ⟨wr.heap.size, 0, none⟩) ins ins) ins ((fillB ins 0).flatMap insC)) := hrow
        clear hrow hgr hmk
        go_wp2
        refine region_fin (fun W => W.cell? ⟨w.heap.size, 2, none⟩ = some (.slice a i c)) 7 8 (by kernel_rfl) rfl ?_
        refine fin_take 0 (v := ?_) rfl (by kernel_rfl) (by kernel_rfl) (by kernel_rfl) (by kernel_rfl) (fun _ _ _ h => h) rfl ?_ (hS _ (On.refl wr).drew) ?_
        rotate_left
        · intro W hW
          go_simp
          (try with_reducible rfl)
        simp only [Act.put, List.setIfInBounds_toArray, List.set_cons_zero, List.set_cons_succ]
        refine fin_take 1 (v := ?_) rfl (by kernel_rfl) (by kernel_rfl) (by kernel_rfl) (by kernel_rfl) (fun _ _ _ h => h) rfl ?_ (hS _ (On.refl wr).drew) ?_
        rotate_left
        · intro W hW
          go_simp
          (try with_reducible rfl)
        simp only [Act.put, List.setIfInBounds_toArray, List.set_cons_zero, List.set_cons_succ]
        refine fin_take 2 (v := ?_) rfl (by kernel_rfl) (by kernel_rfl) (by kernel_rfl) (by kernel_rfl) (fun _ _ _ h => h) rfl ?_ (hS _ (On.refl wr).drew) ?_
        rotate_left
        · intro W hW
          go_simp
          (try with_reducible rfl)
        simp only [Act.put, List.setIfInBounds_toArray, List.set_cons_zero, List.set_cons_succ]
        refine fin_one 3 rfl rfl (by kernel_rfl) (fun K hK => ?_)
        go_simp
        refine hK.out _ _ (fun _ => hS2) ?_
        clear hK
        refine fin_one 4 rfl rfl (by kernel_rfl) (fun K hK => ?_)
        go_simp
        refine hK.out _ _ (fun _ => hS3) ?_
        clear hK
        obtain ⟨vs, hvl, hov, hin⟩ := HW.out
        rw [thrB_len] at hov hvl
        have own4 := own_on hov (k2.alloc (.cells #[.slice (some ⟨wr.heap.size, 0, none⟩) ins ins] 33))
        refine fin_one 5 rfl rfl (by kernel_rfl) (fun K hK => ?_)
        refine wp_append_own _ (.tmp 50) (.tmp 53) 23 rfl (w.heap.size + 1) 33 i0 (.slice none 0 0) 1 24 Tryd.underlying23 hi0 hz0 hz1 hz2 rfl (by decide) (.slice a i c) i vs rfl own4 ⟨w2.heap.size, 0, none⟩ 1 1 [.slice (some ⟨wr.heap.size, 0, none⟩) ins ins] rfl rfl (news_at w2 _ _) (one_slice _ _ _) (by unfold maxLen; omega) (by omega) (by simp only [World.size_alloc]; have := k2.size; omega) ?_
        intro v' w5 hown5 hg5 _
        obtain ⟨a', c', rfl⟩ := own_slice hown5
        have blk : ∀ b, (Value.slice a i c).ownBlock = some b → w.heap.size + 1 ≤ b := fun b hb => (hov.lt b hb).1
        have PB5 : Bk w5 w.heap.size _ := ((PB.on k2).alloc (.cells #[.slice (some ⟨wr.heap.size, 0, none⟩) ins ins] 33)).grown hg5 (Nat.lt_succ_self _) blk
        have O5 : On w w5 := ((HO.out.trans k2).alloc (.cells #[.slice (some ⟨wr.heap.size, 0, none⟩) ins ins] 33)).grown hg5 (fun b hb => Nat.le_of_succ_le (blk b hb))
        have hS6 := PB5.at (i := 2) rfl
        have F6 := fun j => PB5.fr j
        have new5 := own_far (own_on HRow.out ((On.refl w2).alloc (.cells #[.slice (some ⟨wr.heap.size, 0, none⟩) ins ins] 33))) own4 ne_thr hg5
        have old5 : ∀ (j : Nat) (u : Value) (L : List InsT), vs[j]? = some u → (thrB th ins la i)[j]? = some L → w5.ownsRow (w.heap.size + 1) 37 9 u L.length (L.flatMap insC) ∧ ∀ b, u.ownBlock = some b → b ≠ wr.heap.size := fun j u L hu hL => ⟨own_far (own_on (hin j u L hu hL) (k2.alloc (.cells #[.slice (some ⟨wr.heap.size, 0, none⟩) ins ins] 33))) own4 ne_thr hg5, fun b hb => by have := ((hin j u L hu hL).lt b hb).2; omega⟩
        have out5 := own_ne_own new5 hown5 ne_thr
        refine hK.out _ _ (fun _ => hS6) ?_
        simp only [Act.put, List.setIfInBounds_toArray, List.set_cons_zero, List.set_cons_succ]
        clear hK
        refine fin_take 6 (v := ?_) rfl (by kernel_rfl) (by kernel_rfl) (by kernel_rfl) (by kernel_rfl) (fun _ _ _ h => h) rfl ?_ hS6 ?_
        rotate_left
        · intro W hW
          go_simp
          (try with_reducible rfl)
        simp only [Act.put, List.setIfInBounds_toArray, List.set_cons_zero, List.set_cons_succ]
        refine fin_one 7 rfl rfl (by kernel_rfl) (fun K hK => ?_)
        go_simp
        refine hK.out _ _ (fun h => absurd rfl h) ?_
        refine fin_done (by kernel_rfl) (NoPanic.normal ?_)
        obtain ⟨W6, hW6⟩ : ∃ W6, W6 = w5.setCell ⟨w.heap.size, 2, none⟩ (.slice a' (i + 1) c') := ⟨_, rfl⟩
        have PB6 : Bk W6 w.heap.size #[.string ⟨#[110]⟩, .slice none 0 0, .slice a' (i + 1) c', .int .i64 0, .slice none 0 0] := by rw [hW6]; exact Bk.puts [.slice a' (i + 1) c'] w5 [.string ⟨#[110]⟩, .slice none 0 0, .slice a i c, .int .i64 0, .slice none 0 0] 2 PB5
        have O6 : Hid (On w W6) := by show On w W6; rw [hW6]; exact O5.setNew (Nat.le_refl _) _
        have new6 : Hid (W6.ownsRow (w.heap.size + 1) 37 9 (.slice (some ⟨wr.heap.size, 0, none⟩) ins ins) ins ((fillB ins 0).flatMap insC)) := by show World.ownsRow _ _ _ _ _ _ _; rw [hW6]; exact own_set new5 (Nat.lt_succ_self _) _ _
        have own6 : Hid (W6.ownsRow (w.heap.size + 1) 33 1 (.slice a' (i + 1) c') (i + 1) (vs ++ [.slice (some ⟨wr.heap.size, 0, none⟩) ins ins])) := by show World.ownsRow _ _ _ _ _ _ _; rw [hW6]; exact own_set hown5 (Nat.lt_succ_self _) _ _
        have old6 : Hid (∀ (j : Nat) (u : Value) (L : List InsT), vs[j]? = some u → (thrB th ins la i)[j]? = some L → W6.ownsRow (w.heap.size + 1) 37 9 u L.length (L.flatMap insC) ∧ ∀ b, u.ownBlock = some b → b ≠ wr.heap.size) := fun j u L hu hL => ⟨by rw [hW6]; exact own_set (old5 j u L hu hL).1 (Nat.lt_succ_self _) _ _, (old5 j u L hu hL).2⟩
        have OUT : Hid (∀ b, (Value.slice a' (i + 1) c').ownBlock = some b → b ≠ wr.heap.size) := out5
        obtain ⟨go, co, hv6, _, _, hlo, hco⟩ := own_cells own6.out (by omega)
        simp only [Value.slice.injEq, true_and] at hv6
        obtain ⟨rfl, rfl⟩ := hv6
        have hgo : go ≠ wr.heap.size := OUT.out go rfl
        have hc6 : W6.cell? ⟨go, i, none⟩ = some (.slice (some ⟨wr.heap.size, 0, none⟩) ins ins) := hco i _ (by rw [List.getElem?_append_right (by omega), hvl, Nat.sub_self]; rfl)
        have g6 : wr.heap.size < W6.heap.size := own_lt new6.out
        clear new5 old5 hown5 hg5 own4 hov hin hS6 F6 PB5 O5 out5 HRow hco hS hS0 hS2 hS3 hmk' blk PB HO
        try rw [← hW6]
        go_wp2
        clear hW6
        obtain ⟨V, hVw⟩ : ∃ V, V = wr := ⟨_, rfl⟩
        subst hVw
        go_loopg [17] ins (fun gg s17 wq => ∃ k : Nat, k ≤ ins ∧ gg = ins - k ∧ s17 = .int .i64 k ∧ Hid (Wa V.heap.size W6 wq) ∧ V.heap.size < wq.heap.size ∧ Hid (wq.ownsRow (w.heap.size + 1) 37 9 (.slice (some ⟨V.heap.size, 0, none⟩) ins ins) ins ((fillB ins k).flatMap insC)))
        case atStart => exact ⟨0, Nat.zero_le _, rfl, rfl, Wa.refl _ _, g6, new6⟩
        case round =>
          clear new6
          obtain ⟨k, hkm, hgk, rfl, KW, gl, NR⟩ := hrel
          have PK := PB6.wa KW.out (by omega)
          rcases Nat.lt_or_ge k ins with hkl | hkg
          · have t2 := PK.at (i := 2) rfl
            have tl := PK.lt
            have oc : wr.cell? ⟨go, i, none⟩ = _ := (cell_wa KW.out hlo hgo).trans hc6
            have zc : ∀ j, j < 9 → wr.cell? ⟨V.heap.size, k * 9 + j, none⟩ = some (.int .i64 0) := fun j hj => by
              rw [NR.out.cellAt _ (by omega), flat_at insC 9 (fun _ => rfl) _ _ _ _ (fillB_at hkl) hj]
              match j, hj with
              | 0, _ => rfl
              | 1, _ => rfl
              | 2, _ => rfl
              | 3, _ => rfl
              | 4, _ => rfl
              | 5, _ => rfl
              | 6, _ => rfl
              | 7, _ => rfl
              | 8, _ => rfl
            have zf := fun j => NR.out.frozenAt j
            have z0 : wr.cell? ⟨V.heap.size, k * 9, none⟩ = _ := zc 0 (by decide)
            have z1 := zc 1 (by decide)
            have z2 := zc 2 (by decide)
            have z3 := zc 3 (by decide)
            have z4 := zc 4 (by decide)
            have z5 := zc 5 (by decide)
            have z6 := zc 6 (by decide)
            have z7 := zc 7 (by decide)
            have z8 := zc 8 (by decide)
            have hp := row_put (L := fillB ins k) (c := ins) (k := k) (by rw [fillB_len (by omega)]; exact NR.out) (by rw [fillB_len (by omega)]; exact hkl) fenT
            rw [fillB_len (by omega), fillB_step hkl] at hp
            have HP : Hid _ := hp
            clear hp zc
            go_wp2
            go_roundg (ins - (k + 1))
            case measure => omega
            case rel =>
              rw [puts9]
              exact ⟨k + 1, by omega, rfl, by go_num, Wa.puts (w := wr) _ wr (k * 9) KW.out, by rw [size_puts]; exact gl, HP.out⟩
          · obtain rfl : ins = k := by omega
            have NF := NR.out
            rw [fillB_all] at NF
            have hown7 := own_ne_wa own6.out KW.out OUT.out
            have W7 : Hid (Own2 insC 9 33 37 wr (w.heap.size + 1) (.slice (some ⟨go, 0, none⟩) (i + 1) c') (thrB th ins la (i + 1))) := by
              refine ⟨vs ++ [.slice (some ⟨V.heap.size, 0, none⟩) ins ins], ?_, ?_, ?_⟩
              · rw [thrB_len, List.length_append, hvl]; rfl
              · rw [thrB_len]; exact hown7
              · intro j u L hu hL
                rw [← thrB_step] at hL
                rcases Nat.lt_or_ge j vs.length with h | h
                · rw [List.getElem?_append_left h] at hu
                  rw [List.getElem?_append_left (by rw [thrB_len]; omega)] at hL
                  exact own_ne_wa (old6.out j u L hu hL).1 KW.out (old6.out j u L hu hL).2
                · have hj : j = vs.length := by
                    rcases Nat.lt_or_ge vs.length j with h' | h'
                    · rw [List.getElem?_eq_none (by simp; omega)] at hu; cases hu
                    · omega
                  subst hj
                  rw [List.getElem?_append_right (Nat.le_refl _), Nat.sub_self] at hu
                  rw [List.getElem?_append_right (by rw [thrB_len]; omega), thrB_len, hvl, Nat.sub_self, hwd] at hL
                  simp only [List.getElem?_cons_zero, Option.some.injEq] at hu hL
                  subst hu; subst hL
                  rw [show (rowB ins).length = ins by unfold rowB; simp]
                  exact NF
            have O7 : On w wr := On.wa O6.out KW.out (by omega)
            clear hown7 NF NR
            go_wp2
            go_roundg (th - (i + 1))
            case measure => omega
            case rel => exact ⟨i + 1, some ⟨go, 0, none⟩, c', by omega, rfl, by go_num, by rw [hall]; go_num, O7, PK, W7.out⟩
    · obtain rfl : th = i := by omega
      have H1 : Hid (Own2 insC 9 33 37 wr (w.heap.size + 1) (.slice a th c) (thrB th ins la th)) := HW.out
      obtain ⟨i2, hi2, x0, x1', x2'⟩ := info_parts infoInit
      obtain ⟨i3, hi3, u0', u1', u2'⟩ := info_parts infoRowE
      obtain ⟨i4, hi4, v0', v1', v2'⟩ := info_parts infoAtmE
      have hCk := fun v W (k : On w W) h => check_is (testB th ins la lo ro at') v W (lw.on k) h
      rw [check_bounds th ins la lo ro at' blo] at hCk
      clear HW hsum lw hd
      go_wp2
      go_loopg [18] lo (fun gg s18 wq => ∃ (i : Nat) (a1 : Option Addr) (c1 : Nat), i ≤ lo ∧ gg = lo - i ∧ s18 = .int .i64 i ∧ Hid (On w wq) ∧ Bk wq w.heap.size #[.string ⟨#[110]⟩, .slice a1 i c1, .slice a th c, .int .i64 0, .slice none 0 0] ∧ wq.ownsRow (w.heap.size + 1) 32 2 (.slice a1 i c1) i ((iniB i).flatMap iniC) ∧ Hid (Own2 insC 9 33 37 wq (w.heap.size + 1) (.slice a th c) (thrB th ins la th)))
      case atStart => exact ⟨0, none, 0, Nat.zero_le _, rfl, rfl, HO, PB, World.ownsRow_nil _ _ _ _, H1⟩
      case round =>
        clear H1 PB HO pl hsi
        obtain ⟨i, a1, c1, hil, hgi, rfl, HO, PB, hown, H1⟩ := hrel
        have pl := PB.lt
        have q1 := PB.at (i := 1) rfl
        have qf := fun j => PB.fr j
        have blk : ∀ b, (Value.slice a1 i c1).ownBlock = some b → w.heap.size + 1 ≤ b := fun b hb => (hown.lt b hb).1
        rcases Nat.lt_or_ge i lo with hlt2 | hge2
        · have kA : On wr (wr.alloc (.cells (iniC ⟨97 + (i : Int), 0⟩).toArray 32)) := (On.refl wr).alloc _
          go_wp2_with (at_builtin; refine wpList_append_own _ rfl _ _ 24 rfl (w.heap.size + 1) 32 i2 (.agg #[.int .i64 0, .int .i64 0]) 2 16 Tryd.underlying24 hi2 x0 x1' x2' rfl (by decide) _ _ _ rfl (hown.alloc _) ⟨wr.heap.size, 0, none⟩ 1 1 (iniC ⟨97 + (i : Int), 0⟩) rfl rfl ?c1 ?c2 ?c3 ?c4 ?c5 ?_)
          case c1 => exact news_at wr _ _
          case c2 => exact one_ini _ _
          case c3 => unfold maxLen; omega
          case c4 => omega
          case c5 => simp only [World.size_alloc]; omega
          intro v' w4 hown4 hg4 _
          obtain ⟨a5, c5, rfl⟩ := own_slice hown4
          have PB4 : Bk w4 w.heap.size _ := (PB.on kA).grown hg4 (Nat.lt_succ_self _) blk
          have O4 : Hid (On w w4) := (HO.out.trans kA).grown hg4 (fun b hb => Nat.le_of_succ_le (blk b hb))
          have H4 : Hid (Own2 insC 9 33 37 w4 (w.heap.size + 1) (.slice a th c) (thrB th ins la th)) := Own2.far (Own2.on H1.out kA) (own_on hown kA) ne1 ne2 hg4
          have W4 : Hid (w4.ownsRow (w.heap.size + 1) 32 2 (.slice a5 (i + 1) c5) (i + 1) ((iniB (i + 1)).flatMap iniC)) := by
            show World.ownsRow _ _ _ _ _ _ _
            rw [← iniB_step, List.flatMap_append]
            exact hown4
          have r1 := PB4.at (i := 1) rfl
          have rf := fun j => PB4.fr j
          clear hown4 hg4 hown
          go_wp2
          go_roundg (lo - (i + 1))
          case measure => omega
          case rel => exact ⟨i + 1, a5, c5, by omega, rfl, by go_num, O4.out.setNew (Nat.le_refl _) _, Bk.puts [.slice a5 (i + 1) c5] w4 [.string ⟨#[110]⟩, .slice a1 i c1, .slice a th c, .int .i64 0, .slice none 0 0] 1 PB4, own_set W4.out (Nat.lt_succ_self _) _ _, Own2.set H4.out (Nat.lt_succ_self _) _ _⟩
        · obtain rfl : lo = i := by omega
          have HI : Hid (wr.ownsRow (w.heap.size + 1) 32 2 (.slice a1 lo c1) lo ((iniB lo).flatMap iniC)) := hown
          clear hown blk
          by_cases hro : 0 < ro
          · by_cases hat : 0 < at'
            · have hcB : condB ro at' = ⟨2, anyB ro at'⟩ := by unfold condB; rw [if_pos ⟨hro, hat⟩]
              have q3 := PB.at (i := 3) rfl
              have k3 : Hid (On w (wr.setCell ⟨w.heap.size, 3, none⟩ (.int .i64 2))) := HO.out.setNew (Nat.le_refl _) _
              have P3 : Bk (wr.setCell ⟨w.heap.size, 3, none⟩ (.int .i64 2)) w.heap.size #[.string ⟨#[110]⟩, .slice a1 lo c1, .slice a th c, .int .i64 2, .slice none 0 0] := Bk.puts [.int .i64 2] wr [.string ⟨#[110]⟩, .slice a1 lo c1, .slice a th c, .int .i64 0, .slice none 0 0] 3 PB
              have I3 : Hid _ := own_set HI.out (Nat.lt_succ_self _) 3 (.int .i64 2)
              have T3 : Hid _ := Own2.set H1.out (Nat.lt_succ_self _) 3 (.int .i64 2)
              go_wp2
              clear q3 q1 qf
              go_loopg [19] ro (fun gg s19 wq => ∃ (i : Nat) (a3 : Option Addr) (c3 : Nat), i ≤ ro ∧ gg = ro - i ∧ s19 = .int .i64 i ∧ Hid (On w wq) ∧ Bk wq w.heap.size #[.string ⟨#[110]⟩, .slice a1 lo c1, .slice a th c, .int .i64 2, .slice a3 i c3] ∧ Hid (wq.ownsRow (w.heap.size + 1) 32 2 (.slice a1 lo c1) lo ((iniB lo).flatMap iniC)) ∧ Hid (Own2 insC 9 33 37 wq (w.heap.size + 1) (.slice a th c) (thrB th ins la th)) ∧ Hid (Own2 atomC 4 40 39 wq (w.heap.size + 1) (.slice a3 i c3) (anyB i at')))
              case atStart => exact ⟨0, none, 0, Nat.zero_le _, rfl, rfl, k3, P3, I3, T3, Own2.nil _ _ _ _ _ _⟩
              case round =>
                clear k3 P3 I3 T3 HI H1 PB HO pl
                obtain ⟨i, a3, c3, hir, hgi, rfl, HO, PB, HI, H1, HC⟩ := hrel
                have pl := PB.lt
                rcases Nat.lt_or_ge i ro with hlt3 | hge3
                · obtain ⟨w2, hmk, hrow, hgr⟩ := run_make_full (P := Tryd.prog) wr.drew (w.heap.size + 1) 40 39 i4 (.agg #[.int .i64 0, .int .i64 0, .int .i64 0, .int .i64 0]) 4 Tryd.underlying40 hi4 v0' v1' .i64 .i64 at' (by rw [v2']; omega) (by unfold maxLen; omega) pl
                  rw [made_atm] at hrow
                  have k2 : On wr w2 := ((On.refl wr).drew).grownNone hgr
                  have hS : ∀ W, On wr W → W.cell? ⟨w.heap.size, 4, none⟩ = some (.slice a3 i c3) := fun W k => (PB.on k).at (i := 4) rfl
                  have hS0 : wr.cell? ⟨w.heap.size, 4, none⟩ = some (.slice a3 i c3) := hS wr (On.refl wr)
                  have hS2 := hS w2 k2
                  have kB : On wr (w2.alloc (.cells #[.slice (some ⟨wr.heap.size, 0, none⟩) at' at'] 40)) := k2.alloc _
                  have hS3 := hS _ kB
                  have hmk' : (Instr.makeSlice 40 (.int .i64 (at' : Int)) (.int .i64 (at' : Int))).run Tryd.prog wr.drew = .ok (.slice (some ⟨wr.heap.size, 0, none⟩) at' at') w2 := hmk
                  clear hgr hmk
                  go_wp2
                  refine region_fin (fun W => W.cell? ⟨w.heap.size, 4, none⟩ = some (.slice a3 i c3)) 9 10 (by kernel_rfl) rfl ?_
                  refine fin_take 0 (v := ?_) rfl (by kernel_rfl) (by kernel_rfl) (by kernel_rfl) (by kernel_rfl) (fun _ _ _ h => h) rfl ?_ (hS _ (On.refl wr).drew) ?_
                  rotate_left
                  · intro W hW
                    go_simp
                    (try with_reducible rfl)
                  simp only [Act.put, List.setIfInBounds_toArray, List.set_cons_zero, List.set_cons_succ]
                  refine fin_take 1 (v := ?_) rfl (by kernel_rfl) (by kernel_rfl) (by kernel_rfl) (by kernel_rfl) (fun _ _ _ h => h) rfl ?_ (hS _ (On.refl wr).drew) ?_
                  rotate_left
                  · intro W hW
                    go_simp
                    (try with_reducible rfl)
                  simp only [Act.put, List.setIfInBounds_toArray, List.set_cons_zero, List.set_cons_succ]
                  refine fin_take 2 (v := ?_) rfl (by kernel_rfl) (by kernel_rfl) (by kernel_rfl) (by kernel_rfl) (fun _ _ _ h => h) rfl ?_ (hS _ (On.refl wr).drew) ?_
                  rotate_left
                  · intro W hW
                    go_simp
                    (try with_reducible rfl)
                  simp only [Act.put, List.setIfInBounds_toArray, List.set_cons_zero, List.set_cons_succ]
                  refine fin_take 3 (v := ?_) rfl (by kernel_rfl) (by kernel_rfl) (by kernel_rfl) (by kernel_rfl) (fun _ _ _ h => h) rfl ?_ (hS _ (On.refl wr).drew) ?_
                  rotate_left
                  · intro W hW
                    go_simp
                    (try with_reducible rfl)
                  simp only [Act.put, List.setIfInBounds_toArray, List.set_cons_zero, List.set_cons_succ]
                  refine fin_one 4 rfl rfl (by kernel_rfl) (fun K hK => ?_)
                  go_simp
                  refine hK.out _ _ (fun _ => hS2) ?_
                  clear hK
                  refine fin_one 5 rfl rfl (by kernel_rfl) (fun K hK => ?_)
                  go_simp
                  refine hK.out _ _ (fun _ => hS3) ?_
                  clear hK
                  obtain ⟨vs, hvl, hov, hin⟩ := HC.out
                  have hal : (anyB i at').length = i := by unfold anyB; simp
                  rw [hal] at hov hvl
                  have own4 := own_on hov kB
                  refine fin_one 6 rfl rfl (by kernel_rfl) (fun K hK => ?_)
                  refine wp_append_own _ (.tmp 97) (.tmp 100) 25 rfl (w.heap.size + 1) 40 i3 (.slice none 0 0) 1 24 Tryd.underlying25 hi3 u0' u1' u2' rfl (by decide) (.slice a3 i c3) i vs rfl own4 ⟨w2.heap.size, 0, none⟩ 1 1 [.slice (some ⟨wr.heap.size, 0, none⟩) at' at'] rfl rfl (news_at w2 _ _) (one_slice _ _ _) (by unfold maxLen; omega) (by omega) (by simp only [World.size_alloc]; have := k2.size; omega) ?_
                  intro v' w5 hown5 hg5 _
                  obtain ⟨a6, c6, rfl⟩ := own_slice hown5
                  have blk : ∀ b, (Value.slice a3 i c3).ownBlock = some b → w.heap.size + 1 ≤ b := fun b hb => (hov.lt b hb).1
                  have PB5 : Bk w5 w.heap.size _ := (PB.on kB).grown hg5 (Nat.lt_succ_self _) blk
                  have O5 : Hid (On w w5) := (HO.out.trans kB).grown hg5 (fun b hb => Nat.le_of_succ_le (blk b hb))
                  have hS6 := PB5.at (i := 4) rfl
                  have F6 := fun j => PB5.fr j
                  have I5 : Hid (w5.ownsRow (w.heap.size + 1) 32 2 (.slice a1 lo c1) lo ((iniB lo).flatMap iniC)) := own_far (own_on HI.out kB) own4 ne5 hg5
                  have T5 : Hid (Own2 insC 9 33 37 w5 (w.heap.size + 1) (.slice a th c) (thrB th ins la th)) := Own2.far (Own2.on H1.out kB) own4 ne3 ne4 hg5
                  have hral : (List.replicate at' atmB).length = at' := by simp
                  have C5 : Hid (Own2 atomC 4 40 39 w5 (w.heap.size + 1) (.slice a6 (i + 1) c6) (anyB (i + 1) at')) := by
                    have := Own2.snoc (C := atomC) (k := 4) (LL := anyB i at') (L := List.replicate at' atmB) (hvl.trans hal.symm) (by rw [hal]; exact own4) (fun j u L hu hL => own_on (hin j u L hu hL) kB) ne6 hg5 (by rw [hal]; exact hown5) (by rw [hral]; exact own_on hrow ((On.refl w2).alloc _))
                    show Own2 _ _ _ _ _ _ _ _
                    rw [show anyB (i + 1) at' = anyB i at' ++ [List.replicate at' atmB] by unfold anyB; rw [List.replicate_succ']]
                    exact this
                  clear own4 hown5 hov hin hg5 hrow
                  refine hK.out _ _ (fun _ => hS6) ?_
                  simp only [Act.put, List.setIfInBounds_toArray, List.set_cons_zero, List.set_cons_succ]
                  clear hK
                  refine fin_one 7 rfl rfl (by kernel_rfl) (fun K hK => ?_)
                  go_simp
                  refine hK.out _ _ (fun _ => hS6) ?_
                  clear hK
                  refine fin_take 8 (v := ?_) rfl (by kernel_rfl) (by kernel_rfl) (by kernel_rfl) (by kernel_rfl) (fun _ _ _ h => h) rfl ?_ hS6 ?_
                  rotate_left
                  · intro W hW
                    go_simp
                    (try with_reducible rfl)
                  simp only [Act.put, List.setIfInBounds_toArray, List.set_cons_zero, List.set_cons_succ]
                  refine fin_one 9 rfl rfl (by kernel_rfl) (fun K hK => ?_)
                  go_simp
                  refine hK.out _ _ (fun h => absurd rfl h) ?_
                  refine fin_done (by kernel_rfl) (NoPanic.normal ?_)
                  go_wp2
                  go_roundg (ro - (i + 1))
                  case measure => omega
                  case rel => exact ⟨i + 1, a6, c6, by omega, rfl, by go_num, O5.out.setNew (Nat.le_refl _) _, Bk.puts [.slice a6 (i + 1) c6] w5 [.string ⟨#[110]⟩, .slice a1 lo c1, .slice a th c, .int .i64 2, .slice a3 i c3] 4 PB5, own_set I5.out (Nat.lt_succ_self _) _ _, Own2.set T5.out (Nat.lt_succ_self _) _ _, Own2.set C5.out (Nat.lt_succ_self _) _ _⟩
                · obtain rfl : ro = i := by omega
                  obtain ⟨cv, hcv⟩ : ∃ cv, cv = condB ro at' := ⟨_, rfl⟩
                  have RT : TestRd wr (.agg #[.string ⟨#[110]⟩, .slice a1 lo c1, .slice a th c, .int .i64 2, .slice a3 ro c3]) (testB th ins la lo ro at') := by
                    have eI := iniB_len lo
                    have eT := thrB_len th ins la th
                    have eA : (anyB ro at').length = ro := by unfold anyB; simp
                    refine ⟨a1, c1, a, c, a3, c3, ?_, by show (⟨#[110]⟩ : ByteArray).size ≤ _; decide, ?_, ?_, ?_⟩
                    · show Value.agg #[.string ⟨#[110]⟩, .slice a1 lo c1, .slice a th c, .int .i64 2, .slice a3 ro c3] = .agg #[.string ⟨#[110]⟩, .slice a1 (iniB lo).length c1, .slice a (thrB th ins la th).length c, .int .i64 (condB ro at').k, .slice a3 (condB ro at').any.length c3]
                      rw [hcB, eI, eT]
                      simp only
                      rw [eA]
                    · show Rd iniC 2 wr (.slice a1 (iniB lo).length c1) (iniB lo)
                      refine Rd.own (C := iniC) (k := 2) (fun _ => rfl) (base := w.heap.size + 1) (e := 32) ?_
                      rw [eI]
                      exact HI.out
                    · show Rd2 insC 9 wr (.slice a (thrB th ins la th).length c) (thrB th ins la th)
                      rw [eT]
                      exact Own2.rd (fun _ => rfl) H1.out
                    · show Rd2 atomC 4 wr (.slice a3 (condB ro at').any.length c3) (condB ro at').any
                      rw [hcB]
                      simp only
                      rw [eA]
                      exact Own2.rd (fun _ => rfl) HC.out
                  have p0 := PB.at (i := 0) rfl
                  have p1 := PB.at (i := 1) rfl
                  have p2 := PB.at (i := 2) rfl
                  have p3 := PB.at (i := 3) rfl
                  have p4 := PB.at (i := 4) rfl
                  clear hcB hcv
                  by_cases h1 : 1 ≤ th
                  · by_cases h2 : th ≤ 4
                    · cases h3 : ((th : Int) == 1) with
                      | true =>
                        have E3 : Hid ((th : Int) = 1) := beq_iff_eq.1 h3
                        by_cases h5 : la ≤ 10
                        · by_cases h6 : allB th ins la th ≤ 24
                          · by_cases h7 : lo ≤ 4
                            · by_cases h9 : ro ≤ 8
                              · by_cases h10 : at' ≤ 8
                                · have hG : goodB th ins la lo ro at' = true := by
                                    rw [good_iff]
                                    have e3 := E3.out
                                    omega
                                  rw [hG] at hCk
                                  simp only [if_true] at hCk
                                  have hC1 := hCk _ wr HO.out RT
                                  clear hG hCk RT
                                  go_wp2_with (first | (go_at_call 8; refine hC1.mono ?_; rintro e w1 ⟨rfl, k1⟩; have K1 := On.trans HO.out k1) | (go_at_call 10; refine (hA _ K1).mono ?_; rintro e w2 ⟨rfl, k2⟩))
                                  go_ret
                                  first
                                    | exact ⟨rfl, K1.trans k2⟩
                                    | exact ⟨ret_bool (by simp; omega), K1.trans k2⟩
                                · have hG : goodB th ins la lo ro at' = false := by
                                    rw [Bool.eq_false_iff, Ne, good_iff]
                                    have e3 := E3.out
                                    omega
                                  rw [hG] at hCk
                                  simp only [Bool.false_eq_true, if_false] at hCk
                                  have hC1 := hCk _ wr HO.out RT
                                  clear hG hCk RT
                                  go_wp2_with (first | (go_at_call 8; refine hC1.mono ?_; rintro e w1 ⟨rfl, k1⟩; have K1 := On.trans HO.out k1) | (go_at_call 10; refine (hA _ K1).mono ?_; rintro e w2 ⟨rfl, k2⟩))
                                  go_ret
                                  first
                                    | exact ⟨rfl, K1.trans k2⟩
                                    | exact ⟨ret_bool (by simp; omega), K1.trans k2⟩
                              · have hG : goodB th ins la lo ro at' = false := by
                                  rw [Bool.eq_false_iff, Ne, good_iff]
                                  have e3 := E3.out
                                  omega
                                rw [hG] at hCk
                                simp only [Bool.false_eq_true, if_false] at hCk
                                have hC1 := hCk _ wr HO.out RT
                                clear hG hCk RT
                                go_wp2_with (first | (go_at_call 8; refine hC1.mono ?_; rintro e w1 ⟨rfl, k1⟩; have K1 := On.trans HO.out k1) | (go_at_call 10; refine (hA _ K1).mono ?_; rintro e w2 ⟨rfl, k2⟩))
                                go_ret
                                first
                                  | exact ⟨rfl, K1.trans k2⟩
                                  | exact ⟨ret_bool (by simp; omega), K1.trans k2⟩
                            · have hG : goodB th ins la lo ro at' = false := by
                                rw [Bool.eq_false_iff, Ne, good_iff]
                                have e3 := E3.out
                                omega
                              rw [hG] at hCk
                              simp only [Bool.false_eq_true, if_false] at hCk
                              have hC1 := hCk _ wr HO.out RT
                              clear hG hCk RT
                              go_wp2_with (first | (go_at_call 8; refine hC1.mono ?_; rintro e w1 ⟨rfl, k1⟩; have K1 := On.trans HO.out k1) | (go_at_call 10; refine (hA _ K1).mono ?_; rintro e w2 ⟨rfl, k2⟩))
                              go_ret
                              first
                                | exact ⟨rfl, K1.trans k2⟩
                                | exact ⟨ret_bool (by simp; omega), K1.trans k2⟩
                          · have hG : goodB th ins la lo ro at' = false := by
                              rw [Bool.eq_false_iff, Ne, good_iff]
                              have e3 := E3.out
                              omega
                            rw [hG] at hCk
                            simp only [Bool.false_eq_true, if_false] at hCk
                            have hC1 := hCk _ wr HO.out RT
                            clear hG hCk RT
                            go_wp2_with (first | (go_at_call 8; refine hC1.mono ?_; rintro e w1 ⟨rfl, k1⟩; have K1 := On.trans HO.out k1) | (go_at_call 10; refine (hA _ K1).mono ?_; rintro e w2 ⟨rfl, k2⟩))
                            go_ret
                            first
                              | exact ⟨rfl, K1.trans k2⟩
                              | exact ⟨ret_bool (by simp; omega), K1.trans k2⟩
                        · have hG : goodB th ins la lo ro at' = false := by
                            rw [Bool.eq_false_iff, Ne, good_iff]
                            have e3 := E3.out
                            omega
                          rw [hG] at hCk
                          simp only [Bool.false_eq_true, if_false] at hCk
                          have hC1 := hCk _ wr HO.out RT
                          clear hG hCk RT
                          go_wp2_with (first | (go_at_call 8; refine hC1.mono ?_; rintro e w1 ⟨rfl, k1⟩; have K1 := On.trans HO.out k1) | (go_at_call 10; refine (hA _ K1).mono ?_; rintro e w2 ⟨rfl, k2⟩))
                          go_ret
                          first
                            | exact ⟨rfl, K1.trans k2⟩
                            | exact ⟨ret_bool (by simp; omega), K1.trans k2⟩
                      | false =>
                        have E3 : Hid (¬ (th : Int) = 1) := beq_eq_false_iff_ne.1 h3
                        by_cases h4 : ins ≤ 10
                        · by_cases h5 : la ≤ 10
                          · by_cases h6 : allB th ins la th ≤ 24
                            · by_cases h7 : lo ≤ 4
                              · by_cases h9 : ro ≤ 8
                                · by_cases h10 : at' ≤ 8
                                  · have hG : goodB th ins la lo ro at' = true := by
                                      rw [good_iff]
                                      have e3 := E3.out
                                      omega
                                    rw [hG] at hCk
                                    simp only [if_true] at hCk
                                    have hC1 := hCk _ wr HO.out RT
                                    clear hG hCk RT
                                    go_wp2_with (first | (go_at_call 8; refine hC1.mono ?_; rintro e w1 ⟨rfl, k1⟩; have K1 := On.trans HO.out k1) | (go_at_call 10; refine (hA _ K1).mono ?_; rintro e w2 ⟨rfl, k2⟩))
                                    go_ret
                                    first
                                      | exact ⟨rfl, K1.trans k2⟩
                                      | exact ⟨ret_bool (by simp; omega), K1.trans k2⟩
                                  · have hG : goodB th ins la lo ro at' = false := by
                                      rw [Bool.eq_false_iff, Ne, good_iff]
                                      have e3 := E3.out
                                      omega
                                    rw [hG] at hCk
                                    simp only [Bool.false_eq_true, if_false] at hCk
                                    have hC1 := hCk _ wr HO.out RT
                                    clear hG hCk RT
                                    go_wp2_with (first | (go_at_call 8; refine hC1.mono ?_; rintro e w1 ⟨rfl, k1⟩; have K1 := On.trans HO.out k1) | (go_at_call 10; refine (hA _ K1).mono ?_; rintro e w2 ⟨rfl, k2⟩))
                                    go_ret
                                    first
                                      | exact ⟨rfl, K1.trans k2⟩
                                      | exact ⟨ret_bool (by simp; omega), K1.trans k2⟩
                                · have hG : goodB th ins la lo ro at' = false := by
                                    rw [Bool.eq_false_iff, Ne, good_iff]
                                    have e3 := E3.out
                                    omega
                                  rw [hG] at hCk
                                  simp only [Bool.false_eq_true, if_false] at hCk
                                  have hC1 := hCk _ wr HO.out RT
                                  clear hG hCk RT
                                  go_wp2_with (first | (go_at_call 8; refine hC1.mono ?_; rintro e w1 ⟨rfl, k1⟩; have K1 := On.trans HO.out k1) | (go_at_call 10; refine (hA _ K1).mono ?_; rintro e w2 ⟨rfl, k2⟩))
                                  go_ret
                                  first
                                    | exact ⟨rfl, K1.trans k2⟩
                                    | exact ⟨ret_bool (by simp; omega), K1.trans k2⟩
                              · have hG : goodB th ins la lo ro at' = false := by
                                  rw [Bool.eq_false_iff, Ne, good_iff]
                                  have e3 := E3.out
                                  omega
                                rw [hG] at hCk
                                simp only [Bool.false_eq_true, if_false] at hCk
                                have hC1 := hCk _ wr HO.out RT
                                clear hG hCk RT
                                go_wp2_with (first | (go_at_call 8; refine hC1.mono ?_; rintro e w1 ⟨rfl, k1⟩; have K1 := On.trans HO.out k1) | (go_at_call 10; refine (hA _ K1).mono ?_; rintro e w2 ⟨rfl, k2⟩))
                                go_ret
                                first
                                  | exact ⟨rfl, K1.trans k2⟩
                                  | exact ⟨ret_bool (by simp; omega), K1.trans k2⟩
                            · have hG : goodB th ins la lo ro at' = false := by
                                rw [Bool.eq_false_iff, Ne, good_iff]
                                have e3 := E3.out
                                omega
                              rw [hG] at hCk
                              simp only [Bool.false_eq_true, if_false] at hCk
                              have hC1 := hCk _ wr HO.out RT
                              clear hG hCk RT
                              go_wp2_with (first | (go_at_call 8; refine hC1.mono ?_; rintro e w1 ⟨rfl, k1⟩; have K1 := On.trans HO.out k1) | (go_at_call 10; refine (hA _ K1).mono ?_; rintro e w2 ⟨rfl, k2⟩))
                              go_ret
                              first
                                | exact ⟨rfl, K1.trans k2⟩
                                | exact ⟨ret_bool (by simp; omega), K1.trans k2⟩
                          · have hG : goodB th ins la lo ro at' = false := by
                              rw [Bool.eq_false_iff, Ne, good_iff]
                              have e3 := E3.out
                              omega
                            rw [hG] at hCk
                            simp only [Bool.false_eq_true, if_false] at hCk
                            have hC1 := hCk _ wr HO.out RT
                            clear hG hCk RT
                            go_wp2_with (first | (go_at_call 8; refine hC1.mono ?_; rintro e w1 ⟨rfl, k1⟩; have K1 := On.trans HO.out k1) | (go_at_call 10; refine (hA _ K1).mono ?_; rintro e w2 ⟨rfl, k2⟩))
                            go_ret
                            first
                              | exact ⟨rfl, K1.trans k2⟩
                              | exact ⟨ret_bool (by simp; omega), K1.trans k2⟩
                        · have hG : goodB th ins la lo ro at' = false := by
                            rw [Bool.eq_false_iff, Ne, good_iff]
                            have e3 := E3.out
                            omega
                          rw [hG] at hCk
                          simp only [Bool.false_eq_true, if_false] at hCk
                          have hC1 := hCk _ wr HO.out RT
                          clear hG hCk RT
                          go_wp2_with (first | (go_at_call 8; refine hC1.mono ?_; rintro e w1 ⟨rfl, k1⟩; have K1 := On.trans HO.out k1) | (go_at_call 10; refine (hA _ K1).mono ?_; rintro e w2 ⟨rfl, k2⟩))
                          go_ret
                          first
                            | exact ⟨rfl, K1.trans k2⟩
                            | exact ⟨ret_bool (by simp; omega), K1.trans k2⟩
                    · have hG : goodB th ins la lo ro at' = false := by
                        rw [Bool.eq_false_iff, Ne, good_iff]
                        omega
                      rw [hG] at hCk
                      simp only [Bool.false_eq_true, if_false] at hCk
                      have hC1 := hCk _ wr HO.out RT
                      clear hG hCk RT
                      go_wp2_with (first | (go_at_call 8; refine hC1.mono ?_; rintro e w1 ⟨rfl, k1⟩; have K1 := On.trans HO.out k1) | (go_at_call 10; refine (hA _ K1).mono ?_; rintro e w2 ⟨rfl, k2⟩))
                      go_ret
                      first
                        | exact ⟨rfl, K1.trans k2⟩
                        | exact ⟨ret_bool (by simp; omega), K1.trans k2⟩
                  · have hG : goodB th ins la lo ro at' = false := by
                      rw [Bool.eq_false_iff, Ne, good_iff]
                      omega
                    rw [hG] at hCk
                    simp only [Bool.false_eq_true, if_false] at hCk
                    have hC1 := hCk _ wr HO.out RT
                    clear hG hCk RT
                    go_wp2_with (first | (go_at_call 8; refine hC1.mono ?_; rintro e w1 ⟨rfl, k1⟩; have K1 := On.trans HO.out k1) | (go_at_call 10; refine (hA _ K1).mono ?_; rintro e w2 ⟨rfl, k2⟩))
                    go_ret
                    first
                      | exact ⟨rfl, K1.trans k2⟩
                      | exact ⟨ret_bool (by simp; omega), K1.trans k2⟩
            · have hcB : condB ro at' = ⟨0, []⟩ := by unfold condB; rw [if_neg (by omega)]
              have RT : TestRd wr (.agg #[.string ⟨#[110]⟩, .slice a1 lo c1, .slice a th c, .int .i64 0, .slice none 0 0]) (testB th ins la lo ro at') := by
                have eI := iniB_len lo
                have eT := thrB_len th ins la th
                refine ⟨a1, c1, a, c, none, 0, ?_, by show (⟨#[110]⟩ : ByteArray).size ≤ _; decide, ?_, ?_, ?_⟩
                · show Value.agg #[.string ⟨#[110]⟩, .slice a1 lo c1, .slice a th c, .int .i64 0, .slice none 0 0] = .agg #[.string ⟨#[110]⟩, .slice a1 (iniB lo).length c1, .slice a (thrB th ins la th).length c, .int .i64 (condB ro at').k, .slice none (condB ro at').any.length 0]
                  rw [hcB, eI, eT]
                  rfl
                · show Rd iniC 2 wr (.slice a1 (iniB lo).length c1) (iniB lo)
                  refine Rd.own (C := iniC) (k := 2) (fun _ => rfl) (base := w.heap.size + 1) (e := 32) ?_
                  rw [eI]
                  exact HI.out
                · show Rd2 insC 9 wr (.slice a (thrB th ins la th).length c) (thrB th ins la th)
                  rw [eT]
                  exact Own2.rd (fun _ => rfl) H1.out
                · show Rd2 atomC 4 wr (.slice none (condB ro at').any.length 0) (condB ro at').any
                  rw [hcB]
                  exact Rd2.nil _ _ _
              clear q1
              have p0 := PB.at (i := 0) rfl
              have p1 := PB.at (i := 1) rfl
              have p2 := PB.at (i := 2) rfl
              have p3 := PB.at (i := 3) rfl
              have p4 := PB.at (i := 4) rfl
              clear hcB
              by_cases h1 : 1 ≤ th
              · by_cases h2 : th ≤ 4
                · cases h3 : ((th : Int) == 1) with
                  | true =>
                    have E3 : Hid ((th : Int) = 1) := beq_iff_eq.1 h3
                    by_cases h5 : la ≤ 10
                    · by_cases h6 : allB th ins la th ≤ 24
                      · by_cases h7 : lo ≤ 4
                        · have hG : goodB th ins la lo ro at' = true := by
                            rw [good_iff]
                            have e3 := E3.out
                            omega
                          rw [hG] at hCk
                          simp only [if_true] at hCk
                          have hC1 := hCk _ wr HO.out RT
                          clear hG hCk RT
                          go_wp2_with (first | (go_at_call 8; refine hC1.mono ?_; rintro e w1 ⟨rfl, k1⟩; have K1 := On.trans HO.out k1) | (go_at_call 10; refine (hA _ K1).mono ?_; rintro e w2 ⟨rfl, k2⟩))
                          go_ret
                          first
                            | exact ⟨rfl, K1.trans k2⟩
                            | exact ⟨ret_bool (by simp; omega), K1.trans k2⟩
                        · have hG : goodB th ins la lo ro at' = false := by
                            rw [Bool.eq_false_iff, Ne, good_iff]
                            have e3 := E3.out
                            omega
                          rw [hG] at hCk
                          simp only [Bool.false_eq_true, if_false] at hCk
                          have hC1 := hCk _ wr HO.out RT
                          clear hG hCk RT
                          go_wp2_with (first | (go_at_call 8; refine hC1.mono ?_; rintro e w1 ⟨rfl, k1⟩; have K1 := On.trans HO.out k1) | (go_at_call 10; refine (hA _ K1).mono ?_; rintro e w2 ⟨rfl, k2⟩))
                          go_ret
                          first
                            | exact ⟨rfl, K1.trans k2⟩
                            | exact ⟨ret_bool (by simp; omega), K1.trans k2⟩
                      · have hG : goodB th ins la lo ro at' = false := by
                          rw [Bool.eq_false_iff, Ne, good_iff]
                          have e3 := E3.out
                          omega
                        rw [hG] at hCk
                        simp only [Bool.false_eq_true, if_false] at hCk
                        have hC1 := hCk _ wr HO.out RT
                        clear hG hCk RT
                        go_wp2_with (first | (go_at_call 8; refine hC1.mono ?_; rintro e w1 ⟨rfl, k1⟩; have K1 := On.trans HO.out k1) | (go_at_call 10; refine (hA _ K1).mono ?_; rintro e w2 ⟨rfl, k2⟩))
                        go_ret
                        first
                          | exact ⟨rfl, K1.trans k2⟩
                          | exact ⟨ret_bool (by simp; omega), K1.trans k2⟩
                    · have hG : goodB th ins la lo ro at' = false := by
                        rw [Bool.eq_false_iff, Ne, good_iff]
                        have e3 := E3.out
                        omega
                      rw [hG] at hCk
                      simp only [Bool.false_eq_true, if_false] at hCk
                      have hC1 := hCk _ wr HO.out RT
                      clear hG hCk RT
                      go_wp2_with (first | (go_at_call 8; refine hC1.mono ?_; rintro e w1 ⟨rfl, k1⟩; have K1 := On.trans HO.out k1) | (go_at_call 10; refine (hA _ K1).mono ?_; rintro e w2 ⟨rfl, k2⟩))
                      go_ret
                      first
                        | exact ⟨rfl, K1.trans k2⟩
                        | exact ⟨ret_bool (by simp; omega), K1.trans k2⟩
                  | false =>
                    have E3 : Hid (¬ (th : Int) = 1) := beq_eq_false_iff_ne.1 h3
                    by_cases h4 : ins ≤ 10
                    · by_cases h5 : la ≤ 10
                      · by_cases h6 : allB th ins la th ≤ 24
                        · by_cases h7 : lo ≤ 4
                          · have hG : goodB th ins la lo ro at' = true := by
                              rw [good_iff]
                              have e3 := E3.out
                              omega
                            rw [hG] at hCk
                            simp only [if_true] at hCk
                            have hC1 := hCk _ wr HO.out RT
                            clear hG hCk RT
                            go_wp2_with (first | (go_at_call 8; refine hC1.mono ?_; rintro e w1 ⟨rfl, k1⟩; have K1 := On.trans HO.out k1) | (go_at_call 10; refine (hA _ K1).mono ?_; rintro e w2 ⟨rfl, k2⟩))
                            go_ret
                            first
                              | exact ⟨rfl, K1.trans k2⟩
                              | exact ⟨ret_bool (by simp; omega), K1.trans k2⟩
                          · have hG : goodB th ins la lo ro at' = false := by
                              rw [Bool.eq_false_iff, Ne, good_iff]
                              have e3 := E3.out
                              omega
                            rw [hG] at hCk
                            simp only [Bool.false_eq_true, if_false] at hCk
                            have hC1 := hCk _ wr HO.out RT
                            clear hG hCk RT
                            go_wp2_with (first | (go_at_call 8; refine hC1.mono ?_; rintro e w1 ⟨rfl, k1⟩; have K1 := On.trans HO.out k1) | (go_at_call 10; refine (hA _ K1).mono ?_; rintro e w2 ⟨rfl, k2⟩))
                            go_ret
                            first
                              | exact ⟨rfl, K1.trans k2⟩
                              | exact ⟨ret_bool (by simp; omega), K1.trans k2⟩
                        · have hG : goodB th ins la lo ro at' = false := by
                            rw [Bool.eq_false_iff, Ne, good_iff]
                            have e3 := E3.out
                            omega
                          rw [hG] at hCk
                          simp only [Bool.false_eq_true, if_false] at hCk
                          have hC1 := hCk _ wr HO.out RT
                          clear hG hCk RT
                          go_wp2_with (first | (go_at_call 8; refine hC1.mono ?_; rintro e w1 ⟨rfl, k1⟩; have K1 := On.trans HO.out k1) | (go_at_call 10; refine (hA _ K1).mono ?_; rintro e w2 ⟨rfl, k2⟩))
                          go_ret
                          first
                            | exact ⟨rfl, K1.trans k2⟩
                            | exact ⟨ret_bool (by simp; omega), K1.trans k2⟩
                      · have hG : goodB th ins la lo ro at' = false := by
                          rw [Bool.eq_false_iff, Ne, good_iff]
                          have e3 := E3.out
                          omega
                        rw [hG] at hCk
                        simp only [Bool.false_eq_true, if_false] at hCk
                        have hC1 := hCk _ wr HO.out RT
                        clear hG hCk RT
                        go_wp2_with (first | (go_at_call 8; refine hC1.mono ?_; rintro e w1 ⟨rfl, k1⟩; have K1 := On.trans HO.out k1) | (go_at_call 10; refine (hA _ K1).mono ?_; rintro e w2 ⟨rfl, k2⟩))
                        go_ret
                        first
                          | exact ⟨rfl, K1.trans k2⟩
                          | exact ⟨ret_bool (by simp; omega), K1.trans k2⟩
                    · have hG : goodB th ins la lo ro at' = false := by
                        rw [Bool.eq_false_iff, Ne, good_iff]
                        have e3 := E3.out
                        omega
                      rw [hG] at hCk
                      simp only [Bool.false_eq_true, if_false] at hCk
                      have hC1 := hCk _ wr HO.out RT
                      clear hG hCk RT
                      go_wp2_with (first | (go_at_call 8; refine hC1.mono ?_; rintro e w1 ⟨rfl, k1⟩; have K1 := On.trans HO.out k1) | (go_at_call 10; refine (hA _ K1).mono ?_; rintro e w2 ⟨rfl, k2⟩))
                      go_ret
                      first
                        | exact ⟨rfl, K1.trans k2⟩
                        | exact ⟨ret_bool (by simp; omega), K1.trans k2⟩
                · have hG : goodB th ins la lo ro at' = false := by
                    rw [Bool.eq_false_iff, Ne, good_iff]
                    omega
                  rw [hG] at hCk
                  simp only [Bool.false_eq_true, if_false] at hCk
                  have hC1 := hCk _ wr HO.out RT
                  clear hG hCk RT
                  go_wp2_with (first | (go_at_call 8; refine hC1.mono ?_; rintro e w1 ⟨rfl, k1⟩; have K1 := On.trans HO.out k1) | (go_at_call 10; refine (hA _ K1).mono ?_; rintro e w2 ⟨rfl, k2⟩))
                  go_ret
                  first
                    | exact ⟨rfl, K1.trans k2⟩
                    | exact ⟨ret_bool (by simp; omega), K1.trans k2⟩
              · have hG : goodB th ins la lo ro at' = false := by
                  rw [Bool.eq_false_iff, Ne, good_iff]
                  omega
                rw [hG] at hCk
                simp only [Bool.false_eq_true, if_false] at hCk
                have hC1 := hCk _ wr HO.out RT
                clear hG hCk RT
                go_wp2_with (first | (go_at_call 8; refine hC1.mono ?_; rintro e w1 ⟨rfl, k1⟩; have K1 := On.trans HO.out k1) | (go_at_call 10; refine (hA _ K1).mono ?_; rintro e w2 ⟨rfl, k2⟩))
                go_ret
                first
                  | exact ⟨rfl, K1.trans k2⟩
                  | exact ⟨ret_bool (by simp; omega), K1.trans k2⟩
          · have hcB : condB ro at' = ⟨0, []⟩ := by unfold condB; rw [if_neg (by omega)]
            have RT : TestRd wr (.agg #[.string ⟨#[110]⟩, .slice a1 lo c1, .slice a th c, .int .i64 0, .slice none 0 0]) (testB th ins la lo ro at') := by
              have eI := iniB_len lo
              have eT := thrB_len th ins la th
              refine ⟨a1, c1, a, c, none, 0, ?_, by show (⟨#[110]⟩ : ByteArray).size ≤ _; decide, ?_, ?_, ?_⟩
              · show Value.agg #[.string ⟨#[110]⟩, .slice a1 lo c1, .slice a th c, .int .i64 0, .slice none 0 0] = .agg #[.string ⟨#[110]⟩, .slice a1 (iniB lo).length c1, .slice a (thrB th ins la th).length c, .int .i64 (condB ro at').k, .slice none (condB ro at').any.length 0]
                rw [hcB, eI, eT]
                rfl
              · show Rd iniC 2 wr (.slice a1 (iniB lo).length c1) (iniB lo)
                refine Rd.own (C := iniC) (k := 2) (fun _ => rfl) (base := w.heap.size + 1) (e := 32) ?_
                rw [eI]
                exact HI.out
              · show Rd2 insC 9 wr (.slice a (thrB th ins la th).length c) (thrB th ins la th)
                rw [eT]
                exact Own2.rd (fun _ => rfl) H1.out
              · show Rd2 atomC 4 wr (.slice none (condB ro at').any.length 0) (condB ro at').any
                rw [hcB]
                exact Rd2.nil _ _ _
            clear q1
            have p0 := PB.at (i := 0) rfl
            have p1 := PB.at (i := 1) rfl
            have p2 := PB.at (i := 2) rfl
            have p3 := PB.at (i := 3) rfl
            have p4 := PB.at (i := 4) rfl
            clear hcB
            by_cases h1 : 1 ≤ th
            · by_cases h2 : th ≤ 4
              · cases h3 : ((th : Int) == 1) with
                | true =>
                  have E3 : Hid ((th : Int) = 1) := beq_iff_eq.1 h3
                  by_cases h5 : la ≤ 10
                  · by_cases h6 : allB th ins la th ≤ 24
                    · by_cases h7 : lo ≤ 4
                      · have hG : goodB th ins la lo ro at' = true := by
                          rw [good_iff]
                          have e3 := E3.out
                          omega
                        rw [hG] at hCk
                        simp only [if_true] at hCk
                        have hC1 := hCk _ wr HO.out RT
                        clear hG hCk RT
                        go_wp2_with (first | (go_at_call 8; refine hC1.mono ?_; rintro e w1 ⟨rfl, k1⟩; have K1 := On.trans HO.out k1) | (go_at_call 10; refine (hA _ K1).mono ?_; rintro e w2 ⟨rfl, k2⟩))
                        go_ret
                        first
                          | exact ⟨rfl, K1.trans k2⟩
                          | exact ⟨ret_bool (by simp; omega), K1.trans k2⟩
                      · have hG : goodB th ins la lo ro at' = false := by
                          rw [Bool.eq_false_iff, Ne, good_iff]
                          have e3 := E3.out
                          omega
                        rw [hG] at hCk
                        simp only [Bool.false_eq_true, if_false] at hCk
                        have hC1 := hCk _ wr HO.out RT
                        clear hG hCk RT
                        go_wp2_with (first | (go_at_call 8; refine hC1.mono ?_; rintro e w1 ⟨rfl, k1⟩; have K1 := On.trans HO.out k1) | (go_at_call 10; refine (hA _ K1).mono ?_; rintro e w2 ⟨rfl, k2⟩))
                        go_ret
                        first
                          | exact ⟨rfl, K1.trans k2⟩
                          | exact ⟨ret_bool (by simp; omega), K1.trans k2⟩
                    · have hG : goodB th ins la lo ro at' = false := by
                        rw [Bool.eq_false_iff, Ne, good_iff]
                        have e3 := E3.out
                        omega
                      rw [hG] at hCk
                      simp only [Bool.false_eq_true, if_false] at hCk
                      have hC1 := hCk _ wr HO.out RT
                      clear hG hCk RT
                      go_wp2_with (first | (go_at_call 8; refine hC1.mono ?_; rintro e w1 ⟨rfl, k1⟩; have K1 := On.trans HO.out k1) | (go_at_call 10; refine (hA _ K1).mono ?_; rintro e w2 ⟨rfl, k2⟩))
                      go_ret
                      first
                        | exact ⟨rfl, K1.trans k2⟩
                        | exact ⟨ret_bool (by simp; omega), K1.trans k2⟩
                  · have hG : goodB th ins la lo ro at' = false := by
                      rw [Bool.eq_false_iff, Ne, good_iff]
                      have e3 := E3.out
                      omega
                    rw [hG] at hCk
                    simp only [Bool.false_eq_true, if_false] at hCk
                    have hC1 := hCk _ wr HO.out RT
                    clear hG hCk RT
                    go_wp2_with (first | (go_at_call 8; refine hC1.mono ?_; rintro e w1 ⟨rfl, k1⟩; have K1 := On.trans HO.out k1) | (go_at_call 10; refine (hA _ K1).mono ?_; rintro e w2 ⟨rfl, k2⟩))
                    go_ret
                    first
                      | exact ⟨rfl, K1.trans k2⟩
                      | exact ⟨ret_bool (by simp; omega), K1.trans k2⟩
                | false =>
                  have E3 : Hid (¬ (th : Int) = 1) := beq_eq_false_iff_ne.1 h3
                  by_cases h4 : ins ≤ 10
                  · by_cases h5 : la ≤ 10
                    · by_cases h6 : allB th ins la th ≤ 24
                      · by_cases h7 : lo ≤ 4
                        · have hG : goodB th ins la lo ro at' = true := by
                            rw [good_iff]
                            have e3 := E3.out
                            omega
                          rw [hG] at hCk
                          simp only [if_true] at hCk
                          have hC1 := hCk _ wr HO.out RT
                          clear hG hCk RT
                          go_wp2_with (first | (go_at_call 8; refine hC1.mono ?_; rintro e w1 ⟨rfl, k1⟩; have K1 := On.trans HO.out k1) | (go_at_call 10; refine (hA _ K1).mono ?_; rintro e w2 ⟨rfl, k2⟩))
                          go_ret
                          first
                            | exact ⟨rfl, K1.trans k2⟩
                            | exact ⟨ret_bool (by simp; omega), K1.trans k2⟩
                        · have hG : goodB th ins la lo ro at' = false := by
                            rw [Bool.eq_false_iff, Ne, good_iff]
                            have e3 := E3.out
                            omega
                          rw [hG] at hCk
                          simp only [Bool.false_eq_true, if_false] at hCk
                          have hC1 := hCk _ wr HO.out RT
                          clear hG hCk RT
                          go_wp2_with (first | (go_at_call 8; refine hC1.mono ?_; rintro e w1 ⟨rfl, k1⟩; have K1 := On.trans HO.out k1) | (go_at_call 10; refine (hA _ K1).mono ?_; rintro e w2 ⟨rfl, k2⟩))
                          go_ret
                          first
                            | exact ⟨rfl, K1.trans k2⟩
                            | exact ⟨ret_bool (by simp; omega), K1.trans k2⟩
                      · have hG : goodB th ins la lo ro at' = false := by
                          rw [Bool.eq_false_iff, Ne, good_iff]
                          have e3 := E3.out
                          omega
                        rw [hG] at hCk
                        simp only [Bool.false_eq_true, if_false] at hCk
                        have hC1 := hCk _ wr HO.out RT
                        clear hG hCk RT
                        go_wp2_with (first | (go_at_call 8; refine hC1.mono ?_; rintro e w1 ⟨rfl, k1⟩; have K1 := On.trans HO.out k1) | (go_at_call 10; refine (hA _ K1).mono ?_; rintro e w2 ⟨rfl, k2⟩))
                        go_ret
                        first
                          | exact ⟨rfl, K1.trans k2⟩
                          | exact ⟨ret_bool (by simp; omega), K1.trans k2⟩
                    · have hG : goodB th ins la lo ro at' = false := by
                        rw [Bool.eq_false_iff, Ne, good_iff]
                        have e3 := E3.out
                        omega
                      rw [hG] at hCk
                      simp only [Bool.false_eq_true, if_false] at hCk
                      have hC1 := hCk _ wr HO.out RT
                      clear hG hCk RT
                      go_wp2_with (first | (go_at_call 8; refine hC1.mono ?_; rintro e w1 ⟨rfl, k1⟩; have K1 := On.trans HO.out k1) | (go_at_call 10; refine (hA _ K1).mono ?_; rintro e w2 ⟨rfl, k2⟩))
                      go_ret
                      first
                        | exact ⟨rfl, K1.trans k2⟩
                        | exact ⟨ret_bool (by simp; omega), K1.trans k2⟩
                  · have hG : goodB th ins la lo ro at' = false := by
                      rw [Bool.eq_false_iff, Ne, good_iff]
                      have e3 := E3.out
                      omega
                    rw [hG] at hCk
                    simp only [Bool.false_eq_true, if_false] at hCk
                    have hC1 := hCk _ wr HO.out RT
                    clear hG hCk RT
                    go_wp2_with (first | (go_at_call 8; refine hC1.mono ?_; rintro e w1 ⟨rfl, k1⟩; have K1 := On.trans HO.out k1) | (go_at_call 10; refine (hA _ K1).mono ?_; rintro e w2 ⟨rfl, k2⟩))
                    go_ret
                    first
                      | exact ⟨rfl, K1.trans k2⟩
                      | exact ⟨ret_bool (by simp; omega), K1.trans k2⟩
              · have hG : goodB th ins la lo ro at' = false := by
                  rw [Bool.eq_false_iff, Ne, good_iff]
                  omega
                rw [hG] at hCk
                simp only [Bool.false_eq_true, if_false] at hCk
                have hC1 := hCk _ wr HO.out RT
                clear hG hCk RT
                go_wp2_with (first | (go_at_call 8; refine hC1.mono ?_; rintro e w1 ⟨rfl, k1⟩; have K1 := On.trans HO.out k1) | (go_at_call 10; refine (hA _ K1).mono ?_; rintro e w2 ⟨rfl, k2⟩))
                go_ret
                first
                  | exact ⟨rfl, K1.trans k2⟩
                  | exact ⟨ret_bool (by simp; omega), K1.trans k2⟩
            · have hG : goodB th ins la lo ro at' = false := by
                rw [Bool.eq_false_iff, Ne, good_iff]
                omega
              rw [hG] at hCk
              simp only [Bool.false_eq_true, if_false] at hCk
              have hC1 := hCk _ wr HO.out RT
              clear hG hCk RT
              go_wp2_with (first | (go_at_call 8; refine hC1.mono ?_; rintro e w1 ⟨rfl, k1⟩; have K1 := On.trans HO.out k1) | (go_at_call 10; refine (hA _ K1).mono ?_; rintro e w2 ⟨rfl, k2⟩))
              go_ret
              first
                | exact ⟨rfl, K1.trans k2⟩
                | exact ⟨ret_bool (by simp; omega), K1.trans k2⟩
end Go.Proofs.YtjjmkacfkjkhgaaDoor
