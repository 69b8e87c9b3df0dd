/- What the document's own Next and All answer. -/
import Derived.Test.YtoipapbdepobjaaDoorRefSign
namespace Go.Proofs.YtoipapbdepobjaaDoor
open Go.RowKit

/-- Where the document's Next goes on. -/
def rtoV (s : ByteArray) (a : Nat) : Nat := if eC pB s a = 0 then to s a else pl s a

theorem rnext_is (s : ByteArray) (a : Nat) (hs : s.size ≤ 140737488351232) (ha : a ≤ s.size) (w : World) :
    Calls Tryd.prog 16 #[.string s, .int .i64 a] w fun e w' => e = .returned (.tuple #[tkV s a, .int .i64 (rtoV s a), erV s a]) ∧ On w w' := by
  have hS := fun w1 => rskip_is s a hs ha w1
  have hp := pl_le (s := s) ha
  unfold tkV erV rtoV
  rcases Nat.lt_or_ge (pl s a) s.size with hlt | hge
  · have hk := kind_at hlt
    have hz := tsize_at hlt
    have ek : kd s a = kind (suf s (pl s a)) := rfl
    have ez : sz s a = tsize (suf s (pl s a)) := rfl
    by_cases h1 : letN (bN s (pl s a)) = true
    · simp only [h1, if_true] at hk hz
      have h0 : eC pB s a = 0 := by unfold eC; rw [ek, hk]; simp
      have hto : to s a = pl s a + 1 + runL (suf s (pl s a + 1)) := by unfold to; rw [ez, hz]; omega
      have hx : tx s a = s.extract (pl s a) (pl s a + 1 + runL (suf s (pl s a + 1))) := by show s.extract (pl s a) (to s a) = _; rw [hto]
      simp only [h0, if_true, hto, hx, ek, hk]
      exact rn_word s a (pl s a) w hs hlt h1 hS
    · have h1' : letN (bN s (pl s a)) = false := by simpa using h1
      by_cases h2 : digN (bN s (pl s a)) = true
      · simp only [h1', h2, if_true, Bool.false_eq_true, if_false] at hk hz
        have hto : to s a = pl s a + 1 + runL (suf s (pl s a + 1)) := by unfold to; rw [ez, hz]; omega
        have hx : tx s a = s.extract (pl s a) (pl s a + 1 + runL (suf s (pl s a + 1))) := by show s.extract (pl s a) (to s a) = _; rw [hto]
        by_cases hg : pB (tx s a) = true
        · have h0 : eC pB s a = 0 := by unfold eC; rw [ek, hk, hg]; simp
          rw [hx] at hg
          simp only [h0, if_true, hto, hx, ek, hk]
          exact rn_dig s a (pl s a) w hs hlt h1' h2 hg hS
        · have hg' : pB (tx s a) = false := by simpa using hg
          have h5 : eC pB s a = 5 := by unfold eC; rw [ek, hk, hg']; simp
          rw [hx] at hg'
          simp only [h5]
          exact rn_digbad s a (pl s a) w hs hlt h1' h2 hg' hS
      · have h2' : digN (bN s (pl s a)) = false := by simpa using h2
        by_cases h3 : bN s (pl s a) = 45 ∧ digN (bN s (pl s a + 1)) = true
        · obtain ⟨h45, hd1⟩ := h3
          have hb : (bN s (pl s a) == 45 && digN (bN s (pl s a + 1))) = true := by rw [h45, hd1]; rfl
          have hp1 : pl s a + 1 < s.size := word_lt (by unfold wordN; rw [hd1]; simp)
          simp only [h1', h2', hb, if_true, Bool.false_eq_true, if_false] at hk hz
          have hto : to s a = pl s a + 1 + runL (suf s (pl s a + 1)) := by unfold to; rw [ez, hz]; omega
          have hx : tx s a = s.extract (pl s a) (pl s a + 1 + runL (suf s (pl s a + 1))) := by show s.extract (pl s a) (to s a) = _; rw [hto]
          by_cases hg : pB (tx s a) = true
          · have h0 : eC pB s a = 0 := by unfold eC; rw [ek, hk, hg]; simp
            rw [hx] at hg
            simp only [h0, if_true, hto, hx, ek, hk]
            exact rn_min s a (pl s a) w hs hlt h1' h2' h45 hp1 hd1 hg hS
          · have hg' : pB (tx s a) = false := by simpa using hg
            have h5 : eC pB s a = 5 := by unfold eC; rw [ek, hk, hg']; simp
            rw [hx] at hg'
            simp only [h5]
            exact rn_minbad s a (pl s a) w hs hlt h1' h2' h45 hp1 hd1 hg' hS
        · have hb : (bN s (pl s a) == 45 && digN (bN s (pl s a + 1))) = false := by
            rw [Bool.and_eq_false_iff]
            by_cases h45 : bN s (pl s a) = 45
            · exact Or.inr (by have := fun h => h3 ⟨h45, h⟩; simpa using this)
            · exact Or.inl (by rw [beq_eq_false_iff_ne]; exact h45)
          simp only [h1', h2', hb, Bool.false_eq_true, if_false] at hk hz
          have hsg : Calls Tryd.prog 16 #[.string s, .int .i64 a] w fun e w' => e = .returned (sgV s (pl s a)) ∧ On w w' := by
            by_cases h45 : bN s (pl s a) = 45
            · rcases Nat.lt_or_ge (pl s a + 1) s.size with hp1 | hp1
              · exact rs_minus s a (pl s a) w hs hlt h1' h2' h45 hp1 (by have := fun h => h3 ⟨h45, h⟩; simpa using this) hS
              · exact rs_last s a (pl s a) w hs hlt h1' h2' h45 hp1 hS
            · exact rs_other s a (pl s a) w hs hlt h1' h2' h45 hS
          refine hsg.mono ?_
          rintro e w' ⟨rfl, hW⟩
          refine ⟨?_, hW⟩
          unfold sgV
          by_cases h5 : pairN (bN s (pl s a)) (bN s (pl s a + 1)) = true
          · simp only [h5, if_true] at hk hz ⊢
            have h0 : eC pB s a = 0 := by unfold eC; rw [ek, hk]; simp
            have hto : to s a = pl s a + 2 := by unfold to; rw [ez, hz]
            have hx : tx s a = s.extract (pl s a) (pl s a + 2) := by show s.extract (pl s a) (to s a) = _; rw [hto]
            simp only [h0, if_true, hto, hx, ek, hk]
            rfl
          · have h5' : pairN (bN s (pl s a)) (bN s (pl s a + 1)) = false := by simpa using h5
            by_cases h6 : oneN (bN s (pl s a)) = true
            · simp only [h5', h6, if_true, Bool.false_eq_true, if_false] at hk hz ⊢
              have h0 : eC pB s a = 0 := by unfold eC; rw [ek, hk]; simp
              have hto : to s a = pl s a + 1 := by unfold to; rw [ez, hz]
              have hx : tx s a = s.extract (pl s a) (pl s a + 1) := by show s.extract (pl s a) (to s a) = _; rw [hto]
              simp only [h0, if_true, hto, hx, ek, hk]
              rfl
            · have h6' : oneN (bN s (pl s a)) = false := by simpa using h6
              simp only [h5', h6', Bool.false_eq_true, if_false] at hk hz ⊢
              have h4 : eC pB s a = 4 := by unfold eC; rw [ek, hk]; simp
              simp only [h4]
              rfl
  · have hpe : pl s a = s.size := by omega
    have hse : suf s (pl s a) = [] := suf_ge (by omega)
    have hk : kd s a = 4 := by unfold kd; rw [hse]; rfl
    have hz : sz s a = 0 := by unfold sz; rw [hse]; rfl
    have h0 : eC pB s a = 0 := by unfold eC; rw [hk]; simp
    have hto : to s a = pl s a := by unfold to; rw [hz]; rfl
    have hx : tx s a = ⟨#[]⟩ := by
      apply bytes_ext
      rw [tx_list, hse, List.take_nil]
    simp only [h0, if_true, hto, hx, hk]
    exact rn_end s a (pl s a) w hpe hS

theorem rall_long (s : ByteArray) (hl : 4000 < s.size) (hs : s.size ≤ 140737488351232) (w : World) :
    Calls Tryd.prog 10 #[.string s] w fun e w' => e = .returned (.tuple #[.slice none 0 0, .agg #[.int .i64 2, .int .i64 4000]]) ∧ On w w' := by
  have h1 : (4000 : Int) < s.size := by omega
  go_enter Tryd.func10, Tryd.ntmps10
  go_wp2
  (try simp only [Exit.inBlock, Exit.then])
  refine bodyPost_ret (v := .tuple #[.slice none 0 0, .agg #[.int .i64 2, .int .i64 4000]]) ?_ rfl ⟨rfl, ?_⟩
  · rw [results_tmp_cell rfl]
    go_simp
  · exact (On.refl _).alloc _

theorem own_on {w w' : World} {base : Nat} {e : TypeId} {n k : Nat} {v : Value} {xs : List Value} (h : w.ownsRow base e n v k xs) (o : On w w') : w'.ownsRow base e n v k xs :=
  h.kept (row := none) ⟨o.os, o.tape, o.output, o.size, fun i hi _ => o.block i hi⟩ (by cases v.ownBlock <;> simp)

set_option maxHeartbeats 1000000 in
theorem rall_short (s : ByteArray) (hs : s.size ≤ 4000) (w : World) :
    Calls Tryd.prog 10 #[.string s] w fun e w' => ∃ v, e = .returned (.tuple #[v, .agg #[.int .i64 (ecS s), .int .i64 (epS s)]]) ∧ Tks w' v (tsS s) ∧ On w w' := by
  obtain ⟨i0, hi, hz0, hz1, hz2⟩ := info_parts infoTk
  have hsz : ¬ ((4000 : Int) < s.size) := by omega
  go_enter Tryd.func10, Tryd.ntmps10
  go_wp2
  have hE1 : Eb (w.alloc (.cells #[.int .i64 0, .int .i64 0] 26)) w.heap.size := heap_alloc_new w _
  have hOn1 : On w (w.alloc (.cells #[.int .i64 0, .int .i64 0] 26)) := (On.refl w).alloc _
  go_loopg [4, 5] (s.size + 1) (fun k v av wr => ∃ (a : Nat) (ts : List Tk), k = s.size + 1 - a ∧ av = .int .i64 a ∧ a ≤ s.size ∧ wr.ownsRow (w.heap.size + 1) 34 3 v ts.length (tksC ts) ∧ ts.length ≤ a ∧ (ts ++ (al pB s a).1, (al pB s a).2) = al pB s 0 ∧ Eb wr w.heap.size ∧ On w wr)
  case atStart => exact ⟨0, [], rfl, rfl, Nat.zero_le _, World.ownsRow_nil _ _ _ _, Nat.le_refl _, by simp, hE1, hOn1⟩
  case round =>
    obtain ⟨a, ts, hk, rfl, h4, hown, hta, hal, heb, hon⟩ := hrel
    have hN := rnext_is s a (by omega) h4 wr
    have HAL : Hid ((ts ++ (al pB s a).1, (al pB s a).2) = al pB s 0) := hal
    clear hal hE1 hOn1
    unfold tkV erV rtoV at hN
    by_cases h0 : eC pB s a = 0
    · simp only [h0, if_true] at hN
      have hbd : (ts.length + 1) * 32 ≤ 140737488355328 := by omega
      go_wp2_with (first | (go_at_call 16; refine hN.mono ?_; rintro e w2 ⟨rfl, hw2⟩; have hE2 : Eb w2 w.heap.size := (hw2.block w.heap.size (lt_of_block heb)).trans heb; have hown2 := own_on hown hw2; have hlt : w.heap.size < w2.heap.size := lt_of_block hE2) | (at_builtin; refine wpList_append_own _ rfl _ _ 23 rfl (w.heap.size + 1) 34 i0 (.agg #[.int .i64 0, .string ⟨#[]⟩, .int .i64 0]) 3 32 Tryd.underlying23 hi hz0 hz1 hz2 rfl (by decide) _ _ _ rfl (((hown2.alloc _).alloc _).alloc _) ⟨w2.heap.size + 1 + 1, 0, none⟩ 1 1 (tkC (tk s a)) rfl rfl ?c1 ?c2 ?c3 ?c4 ?c5 ?_))
      case c1 => exact news_at w2 _ _ (tk s a)
      case c2 =>
        intro u hu
        simp only [tkC, List.mem_cons, List.not_mem_nil, or_false] at hu
        rcases hu with rfl | rfl | rfl <;> rfl
      case c3 => unfold maxLen; omega
      case c4 => exact hbd
      case c5 => simp; omega
      intro v' w3 hown3 hg3 _
      have own_lt : ∀ g, u4.ownBlock = some g → w.heap.size + 1 ≤ g ∧ g < w2.heap.size := fun g h => hown2.lt g h
      have hE3 : Eb w3 w.heap.size := by
        refine (hg3.block w.heap.size (by simp; omega) (fun h => by have := (own_lt _ h.symm).1; omega)).trans ?_
        rw [Below.heap_alloc _ _ _ (by simp; omega), Below.heap_alloc _ _ _ (by simp; omega), Below.heap_alloc _ _ _ hlt]
        exact hE2
      have hk0 : w3.cell? ⟨w2.heap.size, 0, none⟩ = some (.int .i64 (kd s a)) := by
        refine hg3.cell (a := ⟨w2.heap.size, 0, none⟩) (first_at w2 _ _ _ _ 0) (fun h => ?_)
        exact Nat.lt_irrefl _ (own_lt _ h.symm).2
      have hon3 : On w w3 := Below.grown ((((hon.trans hw2).alloc _).alloc _).alloc _) hg3 (by simp; omega) (fun g h => by have := (own_lt _ h).1; omega)
      have hown3' : w3.ownsRow (w.heap.size + 1) 34 3 v' (ts ++ [tk s a]).length (tksC (ts ++ [tk s a])) := by
        rw [tksC_append, tksC_one]
        simpa using hown3
      have g0 := hE3.e0
      have g1 := hE3.e1
      have f0 := hE3.f 0
      have f1 := hE3.f 1
      have hE3' : Hid (Eb w3 w.heap.size) := hE3
      clear hown hown2 hown3 hg3 hN hw2 hE2 heb hE3 own_lt
      by_cases hk4 : kd s a = 4
      · have hkb : ((kd s a : Int) == 4) = true := by rw [hk4]; rfl
        have HK : Hid (kd s a = 4) := hk4
        clear hk4
        go_wp2
        (try simp only [Exit.inBlock, Exit.then])
        have hEnd := al_end h4 h0 HK.out
        refine bodyPost_ret (v := .tuple #[v', .agg #[.int .i64 0, .int .i64 0]]) ?_ rfl ⟨v', ?_, ?_, ?_⟩
        · rw [results_tmp_cell rfl]
          go_simp
        · unfold ecS epS; rw [← HAL.out, hEnd]; rfl
        · unfold tsS; rw [← HAL.out, hEnd, if_pos rfl]
          exact Tks.of_own (ownsRow_setCell_below (ownsRow_setCell_below hown3' (Nat.lt_succ_self _) _) (Nat.lt_succ_self _) _)
        · exact (hon3.setNew (Nat.le_refl _) _).setNew (Nat.le_refl _) _
      · have hkb : ((kd s a : Int) == 4) = false := by rw [beq_eq_false_iff_ne]; omega
        have hgt := to_gt (eC_kd h0) hk4
        have hst := al_step h4 h0 hk4
        have HST : Hid (al pB s a = (tk s a :: (al pB s (to s a)).1, (al pB s (to s a)).2)) := hst
        clear hst
        go_wp2
        go_roundg (s.size + 1 - to s a)
        case measure => have := to_le h4; omega
        case rel =>
          refine ⟨to s a, ts ++ [tk s a], rfl, rfl, to_le h4, hown3', by simp; omega, ?_, hE3'.out, hon3⟩
          rw [← HAL.out, HST.out]
          simp
    · simp only [h0, if_false] at hN
      have hC : ((eC pB s a : Int) != 0) = true := by simp; omega
      go_wp2_with (go_at_call 16; refine hN.mono ?_; rintro e w2 ⟨rfl, hw2⟩; have hE2 : Eb w2 w.heap.size := (hw2.block w.heap.size (lt_of_block heb)).trans heb; have g0 := hE2.e0; have g1 := hE2.e1; have f0 := hE2.f 0; have f1 := hE2.f 1; have hlt : w.heap.size < w2.heap.size := lt_of_block hE2; have hlt' := Nat.lt_succ_of_lt hlt)
      go_region
      all_goals (try go_wp2)
      (try simp only [Exit.inBlock, Exit.then])
      refine bodyPost_ret (v := .tuple #[.slice none 0 0, .agg #[.int .i64 (eC pB s a), .int .i64 (pl s a)]]) ?_ rfl ⟨.slice none 0 0, ?_, ?_, ?_⟩
      · rw [results_tmp_cell rfl]
        go_simp
      · unfold ecS epS; rw [← HAL.out, al_err h4 h0]
      · unfold tsS; rw [← HAL.out, al_err h4 h0, if_neg h0]
        exact Or.inl ⟨rfl, rfl⟩
      · exact (((((hon.trans hw2).setNew (Nat.le_refl _) _).setNew (Nat.le_refl _) _).alloc _).alloc _).drew


/-- The document's ALL. -/
theorem rall_is (s : ByteArray) (hs : s.size ≤ 140737488351232) (w : World) :
    Calls Tryd.prog 10 #[.string s] w fun e w' => ∃ v, e = .returned (.tuple #[v, .agg #[.int .i64 (ecA s), .int .i64 (epA s)]]) ∧ Tks w' v (tsA s) ∧ On w w' := by
  unfold tsA ecA epA
  by_cases h : 4000 < s.size
  · simp only [h, if_true]
    refine (rall_long s h hs w).mono ?_
    rintro e w' ⟨rfl, hW⟩
    exact ⟨_, rfl, Or.inl ⟨rfl, rfl⟩, hW⟩
  · simp only [h, if_false]
    exact rall_short s (by omega) w
end Go.Proofs.YtoipapbdepobjaaDoor
