/- What the document's own Next answers. -/
import Derived.Test.YtnfmagafajpmpaaDoorRefSign
namespace Go.Proofs.YtnfmagafajpmpaaDoor
open Go.RowKit

/-- Where the document's Next goes on. -/
def rtoV (s : ByteArray) (a : Nat) : Nat := if eC pB s a = 0 then to s a else pl s a

theorem rnext_is (s : ByteArray) (a : Nat) (hs : s.size ≤ 140737488351232) (ha : a ≤ s.size) (w : World) :
    Calls Tryd.prog 6 #[.string s, .int .i64 a] w fun e w' => e = .returned (.tuple #[tkV s a, .int .i64 (rtoV s a), erV s a]) ∧ On w w' := by
  have hS := fun w1 => rskip_is s a hs ha w1
  have hp := pl_le (s := s) ha
  unfold tkV erV rtoV
  rcases Nat.lt_or_ge (pl s a) s.size with hlt | hge
  · have hk := kind_at hlt
    have hz := tsize_at hlt
    have ek : kd s a = kind (suf s (pl s a)) := rfl
    have ez : sz s a = tsize (suf s (pl s a)) := rfl
    by_cases h1 : letN (bN s (pl s a)) = true
    · simp only [h1, if_true] at hk hz
      have h0 : eC pB s a = 0 := by unfold eC; rw [ek, hk]; simp
      have hto : to s a = pl s a + 1 + runL (suf s (pl s a + 1)) := by unfold to; rw [ez, hz]; omega
      have hx : tx s a = s.extract (pl s a) (pl s a + 1 + runL (suf s (pl s a + 1))) := by show s.extract (pl s a) (to s a) = _; rw [hto]
      simp only [h0, if_true, hto, hx, ek, hk]
      exact rn_word s a (pl s a) w hs hlt h1 hS
    · have h1' : letN (bN s (pl s a)) = false := by simpa using h1
      by_cases h2 : digN (bN s (pl s a)) = true
      · simp only [h1', h2, if_true, Bool.false_eq_true, if_false] at hk hz
        have hto : to s a = pl s a + 1 + runL (suf s (pl s a + 1)) := by unfold to; rw [ez, hz]; omega
        have hx : tx s a = s.extract (pl s a) (pl s a + 1 + runL (suf s (pl s a + 1))) := by show s.extract (pl s a) (to s a) = _; rw [hto]
        by_cases hg : pB (tx s a) = true
        · have h0 : eC pB s a = 0 := by unfold eC; rw [ek, hk, hg]; simp
          rw [hx] at hg
          simp only [h0, if_true, hto, hx, ek, hk]
          exact rn_dig s a (pl s a) w hs hlt h1' h2 hg hS
        · have hg' : pB (tx s a) = false := by simpa using hg
          have h5 : eC pB s a = 5 := by unfold eC; rw [ek, hk, hg']; simp
          rw [hx] at hg'
          simp only [h5]
          exact rn_digbad s a (pl s a) w hs hlt h1' h2 hg' hS
      · have h2' : digN (bN s (pl s a)) = false := by simpa using h2
        by_cases h3 : bN s (pl s a) = 45 ∧ digN (bN s (pl s a + 1)) = true
        · obtain ⟨h45, hd1⟩ := h3
          have hb : (bN s (pl s a) == 45 && digN (bN s (pl s a + 1))) = true := by rw [h45, hd1]; rfl
          have hp1 : pl s a + 1 < s.size := word_lt (by unfold wordN; rw [hd1]; simp)
          simp only [h1', h2', hb, if_true, Bool.false_eq_true, if_false] at hk hz
          have hto : to s a = pl s a + 1 + runL (suf s (pl s a + 1)) := by unfold to; rw [ez, hz]; omega
          have hx : tx s a = s.extract (pl s a) (pl s a + 1 + runL (suf s (pl s a + 1))) := by show s.extract (pl s a) (to s a) = _; rw [hto]
          by_cases hg : pB (tx s a) = true
          · have h0 : eC pB s a = 0 := by unfold eC; rw [ek, hk, hg]; simp
            rw [hx] at hg
            simp only [h0, if_true, hto, hx, ek, hk]
            exact rn_min s a (pl s a) w hs hlt h1' h2' h45 hp1 hd1 hg hS
          · have hg' : pB (tx s a) = false := by simpa using hg
            have h5 : eC pB s a = 5 := by unfold eC; rw [ek, hk, hg']; simp
            rw [hx] at hg'
            simp only [h5]
            exact rn_minbad s a (pl s a) w hs hlt h1' h2' h45 hp1 hd1 hg' hS
        · have hb : (bN s (pl s a) == 45 && digN (bN s (pl s a + 1))) = false := by
            rw [Bool.and_eq_false_iff]
            by_cases h45 : bN s (pl s a) = 45
            · exact Or.inr (by have := fun h => h3 ⟨h45, h⟩; simpa using this)
            · exact Or.inl (by rw [beq_eq_false_iff_ne]; exact h45)
          simp only [h1', h2', hb, Bool.false_eq_true, if_false] at hk hz
          have hsg : Calls Tryd.prog 6 #[.string s, .int .i64 a] w fun e w' => e = .returned (sgV s (pl s a)) ∧ On w w' := by
            by_cases h45 : bN s (pl s a) = 45
            · rcases Nat.lt_or_ge (pl s a + 1) s.size with hp1 | hp1
              · exact rs_minus s a (pl s a) w hs hlt h1' h2' h45 hp1 (by have := fun h => h3 ⟨h45, h⟩; simpa using this) hS
              · exact rs_last s a (pl s a) w hs hlt h1' h2' h45 hp1 hS
            · exact rs_other s a (pl s a) w hs hlt h1' h2' h45 hS
          refine hsg.mono ?_
          rintro e w' ⟨rfl, hW⟩
          refine ⟨?_, hW⟩
          unfold sgV
          by_cases h5 : pairN (bN s (pl s a)) (bN s (pl s a + 1)) = true
          · simp only [h5, if_true] at hk hz ⊢
            have h0 : eC pB s a = 0 := by unfold eC; rw [ek, hk]; simp
            have hto : to s a = pl s a + 2 := by unfold to; rw [ez, hz]
            have hx : tx s a = s.extract (pl s a) (pl s a + 2) := by show s.extract (pl s a) (to s a) = _; rw [hto]
            simp only [h0, if_true, hto, hx, ek, hk]
            rfl
          · have h5' : pairN (bN s (pl s a)) (bN s (pl s a + 1)) = false := by simpa using h5
            by_cases h6 : oneN (bN s (pl s a)) = true
            · simp only [h5', h6, if_true, Bool.false_eq_true, if_false] at hk hz ⊢
              have h0 : eC pB s a = 0 := by unfold eC; rw [ek, hk]; simp
              have hto : to s a = pl s a + 1 := by unfold to; rw [ez, hz]
              have hx : tx s a = s.extract (pl s a) (pl s a + 1) := by show s.extract (pl s a) (to s a) = _; rw [hto]
              simp only [h0, if_true, hto, hx, ek, hk]
              rfl
            · have h6' : oneN (bN s (pl s a)) = false := by simpa using h6
              simp only [h5', h6', Bool.false_eq_true, if_false] at hk hz ⊢
              have h4 : eC pB s a = 4 := by unfold eC; rw [ek, hk]; simp
              simp only [h4]
              rfl
  · have hpe : pl s a = s.size := by omega
    have hse : suf s (pl s a) = [] := suf_ge (by omega)
    have hk : kd s a = 4 := by unfold kd; rw [hse]; rfl
    have hz : sz s a = 0 := by unfold sz; rw [hse]; rfl
    have h0 : eC pB s a = 0 := by unfold eC; rw [hk]; simp
    have hto : to s a = pl s a := by unfold to; rw [hz]; rfl
    have hx : tx s a = ⟨#[]⟩ := by
      apply bytes_ext
      rw [tx_list, hse, List.take_nil]
    simp only [h0, if_true, hto, hx, hk]
    exact rn_end s a (pl s a) w hpe hS

end Go.Proofs.YtnfmagafajpmpaaDoor
