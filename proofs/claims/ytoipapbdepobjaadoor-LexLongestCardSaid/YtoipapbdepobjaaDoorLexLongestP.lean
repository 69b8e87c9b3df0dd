/- Rows of the signs that may begin a longer one, in plain words: their tokens. -/
import Derived.Test.YtoipapbdepobjaaDoorLexStep
import Derived.Test.YtoipapbdepobjaaDoorLexCut
namespace Go.Proofs.YtoipapbdepobjaaDoor

def sgc (c : UInt8) : Prop := c = 60 ∨ c = 61 ∨ c = 43 ∨ c = 38
def SgB (s : ByteArray) : Prop := ∀ c ∈ s.data.toList, sgc c
theorem sg_facts {c : UInt8} (h : sgc c) (r : List UInt8) : gap false (c :: r) = 0 ∧ kind (c :: r) = 3 ∧ tsize (c :: r) = if pairN c.toNat (hd r) then 2 else 1 := by
  rcases h with rfl | rfl | rfl | rfl
  all_goals
    refine ⟨rfl, ?_, ?_⟩
    · rw [kind_cons, if_neg (by decide), if_neg (by decide), if_neg (by simp)]
      split <;> rfl
    · rw [tsize_cons, if_neg (by decide), if_neg (by decide), if_neg (by simp)]
      rfl
theorem sg_at {s : ByteArray} (h : SgB s) {a : Nat} (ha : a < s.size) : sgc s[a] := h _ (by
  have : a < s.data.toList.length := ha
  exact List.getElem_mem this)
theorem sg_pl {s : ByteArray} (h : SgB s) {a : Nat} (ha : a < s.size) : pl s a = a ∧ kd s a = 3 ∧ sz s a = (if pairN (bN s a) (bN s (a + 1)) then 2 else 1) ∧ eC pB s a = 0 := by
  obtain ⟨h1, h2, h3⟩ := sg_facts (sg_at h ha) (suf s (a + 1))
  have hp : pl s a = a := by unfold pl; rw [suf_lt ha, h1]; rfl
  have hk : kd s a = 3 := by unfold kd; rw [hp, suf_lt ha, h2]
  refine ⟨hp, hk, ?_, by unfold eC; rw [hk]; rfl⟩
  unfold sz
  rw [hp, suf_lt ha, h3, bN_lt ha]
  rfl
theorem sg_end {s : ByteArray} : pl s s.size = s.size ∧ kd s s.size = 4 ∧ eC pB s s.size = 0 := by
  have hp : pl s s.size = s.size := by unfold pl; rw [suf_ge (Nat.le_refl _)]; rfl
  have hk : kd s s.size = 4 := by unfold kd; rw [hp, suf_ge (Nat.le_refl _)]; rfl
  exact ⟨hp, hk, by unfold eC; rw [hk]; rfl⟩
theorem sg_al {s : ByteArray} (h : SgB s) : ∀ (n a : Nat), s.size - a ≤ n → a ≤ s.size → (al pB s a).2 = (0, 0)
  | n, a, hn, ha => by
    rcases Nat.lt_or_ge a s.size with hlt | hge
    · obtain ⟨hp, hk, hz, he⟩ := sg_pl h hlt
      rw [al_step ha he (by omega)]
      have hg := to_gt (eC_kd he) (by omega)
      match n with
      | 0 => omega
      | n + 1 => exact sg_al h n (to s a) (by omega) (to_le ha)
    · obtain rfl : a = s.size := by omega
      obtain ⟨hp, hk, he⟩ := sg_end (s := s)
      rw [al_end (Nat.le_refl _) he hk]
theorem sg_len {s : ByteArray} (h : SgB s) : ∀ (n a : Nat), s.size - a ≤ n → a ≤ s.size → (al pB s a).1.length ≤ s.size - a + 1
  | n, a, hn, ha => by
    rcases Nat.lt_or_ge a s.size with hlt | hge
    · obtain ⟨hp, hk, hz, he⟩ := sg_pl h hlt
      rw [al_step ha he (by omega)]
      have hg := to_gt (eC_kd he) (by omega)
      have ht := to_le ha
      match n with
      | 0 => omega
      | n + 1 =>
        have := sg_len h n (to s a) (by omega) ht
        simp only [List.length_cons]
        omega
    · obtain rfl : a = s.size := by omega
      obtain ⟨hp, hk, he⟩ := sg_end (s := s)
      rw [al_end (Nat.le_refl _) he hk]
      simp
theorem sg_ok {s : ByteArray} (h : SgB s) (hs : s.size ≤ 4000) : ecA s = 0 ∧ epA s = 0 ∧ al pB s 0 = (tsA s, 0, 0) := by
  have hz := sg_al h s.size 0 (by omega) (Nat.zero_le _)
  have h1 : ecA s = 0 := by unfold ecA ecS; rw [if_neg (by omega), hz]
  obtain ⟨_, h2, h3⟩ := ts_ok h1
  exact ⟨h1, h3, h2⟩
/-- Two signs side by side. -/
theorem two_list {s : ByteArray} {a : Nat} (ha : a + 1 < s.size) : (s.extract a (a + 2)).data.toList = [s[a], s[a + 1]] := by
  rw [cut_list, suf_lt (show a < s.size by omega), suf_lt ha]
  rfl
theorem sg_pair {c d : UInt8} (hc : sgc c) (hd : sgc d) : pairN c.toNat d.toNat = (([c, d] == [60, 60]) || ([c, d] == [61, 61])) := by
  rcases hc with rfl | rfl | rfl | rfl <;> rcases hd with rfl | rfl | rfl | rfl <;> decide
theorem SgB.snoc {s : ByteArray} (h : SgB s) {c : UInt8} (hc : sgc c) : SgB (s ++ ⟨#[c]⟩) := by
  intro x hx
  rw [list_append] at hx
  rcases List.mem_append.1 hx with hx | hx
  · exact h x hx
  · simp at hx; subst hx; exact hc
theorem size_snoc (s : ByteArray) (c : UInt8) : (s ++ ⟨#[c]⟩ : ByteArray).size = s.size + 1 := by
  rw [size_list, list_append, size_list]; simp
/-- What must be told at a: the longest. -/
def wantB (s : ByteArray) (a : Nat) : ByteArray := if pairN (bN s a) (bN s (a + 1)) then s.extract a (a + 2) else s.extract a (a + 1)
end Go.Proofs.YtoipapbdepobjaaDoor
