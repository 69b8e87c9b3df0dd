/- Threads end within their instructions. Of no memory. -/
import Derived.Test.YtjjmkacfkjkhgaaDoorStepI
import Derived.Test.YtjjmkacfkjkhgaaDoorRComp
namespace Go.Proofs.YtjjmkacfkjkhgaaDoor

def kOk (L : List InsT) : Prop := ∀ x ∈ L, 1 ≤ x.k ∧ x.k ≤ 6
/-- Normal: no set and no skip stands there. -/
def normP (L : List InsT) (l : LocT) : Prop := ∀ i, L[l.pc.toNat]? = some i → (i.k == 5) = false ∧ (i.k == 6) = false
theorem settleN_facts : ∀ (n : Nat) (L : List InsT) (l : LocT), 0 ≤ l.pc → l.pc ≤ L.length → L.length - l.pc.toNat ≤ n → l.pc ≤ (settleN n L l).pc ∧ (settleN n L l).pc ≤ L.length ∧ normP L (settleN n L l)
  | 0, L, l, h0, h1, h2 => by
    refine ⟨Int.le_refl _, h1, fun i hi => ?_⟩
    have := (List.getElem?_eq_some_iff.1 hi).1
    simp only [settleN] at this
    omega
  | n + 1, L, l, h0, h1, h2 => by
    unfold settleN
    rcases hi : L[l.pc.toNat]? with _ | x
    · refine ⟨Int.le_refl _, h1, fun i hj => ?_⟩
      rw [hi] at hj
      cases hj
    · have hlt : l.pc.toNat < L.length := (List.getElem?_eq_some_iff.1 hi).1
      have hs := skipOf_bd x l (L.length - l.pc - 1) (by omega)
      simp only
      split
      · obtain ⟨a, b, c⟩ := settleN_facts n L (pcTo (withR l x.r (resOf x l)) (l.pc + 1)) (by simp only [pcTo]; omega) (by simp only [pcTo]; omega) (by simp only [pcTo]; omega)
        refine ⟨?_, b, c⟩
        simp only [pcTo] at a ⊢
        omega
      · split
        · obtain ⟨a, b, c⟩ := settleN_facts n L (pcTo l (l.pc + skipOf x l (L.length - l.pc - 1) + 1)) (by simp only [pcTo]; omega) (by simp only [pcTo]; omega) (by simp only [pcTo]; omega)
          refine ⟨?_, b, c⟩
          simp only [pcTo] at a ⊢
          omega
        · rename_i h5 h6
          refine ⟨Int.le_refl _, h1, fun i hj => ?_⟩
          rw [hi] at hj
          obtain rfl := Option.some.inj hj
          exact ⟨by simpa using h5, by simpa using h6⟩
theorem settle_facts (L : List InsT) (l : LocT) (h0 : 0 ≤ l.pc) (h1 : l.pc ≤ L.length) : l.pc ≤ (settleP L l).pc ∧ (settleP L l).pc ≤ L.length ∧ normP L (settleP L l) := settleN_facts _ L l h0 h1 (Nat.le_refl _)
theorem start_facts (L : List InsT) : 0 ≤ (startP L).pc ∧ (startP L).pc ≤ L.length ∧ normP L (startP L) := settle_facts L ⟨0, 0, 0, 0, 0⟩ (Int.le_refl _) (Int.natCast_nonneg _)
theorem step_pc (x : InsT) (l : LocT) (v : Int) : (stepTo x l v).pc = l.pc + 1 := rfl
theorem after_facts {L : List InsT} {l : LocT} {x : InsT} (v : Int) (h : nextP L l = some x) : l.pc + 1 ≤ (afterP L l v).pc ∧ (afterP L l v).pc ≤ L.length ∧ normP L (afterP L l v) := by
  obtain ⟨p0, p1⟩ := next_at h
  unfold afterP
  rw [h]
  simp only
  have := settle_facts L (stepTo x l v) (by rw [step_pc]; omega) (by rw [step_pc]; omega)
  rw [step_pc] at this
  exact this
theorem after_none {L : List InsT} {l : LocT} (v : Int) (h : nextP L l = none) : afterP L l v = l := by
  unfold afterP
  rw [h]
theorem next_kind {L : List InsT} {l : LocT} {x : InsT} (h : nextP L l = some x) : (x.k == 5) = false ∧ (x.k == 6) = false := by
  unfold nextP at h
  split at h
  · split at h
    · split at h
      · rename_i hs
        obtain rfl := Option.some.inj h
        unfold seenB at hs
        simp only [Bool.or_eq_true, beq_iff_eq] at hs
        constructor
        · simp; omega
        · simp; omega
      · cases h
    · cases h
  · cases h
theorem next_end {L : List InsT} {l : LocT} (hk : kOk L) (hn : normP L l) (h0 : 0 ≤ l.pc) (h1 : l.pc ≤ L.length) (h : nextP L l = none) : l.pc = L.length := by
  rcases Decidable.em (l.pc < L.length) with hlt | hge
  · obtain ⟨i, hi⟩ : ∃ i, L[l.pc.toNat]? = some i := ⟨_, List.getElem?_eq_getElem (by omega)⟩
    obtain ⟨n5, n6⟩ := hn i hi
    obtain ⟨k1, k6⟩ := hk i (List.mem_of_getElem? hi)
    have hs : seenB i.k = true := by
      unfold seenB
      simp only [Bool.or_eq_true, beq_iff_eq]
      simp only [beq_eq_false_iff_ne] at n5 n6
      omega
    unfold nextP at h
    rw [if_pos h0, hi] at h
    simp only [hs, if_true] at h
    cases h
  · omega
theorem insOk_kind {x : InsT} (h : insOk x = true) : 1 ≤ x.k ∧ x.k ≤ 6 := by
  unfold insOk at h
  repeat' split at h
  all_goals first
    | (rename_i hk; simp only [beq_iff_eq] at hk; omega)
    | (rename_i hk _; simp only [beq_iff_eq] at hk; omega)
    | cases h
theorem kOk_rpl {LT : List UInt8} {L : List InsT} (h : L.all insOk = true) : kOk (rplRow LT L) := by
  intro y hy
  obtain ⟨x, hx, rfl⟩ := List.mem_map.1 hy
  have hk : (rplIns LT x).k = x.k := by unfold rplIns; split <;> rfl
  rw [hk]
  exact insOk_kind (List.all_eq_true.1 h x hx)
end Go.Proofs.YtjjmkacfkjkhgaaDoor
