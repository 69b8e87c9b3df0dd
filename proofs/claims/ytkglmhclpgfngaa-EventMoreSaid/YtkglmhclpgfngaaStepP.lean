/- Threads step by step, in plain Lean. Of no memory. -/
import Derived.Test.YtkglmhclpgfngaaTrees
import Derived.Test.YtkglmhclpgfngaaDoW
namespace Go.Proofs.Ytkglmhclpgfngaa

/-- Where a thread is. -/
structure LocT where
  pc : Int
  r0 : Int
  r1 : Int
  r2 : Int
  r3 : Int
def regAt (l : LocT) (r : Int) : Int := if r = 0 then l.r0 else if r = 1 then l.r1 else if r = 2 then l.r2 else l.r3
def setR (l : LocT) (r v : Int) : LocT := if r = 0 then ⟨l.pc, v, l.r1, l.r2, l.r3⟩ else if r = 1 then ⟨l.pc, l.r0, v, l.r2, l.r3⟩ else if r = 2 then ⟨l.pc, l.r0, l.r1, v, l.r3⟩ else ⟨l.pc, l.r0, l.r1, l.r2, v⟩
def pcTo (l : LocT) (n : Int) : LocT := ⟨n, l.r0, l.r1, l.r2, l.r3⟩
def valOf (o : Opd) (l : LocT) : Int := if regOk o.r then regAt l o.r else o.v
def withR (l : LocT) (r v : Int) : LocT := if regOk r then setR l r v else l
def resOf (i : InsT) (l : LocT) : Int := if i.o == 0 then valOf i.a l else doV i.o (valOf i.a l) (valOf i.b l)
def skipOf (i : InsT) (l : LocT) (left : Int) : Int := if valOf i.a l == valOf i.b l then min (max i.n 0) left else 0
theorem regOk_four {r : Int} (h : regOk r = true) : r = 0 ∨ r = 1 ∨ r = 2 ∨ r = 3 := by
  unfold regOk at h
  simp only [Bool.and_eq_true, decide_eq_true_eq] at h
  omega
/-- A thread that is made normal: as many steps as it may take. -/
def settleN : Nat → List InsT → LocT → LocT
  | 0, _, l => l
  | n + 1, L, l =>
    match L[l.pc.toNat]? with
    | none => l
    | some i =>
      if i.k == 5 then settleN n L (pcTo (withR l i.r (resOf i l)) (l.pc + 1))
      else if i.k == 6 then settleN n L (pcTo l (l.pc + skipOf i l (L.length - l.pc - 1) + 1))
      else l
def settleP (L : List InsT) (l : LocT) : LocT := settleN (L.length - l.pc.toNat) L l
theorem withR_pc (l : LocT) (r v : Int) : (withR l r v).pc = l.pc := by
  unfold withR setR
  repeat' split
  all_goals rfl
theorem skipOf_bd (i : InsT) (l : LocT) (left : Int) (h : 0 ≤ left) : 0 ≤ skipOf i l left ∧ skipOf i l left ≤ left := by
  unfold skipOf
  split <;> omega
theorem settleN_more : ∀ (n m : Nat) (L : List InsT) (l : LocT), 0 ≤ l.pc → L.length - l.pc.toNat ≤ n → n ≤ m → settleN n L l = settleN m L l
  | 0, 0, _, _, _, _, _ => rfl
  | 0, m + 1, L, l, _, h, _ => by
    have : L[l.pc.toNat]? = none := List.getElem?_eq_none (by omega)
    unfold settleN
    rw [this]
  | n + 1, 0, _, _, _, _, h => by omega
  | n + 1, m + 1, L, l, h0, h, hm => by
    unfold settleN
    rcases hi : L[l.pc.toNat]? with _ | i
    · rfl
    · have hlt : l.pc.toNat < L.length := (List.getElem?_eq_some_iff.1 hi).1
      have hs := skipOf_bd i l (L.length - l.pc - 1) (by omega)
      simp only
      split
      · exact settleN_more n m L _ (by simp only [pcTo]; omega) (by simp only [pcTo]; omega) (by omega)
      · split
        · exact settleN_more n m L _ (by simp only [pcTo]; omega) (by simp only [pcTo]; omega) (by omega)
        · rfl
theorem settle_end {L : List InsT} {l : LocT} (h : L.length ≤ l.pc.toNat) : settleP L l = l := by
  unfold settleP
  rw [show L.length - l.pc.toNat = 0 by omega]
  rfl
theorem settle_step {L : List InsT} {l : LocT} {i : InsT} (h0 : 0 ≤ l.pc) (hi : L[l.pc.toNat]? = some i) : settleP L l =
    if i.k == 5 then settleP L (pcTo (withR l i.r (resOf i l)) (l.pc + 1)) else if i.k == 6 then settleP L (pcTo l (l.pc + skipOf i l (L.length - l.pc - 1) + 1)) else l := by
  have hlt : l.pc.toNat < L.length := (List.getElem?_eq_some_iff.1 hi).1
  have hs := skipOf_bd i l (L.length - l.pc - 1) (by omega)
  unfold settleP
  obtain ⟨n, hn⟩ : ∃ n, L.length - l.pc.toNat = n + 1 := ⟨L.length - l.pc.toNat - 1, by omega⟩
  rw [hn]
  rw [settleN, hi]
  simp only
  split
  · exact (settleN_more _ n L _ (by simp only [pcTo]; omega) (Nat.le_refl _) (by simp only [pcTo]; omega)).symm
  · split
    · exact (settleN_more _ n L _ (by simp only [pcTo]; omega) (Nat.le_refl _) (by simp only [pcTo]; omega)).symm
    · rfl
end Go.Proofs.Ytkglmhclpgfngaa
