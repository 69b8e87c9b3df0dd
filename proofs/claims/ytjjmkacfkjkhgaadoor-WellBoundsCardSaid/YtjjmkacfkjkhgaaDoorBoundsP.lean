/- What Check tells of the tests that WellBounds makes. Of no memory. -/
import Derived.Test.YtjjmkacfkjkhgaaDoorTrees
namespace Go.Proofs.YtjjmkacfkjkhgaaDoor

def fenT : InsT := ⟨3, 0, 0, ⟨0, 0⟩, 0, ⟨0, 0⟩, 0⟩
def rowB (n : Nat) : List InsT := List.replicate n fenT
/-- How many instructions thread k has. -/
def wide (th ins la k : Nat) : Nat := if k + 1 = th then la else ins
def thrB (th ins la i : Nat) : List (List InsT) := (List.range i).map (fun k => rowB (wide th ins la k))
def allB (th ins la : Nat) : Nat → Nat
  | 0 => 0
  | i + 1 => allB th ins la i + wide th ins la i
def iniB (i : Nat) : List InitT := (List.range i).map (fun (k : Nat) => (⟨97 + (k : Int), 0⟩ : InitT))
def atmB : AtomT := ⟨0, 0, 0, 0⟩
def anyB (ro at' : Nat) : List (List AtomT) := List.replicate ro (List.replicate at' atmB)
def condB (ro at' : Nat) : CondT := if 0 < ro ∧ 0 < at' then ⟨2, anyB ro at'⟩ else ⟨0, []⟩
def testB (th ins la lo ro at' : Nat) : TestT := ⟨⟨#[110]⟩, iniB lo, thrB th ins la th, condB ro at'⟩
def goodB (th ins la lo ro at' : Nat) : Bool := decide (1 ≤ th) && decide (th ≤ 4) && (th == 1 || decide (ins ≤ 10)) && decide (la ≤ 10) && decide (allB th ins la th ≤ 24) && decide (lo ≤ 4) && ((condB ro at').k == 0 || (decide (ro ≤ 8) && decide (at' ≤ 8)))

theorem thrB_step (th ins la i : Nat) : thrB th ins la i ++ [rowB (wide th ins la i)] = thrB th ins la (i + 1) := by
  unfold thrB
  rw [List.range_succ, List.map_append]
  rfl
theorem thrB_len (th ins la i : Nat) : (thrB th ins la i).length = i := by unfold thrB; simp
theorem iniB_step (i : Nat) : iniB i ++ [⟨97 + (i : Int), 0⟩] = iniB (i + 1) := by
  unfold iniB
  rw [List.range_succ, List.map_append]
  rfl
theorem iniB_len (i : Nat) : (iniB i).length = i := by unfold iniB; simp
theorem sumB : ∀ (th ins la i : Nat), sumL (thrB th ins la i) = allB th ins la i
  | _, _, _, 0 => rfl
  | th, ins, la, i + 1 => by
    rw [← thrB_step]
    unfold sumL
    rw [List.foldl_append]
    show (thrB th ins la i).foldl _ 0 + (rowB (wide th ins la i)).length = allB th ins la i + wide th ins la i
    have := sumB th ins la i
    unfold sumL at this
    rw [this]
    unfold rowB
    simp
theorem anyWide (th ins la : Nat) (h : 1 ≤ th) : (thrB th ins la th).any (fun L => decide (10 < L.length)) = (decide (10 < la) || (decide (2 ≤ th) && decide (10 < ins))) := by
  rw [Bool.eq_iff_iff]
  simp only [List.any_eq_true, decide_eq_true_eq, Bool.or_eq_true, Bool.and_eq_true]
  unfold thrB rowB wide
  constructor
  · rintro ⟨L, hL, h10⟩
    obtain ⟨k, hk, rfl⟩ := List.mem_map.1 hL
    rw [List.mem_range] at hk
    rw [List.length_replicate] at h10
    split at h10
    · exact Or.inl h10
    · exact Or.inr ⟨by omega, h10⟩
  · rintro (h1 | ⟨h2, h1⟩)
    · refine ⟨List.replicate la fenT, List.mem_map.2 ⟨th - 1, List.mem_range.2 (by omega), ?_⟩, by simpa using h1⟩
      rw [if_pos (by omega)]
    · refine ⟨List.replicate ins fenT, List.mem_map.2 ⟨0, List.mem_range.2 (by omega), ?_⟩, by simpa using h1⟩
      rw [if_neg (by omega)]
theorem locRow_fen (n m : Nat) : locRow n (rowB m) = n := by
  unfold locRow rowB
  induction m with
  | zero => rfl
  | succ m ih => rw [List.replicate_succ, List.foldl_cons]; exact ih
theorem locThr_fen (n : Nat) (f : Nat → Nat) : ∀ ks : List Nat, locThr n (ks.map (fun k => rowB (f k))) = n
  | [] => rfl
  | k :: ks => by
    unfold locThr
    rw [List.map_cons, List.foldl_cons, locRow_fen]
    exact locThr_fen n f ks
theorem locAts_zero (n m : Nat) : locAts n (List.replicate m atmB) = n := by
  unfold locAts
  induction m with
  | zero => rfl
  | succ m ih => rw [List.replicate_succ, List.foldl_cons]; exact ih
theorem locAny_zero (n ro at' : Nat) : locAny n (anyB ro at') = n := by
  unfold locAny anyB
  induction ro with
  | zero => rfl
  | succ ro ih => rw [List.replicate_succ, List.foldl_cons, locAts_zero]; exact ih
theorem cntB : ∀ lo : Fin 8, cntN (locIni 0 (iniB lo.val)) = lo.val ∧ twiceFrom 0 (iniB lo.val) = false ∧ (iniB lo.val).all initOk = true := by decide +kernel
theorem okRowB (n : Nat) : threadOk (rowB n) = true := by
  unfold threadOk rowB
  rw [List.all_replicate]
  simp [show insOk fenT = true by decide]
theorem skipRowB : ∀ n : Nat, skipBad (rowB n) = false
  | 0 => rfl
  | n + 1 => by
    unfold rowB
    rw [List.replicate_succ]
    unfold skipBad
    have := skipRowB n
    unfold rowB at this
    rw [this]
    rfl
theorem check_bounds (th ins la lo ro at' : Nat) (hl : lo < 8) : checkT (testB th ins la lo ro at') = if goodB th ins la lo ro at' then 0 else 8 := by
  obtain ⟨c1, c2, c3⟩ := cntB ⟨lo, hl⟩
  simp only at c1 c2 c3
  have hthr : (thrB th ins la th).all threadOk = true := by
    unfold thrB
    rw [List.all_map, List.all_eq_true]
    intro k _
    exact okRowB _
  have hskip : (thrB th ins la th).any skipBad = false := by
    unfold thrB
    rw [List.any_map, List.any_eq_false]
    intro k _
    simp [Function.comp, skipRowB]
  have hrow : ∀ n, 0 < n → rowOk (List.replicate n atmB) = true := by
    intro n hn
    unfold rowOk
    rw [List.all_replicate]
    simp [hn, show atomOk atmB = true by decide]
  have hcond : condOk (condB ro at') = true := by
    unfold condB
    split
    · rename_i h
      unfold condOk anyB
      simp only []
      rw [List.all_replicate, hrow at' h.2]
      simp [h.1]
    · rfl
  have hok : testOk (testB th ins la lo ro at') = true := by
    unfold testOk testB
    simp only [c3, hthr, hcond, Bool.and_true]
    decide
  have hlocs : locsN (testB th ins la lo ro at') = locIni 0 (iniB lo) := by
    unfold locsN testB
    simp only
    have h1 : locThr (locIni 0 (iniB lo)) (thrB th ins la th) = locIni 0 (iniB lo) := locThr_fen _ (wide th ins la) _
    rw [h1]
    unfold condB
    split
    · exact locAny_zero _ _ _
    · rfl
  have hbig : bigT (testB th ins la lo ro at') = (thrBig (thrB th ins la th) || decide (4 < lo) || condBig (condB ro at').any) := by
    unfold bigT
    rw [hlocs, c1]
    show (decide (20 < (⟨#[110]⟩ : ByteArray).size) || _ || _ || _) = _
    rw [show decide (20 < (⟨#[110]⟩ : ByteArray).size) = false by decide, Bool.false_or]
    rfl
  have hcb : condBig (condB ro at').any = !((condB ro at').k == 0 || (decide (ro ≤ 8) && decide (at' ≤ 8))) := by
    unfold condB
    split
    · rename_i h
      unfold condBig anyB
      simp only []
      rw [List.any_replicate]
      have e0 : ((2 : Int) == 0) = false := by decide
      rw [e0, if_neg (by omega), List.length_replicate, List.length_replicate, Bool.false_or, Bool.eq_iff_iff]
      simp
      omega
    · rfl
  have htb : thrBig (thrB th ins la th) = !(decide (1 ≤ th) && decide (th ≤ 4) && (th == 1 || decide (ins ≤ 10)) && decide (la ≤ 10) && decide (allB th ins la th ≤ 24)) := by
    unfold thrBig
    rw [thrB_len, sumB]
    by_cases h0 : th = 0
    · subst h0; simp
    · rw [anyWide th ins la (by omega), Bool.eq_iff_iff]
      simp
      omega
  have hg : bigT (testB th ins la lo ro at') = !goodB th ins la lo ro at' := by
    rw [hbig, hcb, htb]
    unfold goodB
    rw [show decide (4 < lo) = !decide (lo ≤ 4) by rw [Bool.eq_iff_iff]; simp, ← Bool.not_and, ← Bool.not_and]
  unfold checkT
  rw [hok, hg]
  simp only [if_true]
  cases hgb : goodB th ins la lo ro at' with
  | false => rfl
  | true =>
    have hth : 1 ≤ th := by
      unfold goodB at hgb
      simp only [Bool.and_eq_true, decide_eq_true_eq] at hgb
      omega
    have hnw : nowhere (testB th ins la lo ro at') = false := by
      unfold nowhere testB
      simp only [hskip, Bool.false_or, thrB_len]
      unfold condB
      split
      · unfold anyB
        simp only []
        rw [List.any_replicate]
        have : (List.replicate at' atmB).any (farAtom th) = false := by
          rw [List.any_replicate]
          have hf : farAtom th atmB = false := by unfold farAtom atmB; simp; omega
          rw [hf]
          split <;> rfl
        rw [this]
        split <;> rfl
      · rfl
    show (if (!true) = true then (8 : Int) else if twiceFrom 0 (iniB lo) = true then 9 else if nowhere (testB th ins la lo ro at') = true then 10 else 0) = if true = true then 0 else 8
    rw [c2, hnw]
    rfl
end Go.Proofs.YtjjmkacfkjkhgaaDoor
