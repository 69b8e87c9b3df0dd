/- What Locs and Check tell of the tests that WellLocs makes. Of no memory. -/
import Derived.Test.YtjjmkacfkjkhgaaDoorTrees
namespace Go.Proofs.YtjjmkacfkjkhgaaDoor

def iniW (A : List Nat) : List InitT := A.map (fun (m : Nat) => (⟨97 + (m : Int), 0⟩ : InitT))
def insW (m : Nat) : InsT := ⟨2, 0, 97 + (m : Int), ⟨0, 0⟩, 0, ⟨0, 0⟩, 0⟩
def atmW (m : Nat) : AtomT := ⟨-1, 0, 97 + (m : Int), 0⟩
def rowW (B : List Nat) : List InsT := B.map insW
def anyW (C : List Nat) : List (List AtomT) := C.map (fun (m : Nat) => [atmW m])
def condW (C : List Nat) : CondT := if C.length = 0 then ⟨0, []⟩ else ⟨1, anyW C⟩
def testW (A B C : List Nat) : TestT := ⟨⟨#[110]⟩, iniW A, [rowW B], condW C⟩
def hasW (A : List Nat) (i : Nat) : Bool := A.contains i
def wantTo (F : Nat → Bool) (c : Nat) : List UInt8 := ((List.range c).filter F).map (fun i => UInt8.ofNat (97 + i))
theorem wantTo_step (F : Nat → Bool) (c : Nat) : wantTo F (c + 1) = if F c then wantTo F c ++ [UInt8.ofNat (97 + c)] else wantTo F c := by
  unfold wantTo
  rw [List.range_succ, List.filter_append, List.map_append]
  cases hF : F c with
  | true =>
    rw [List.filter_cons_of_pos hF, if_pos rfl]
    rfl
  | false =>
    rw [List.filter_cons_of_neg (by rw [hF]; decide)]
    simp
theorem wantTo_len (F : Nat → Bool) (c : Nat) : (wantTo F c).length ≤ c := by
  unfold wantTo
  rw [List.length_map]
  have := List.length_filter_le F (List.range c)
  simpa using this
theorem bit_with (n m i : Nat) (hm : m < 26) : (withL n (97 + (m : Int))).testBit i = (n.testBit i || (i == m)) := by
  unfold withL
  rw [if_pos (by omega), show ((97 + (m : Int)) - 97).toNat = m by omega, Nat.testBit_or, Nat.testBit_two_pow]
  congr 1
  by_cases h : m = i
  · subst h; simp
  · have h' : ¬ i = m := fun e => h e.symm
    simp [h, h']
theorem bits_fold (i : Nat) : ∀ (A : List Nat) (n : Nat), (∀ m ∈ A, m < 26) → (A.foldl (fun (n m : Nat) => withL n (97 + (m : Int))) n).testBit i = (n.testBit i || hasW A i)
  | [], n, _ => by simp [hasW]
  | m :: A, n, h => by
    rw [List.foldl_cons, bits_fold i A _ (fun x hx => h x (List.mem_cons_of_mem _ hx)), bit_with n m i (h m (List.mem_cons_self)), Bool.or_assoc]
    congr 1
theorem locIni_w (n : Nat) (A : List Nat) : locIni n (iniW A) = A.foldl (fun (n m : Nat) => withL n (97 + (m : Int))) n := by
  unfold locIni iniW
  rw [List.foldl_map]
theorem locRow_w (n : Nat) (B : List Nat) : locRow n (rowW B) = B.foldl (fun (n m : Nat) => withL n (97 + (m : Int))) n := by
  unfold locRow rowW
  rw [List.foldl_map]
  rfl
theorem locAny_w : ∀ (C : List Nat) (n : Nat), locAny n (anyW C) = C.foldl (fun (n m : Nat) => withL n (97 + (m : Int))) n
  | [], _ => rfl
  | m :: C, n => by
    unfold anyW locAny
    rw [List.map_cons, List.foldl_cons, List.foldl_cons]
    exact locAny_w C _
theorem cond_any (C : List Nat) : (condW C).any = anyW C := by
  unfold condW
  split
  · rename_i h
    have : C = [] := List.eq_nil_of_length_eq_zero h
    subst this; rfl
  · rfl
section
variable (A B C : List Nat) (hA : ∀ m ∈ A, m < 26) (hB : ∀ m ∈ B, m < 26) (hC : ∀ m ∈ C, m < 26)
def allW (A B C : List Nat) (i : Nat) : Bool := hasW A i || hasW B i || hasW C i
theorem bits_w (hA : ∀ m ∈ A, m < 26) (hB : ∀ m ∈ B, m < 26) (hC : ∀ m ∈ C, m < 26) (i : Nat) : (locsN (testW A B C)).testBit i = allW A B C i := by
  unfold locsN testW
  simp only [cond_any]
  rw [locAny_w, bits_fold i C _ hC]
  show ((locThr (locIni 0 (iniW A)) [rowW B]).testBit i || hasW C i) = _
  have e : locThr (locIni 0 (iniW A)) [rowW B] = locRow (locIni 0 (iniW A)) (rowW B) := rfl
  rw [e, locRow_w, bits_fold i B _ hB, locIni_w, bits_fold i A _ hA]
  simp [allW]
theorem letters_w (hA : ∀ m ∈ A, m < 26) (hB : ∀ m ∈ B, m < 26) (hC : ∀ m ∈ C, m < 26) : lettersN (locsN (testW A B C)) = wantTo (allW A B C) 26 := by
  unfold lettersN wantTo
  congr 1
  apply List.filter_congr
  intro i _
  exact bits_w A B C hA hB hC i
theorem cnt_w (hA : ∀ m ∈ A, m < 26) (hB : ∀ m ∈ B, m < 26) (hC : ∀ m ∈ C, m < 26) : cntN (locsN (testW A B C)) = (wantTo (allW A B C) 26).length := by
  rw [← letters_w A B C hA hB hC]
  unfold cntN lettersN
  rw [List.length_map]
theorem ok_w (hA : ∀ m ∈ A, m < 26) (hB : ∀ m ∈ B, m < 26) (hC : ∀ m ∈ C, m < 26) : testOk (testW A B C) = true := by
  have h1 : (iniW A).all initOk = true := by
    unfold iniW
    rw [List.all_map, List.all_eq_true]
    intro m hm
    have := hA m hm
    simp [initOk, locOk]; omega
  have h2 : threadOk (rowW B) = true := by
    unfold threadOk rowW
    rw [List.all_map, List.all_eq_true]
    intro m hm
    have := hB m hm
    have hl : locOk (97 + (m : Int)) = true := by unfold locOk; simp; omega
    show insOk (insW m) = true
    unfold insOk insW
    simp [hl, regOk]
  have h3 : condOk (condW C) = true := by
    unfold condW
    split
    · rfl
    · rename_i h
      have hr : ∀ m ∈ C, rowOk [atmW m] = true := by
        intro m hm
        have := hC m hm
        have hl : locOk (97 + (m : Int)) = true := by unfold locOk; simp; omega
        unfold rowOk atmW
        simp [atomOk, hl]
      unfold condOk anyW
      have hz : (List.map (fun m => [atmW m]) C).all rowOk = true := by
        rw [List.all_map, List.all_eq_true]
        exact hr
      simp only [hz]
      simp
      omega
  unfold testOk testW
  simp only [h1, h3, List.all_cons, List.all_nil, h2, Bool.and_true]
  decide
theorem check_big (hA : ∀ m ∈ A, m < 26) (hB : ∀ m ∈ B, m < 26) (hC : ∀ m ∈ C, m < 26) (h : 4 < (wantTo (allW A B C) 26).length) : checkT (testW A B C) = 8 := by
  have hb : bigT (testW A B C) = true := by
    unfold bigT
    rw [cnt_w A B C hA hB hC, decide_eq_true h]
    simp
  unfold checkT
  rw [ok_w A B C hA hB hC, hb]
  rfl
end
end Go.Proofs.YtjjmkacfkjkhgaaDoor
