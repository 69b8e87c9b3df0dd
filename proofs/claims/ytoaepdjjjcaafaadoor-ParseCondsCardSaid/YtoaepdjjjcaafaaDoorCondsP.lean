/- A condition's text, atom by atom, in plain Lean: what the parser makes of it. -/
import Derived.Test.YtoaepdjjjcaafaaDoorParseWordsP
namespace Go.Proofs.YtoaepdjjjcaafaaDoor

/-- A token's bytes: of kind K, whole ahead of a blank. -/
structure Good (K : Nat) (x : List UInt8) : Prop where
  k : kind (x ++ [32]) = K
  z : tsize (x ++ [32]) = x.length
  k0 : K ≠ 0
  k4 : K ≠ 4
  n : K = 2 → pB ⟨x.toArray⟩ = true

section
variable {s : ByteArray} {a K : Nat} {x r : List UInt8}
theorem suf_le {n : Nat} (h : (suf s a).length = n) (hn : 0 < n) : a + n = s.size := by rw [suf_length] at h; omega
theorem Good.step (g : Good K x) (q : List UInt8) (hq : q = [] ∨ q = [32]) (h : suf s a = q ++ (x ++ 32 :: r)) :
    norm s a = .ok a ∧ kd s a = K ∧ tx s a = ⟨x.toArray⟩ ∧ to s a = a + (q.length + x.length) ∧ suf s (a + (q.length + x.length)) = 32 :: r := by
  have hk0 : kind (x ++ [32]) ≠ 0 := by rw [g.k]; exact g.k0
  have hk4 : kind (x ++ [32]) ≠ 4 := by rw [g.k]; exact g.k4
  obtain ⟨e1, e2⟩ := keep (x ++ [32]) r 32 (by decide) hk0 hk4
  rw [g.z, List.take_left] at e1 e2
  rw [g.k] at e1
  have hg : gap false (suf s a) = q.length := by
    rw [h]
    have h0 := gap_tok (l := x ++ 32 :: r) (by rw [e1]; exact g.k0)
    rcases hq with rfl | rfl
    · exact h0
    · show gap false (32 :: (x ++ 32 :: r)) = 1
      rw [gap_f, if_neg (by decide), if_pos (by decide), h0]
  have hp : pl s a = a + q.length := by unfold pl; rw [hg]
  have hs : suf s (a + q.length) = x ++ 32 :: r := by rw [suf_add, h, List.drop_left]
  have hk : kd s a = K := by unfold kd; rw [hp, hs, e1]
  have hz : sz s a = x.length := by unfold sz; rw [hp, hs, e2]
  have ht : to s a = a + (q.length + x.length) := by unfold Go.Proofs.YtoaepdjjjcaafaaDoor.to; rw [hp, hz]; omega
  have hx : tx s a = ⟨x.toArray⟩ := by
    apply bytes_ext
    rw [tx_list, hp, hz, hs, List.take_left]
  have he : eC pB s a = 0 := by
    unfold eC
    rw [hk, if_neg g.k0, if_neg]
    rintro ⟨h2, h3⟩
    rw [hx, g.n h2] at h3
    cases h3
  refine ⟨norm_ok s he, hk, hx, ht, ?_⟩
  rw [← Nat.add_assoc, suf_add, hs, List.drop_left]
theorem Good.at (g : Good K x) (h : suf s a = 32 :: (x ++ 32 :: r)) :
    norm s a = .ok a ∧ kd s a = K ∧ tx s a = ⟨x.toArray⟩ ∧ to s a = a + (1 + x.length) ∧ suf s (a + (1 + x.length)) = 32 :: r := g.step [32] (Or.inr rfl) h

theorem Good.nx (g : Good K x) (h : suf s a = 32 :: (x ++ 32 :: r)) : nx s (norm s a) = norm s (a + (1 + x.length)) := by
  obtain ⟨h1, _, _, h4, _⟩ := g.at h
  rw [h1]
  show norm s (to s a) = _
  rw [h4]
theorem Good.tk (g : Good K x) (h : suf s a = 32 :: (x ++ 32 :: r)) : tokK s (norm s a) = K := by
  obtain ⟨h1, h2, _⟩ := g.at h
  rw [h1]; exact h2
theorem Good.tx (g : Good K x) (h : suf s a = 32 :: (x ++ 32 :: r)) : tokX s (norm s a) = ⟨x.toArray⟩ := by
  obtain ⟨h1, _, h3, _⟩ := g.at h
  rw [h1]; exact h3
theorem Good.is (g : Good K x) (h : suf s a = 32 :: (x ++ 32 :: r)) (y : ByteArray) : isX s y (norm s a) = (x == y.data.toList) := by
  unfold isX; rw [g.tx h]
theorem Good.exp (g : Good K x) (h : suf s a = 32 :: (x ++ 32 :: r)) {y : ByteArray} (hy : y.data.toList = x) : expS s y (norm s a) = norm s (a + (1 + x.length)) := by
  unfold expS; rw [g.is h, hy, beq_self_eq_true, if_pos rfl, g.nx h]
theorem Good.num (g : Good 2 x) (h : suf s a = 32 :: (x ++ 32 :: r)) : numP s (norm s a) = (pN ⟨x.toArray⟩, norm s (a + (1 + x.length))) := by
  unfold numP; rw [g.tx h, g.n rfl, if_pos rfl, g.nx h]
theorem Good.reg (g : Good K x) (h : suf s a = 32 :: (x ++ 32 :: r)) (hr : regB ⟨x.toArray⟩ = true) : regP s (norm s a) = (regV ⟨x.toArray⟩, norm s (a + (1 + x.length))) := by
  unfold regP namedP; rw [g.tx h, hr, if_pos rfl, g.nx h]
theorem Good.loc (g : Good K x) (h : suf s a = 32 :: (x ++ 32 :: r)) (hr : locB K ⟨x.toArray⟩ = true) : locP s (norm s a) = (locV K ⟨x.toArray⟩, norm s (a + (1 + x.length))) := by
  unfold locP namedP; rw [g.tk h, g.tx h, hr, if_pos rfl, g.nx h]
theorem Good.upto (g : Good 2 x) (h : suf s a = 32 :: (x ++ 32 :: r)) (m : Int) (c : Nat) (h0 : 0 ≤ pN ⟨x.toArray⟩) (h1 : pN ⟨x.toArray⟩ ≤ m) : uptoP s m c (norm s a) = (pN ⟨x.toArray⟩, norm s (a + (1 + x.length))) := by
  unfold uptoP outB
  rw [g.tx h, g.n rfl, g.num h]
  have e0 : decide (pN ⟨x.toArray⟩ < 0) = false := by simp; omega
  have e1 : decide (m < pN ⟨x.toArray⟩) = false := by simp; omega
  rw [e0, e1]
  rfl
end

/-! An atom by three numbers. -/
structure AtomD where
  own : Bool
  n : Fin 8
  r : Fin 4
def digB (n : Nat) : List UInt8 := [UInt8.ofNat (48 + n)]
def negB (n : Nat) : List UInt8 := if n = 0 then [48] else [45, UInt8.ofNat (48 + n)]
def regT (n : Nat) : List UInt8 := [114, UInt8.ofNat (48 + n)]
theorem good_dig : ∀ n : Fin 8, kind (digB n.val ++ [32]) = 2 ∧ tsize (digB n.val ++ [32]) = (digB n.val).length ∧ pB ⟨(digB n.val).toArray⟩ = true ∧ pN ⟨(digB n.val).toArray⟩ = (n.val : Int) := by decide +kernel
theorem good_neg : ∀ n : Fin 8, kind (negB n.val ++ [32]) = 2 ∧ tsize (negB n.val ++ [32]) = (negB n.val).length ∧ pB ⟨(negB n.val).toArray⟩ = true ∧ pN ⟨(negB n.val).toArray⟩ = -(n.val : Int) := by decide +kernel
theorem good_rg : ∀ n : Fin 4, kind (regT n.val ++ [32]) = 1 ∧ tsize (regT n.val ++ [32]) = (regT n.val).length ∧ regB ⟨(regT n.val).toArray⟩ = true ∧ regV ⟨(regT n.val).toArray⟩ = (n.val : Int) := by decide +kernel
theorem gDig (n : Fin 8) : Good 2 (digB n.val) := ⟨(good_dig n).1, (good_dig n).2.1, by decide, by decide, fun _ => (good_dig n).2.2.1⟩
theorem gNeg (n : Fin 8) : Good 2 (negB n.val) := ⟨(good_neg n).1, (good_neg n).2.1, by decide, by decide, fun _ => (good_neg n).2.2.1⟩
theorem gReg (n : Fin 4) : Good 1 (regT n.val) := ⟨(good_rg n).1, (good_rg n).2.1, by decide, by decide, fun h => by cases h⟩
theorem gX : Good 1 [120] := ⟨by decide, by decide, by decide, by decide, fun h => by cases h⟩
theorem gEq : Good 3 [61] := ⟨by decide, by decide, by decide, by decide, fun h => by cases h⟩
theorem gColon : Good 3 [58] := ⟨by decide, by decide, by decide, by decide, fun h => by cases h⟩
theorem gAnd : Good 3 [38] := ⟨by decide, by decide, by decide, by decide, fun h => by cases h⟩
theorem gOr : Good 3 [124] := ⟨by decide, by decide, by decide, by decide, fun h => by cases h⟩
theorem gSemi : Good 3 [59] := ⟨by decide, by decide, by decide, by decide, fun h => by cases h⟩
theorem gOpen : Good 3 [123] := ⟨by decide, by decide, by decide, by decide, fun h => by cases h⟩
theorem gShut : Good 3 [125] := ⟨by decide, by decide, by decide, by decide, fun h => by cases h⟩
theorem gA : Good 1 [97] := ⟨by decide, by decide, by decide, by decide, fun h => by cases h⟩
theorem gTest : Good 1 [116, 101, 115, 116] := ⟨by decide, by decide, by decide, by decide, fun h => by cases h⟩
theorem gThread : Good 1 [116, 104, 114, 101, 97, 100] := ⟨by decide, by decide, by decide, by decide, fun h => by cases h⟩
theorem gForall : Good 1 [102, 111, 114, 97, 108, 108] := ⟨by decide, by decide, by decide, by decide, fun h => by cases h⟩

def atomT (d : AtomD) : AtomT := if d.own then ⟨d.n.val, d.r.val, 0, -(d.n.val : Int)⟩ else ⟨-1, 0, 120, d.n.val⟩
/-- An atom's bytes, with what stands behind. -/
def atomB (d : AtomD) (q : List UInt8) : List UInt8 :=
  if d.own then 32 :: (digB d.n.val ++ 32 :: ([58] ++ 32 :: (regT d.r.val ++ 32 :: ([61] ++ 32 :: (negB d.n.val ++ q))))) else 32 :: ([120] ++ 32 :: ([61] ++ 32 :: (digB d.n.val ++ q)))

section
variable {s : ByteArray}
theorem atom_read {a : Nat} {r : List UInt8} (d : AtomD) (h : suf s a = atomB d (32 :: r)) : ∃ b, a ≤ b ∧ atomP s (norm s a) = (atomT d, norm s b) ∧ suf s b = 32 :: r := by
  unfold atomB at h
  cases ho : d.own with
  | true =>
    rw [ho, if_pos rfl] at h
    have g1 := gDig d.n
    have e1 := g1.upto h 9 7 (by rw [(good_dig d.n).2.2.2]; omega) (by rw [(good_dig d.n).2.2.2]; omega)
    have h1 := (g1.at h).2.2.2.2
    have e2 := gColon.exp h1 (y := xColon) rfl
    have h2 := (gColon.at h1).2.2.2.2
    have e3 := (gReg d.r).reg h2 (good_rg d.r).2.2.1
    have h3 := ((gReg d.r).at h2).2.2.2.2
    have e4 := gEq.exp h3 (y := xEq) rfl
    have h4 := (gEq.at h3).2.2.2.2
    have e5 := (gNeg d.n).num h4
    have h5 := ((gNeg d.n).at h4).2.2.2.2
    refine ⟨_, ?_, ?_, h5⟩
    · omega
    · unfold atomP subP atomT
      rw [g1.tk h, if_pos rfl, e1]
      simp only [e2, e3, e4, e5, ho, if_true, (good_dig d.n).2.2.2, (good_neg d.n).2.2.2, (good_rg d.r).2.2.2]
  | false =>
    rw [ho, if_neg (by decide)] at h
    have e1 := gX.loc h (by decide)
    have h1 := (gX.at h).2.2.2.2
    have e2 := gEq.exp h1 (y := xEq) rfl
    have h2 := (gEq.at h1).2.2.2.2
    have e3 := (gDig d.n).num h2
    have h3 := ((gDig d.n).at h2).2.2.2.2
    refine ⟨_, ?_, ?_, h3⟩
    · omega
    · unfold atomP subP atomT
      rw [gX.tk h, if_neg (by decide), e1]
      simp only [e2, e3, ho, (good_dig d.n).2.2.2]
      rfl
end

/-! A row of atoms, each behind its sign. -/
def sgnB (o : Bool) : List UInt8 := if o then [124] else [38]
def itemB (o : Bool) (d : AtomD) (q : List UInt8) : List UInt8 := 32 :: (sgnB o ++ atomB d q)
def itemsB : List (Bool × AtomD) → List UInt8 → List UInt8
  | [], q => q
  | (o, d) :: L, q => itemB o d (itemsB L q)
def rowsOf : List (Bool × AtomD) → List AtomT × List (List AtomT)
  | [] => ([], [])
  | (o, d) :: L => if o then ([], (atomT d :: (rowsOf L).1) :: (rowsOf L).2) else (atomT d :: (rowsOf L).1, (rowsOf L).2)
theorem atomB_head (d : AtomD) (q : List UInt8) : ∃ r, atomB d q = 32 :: r := by
  unfold atomB; split <;> exact ⟨_, rfl⟩
theorem itemsB_head (L : List (Bool × AtomD)) (q : List UInt8) : ∃ r, itemsB L (32 :: q) = 32 :: r := by
  cases L with
  | nil => exact ⟨_, rfl⟩
  | cons p L => exact ⟨_, rfl⟩

theorem goes_rowP (s : ByteArray) : Goes s (rowP s) := goes_row s
section
variable {s : ByteArray}
theorem items_at (q : List UInt8) : ∀ (L : List (Bool × AtomD)) (a : Nat), a ≤ s.size → suf s a = itemsB L (32 :: ([59] ++ 32 :: q)) →
    ∃ b, a ≤ b ∧ (moreP s (atomP s) xAnd (norm s a)).1 = (rowsOf L).1 ∧ moreP s (rowP s) xOr (moreP s (atomP s) xAnd (norm s a)).2 = ((rowsOf L).2, norm s b) ∧ suf s b = 32 :: ([59] ++ 32 :: q)
  | [], a, _, h => by
    have h' : suf s a = 32 :: ([59] ++ 32 :: q) := h
    have e1 : moreP s (atomP s) xAnd (norm s a) = ([], norm s a) := more_end s (by rw [gSemi.is h']; decide)
    have e2 : moreP s (rowP s) xOr (norm s a) = ([], norm s a) := more_end s (by rw [gSemi.is h']; decide)
    refine ⟨a, Nat.le_refl _, ?_, ?_, h'⟩
    · rw [e1]; rfl
    · rw [e1, e2]; rfl
  | (o, d) :: L, a, ha, h => by
    obtain ⟨r1, hr1⟩ := atomB_head d (itemsB L (32 :: ([59] ++ 32 :: q)))
    obtain ⟨r2, hr2⟩ := itemsB_head L ([59] ++ 32 :: q)
    have hv : Vd s (norm s a) := vd_norm s ha
    cases o with
    | true =>
      have h' : suf s a = 32 :: ([124] ++ 32 :: r1) := by rw [h]; show 32 :: ([124] ++ atomB d _) = _; rw [hr1]
      have h1 := (gOr.at h').2.2.2.2
      rw [← hr1, hr2] at h1
      obtain ⟨b, hb, eA, h2⟩ := atom_read d h1
      rw [← hr2] at h2
      have hbs : b ≤ s.size := by
        have := congrArg List.length h2
        rw [suf_length, hr2] at this
        simp at this
        omega
      obtain ⟨b', hb', i1, i2, i3⟩ := items_at q L b hbs h2
      have e1 : moreP s (atomP s) xAnd (norm s a) = ([], norm s a) := more_end s (by rw [gOr.is h']; decide)
      have e2 := more_on s (goes_row s) (x := xOr) (ne_nil _ _) hv (by rw [gOr.is h']; decide)
      rw [gOr.nx h'] at e2
      have e3 : rowP s (norm s (a + (1 + ([124] : List UInt8).length))) = (atomT d :: (moreP s (atomP s) xAnd (norm s b)).1, (moreP s (atomP s) xAnd (norm s b)).2) := by
        show prtP s (atomP s) xAnd _ = _
        unfold prtP
        rw [eA]
      refine ⟨b', by omega, ?_, ?_, i3⟩
      · rw [e1]; rfl
      · rw [e1]
        show moreP s (rowP s) xOr (norm s a) = _
        rw [e2, e3]
        simp only [i1, i2, rowsOf, if_true]
    | false =>
      have h' : suf s a = 32 :: ([38] ++ 32 :: r1) := by rw [h]; show 32 :: ([38] ++ atomB d _) = _; rw [hr1]
      have h1 := (gAnd.at h').2.2.2.2
      rw [← hr1, hr2] at h1
      obtain ⟨b, hb, eA, h2⟩ := atom_read d h1
      rw [← hr2] at h2
      have hbs : b ≤ s.size := by
        have := congrArg List.length h2
        rw [suf_length, hr2] at this
        simp at this
        omega
      obtain ⟨b', hb', i1, i2, i3⟩ := items_at q L b hbs h2
      have e1 := more_on s (goes_atom s) (x := xAnd) (ne_nil _ _) hv (by rw [gAnd.is h']; decide)
      rw [gAnd.nx h', eA] at e1
      refine ⟨b', by omega, ?_, ?_, i3⟩
      · rw [e1]
        simp only [i1, rowsOf, Bool.false_eq_true, if_false]
      · rw [e1]
        simp only [i2, rowsOf, Bool.false_eq_true, if_false]
end

/-- The whole text. -/
def condsL (d : AtomD) (L : List (Bool × AtomD)) : List UInt8 :=
  [116, 101, 115, 116] ++ 32 :: ([97] ++ 32 :: ([123] ++ 32 :: ([116, 104, 114, 101, 97, 100] ++ 32 :: ([123] ++ 32 :: ([125] ++ 32 :: ([102, 111, 114, 97, 108, 108] ++ atomB d (itemsB L (32 :: ([59] ++ 32 :: [125])))))))))
theorem conds_is {s : ByteArray} (d : AtomD) (L : List (Bool × AtomD)) (h : s.data.toList = condsL d L) (hz : s.size ≤ 4000) :
    parseP s = (⟨⟨#[97]⟩, [], [[]], ⟨2, (atomT d :: (rowsOf L).1) :: (rowsOf L).2⟩⟩, 0, 0) := by
  obtain ⟨r1, hr1⟩ := atomB_head d (itemsB L (32 :: ([59] ++ 32 :: [125])))
  obtain ⟨r2, hr2⟩ := itemsB_head L ([59] ++ 32 :: [125])
  have h0 : suf s 0 = [] ++ ([116, 101, 115, 116] ++ 32 :: ([97] ++ 32 :: ([123] ++ 32 :: ([116, 104, 114, 101, 97, 100] ++ 32 :: ([123] ++ 32 :: ([125] ++ 32 :: ([102, 111, 114, 97, 108, 108] ++ 32 :: r1))))))) := by
    unfold suf
    rw [List.drop_zero, h]
    unfold condsL
    rw [hr1]
    rfl
  obtain ⟨t1, t2, t3, t4, h1⟩ := gTest.step [] (Or.inl rfl) h0
  have e0 : expS s xTest (startS s) = norm s (0 + (([] : List UInt8).length + ([116, 101, 115, 116] : List UInt8).length)) := by
    unfold expS isX startS
    rw [t1]
    show (if ((tx s 0).data.toList == _) = true then norm s (to s 0) else _) = _
    rw [t3, t4]
    rfl
  have e1 : nameP s (norm s (0 + (([] : List UInt8).length + ([116, 101, 115, 116] : List UInt8).length))) = (⟨#[97]⟩, norm s (0 + (([] : List UInt8).length + ([116, 101, 115, 116] : List UInt8).length) + (1 + ([97] : List UInt8).length))) := by unfold nameP; rw [gA.tk h1, if_pos rfl, gA.tx h1, gA.nx h1]
  have h2 := (gA.at h1).2.2.2.2
  have e2 := gOpen.exp h2 (y := xOpen) rfl
  have h3 := (gOpen.at h2).2.2.2.2
  obtain ⟨a3, ha3⟩ : ∃ n, n = 0 + (([] : List UInt8).length + ([116, 101, 115, 116] : List UInt8).length) + (1 + ([97] : List UInt8).length) + (1 + ([123] : List UInt8).length) := ⟨_, rfl⟩
  rw [← ha3] at e2 h3
  have hH : hdS s (startS s) = (⟨#[97]⟩, norm s a3) := by unfold hdS; rw [e0, e1, e2]
  have b3 : a3 ≤ s.size := by have := congrArg List.length h3; rw [suf_length] at this; simp at this; omega
  have hI : initP s (norm s a3) = ([], norm s a3) := by unfold initP; rw [gThread.is h3, if_neg (by decide)]
  have h4 := (gThread.at h3).2.2.2.2
  have e4 := gOpen.exp h4 (y := xOpen) rfl
  have h5 := (gOpen.at h4).2.2.2.2
  obtain ⟨a5, ha5⟩ : ∃ n, n = a3 + (1 + ([116, 104, 114, 101, 97, 100] : List UInt8).length) + (1 + ([123] : List UInt8).length) := ⟨_, rfl⟩
  rw [← ha5] at e4 h5
  have hfl : flB (norm s a5) = false := by rw [(gShut.at h5).1]; rfl
  have e5 : insB s (nx s (norm s a3)) = ([], norm s (a5 + (1 + ([125] : List UInt8).length))) := by
    unfold insB
    rw [gThread.nx h3, e4, blk_end s hfl (by rw [gShut.is h5]; decide), gShut.nx h5]
  have h6 := (gShut.at h5).2.2.2.2
  obtain ⟨a6, ha6⟩ : ∃ n, n = a5 + (1 + ([125] : List UInt8).length) := ⟨_, rfl⟩
  rw [← ha6] at e5 h6
  have hT : thrP s (norm s a3) = ([[]], norm s a6) := by
    have e := more_on s (goes_insB s) (x := xThread) (ne_nil _ _) (vd_norm s b3) (by rw [gThread.is h3]; decide)
    rw [e5] at e
    have e' : moreP s (insB s) xThread (norm s a6) = ([], norm s a6) := more_end s (by rw [gForall.is h6]; decide)
    rw [e'] at e
    exact e
  have h7 := (gForall.at h6).2.2.2.2
  rw [← hr1, hr2] at h7
  obtain ⟨b, hb, eA, h8⟩ := atom_read d h7
  rw [← hr2] at h8
  have hbs : b ≤ s.size := by
    have := congrArg List.length h8
    rw [suf_length, hr2] at this
    simp at this
    omega
  obtain ⟨b', hb', i1, i2, i3⟩ := items_at [125] L b hbs h8
  have eR : rowP s (norm s (a6 + (1 + ([102, 111, 114, 97, 108, 108] : List UInt8).length))) = (atomT d :: (moreP s (atomP s) xAnd (norm s b)).1, (moreP s (atomP s) xAnd (norm s b)).2) := by
    show prtP s (atomP s) xAnd _ = _
    unfold prtP
    rw [eA]
  have eRs : rowsP s (nx s (norm s a6)) = ((atomT d :: (rowsOf L).1) :: (rowsOf L).2, norm s b') := by
    rw [gForall.nx h6]
    show prtP s (rowP s) xOr _ = _
    unfold prtP
    rw [eR]
    simp only [i1, i2]
  have e9 := gSemi.exp i3 (y := xSemi) rfl
  have h9 := (gSemi.at i3).2.2.2.2
  obtain ⟨a9, ha9⟩ : ∃ n, n = b' + (1 + ([59] : List UInt8).length) := ⟨_, rfl⟩
  rw [← ha9] at e9 h9
  have hC : condP s (norm s a6) = (⟨2, (atomT d :: (rowsOf L).1) :: (rowsOf L).2⟩, norm s a9) := by
    unfold condP
    rw [gForall.is h6, gForall.is h6, if_neg (by decide), if_pos (by decide), eRs]
    simp only [e9]
  have b9 : a9 + 2 = s.size := by have := congrArg List.length h9; rw [suf_length] at this; simp at this; omega
  have p9 : pl s a9 = a9 + 1 := by unfold pl; rw [h9]; rfl
  have s9 : suf s (a9 + 1) = [125] := by rw [suf_add, h9]; rfl
  have k9 : kd s a9 = 3 := by unfold kd; rw [p9, s9]; rfl
  have z9 : sz s a9 = 1 := by unfold sz; rw [p9, s9]; rfl
  have x9 : tx s a9 = ⟨#[125]⟩ := by apply bytes_ext; rw [tx_list, p9, z9, s9]; rfl
  have c9 : eC pB s a9 = 0 := by unfold eC; rw [k9]; rfl
  have o9 : to s a9 = s.size := by unfold Go.Proofs.YtoaepdjjjcaafaaDoor.to; rw [p9, z9]; omega
  have e10 : expS s xShut (norm s a9) = norm s s.size := by
    rw [norm_ok s c9]
    unfold expS isX
    show (if ((tx s a9).data.toList == _) = true then norm s (to s a9) else _) = _
    rw [x9, o9]
    rfl
  have f1 : suf s s.size = [] := suf_ge (Nat.le_refl _)
  have fp : pl s s.size = s.size := by unfold pl; rw [f1]; rfl
  have fk : kd s s.size = 4 := by unfold kd; rw [fp, f1]; rfl
  have fe : eC pB s s.size = 0 := by unfold eC; rw [fk]; rfl
  have e11 : endS s (norm s s.size) = .ok s.size := by
    rw [norm_ok s fe]
    unfold endS
    show (if kd s s.size = 4 then _ else _) = _
    rw [if_pos fk]
  have hP : testP s (startS s) = (⟨⟨#[97]⟩, [], [[]], ⟨2, (atomT d :: (rowsOf L).1) :: (rowsOf L).2⟩⟩, .ok s.size) := by
    unfold testP
    rw [hH]
    simp only [hI, hT, hC, e10, e11]
  unfold parseP
  rw [if_neg (by omega), hP]
  rfl

/-- What the law lays beside it, row by row. -/
def foldW : List (Bool × AtomD) → List (List AtomT) → List AtomT → List (List AtomT) × List AtomT
  | [], D, c => (D, c)
  | (o, d) :: L, D, c => if o then foldW L (D ++ [c]) [atomT d] else foldW L D (c ++ [atomT d])
theorem foldW_is : ∀ (L : List (Bool × AtomD)) (D : List (List AtomT)) (c : List AtomT), (foldW L D c).1 ++ [(foldW L D c).2] = D ++ (c ++ (rowsOf L).1) :: (rowsOf L).2
  | [], D, c => by simp [foldW, rowsOf]
  | (true, d) :: L, D, c => by
    simp only [foldW, rowsOf, if_true]
    rw [foldW_is L]
    simp
  | (false, d) :: L, D, c => by
    simp only [foldW, rowsOf, Bool.false_eq_true, if_false]
    rw [foldW_is L]
    simp
end Go.Proofs.YtoaepdjjjcaafaaDoor
