/- Rows of things in plain Lean: blocks, parted rows, conditions, threads, a whole test; each way goes on or ends. -/
import Derived.Test.YtnfmagafajpmpaaDoorParseIns
namespace Go.Proofs.YtnfmagafajpmpaaDoor

section
variable (s : ByteArray)
/-- How much is left. -/
def mS : St → Nat
  | .ok a => s.size + 1 - a
  | .error _ => 0
theorem mS_norm (a : Nat) : mS s (norm s a) ≤ s.size + 1 - a := by
  unfold norm; split <;> simp [mS]
theorem mS_nx (S : St) : mS s (nx s S) ≤ mS s S := by
  cases S with
  | ok a =>
    have h1 := mS_norm s (to s a)
    have h2 := to_ge s a
    show mS s (norm s (to s a)) ≤ s.size + 1 - a
    omega
  | error e => exact Nat.le_refl _
theorem mS_fl (c : Nat) (S : St) : mS s (flS s c S) ≤ mS s S := by
  cases S with
  | ok a => exact Nat.zero_le _
  | error e => exact Nat.le_refl _
theorem mS_exp (x : ByteArray) (S : St) : mS s (expS s x S) ≤ mS s S := by
  unfold expS; split
  · exact mS_nx s S
  · exact mS_fl s 6 S
theorem mS_name (S : St) : mS s (nameP s S).2 ≤ mS s S := by
  unfold nameP; split
  · exact mS_nx s S
  · exact mS_fl s 6 S
theorem mS_num (S : St) : mS s (numP s S).2 ≤ mS s S := by
  unfold numP; split
  · exact mS_nx s S
  · exact mS_fl s 6 S
theorem mS_upto (m : Int) (c : Nat) (S : St) : mS s (uptoP s m c S).2 ≤ mS s S := by
  unfold uptoP; split
  · exact mS_fl s c S
  · exact mS_num s S
theorem mS_named (v : Int) (ok : Bool) (S : St) : mS s (namedP s v ok S).2 ≤ mS s S := by
  unfold namedP; split
  · exact mS_nx s S
  · split
    · exact mS_fl s 7 S
    · exact mS_fl s 6 S
theorem mS_reg (S : St) : mS s (regP s S).2 ≤ mS s S := mS_named s _ _ S
theorem mS_loc (S : St) : mS s (locP s S).2 ≤ mS s S := mS_named s _ _ S
theorem mS_opd (S : St) : mS s (opdP s S).2 ≤ mS s S := by
  unfold opdP; split
  · exact mS_num s S
  · exact mS_reg s S
theorem mS_ini (S : St) : mS s (iniP s S).2 ≤ mS s S := Nat.le_trans (mS_num s _) (Nat.le_trans (mS_exp s _ _) (mS_loc s S))
theorem mS_sub (S : St) : mS s (subP s S).2 ≤ mS s S := by
  unfold subP; split
  · exact Nat.le_trans (mS_reg s _) (Nat.le_trans (mS_exp s _ _) (mS_upto s _ _ S))
  · exact mS_loc s S
theorem mS_atom (S : St) : mS s (atomP s S).2 ≤ mS s S := Nat.le_trans (mS_num s _) (Nat.le_trans (mS_exp s _ _) (mS_sub s S))
theorem mS_skip (S : St) : mS s (skipP s S).2 ≤ mS s S :=
  Nat.le_trans (mS_opd s _) (Nat.le_trans (mS_exp s _ _) (Nat.le_trans (mS_opd s _) (Nat.le_trans (mS_exp s _ _) (mS_upto s _ _ S))))
theorem mS_set (r : Int) (S : St) : mS s (setP s r S).2 ≤ mS s S := by
  unfold setP; split
  · exact Nat.le_trans (mS_opd s _) (Nat.le_trans (mS_nx s _) (mS_opd s S))
  · exact mS_opd s S
theorem mS_asg (r : Int) (S : St) : mS s (asgP s r S).2 ≤ mS s S := by
  unfold asgP; split
  · exact Nat.le_trans (mS_loc s _) (mS_nx s S)
  · split
    · exact Nat.le_trans (mS_opd s _) (Nat.le_trans (mS_opd s _) (Nat.le_trans (mS_loc s _) (mS_nx s S)))
    · exact mS_set s r S
theorem mS_ins (S : St) : mS s (insP s S).2 ≤ mS s S := by
  unfold insP; split
  · exact Nat.le_trans (mS_opd s _) (Nat.le_trans (mS_loc s _) (mS_nx s S))
  · split
    · exact mS_nx s S
    · split
      · exact Nat.le_trans (mS_skip s _) (mS_nx s S)
      · exact Nat.le_trans (mS_asg s _ _) (Nat.le_trans (mS_exp s _ _) (mS_reg s S))

/-- Where a word or a sign is taken, less is left. -/
theorem mS_take {x : ByteArray} {a : Nat} (hx : x.toList ≠ []) (h : isX s x (.ok a) = true) (ha : a ≤ s.size) : mS s (nx s (.ok a)) < mS s (.ok a) := by
  have hz : 0 < sz s a := by
    rcases Nat.eq_zero_or_pos (sz s a) with h0 | h0
    · exfalso
      have h' : (s.extract (pl s a) (pl s a + sz s a)).data.toList = x.data.toList := beq_iff_eq.1 h
      rw [ByteArray.toList_eq, ← h', h0] at hx
      apply hx
      simp
    · exact h0
  have h1 := mS_norm s (to s a)
  have h2 := pl_ge s a
  show mS s (norm s (to s a)) < s.size + 1 - a
  have h3 : to s a = pl s a + sz s a := rfl
  omega
theorem mS_exp_lt {x : ByteArray} {S : St} (hx : x.toList ≠ []) (hv : Vd s S) (hm : 0 < mS s S) : mS s (expS s x S) < mS s S := by
  cases S with
  | ok a =>
    unfold expS; split
    · rename_i h; exact mS_take s hx h hv.2
    · exact hm
  | error e => simp [mS] at hm
theorem mS_pos {a : Nat} (hv : Vd s (.ok a)) : 0 < mS s (.ok a) := by have := hv.2; simp only [mS]; omega

/-! What may be stays so. -/
theorem vd_exp {S : St} (x : ByteArray) (h : Vd s S) : Vd s (expS s x S) := by
  unfold expS; split
  · exact vd_nx s h
  · exact vd_fl s h (by decide)
theorem vd_num {S : St} (h : Vd s S) : Vd s (numP s S).2 := by
  unfold numP; split
  · exact vd_nx s h
  · exact vd_fl s h (by decide)
theorem vd_named {S : St} (v : Int) (ok : Bool) (h : Vd s S) : Vd s (namedP s v ok S).2 := by
  unfold namedP; split
  · exact vd_nx s h
  · split <;> exact vd_fl s h (by decide)
theorem vd_upto {S : St} (m : Int) {c : Nat} (hc : c ≠ 0) (h : Vd s S) : Vd s (uptoP s m c S).2 := by
  unfold uptoP; split
  · exact vd_fl s h hc
  · exact vd_num s h
theorem vd_opd {S : St} (h : Vd s S) : Vd s (opdP s S).2 := by
  unfold opdP; split
  · exact vd_num s h
  · exact vd_named s _ _ h
theorem vd_ini {S : St} (h : Vd s S) : Vd s (iniP s S).2 := vd_num s (vd_exp s _ (vd_named s _ _ h))
theorem vd_sub {S : St} (h : Vd s S) : Vd s (subP s S).2 := by
  unfold subP; split
  · exact vd_named s _ _ (vd_exp s _ (vd_upto s _ (by decide) h))
  · exact vd_named s _ _ h
theorem vd_atom {S : St} (h : Vd s S) : Vd s (atomP s S).2 := vd_num s (vd_exp s _ (vd_sub s h))
theorem vd_skip {S : St} (h : Vd s S) : Vd s (skipP s S).2 := vd_opd s (vd_exp s _ (vd_opd s (vd_exp s _ (vd_upto s _ (by decide) h))))
theorem vd_set {S : St} (r : Int) (h : Vd s S) : Vd s (setP s r S).2 := by
  unfold setP; split
  · exact vd_opd s (vd_nx s (vd_opd s h))
  · exact vd_opd s h
theorem vd_asg {S : St} (r : Int) (h : Vd s S) : Vd s (asgP s r S).2 := by
  unfold asgP; split
  · exact vd_named s _ _ (vd_nx s h)
  · split
    · exact vd_opd s (vd_opd s (vd_named s _ _ (vd_nx s h)))
    · exact vd_set s r h
theorem vd_ins {S : St} (h : Vd s S) : Vd s (insP s S).2 := by
  unfold insP; split
  · exact vd_opd s (vd_named s _ _ (vd_nx s h))
  · split
    · exact vd_nx s h
    · split
      · exact vd_skip s (vd_nx s h)
      · exact vd_asg s _ (vd_exp s _ (vd_named s _ _ h))

/-! Blocks. -/
variable {α : Type} (f : St → α × St)
def blkL : Nat → St → List α × St
  | 0, S => ([], S)
  | n + 1, S => if flB S then ([], S) else if isX s xShut S then ([], nx s S) else ((f S).1 :: (blkL n (expS s xSemi (f S).2)).1, (blkL n (expS s xSemi (f S).2)).2)
structure Goes : Prop where
  m : ∀ S, mS s (f S).2 ≤ mS s S
  v : ∀ S, Vd s S → Vd s (f S).2
variable {f}
theorem blk_less (hf : Goes s f) {S : St} (hv : Vd s S) (hb : flB S = false) : mS s (expS s xSemi (f S).2) < mS s S := by
  cases S with
  | error e => cases hb
  | ok a =>
    have h1 := hf.m (.ok a)
    have h2 := mS_pos s hv
    rcases Nat.eq_zero_or_pos (mS s (f (.ok a)).2) with h0 | h0
    · have := mS_exp s xSemi (f (.ok a)).2; omega
    · have := mS_exp_lt s (x := xSemi) (ne_nil _ _) (hf.v _ hv) h0; omega
theorem blkL_fuel (hf : Goes s f) : ∀ (n m : Nat) (S : St), Vd s S → mS s S < n → mS s S < m → blkL s f n S = blkL s f m S
  | 0, _, _, _, h, _ => by omega
  | _ + 1, 0, _, _, _, h => by omega
  | n + 1, m + 1, S, hv, hn, hm => by
    unfold blkL
    cases hb : flB S with
    | true => rfl
    | false =>
      have hl := blk_less s hf hv hb
      rw [blkL_fuel hf n m _ (vd_exp s _ (hf.v _ hv)) (by omega) (by omega)]
variable (f)
def blkP (S : St) : List α × St := blkL s f (mS s S + 1) S
variable {f}
theorem blk_fl {S : St} (hb : flB S = true) : blkP s f S = ([], S) := by unfold blkP blkL; rw [hb]; rfl
theorem blk_end {S : St} (hb : flB S = false) (hx : isX s xShut S = true) : blkP s f S = ([], nx s S) := by unfold blkP blkL; rw [hb, hx]; rfl
theorem blk_on (hf : Goes s f) {S : St} (hv : Vd s S) (hb : flB S = false) (hx : isX s xShut S = false) :
    blkP s f S = ((f S).1 :: (blkP s f (expS s xSemi (f S).2)).1, (blkP s f (expS s xSemi (f S).2)).2) := by
  have hl := blk_less s hf hv hb
  conv => lhs; unfold blkP blkL
  rw [hb, hx]
  unfold blkP
  rw [blkL_fuel s hf (mS s S) (mS s (expS s xSemi (f S).2) + 1) _ (vd_exp s _ (hf.v _ hv)) (by omega) (by omega)]
  rfl

/-! Rows parted by a sign. -/
variable (f)
def prtL (x : ByteArray) : Nat → St → List α × St
  | 0, S => ([], S)
  | n + 1, S => if isX s x S then ((f (nx s S)).1 :: (prtL x n (f (nx s S)).2).1, (prtL x n (f (nx s S)).2).2) else ([], S)
variable {f}
theorem prt_less (hf : Goes s f) {x : ByteArray} (hx : x.toList ≠ []) {S : St} (hv : Vd s S) (h : isX s x S = true) : mS s (f (nx s S)).2 < mS s S := by
  obtain ⟨a, rfl⟩ := fl_err s h hx
  exact Nat.lt_of_le_of_lt (hf.m _) (mS_take s hx h hv.2)
theorem prtL_fuel (hf : Goes s f) {x : ByteArray} (hx : x.toList ≠ []) : ∀ (n m : Nat) (S : St), Vd s S → mS s S < n → mS s S < m → prtL s f x n S = prtL s f x m S
  | 0, _, _, _, h, _ => by omega
  | _ + 1, 0, _, _, _, h => by omega
  | n + 1, m + 1, S, hv, hn, hm => by
    unfold prtL
    cases hb : isX s x S with
    | false => rfl
    | true =>
      have hl := prt_less s hf hx hv hb
      rw [prtL_fuel hf hx n m _ (hf.v _ (vd_nx s hv)) (by omega) (by omega)]
variable (f)
def moreP (x : ByteArray) (S : St) : List α × St := prtL s f x (mS s S + 1) S
def prtP (x : ByteArray) (S : St) : List α × St := ((f S).1 :: (moreP s f x (f S).2).1, (moreP s f x (f S).2).2)
variable {f}
theorem more_end {x : ByteArray} {S : St} (h : isX s x S = false) : moreP s f x S = ([], S) := by unfold moreP prtL; rw [h]; rfl
theorem more_on (hf : Goes s f) {x : ByteArray} (hx : x.toList ≠ []) {S : St} (hv : Vd s S) (h : isX s x S = true) :
    moreP s f x S = ((f (nx s S)).1 :: (moreP s f x (f (nx s S)).2).1, (moreP s f x (f (nx s S)).2).2) := by
  have hl := prt_less s hf hx hv h
  conv => lhs; unfold moreP prtL
  rw [h]
  unfold moreP
  rw [prtL_fuel s hf hx (mS s S) (mS s (f (nx s S)).2 + 1) _ (hf.v _ (vd_nx s hv)) (by omega) (by omega)]
  rfl

theorem Goes.blk (hf : Goes s f) : Goes s (fun S => blkP s f (expS s xOpen S)) := by
  have key : ∀ (n : Nat) (S : St), mS s (blkL s f n S).2 ≤ mS s S ∧ (Vd s S → Vd s (blkL s f n S).2) := by
    intro n
    induction n with
    | zero => intro S; exact ⟨Nat.le_refl _, id⟩
    | succ n ih =>
      intro S
      unfold blkL
      split
      · exact ⟨Nat.le_refl _, id⟩
      · split
        · exact ⟨mS_nx s S, vd_nx s⟩
        · obtain ⟨h1, h2⟩ := ih (expS s xSemi (f S).2)
          exact ⟨Nat.le_trans h1 (Nat.le_trans (mS_exp s _ _) (hf.m S)), fun hv => h2 (vd_exp s _ (hf.v _ hv))⟩
  exact ⟨fun S => Nat.le_trans (key _ _).1 (mS_exp s _ _), fun S hv => (key _ _).2 (vd_exp s _ hv)⟩
theorem Goes.prt (hf : Goes s f) (x : ByteArray) : Goes s (prtP s f x) := by
  have key : ∀ (n : Nat) (S : St), mS s (prtL s f x n S).2 ≤ mS s S ∧ (Vd s S → Vd s (prtL s f x n S).2) := by
    intro n
    induction n with
    | zero => intro S; exact ⟨Nat.le_refl _, id⟩
    | succ n ih =>
      intro S
      unfold prtL
      split
      · obtain ⟨h1, h2⟩ := ih (f (nx s S)).2
        exact ⟨Nat.le_trans h1 (Nat.le_trans (hf.m _) (mS_nx s S)), fun hv => h2 (hf.v _ (vd_nx s hv))⟩
      · exact ⟨Nat.le_refl _, id⟩
  exact ⟨fun S => Nat.le_trans (key _ _).1 (hf.m S), fun S hv => (key _ _).2 (hf.v _ hv)⟩
end

section
variable (s : ByteArray)
theorem goes_ini : Goes s (iniP s) := ⟨mS_ini s, fun _ => vd_ini s⟩
theorem goes_ins : Goes s (insP s) := ⟨mS_ins s, fun _ => vd_ins s⟩
theorem goes_atom : Goes s (atomP s) := ⟨mS_atom s, fun _ => vd_atom s⟩
def rowP : St → List AtomT × St := prtP s (atomP s) xAnd
theorem goes_row : Goes s (rowP s) := Goes.prt s (goes_atom s) xAnd
def iniB (S : St) : List InitT × St := blkP s (iniP s) (expS s xOpen S)
def insB (S : St) : List InsT × St := blkP s (insP s) (expS s xOpen S)
theorem goes_insB : Goes s (insB s) := Goes.blk s (goes_ins s)
theorem goes_iniB : Goes s (iniB s) := Goes.blk s (goes_ini s)
def rowsP (S : St) : List (List AtomT) × St := prtP s (rowP s) xOr S
def condP (S : St) : CondT × St :=
  if isX s xExists S then (⟨1, (rowsP s (nx s S)).1⟩, expS s xSemi (rowsP s (nx s S)).2)
  else if isX s xForall S then (⟨2, (rowsP s (nx s S)).1⟩, expS s xSemi (rowsP s (nx s S)).2)
  else (⟨0, []⟩, S)
def thrP (S : St) : List (List InsT) × St := moreP s (insB s) xThread S
/-- Behind the name and `{`. -/
def hdS (S : St) : ByteArray × St := ((nameP s (expS s xTest S)).1, expS s xOpen (nameP s (expS s xTest S)).2)
def initP (S : St) : List InitT × St := if isX s xInit S then iniB s (nx s S) else ([], S)
def testP (S : St) : TestT × St :=
  (⟨(hdS s S).1, (initP s (hdS s S).2).1, (thrP s (initP s (hdS s S).2).2).1, (condP s (thrP s (initP s (hdS s S).2).2).2).1⟩,
    endS s (expS s xShut (condP s (thrP s (initP s (hdS s S).2).2).2).2))
end
end Go.Proofs.YtnfmagafajpmpaaDoor
