/- Rows of things in plain Lean: blocks, parted rows, conditions, threads, a whole test; each way goes on or ends. -/
import Derived.Test.YtacflahkofmcpaaGreatDoorParseIns
import Derived.Test.YtacflahkofmcpaaGreatDoorJ03ParsePure
import Derived.Deep.LoopGhost
namespace Go.Proofs.YtacflahkofmcpaaGreatDoor

section
variable (s : ByteArray)
/-- How much is left. -/
def mS : St → Nat
  | .ok a => s.size + 1 - a
  | .error _ => 0
theorem mS_norm (a : Nat) : mS s (norm s a) ≤ s.size + 1 - a := by
  unfold norm; split <;> simp [mS]
theorem mS_nx (S : St) : mS s (nx s S) ≤ mS s S := by
  cases S with
  | ok a =>
    have h1 := mS_norm s (to s a)
    have h2 := to_ge s a
    show mS s (norm s (to s a)) ≤ s.size + 1 - a
    omega
  | error e => exact Nat.le_refl _
theorem mS_fl (c : Nat) (S : St) : mS s (flS s c S) ≤ mS s S := by
  cases S with
  | ok a => exact Nat.zero_le _
  | error e => exact Nat.le_refl _
theorem mS_exp (x : ByteArray) (S : St) : mS s (expS s x S) ≤ mS s S := by
  unfold expS; split
  · exact mS_nx s S
  · exact mS_fl s 6 S
theorem mS_name (S : St) : mS s (nameP s S).2 ≤ mS s S := by
  unfold nameP; split
  · exact mS_nx s S
  · exact mS_fl s 6 S
theorem mS_num (S : St) : mS s (numP s S).2 ≤ mS s S := by
  unfold numP; split
  · exact mS_nx s S
  · exact mS_fl s 6 S
theorem mS_upto (m : Int) (c : Nat) (S : St) : mS s (uptoP s m c S).2 ≤ mS s S := by
  unfold uptoP; split
  · exact mS_fl s c S
  · exact mS_num s S
theorem mS_named (v : Int) (ok : Bool) (S : St) : mS s (namedP s v ok S).2 ≤ mS s S := by
  unfold namedP; split
  · exact mS_nx s S
  · split
    · exact mS_fl s 7 S
    · exact mS_fl s 6 S
theorem mS_reg (S : St) : mS s (regP s S).2 ≤ mS s S := mS_named s _ _ S
theorem mS_loc (S : St) : mS s (locP s S).2 ≤ mS s S := mS_named s _ _ S
theorem mS_opd (S : St) : mS s (opdP s S).2 ≤ mS s S := by
  unfold opdP; split
  · exact mS_num s S
  · exact mS_reg s S
theorem mS_ini (S : St) : mS s (iniP s S).2 ≤ mS s S := Nat.le_trans (mS_num s _) (Nat.le_trans (mS_exp s _ _) (mS_loc s S))
theorem mS_sub (S : St) : mS s (subP s S).2 ≤ mS s S := by
  unfold subP; split
  · exact Nat.le_trans (mS_reg s _) (Nat.le_trans (mS_exp s _ _) (mS_upto s _ _ S))
  · exact mS_loc s S
theorem mS_atom (S : St) : mS s (atomP s S).2 ≤ mS s S := Nat.le_trans (mS_num s _) (Nat.le_trans (mS_exp s _ _) (mS_sub s S))
theorem mS_skip (S : St) : mS s (skipP s S).2 ≤ mS s S :=
  Nat.le_trans (mS_opd s _) (Nat.le_trans (mS_exp s _ _) (Nat.le_trans (mS_opd s _) (Nat.le_trans (mS_exp s _ _) (mS_upto s _ _ S))))
theorem mS_set (r : Int) (S : St) : mS s (setP s r S).2 ≤ mS s S := by
  unfold setP; split
  · exact Nat.le_trans (mS_opd s _) (Nat.le_trans (mS_nx s _) (mS_opd s S))
  · exact mS_opd s S
theorem mS_asg (r : Int) (S : St) : mS s (asgP s r S).2 ≤ mS s S := by
  unfold asgP; split
  · exact Nat.le_trans (mS_loc s _) (mS_nx s S)
  · split
    · exact Nat.le_trans (mS_opd s _) (Nat.le_trans (mS_opd s _) (Nat.le_trans (mS_loc s _) (mS_nx s S)))
    · exact mS_set s r S
theorem mS_ins (S : St) : mS s (insP s S).2 ≤ mS s S := by
  unfold insP; split
  · exact Nat.le_trans (mS_opd s _) (Nat.le_trans (mS_loc s _) (mS_nx s S))
  · split
    · exact mS_nx s S
    · split
      · exact Nat.le_trans (mS_skip s _) (mS_nx s S)
      · exact Nat.le_trans (mS_asg s _ _) (Nat.le_trans (mS_exp s _ _) (mS_reg s S))

/-- Where a word or a sign is taken, less is left. -/
theorem mS_take {x : ByteArray} {a : Nat} (hx : x.toList ≠ []) (h : isX s x (.ok a) = true) (ha : a ≤ s.size) : mS s (nx s (.ok a)) < mS s (.ok a) := by
  have hz : 0 < sz s a := by
    rcases Nat.eq_zero_or_pos (sz s a) with h0 | h0
    · exfalso
      have h' : (s.extract (pl s a) (pl s a + sz s a)).data.toList = x.data.toList := beq_iff_eq.1 h
      rw [ByteArray.toList_eq, ← h', h0] at hx
      apply hx
      simp
    · exact h0
  have h1 := mS_norm s (to s a)
  have h2 := pl_ge s a
  show mS s (norm s (to s a)) < s.size + 1 - a
  have h3 : to s a = pl s a + sz s a := rfl
  omega
theorem mS_exp_lt {x : ByteArray} {S : St} (hx : x.toList ≠ []) (hv : Vd s S) (hm : 0 < mS s S) : mS s (expS s x S) < mS s S := by
  cases S with
  | ok a =>
    unfold expS; split
    · rename_i h; exact mS_take s hx h hv.2
    · exact hm
  | error e => simp [mS] at hm
theorem mS_pos {a : Nat} (hv : Vd s (.ok a)) : 0 < mS s (.ok a) := by have := hv.2; simp only [mS]; omega

/-! What may be stays so. -/
theorem vd_exp {S : St} (x : ByteArray) (h : Vd s S) : Vd s (expS s x S) := by
  unfold expS; split
  · exact vd_nx s h
  · exact vd_fl s h (by decide)
theorem vd_num {S : St} (h : Vd s S) : Vd s (numP s S).2 := by
  unfold numP; split
  · exact vd_nx s h
  · exact vd_fl s h (by decide)
theorem vd_named {S : St} (v : Int) (ok : Bool) (h : Vd s S) : Vd s (namedP s v ok S).2 := by
  unfold namedP; split
  · exact vd_nx s h
  · split <;> exact vd_fl s h (by decide)
theorem vd_upto {S : St} (m : Int) {c : Nat} (hc : c ≠ 0) (h : Vd s S) : Vd s (uptoP s m c S).2 := by
  unfold uptoP; split
  · exact vd_fl s h hc
  · exact vd_num s h
theorem vd_opd {S : St} (h : Vd s S) : Vd s (opdP s S).2 := by
  unfold opdP; split
  · exact vd_num s h
  · exact vd_named s _ _ h
theorem vd_ini {S : St} (h : Vd s S) : Vd s (iniP s S).2 := vd_num s (vd_exp s _ (vd_named s _ _ h))
theorem vd_sub {S : St} (h : Vd s S) : Vd s (subP s S).2 := by
  unfold subP; split
  · exact vd_named s _ _ (vd_exp s _ (vd_upto s _ (by decide) h))
  · exact vd_named s _ _ h
theorem vd_atom {S : St} (h : Vd s S) : Vd s (atomP s S).2 := vd_num s (vd_exp s _ (vd_sub s h))
theorem vd_skip {S : St} (h : Vd s S) : Vd s (skipP s S).2 := vd_opd s (vd_exp s _ (vd_opd s (vd_exp s _ (vd_upto s _ (by decide) h))))
theorem vd_set {S : St} (r : Int) (h : Vd s S) : Vd s (setP s r S).2 := by
  unfold setP; split
  · exact vd_opd s (vd_nx s (vd_opd s h))
  · exact vd_opd s h
theorem vd_asg {S : St} (r : Int) (h : Vd s S) : Vd s (asgP s r S).2 := by
  unfold asgP; split
  · exact vd_named s _ _ (vd_nx s h)
  · split
    · exact vd_opd s (vd_opd s (vd_named s _ _ (vd_nx s h)))
    · exact vd_set s r h
theorem vd_ins {S : St} (h : Vd s S) : Vd s (insP s S).2 := by
  unfold insP; split
  · exact vd_opd s (vd_named s _ _ (vd_nx s h))
  · split
    · exact vd_nx s h
    · split
      · exact vd_skip s (vd_nx s h)
      · exact vd_asg s _ (vd_exp s _ (vd_named s _ _ h))

/-! Blocks. -/
variable {α : Type} (f : St → α × St)
def blkL : Nat → St → List α × St
  | 0, S => ([], S)
  | n + 1, S => if flB S then ([], S) else if isX s xShut S then ([], nx s S) else ((f S).1 :: (blkL n (expS s xSemi (f S).2)).1, (blkL n (expS s xSemi (f S).2)).2)
structure Goes : Prop where
  m : ∀ S, mS s (f S).2 ≤ mS s S
  v : ∀ S, Vd s S → Vd s (f S).2
variable {f}
theorem blk_less (hf : Goes s f) {S : St} (hv : Vd s S) (hb : flB S = false) : mS s (expS s xSemi (f S).2) < mS s S := by
  cases S with
  | error e => cases hb
  | ok a =>
    have h1 := hf.m (.ok a)
    have h2 := mS_pos s hv
    rcases Nat.eq_zero_or_pos (mS s (f (.ok a)).2) with h0 | h0
    · have := mS_exp s xSemi (f (.ok a)).2; omega
    · have := mS_exp_lt s (x := xSemi) (ne_nil _ _) (hf.v _ hv) h0; omega
theorem blkL_fuel (hf : Goes s f) : ∀ (n m : Nat) (S : St), Vd s S → mS s S < n → mS s S < m → blkL s f n S = blkL s f m S
  | 0, _, _, _, h, _ => by omega
  | _ + 1, 0, _, _, _, h => by omega
  | n + 1, m + 1, S, hv, hn, hm => by
    unfold blkL
    cases hb : flB S with
    | true => rfl
    | false =>
      have hl := blk_less s hf hv hb
      rw [blkL_fuel hf n m _ (vd_exp s _ (hf.v _ hv)) (by omega) (by omega)]
variable (f)
def blkP (S : St) : List α × St := blkL s f (mS s S + 1) S
variable {f}
theorem blk_fl {S : St} (hb : flB S = true) : blkP s f S = ([], S) := by unfold blkP blkL; rw [hb]; rfl
theorem blk_end {S : St} (hb : flB S = false) (hx : isX s xShut S = true) : blkP s f S = ([], nx s S) := by unfold blkP blkL; rw [hb, hx]; rfl
theorem blk_on (hf : Goes s f) {S : St} (hv : Vd s S) (hb : flB S = false) (hx : isX s xShut S = false) :
    blkP s f S = ((f S).1 :: (blkP s f (expS s xSemi (f S).2)).1, (blkP s f (expS s xSemi (f S).2)).2) := by
  have hl := blk_less s hf hv hb
  conv => lhs; unfold blkP blkL
  rw [hb, hx]
  unfold blkP
  rw [blkL_fuel s hf (mS s S) (mS s (expS s xSemi (f S).2) + 1) _ (vd_exp s _ (hf.v _ hv)) (by omega) (by omega)]
  rfl

/-! Rows parted by a sign. -/
variable (f)
def prtL (x : ByteArray) : Nat → St → List α × St
  | 0, S => ([], S)
  | n + 1, S => if isX s x S then ((f (nx s S)).1 :: (prtL x n (f (nx s S)).2).1, (prtL x n (f (nx s S)).2).2) else ([], S)
variable {f}
theorem prt_less (hf : Goes s f) {x : ByteArray} (hx : x.toList ≠ []) {S : St} (hv : Vd s S) (h : isX s x S = true) : mS s (f (nx s S)).2 < mS s S := by
  obtain ⟨a, rfl⟩ := fl_err s h hx
  exact Nat.lt_of_le_of_lt (hf.m _) (mS_take s hx h hv.2)
theorem prtL_fuel (hf : Goes s f) {x : ByteArray} (hx : x.toList ≠ []) : ∀ (n m : Nat) (S : St), Vd s S → mS s S < n → mS s S < m → prtL s f x n S = prtL s f x m S
  | 0, _, _, _, h, _ => by omega
  | _ + 1, 0, _, _, _, h => by omega
  | n + 1, m + 1, S, hv, hn, hm => by
    unfold prtL
    cases hb : isX s x S with
    | false => rfl
    | true =>
      have hl := prt_less s hf hx hv hb
      rw [prtL_fuel hf hx n m _ (hf.v _ (vd_nx s hv)) (by omega) (by omega)]
variable (f)
def moreP (x : ByteArray) (S : St) : List α × St := prtL s f x (mS s S + 1) S
def prtP (x : ByteArray) (S : St) : List α × St := ((f S).1 :: (moreP s f x (f S).2).1, (moreP s f x (f S).2).2)
variable {f}
theorem more_end {x : ByteArray} {S : St} (h : isX s x S = false) : moreP s f x S = ([], S) := by unfold moreP prtL; rw [h]; rfl
theorem more_on (hf : Goes s f) {x : ByteArray} (hx : x.toList ≠ []) {S : St} (hv : Vd s S) (h : isX s x S = true) :
    moreP s f x S = ((f (nx s S)).1 :: (moreP s f x (f (nx s S)).2).1, (moreP s f x (f (nx s S)).2).2) := by
  have hl := prt_less s hf hx hv h
  conv => lhs; unfold moreP prtL
  rw [h]
  unfold moreP
  rw [prtL_fuel s hf hx (mS s S) (mS s (f (nx s S)).2 + 1) _ (hf.v _ (vd_nx s hv)) (by omega) (by omega)]
  rfl

theorem Goes.blk (hf : Goes s f) : Goes s (fun S => blkP s f (expS s xOpen S)) := by
  have key : ∀ (n : Nat) (S : St), mS s (blkL s f n S).2 ≤ mS s S ∧ (Vd s S → Vd s (blkL s f n S).2) := by
    intro n
    induction n with
    | zero => intro S; exact ⟨Nat.le_refl _, id⟩
    | succ n ih =>
      intro S
      unfold blkL
      split
      · exact ⟨Nat.le_refl _, id⟩
      · split
        · exact ⟨mS_nx s S, vd_nx s⟩
        · obtain ⟨h1, h2⟩ := ih (expS s xSemi (f S).2)
          exact ⟨Nat.le_trans h1 (Nat.le_trans (mS_exp s _ _) (hf.m S)), fun hv => h2 (vd_exp s _ (hf.v _ hv))⟩
  exact ⟨fun S => Nat.le_trans (key _ _).1 (mS_exp s _ _), fun S hv => (key _ _).2 (vd_exp s _ hv)⟩
theorem Goes.prt (hf : Goes s f) (x : ByteArray) : Goes s (prtP s f x) := by
  have key : ∀ (n : Nat) (S : St), mS s (prtL s f x n S).2 ≤ mS s S ∧ (Vd s S → Vd s (prtL s f x n S).2) := by
    intro n
    induction n with
    | zero => intro S; exact ⟨Nat.le_refl _, id⟩
    | succ n ih =>
      intro S
      unfold prtL
      split
      · obtain ⟨h1, h2⟩ := ih (f (nx s S)).2
        exact ⟨Nat.le_trans h1 (Nat.le_trans (hf.m _) (mS_nx s S)), fun hv => h2 (hf.v _ (vd_nx s hv))⟩
      · exact ⟨Nat.le_refl _, id⟩
  exact ⟨fun S => Nat.le_trans (key _ _).1 (hf.m S), fun S hv => (key _ _).2 (hf.v _ hv)⟩
end

section
variable (s : ByteArray)
theorem goes_ini : Goes s (iniP s) := ⟨mS_ini s, fun _ => vd_ini s⟩
theorem goes_ins : Goes s (insP s) := ⟨mS_ins s, fun _ => vd_ins s⟩
theorem goes_atom : Goes s (atomP s) := ⟨mS_atom s, fun _ => vd_atom s⟩
def rowP : St → List AtomT × St := prtP s (atomP s) xAnd
theorem goes_row : Goes s (rowP s) := Goes.prt s (goes_atom s) xAnd
def iniB (S : St) : List InitT × St := blkP s (iniP s) (expS s xOpen S)
def insB (S : St) : List InsT × St := blkP s (insP s) (expS s xOpen S)
theorem goes_insB : Goes s (insB s) := Goes.blk s (goes_ins s)
theorem goes_iniB : Goes s (iniB s) := Goes.blk s (goes_ini s)
def rowsP (S : St) : List (List AtomT) × St := prtP s (rowP s) xOr S
def condP (S : St) : CondT × St :=
  if isX s xExists S then (⟨1, (rowsP s (nx s S)).1⟩, expS s xSemi (rowsP s (nx s S)).2)
  else if isX s xForall S then (⟨2, (rowsP s (nx s S)).1⟩, expS s xSemi (rowsP s (nx s S)).2)
  else (⟨0, []⟩, S)
def thrP (S : St) : List (List InsT) × St := moreP s (insB s) xThread S
/-- Behind the name and `{`. -/
def hdS (S : St) : ByteArray × St := ((nameP s (expS s xTest S)).1, expS s xOpen (nameP s (expS s xTest S)).2)
def initP (S : St) : List InitT × St := if isX s xInit S then iniB s (nx s S) else ([], S)
def testP (S : St) : TestT × St :=
  (⟨(hdS s S).1, (initP s (hdS s S).2).1, (thrP s (initP s (hdS s S).2).2).1, (condP s (thrP s (initP s (hdS s S).2).2).2).1⟩,
    endS s (expS s xShut (condP s (thrP s (initP s (hdS s S).2).2).2).2))
end
end Go.Proofs.YtacflahkofmcpaaGreatDoor

namespace Go.Proofs.YtacflahkofmcpaaGreatDoor
open Go.RowKit

/-- A token's cells; the cells of a row of tokens. -/
def tkC (t : Tk) : List Value := [.int .i64 t.k, .string t.x, .int .i64 t.p]
def tksC : List Tk → List Value
  | [] => []
  | t :: ts => tkC t ++ tksC ts
theorem tksC_append (l m : List Tk) : tksC (l ++ m) = tksC l ++ tksC m := by
  induction l with
  | nil => rfl
  | cons t l ih => simp only [List.cons_append, tksC, ih, List.append_assoc]
theorem tksC_length (l : List Tk) : (tksC l).length = l.length * 3 := by
  induction l with
  | nil => rfl
  | cons t l ih => simp only [tksC, List.length_append, ih, List.length_cons, tkC, List.length_nil]; omega
theorem tksC_one (t : Tk) : tksC [t] = tkC t := by simp [tksC]
theorem tksC_get (l : List Tk) : ∀ (i : Nat) (t : Tk), l[i]? = some t → (tksC l)[3 * i]? = some (.int .i64 t.k) ∧ (tksC l)[3 * i + 1]? = some (.string t.x) ∧ (tksC l)[3 * i + 2]? = some (.int .i64 t.p) := by
  induction l with
  | nil => intro i t h; simp at h
  | cons u l ih =>
    intro i t h
    cases i with
    | zero =>
      simp at h
      subst h
      exact ⟨rfl, rfl, rfl⟩
    | succ i =>
      obtain ⟨a, b, c⟩ := ih i t (by simpa using h)
      have e : ∀ j, (tksC (u :: l))[3 * (i + 1) + j]? = (tksC l)[3 * i + j]? := by
        intro j
        rw [show 3 * (i + 1) + j = (3 * i + j) + 3 by omega]
        rfl
      exact ⟨(e 0).trans a, (e 1).trans b, (e 2).trans c⟩

/-- The value v holds these tokens. -/
def Tks (w : World) (v : Value) (ts : List Tk) : Prop :=
  (v = .slice none 0 0 ∧ ts = []) ∨ ∃ g cap, v = .slice (some ⟨g, 0, none⟩) ts.length cap ∧ ts.length ≤ cap ∧ g < w.heap.size ∧ ∀ i u, (tksC ts)[i]? = some u → w.cell? ⟨g, i, none⟩ = some u
theorem Tks.on {w w' : World} {v : Value} {ts : List Tk} (h : Tks w v ts) (k : On w w') : Tks w' v ts := by
  rcases h with h | ⟨g, cap, hv, hc, hg, hu⟩
  · exact Or.inl h
  · exact Or.inr ⟨g, cap, hv, hc, Nat.lt_of_lt_of_le hg k.size, fun i u hi => (k.cell (p := ⟨g, i, none⟩) hg).trans (hu i u hi)⟩
theorem Tks.of_own {w : World} {base : Nat} {v : Value} {ts : List Tk} {e : TypeId} (h : w.ownsRow base e 3 v ts.length (tksC ts)) : Tks w v ts := by
  rcases h.2 with ⟨hv, hn⟩ | ⟨g, cap, cur, hv, hb, hh, hc, hm, hs, ht⟩
  · exact Or.inl ⟨hv, List.eq_nil_of_length_eq_zero hn⟩
  · refine Or.inr ⟨g, cap, hv, hc, lt_of_block hh, fun i u hi => ?_⟩
    rw [← ht, List.getElem?_take] at hi
    split at hi
    · simp only [World.cell?, hh]
      simpa using hi
    · cases hi

theorem results_tmp_cell {fn : Func} {p u : Tmp} {ty : TypeId} (h : fn.results = #[.tmp u, .cell p ty]) (tmps : Array Value) (P : Program) (w : World) :
    (results fn tmps).run P w =
      ((asAddr (tmps.getD p undef)).run P w).andThen fun a w₁ => ((loadVar ty a).run P w₁).andThen fun v w₂ => .ok (.tuple #[tmps.getD u undef, v]) w₂ := by
  simp only [results, h]
  simp [Sem.run_bind, Result.andThen]

/-- What All answers: the tokens, the error. -/
def tsS (s : ByteArray) : List Tk := if (al pB s 0).2.1 = 0 then (al pB s 0).1 else []
def ecS (s : ByteArray) : Nat := (al pB s 0).2.1
def epS (s : ByteArray) : Nat := (al pB s 0).2.2
def tsA (s : ByteArray) : List Tk := if 4000 < s.size then [] else tsS s
def ecA (s : ByteArray) : Nat := if 4000 < s.size then 2 else ecS s
def epA (s : ByteArray) : Nat := if 4000 < s.size then 4000 else epS s

theorem infoTk : (Tryz.prog.info? 71).map (fun i => (i.zero, i.size, i.bytes)) = some (some (.agg #[.int .i64 0, .string ⟨#[]⟩, .int .i64 0]), 3, 32) := by kernel_rfl

theorem On.trans' {w x y : World} {b : Nat} (h : On w x) (k : Wr b x y) (hb : w.heap.size ≤ b) : On w y :=
  Below.trans h ⟨k.os, k.tape, k.output, k.size, fun i hi => k.block i (by have := h.size; omega) (by simp; omega)⟩
theorem On.setNew {w x : World} {N i : Nat} (h : On w x) (hN : w.heap.size ≤ N) (u : Value) : On w (x.setCell ⟨N, i, none⟩ u) := Below.setCell h hN u
theorem On.drew {w x : World} (h : On w x) : On w x.drew := Below.drew h

/-- The error's block. -/
def Eb (w : World) (N : Nat) : Prop := w.heap[N]? = some (.cells #[.int .i64 0, .int .i64 0] 36 (0, 0))
theorem Eb.e0 {w : World} {N : Nat} (h : Eb w N) : w.cell? ⟨N, 0, none⟩ = some (.int .i64 0) := by unfold Eb at h; simp [World.cell?, h]
theorem Eb.e1 {w : World} {N : Nat} (h : Eb w N) : w.cell? ⟨N, 1, none⟩ = some (.int .i64 0) := by unfold Eb at h; simp [World.cell?, h]
theorem Eb.f {w : World} {N : Nat} (h : Eb w N) (i : Nat) : w.frozen? ⟨N, i, none⟩ = false := by unfold Eb at h; simp [World.frozen?, h]

theorem own_ne {w : World} {base : Nat} {e : TypeId} {n k : Nat} {v : Value} {xs : List Value} (h : w.ownsRow (base + 1) e n v k xs) : v.ownBlock = none ∨ v.ownBlock ≠ some base := by
  cases hv : v.ownBlock with
  | none => exact Or.inl rfl
  | some g =>
    refine Or.inr ?_
    have := (h.lt g hv).1
    simp; omega

theorem cell_new (w : World) (cs : Array Value) (T : TypeId) (n j : Nat) (hn : n = w.heap.size) : (w.alloc (.cells cs T)).cell? ⟨n, j, none⟩ = cs[j]? := by
  subst hn
  rw [World.cell?_alloc_at (hn := rfl)]
theorem news_at (w : World) (o1 o2 : Obj) {T : TypeId} (t : Tk) : ∀ (j : Nat) (u : Value), (tkC t)[j]? = some u → (((w.alloc o1).alloc o2).alloc (.cells #[.int .i64 t.k, .string t.x, .int .i64 t.p] T)).cell? ((⟨w.heap.size + 1 + 1, 0, none⟩ : Addr).add j) = some u := by
  intro j u h
  rw [Addr.add_lit, cell_new _ _ _ _ _ (by simp), Nat.zero_add]
  show (tkC t).toArray[j]? = some u
  rw [List.getElem?_toArray]
  exact h
theorem first_at (w : World) (cs : Array Value) (T : TypeId) (o2 o3 : Obj) (j : Nat) : (((w.alloc (.cells cs T)).alloc o2).alloc o3).cell? ⟨w.heap.size, j, none⟩ = cs[j]? := by
  have e := cell_new w cs T w.heap.size j rfl
  rw [← e]
  exact (World.cell?_of_block (Below.heap_alloc _ _ _ (by simp; omega))).trans (World.cell?_of_block (Below.heap_alloc _ _ _ (by simp)))

theorem all_long (s : ByteArray) (hl : 4000 < s.size) (hs : s.size ≤ 140737488351232) (w : World) :
    Calls Tryz.prog 28 #[.string s] w fun e w' => e = .returned (.tuple #[.slice none 0 0, .agg #[.int .i64 2, .int .i64 4000]]) ∧ On w w' := by
  have h1 : (4000 : Int) < s.size := by omega
  go_enter Tryz.func28, Tryz.ntmps28
  go_wp2
  (try simp only [Exit.inBlock, Exit.then])
  refine bodyPost_ret (v := .tuple #[.slice none 0 0, .agg #[.int .i64 2, .int .i64 4000]]) ?_ rfl ⟨rfl, ?_⟩
  · rw [results_tmp_cell rfl]
    go_simp
  · exact (On.refl _).alloc _

set_option maxHeartbeats 1000000 in
theorem all_short (s : ByteArray) (hs : s.size ≤ 4000) (w : World) (hw : Lw w) :
    Calls Tryz.prog 28 #[.string s] w fun e w' => ∃ v, e = .returned (.tuple #[v, .agg #[.int .i64 (ecS s), .int .i64 (epS s)]]) ∧ Tks w' v (tsS s) ∧ On w w' := by
  have hL0 : Lw (w.alloc (.cells #[.int .i64 0, .int .i64 0] 36)) := hw.on ((On.refl _).alloc _)
  obtain ⟨i0, hi, hz0, hz1, hz2⟩ := info_parts infoTk
  have hNn := new_is (w.alloc (.cells #[.int .i64 0, .int .i64 0] 36)) s
  have hsz : ¬ ((4000 : Int) < s.size) := by omega
  rw [World.size_alloc] at hNn
  go_enter Tryz.func28, Tryz.ntmps28
  go_wp2_with (go_at_call 29; refine hNn.mono ?_; rintro e w1 ⟨rfl, hl1, hw1⟩)
  have hsz3 : 6 ≤ w.heap.size := hw.lt
  have hB : w.heap.size + 1 ≤ w1.heap.size := by have := hw1.size; simpa using this
  have hE1 : Eb w1 w.heap.size := (hw1.block w.heap.size (by simp)).trans (heap_alloc_new w _)
  have hOn1 : On w w1 := ((On.refl w).alloc _).trans hw1
  clear hNn hw1 hL0
  go_loopg [4] (s.size + 1) (fun k v wr => ∃ (a r : Nat) (ts : List Tk), k = s.size + 1 - a ∧ Inv s a r ∧ Lx wr (w.heap.size + 1) s a r ∧ wr.ownsRow (w.heap.size + 1 + 1) 71 3 v ts.length (tksC ts) ∧ ts.length ≤ a ∧ (ts ++ (al pB s a).1, (al pB s a).2) = al pB s 0 ∧ Eb wr w.heap.size ∧ On w wr)
  case atStart => exact ⟨0, 0, [], rfl, ⟨Nat.le_refl _, by omega, Nat.zero_le _, Nat.zero_le _⟩, hl1, World.ownsRow_nil _ _ _ _, Nat.le_refl _, by simp, hE1, hOn1⟩
  case round =>
    obtain ⟨a, r, ts, hk, hinv, hlx, hown, hta, hal, heb, hon⟩ := hrel
    have hN := next_is wr (w.heap.size + 1) s a r (by omega) hinv hlx (by omega) (hw.on hon)
    have h4 := hinv.h4
    have HAL : Hid ((ts ++ (al pB s a).1, (al pB s a).2) = al pB s 0) := hal
    clear hal hE1 hOn1 hl1
    unfold tkV erV at hN
    by_cases h0 : eC pB s a = 0
    · simp only [h0, if_true] at hN
      have hbd : (ts.length + 1) * 32 ≤ 140737488355328 := by omega
      go_wp2_with (first | (go_at_call 72; refine hN.mono ?_; rintro e w2 ⟨rfl, hl2, _, hw2⟩; have hE2 : Eb w2 w.heap.size := (hw2.block w.heap.size (lt_of_block heb) (by simp)).trans heb; have hown2 := hown.kept hw2 (own_ne hown); have hlt : w.heap.size < w2.heap.size := lt_of_block hE2) | (at_builtin; refine wpList_append_own _ rfl _ _ 64 rfl (w.heap.size + 1 + 1) 71 i0 (.agg #[.int .i64 0, .string ⟨#[]⟩, .int .i64 0]) 3 32 Tryz.underlying64 hi hz0 hz1 hz2 rfl (by decide) _ _ _ rfl (((hown2.alloc _).alloc _).alloc _) ⟨w2.heap.size + 1 + 1, 0, none⟩ 1 1 (tkC (tk s a)) rfl rfl ?c1 ?c2 ?c3 ?c4 ?c5 ?_))
      case c1 => exact news_at w2 _ _ (tk s a)
      case c2 =>
        intro u hu
        simp only [tkC, List.mem_cons, List.not_mem_nil, or_false] at hu
        rcases hu with rfl | rfl | rfl <;> rfl
      case c3 => unfold maxLen; omega
      case c4 => exact hbd
      case c5 => simp; omega
      intro v' w3 hown3 hg3 _
      have own_lt : ∀ g, u4.ownBlock = some g → w.heap.size + 1 + 1 ≤ g ∧ g < w2.heap.size := fun g h => hown2.lt g h
      have hE3 : Eb w3 w.heap.size := by
        refine (hg3.block w.heap.size (by simp; omega) (fun h => by have := (own_lt _ h.symm).1; omega)).trans ?_
        rw [Below.heap_alloc _ _ _ (by simp; omega), Below.heap_alloc _ _ _ (by simp; omega), Below.heap_alloc _ _ _ hlt]
        exact hE2
      obtain ⟨r', hi', hl'⟩ := hl2 trivial
      have hl3 : Lx w3 (w.heap.size + 1) s (to s a) r' := by
        obtain ⟨T, e⟩ := (((hl'.alloc _).alloc _).alloc _).blk
        exact ⟨T, (hg3.block (w.heap.size + 1) (lt_of_block e) (fun h => by have := (own_lt _ h.symm).1; omega)).trans e⟩
      have hk0 : w3.cell? ⟨w2.heap.size, 0, none⟩ = some (.int .i64 (kd s a)) := by
        refine hg3.cell (a := ⟨w2.heap.size, 0, none⟩) (first_at w2 _ _ _ _ 0) (fun h => ?_)
        exact Nat.lt_irrefl _ (own_lt _ h.symm).2
      have hon3 : On w w3 := Below.grown ((((hon.trans' hw2 (Nat.le_succ _)).alloc _).alloc _).alloc _) hg3 (by simp; omega) (fun g h => by have := (own_lt _ h).1; omega)
      have hown3' : w3.ownsRow (w.heap.size + 1 + 1) 71 3 v' (ts ++ [tk s a]).length (tksC (ts ++ [tk s a])) := by
        rw [tksC_append, tksC_one]
        simpa using hown3
      have g0 := hE3.e0
      have g1 := hE3.e1
      have f0 := hE3.f 0
      have f1 := hE3.f 1
      have hE3' : Hid (Eb w3 w.heap.size) := hE3
      clear hown hown2 hown3 hg3 hN hw2 hl2 hE2 heb hlx hE3 own_lt hl'
      by_cases hk4 : kd s a = 4
      · have hkb : ((kd s a : Int) == 4) = true := by rw [hk4]; rfl
        have HK : Hid (kd s a = 4) := hk4
        clear hk4
        go_wp2
        (try simp only [Exit.inBlock, Exit.then])
        have hEnd := al_end h4 h0 HK.out
        refine bodyPost_ret (v := .tuple #[v', .agg #[.int .i64 0, .int .i64 0]]) ?_ rfl ⟨v', ?_, ?_, ?_⟩
        · rw [results_tmp_cell rfl]
          go_simp
        · unfold ecS epS; rw [← HAL.out, hEnd]; rfl
        · unfold tsS; rw [← HAL.out, hEnd, if_pos rfl]
          exact Tks.of_own (ownsRow_setCell_below (ownsRow_setCell_below hown3' (by simp; omega) _) (by simp; omega) _)
        · exact (hon3.setNew (Nat.le_refl _) _).setNew (Nat.le_refl _) _
      · have hkb : ((kd s a : Int) == 4) = false := by rw [beq_eq_false_iff_ne]; omega
        have hgt := to_gt (eC_kd h0) hk4
        have hst := al_step h4 h0 hk4
        have HST : Hid (al pB s a = (tk s a :: (al pB s (to s a)).1, (al pB s (to s a)).2)) := hst
        clear hst
        go_wp2
        go_roundg (s.size + 1 - to s a)
        case measure => have := hi'.h4; omega
        case rel =>
          refine ⟨to s a, r', ts ++ [tk s a], rfl, hi', hl3, hown3', by simp; omega, ?_, hE3'.out, hon3⟩
          rw [← HAL.out, HST.out]
          simp
    · simp only [h0, if_false] at hN
      have hC : ((eC pB s a : Int) != 0) = true := by simp; omega
      go_wp2_with (go_at_call 72; refine hN.mono ?_; rintro e w2 ⟨rfl, _, hl2, hw2⟩; have hE2 : Eb w2 w.heap.size := (hw2.block w.heap.size (lt_of_block heb) (by simp)).trans heb; have g0 := hE2.e0; have g1 := hE2.e1; have f0 := hE2.f 0; have f1 := hE2.f 1; have hlt : w.heap.size < w2.heap.size := lt_of_block hE2; have hlt' := Nat.lt_succ_of_lt hlt)
      go_region
      all_goals (try go_wp2)
      (try simp only [Exit.inBlock, Exit.then])
      refine bodyPost_ret (v := .tuple #[.slice none 0 0, .agg #[.int .i64 (eC pB s a), .int .i64 (pl s a)]]) ?_ rfl ⟨.slice none 0 0, ?_, ?_, ?_⟩
      · rw [results_tmp_cell rfl]
        go_simp
      · unfold ecS epS; rw [← HAL.out, al_err h4 h0]
      · unfold tsS; rw [← HAL.out, al_err h4 h0, if_neg h0]
        exact Or.inl ⟨rfl, rfl⟩
      · exact (((((hon.trans' hw2 (Nat.le_succ _)).setNew (Nat.le_refl _) _).setNew (Nat.le_refl _) _).alloc _).alloc _).drew

/-- ALL. -/
theorem all_is (s : ByteArray) (hs : s.size ≤ 140737488351232) (w : World) (hw : Lw w) :
    Calls Tryz.prog 28 #[.string s] w fun e w' => ∃ v, e = .returned (.tuple #[v, .agg #[.int .i64 (ecA s), .int .i64 (epA s)]]) ∧ Tks w' v (tsA s) ∧ On w w' := by
  unfold tsA ecA epA
  by_cases h : 4000 < s.size
  · simp only [h, if_true]
    refine (all_long s h hs w).mono ?_
    rintro e w' ⟨rfl, hW⟩
    exact ⟨_, rfl, Or.inl ⟨rfl, rfl⟩, hW⟩
  · simp only [h, if_false]
    exact all_short s (by omega) w hw
end Go.Proofs.YtacflahkofmcpaaGreatDoor
