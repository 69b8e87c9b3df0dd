/- What the parser tells without an error is a test that may be. In plain Lean, of no memory. -/
import Derived.Test.YtacflahkofmcpaaGreatDoorJ12BackP
import Derived.Test.YtacflahkofmcpaaGreatDoorJ10LexCut
import Derived.Laws.IdiomStrings
import Derived.Lib.ItoaNum
import Derived.Test.YtacflahkofmcpaaGreatDoorJ09WlOwnR
namespace Go.Proofs.YtacflahkofmcpaaGreatDoor

/-- A step's answer is good where no error was told; and then none was told ahead of it. -/
def Lv {α : Type} (P : α → Prop) (R : α × St) (S : St) : Prop := flB R.2 = false → P R.1 ∧ flB S = false
section
variable {s : ByteArray} {S : St}
theorem fl_fl {c : Nat} : flB (flS s c S) = true := by cases S <;> rfl
theorem fl_nx (h : flB (nx s S) = false) : flB S = false := by cases S with
  | ok a => rfl
  | error e => exact h
theorem fl_exp {x : ByteArray} (h : flB (expS s x S) = false) : isX s x S = true ∧ flB S = false := by
  unfold expS at h
  split at h
  · rename_i hx; exact ⟨hx, fl_nx h⟩
  · rw [fl_fl] at h; cases h
theorem fl_end (h : flB (endS s S) = false) : flB S = false := by
  unfold endS at h
  split at h
  · exact h
  · rw [fl_fl] at h; cases h
theorem lv_num : Lv B6 (numP s S) S := by
  intro h
  unfold numP at h ⊢
  split at h
  · rename_i hp
    rw [if_pos hp]
    refine ⟨?_, fl_nx h⟩
    unfold pB at hp
    obtain ⟨v, hv⟩ := Option.isSome_iff_exists.1 hp
    show B6 (pN _)
    unfold pN
    rw [hv]
    exact parseV_bound hv
  · rw [fl_fl] at h; cases h
theorem lv_upto {m : Int} {c : Nat} : Lv (fun n => 0 ≤ n ∧ n ≤ m) (uptoP s m c S) S := by
  intro h
  unfold uptoP at h ⊢
  split at h
  · rw [fl_fl] at h; cases h
  · rename_i ho
    rw [if_neg ho]
    refine ⟨?_, (lv_num h).2⟩
    unfold outB at ho
    unfold numP at h ⊢
    split at h
    · rename_i hp
      rw [hp] at ho
      rw [if_pos hp]
      simp at ho
      exact ho
    · rw [fl_fl] at h; cases h
theorem lv_named {v : Int} {ok : Bool} {P : Int → Prop} (hp : ok = true → P v) : Lv P (namedP s v ok S) S := by
  intro h
  unfold namedP at h ⊢
  split at h
  · rename_i hk
    rw [if_pos hk]
    exact ⟨hp hk, fl_nx h⟩
  · split at h <;> (rw [fl_fl] at h; cases h)
theorem lv_reg : Lv (fun n => Wl.regOk n = true) (regP s S) S := by
  refine lv_named fun hk => ?_
  unfold regV
  rw [if_pos hk]
  unfold regB at hk
  simp only [Bool.and_eq_true, decide_eq_true_eq] at hk
  unfold Wl.regOk
  rw [Bool.and_eq_true, decide_eq_true_eq, decide_eq_true_eq]
  omega
theorem bN_at (x : ByteArray) (i : Nat) : bN x i = hd (x.data.toList.drop i) := rfl
end
/-- A word that is a token is a word that may be. -/
theorem run_chs : ∀ (l : List UInt8) (i : Nat), Wl.chsOk (i + 1) (l.take (runL l)) = true
  | [], _ => rfl
  | c :: r, i => by
    unfold runL
    split
    · rename_i h
      rw [Nat.add_comm 1 (runL r), List.take_succ_cons, Wl.chsOk, Bool.and_eq_true]
      refine ⟨?_, run_chs r (i + 1)⟩
      unfold wordN letN digN at h
      unfold Wl.chOk Wl.locOk
      simp only [Bool.or_eq_true, Bool.and_eq_true, decide_eq_true_eq] at h ⊢
      omega
    · rfl
section
variable {s : ByteArray} {S : St}
theorem word_ok (h : tokK s S = 1) : Wl.wordOk (tokX s S) = true ∧ letN (bN (tokX s S) 0) = true := by
  cases S with
  | error e => cases h
  | ok a =>
    have hk : kind (suf s (pl s a)) = 1 := h
    have hx : (tokX s (.ok a)).data.toList = (suf s (pl s a)).take (tsize (suf s (pl s a))) := tx_list s a
    generalize suf s (pl s a) = l at hk hx
    cases l with
    | nil => cases hk
    | cons c r =>
      have hc : letN c.toNat = true := by
        rw [kind_cons] at hk
        by_cases hc : letN c.toNat = true
        · exact hc
        · rw [if_neg hc] at hk
          split at hk
          · cases hk
          · split at hk
            · cases hk
            · split at hk
              · cases hk
              · split at hk <;> cases hk
      rw [tsize_cons, if_pos hc, Nat.add_comm, List.take_succ_cons] at hx
      unfold Wl.wordOk
      rw [bN_at, size_list, hx]
      refine ⟨?_, by simpa [hd] using hc⟩
      rw [Bool.and_eq_true, Wl.chsOk, Bool.and_eq_true, decide_eq_true_eq]
      refine ⟨⟨?_, run_chs r 0⟩, by simp⟩
      unfold letN at hc
      unfold Wl.chOk Wl.locOk
      simp only [Bool.or_eq_true, Bool.and_eq_true, decide_eq_true_eq] at hc ⊢
      omega
theorem lv_name : Lv (fun x => Wl.wordOk x = true) (nameP s S) S := by
  intro h
  unfold nameP at h ⊢
  split at h
  · rename_i hk
    rw [if_pos hk]
    exact ⟨(word_ok hk).1, fl_nx h⟩
  · rw [fl_fl] at h; cases h
theorem lv_loc : Lv (fun n => Wl.locOk n = true) (locP s S) S := by
  refine lv_named fun hk => ?_
  unfold locV
  rw [if_pos hk]
  unfold locB at hk
  simp only [Bool.and_eq_true, beq_iff_eq] at hk
  have := (word_ok hk.1).2
  unfold letN at this
  unfold Wl.locOk
  simp only [Bool.and_eq_true, decide_eq_true_eq] at this ⊢
  omega
def OpdG (o : Opd) : Prop := Wl.opdOk (cO o) = true ∧ B6 o.v
theorem lv_opd : Lv OpdG (opdP s S) S := by
  intro h
  unfold opdP at h ⊢
  split at h
  · rename_i hk
    rw [if_pos hk]
    have := lv_num h
    exact ⟨⟨by simp [Wl.opdOk, cO], this.1⟩, this.2⟩
  · rename_i hk
    rw [if_neg hk]
    have := lv_reg h
    exact ⟨⟨by simp [Wl.opdOk, cO, this.1], (⟨by decide, by decide⟩ : B6 0)⟩, this.2⟩
theorem lv_ini : Lv IniG (iniP s S) S := by
  intro h
  have h1 := lv_num h
  have h2 := fl_exp h1.2
  have h3 := lv_loc h2.2
  exact ⟨⟨h3.1, h1.1⟩, h3.2⟩
theorem B0 : B6 0 := ⟨by decide, by decide⟩
theorem lv_ins : Lv InsG (insP s S) S := by
  intro h
  unfold insP at h ⊢
  split at h
  · rename_i hx
    rw [if_pos hx]
    have h1 := lv_opd h
    have h2 := lv_loc h1.2
    refine ⟨⟨?_, h1.1.2, B0, B0⟩, fl_nx h2.2⟩
    have a := h1.1.1
    have b := h2.1
    simp [Wl.insOk, cI, storeP, cO] at a b ⊢
    exact ⟨b, a⟩
  · rename_i hx
    rw [if_neg hx]
    split at h
    · rename_i hx
      rw [if_pos hx]
      exact ⟨⟨rfl, B0, B0, B0⟩, fl_nx h⟩
    · rename_i hx
      rw [if_neg hx]
      split at h
      · rename_i hx
        rw [if_pos hx]
        have h1 := lv_opd h
        have h2 := lv_opd (fl_exp h1.2).2
        have h3 := lv_upto (fl_exp h2.2).2
        refine ⟨⟨?_, h2.1.2, h1.1.2, (⟨by have := h3.1.1; omega, h3.1.2⟩ : B6 (uptoP s 9223372036854775807 6 (nx s S)).1)⟩, fl_nx h3.2⟩
        have a := h1.1.1
        have b := h2.1.1
        have c := h3.1.1
        simp [Wl.insOk, cI, skipP, cO] at a b ⊢
        exact ⟨⟨decide_eq_true c, b⟩, a⟩
      · rename_i hx
        rw [if_neg hx]
        unfold asgP at h ⊢
        split at h
        · rename_i hx
          rw [if_pos hx]
          have h1 := lv_loc h
          have h2 := fl_exp (fl_nx h1.2)
          have h3 := lv_reg h2.2
          refine ⟨⟨?_, B0, B0, B0⟩, h3.2⟩
          have a := h1.1
          have b := h3.1
          simp [Wl.insOk, cI, loadP, cO] at a b ⊢
          exact ⟨b, a⟩
        · rename_i hx
          rw [if_neg hx]
          split at h
          · rename_i hx
            rw [if_pos hx]
            have h1 := lv_opd h
            have h2 := lv_opd h1.2
            have h3 := lv_loc h2.2
            have h4 := fl_exp (fl_nx h3.2)
            have h5 := lv_reg h4.2
            refine ⟨⟨?_, h2.1.2, h1.1.2, B0⟩, h5.2⟩
            have a := h1.1.1
            have b := h2.1.1
            have c := h3.1
            have d := h5.1
            simp [Wl.insOk, cI, casP, cO] at a b c d ⊢
            exact ⟨⟨⟨d, c⟩, b⟩, a⟩
          · rename_i hx
            rw [if_neg hx]
            unfold setP at h ⊢
            split at h
            · rename_i ho
              rw [if_pos ho]
              have h1 := lv_opd h
              have h2 := lv_opd (fl_nx h1.2)
              have h4 := fl_exp h2.2
              have h5 := lv_reg h4.2
              refine ⟨⟨?_, h2.1.2, h1.1.2, B0⟩, h5.2⟩
              have a := h1.1.1
              have b := h2.1.1
              have d := h5.1
              generalize tokX s (opdP s (expS s xEq (regP s S).2)).2 = x at *
              have hv : Wl.signOk (opV x) = true := by
                have := opFrom_is x 11 (by omega)
                unfold opB at ho
                unfold opV opR at *
                rw [if_pos (of_decide_eq_true ho)]
                unfold Wl.signOk
                rw [Bool.and_eq_true, decide_eq_true_eq, decide_eq_true_eq]
                have := of_decide_eq_true ho
                omega
              have hn : (opV x == 0) = false := by
                unfold Wl.signOk at hv
                rw [Bool.and_eq_true, decide_eq_true_eq] at hv
                rw [beq_eq_false_iff_ne]
                omega
              have hn' : ¬ opV x = 0 := by rw [beq_eq_false_iff_ne] at hn; exact hn
              simp [Wl.insOk, cI, Wl.secOk, hn', hv, cO] at a b d ⊢
              exact ⟨⟨d, b⟩, a⟩
            · rename_i ho
              rw [if_neg ho]
              have h2 := lv_opd h
              have h4 := fl_exp h2.2
              have h5 := lv_reg h4.2
              refine ⟨⟨?_, h2.1.2, B0, B0⟩, h5.2⟩
              have b := h2.1.1
              have d := h5.1
              simp [Wl.insOk, cI, Wl.secOk, cO] at b d ⊢
              exact ⟨d, b⟩
theorem lv_atom : Lv AtomG (atomP s S) S := by
  intro h
  have h1 := lv_num h
  have h2 := fl_exp h1.2
  have hv := h1.1
  have hS := h2.2
  clear h h1 h2
  unfold atomP at *
  generalize numP s (expS s xEq (subP s S).2) = N at *
  unfold subP at *
  split at hS
  · rename_i hk
    rw [if_pos hk]
    have a := lv_reg hS
    have b := fl_exp a.2
    have c := lv_upto b.2
    refine ⟨⟨?_, hv⟩, c.2⟩
    have c0 := c.1.1
    have c9 := c.1.2
    have a0 := a.1
    have hn : ¬ (uptoP s 9 7 S).1 = -1 := by omega
    simp [Wl.atomOk, cA, hn] at a0 ⊢
    exact ⟨⟨decide_eq_true c0, decide_eq_true c9⟩, a0⟩
  · rename_i hk
    rw [if_neg hk]
    have a := lv_loc hS
    refine ⟨⟨?_, hv⟩, a.2⟩
    have a0 := a.1
    simp [Wl.atomOk, cA] at a0 ⊢
    exact a0
/-! Rows; how many there are. -/
theorem mS_isX {x : ByteArray} (hx : x.toList ≠ []) (h : isX s x S = true) (hv : Vd s S) : mS s (nx s S) < mS s S := by
  obtain ⟨a, rfl⟩ := fl_err s h hx
  exact mS_take s hx h hv.2
theorem lv_blk {α : Type} {f : St → α × St} (hf : Goes s f) (P : α → Prop) (hP : ∀ S, Lv P (f S) S) : ∀ (n : Nat) (S : St), Vd s S → flB (blkL s f n S).2 = false → mS s S < n → (∀ x ∈ (blkL s f n S).1, P x) ∧ flB S = false ∧ (blkL s f n S).1.length ≤ mS s S
  | 0, S, _, h, hm => by omega
  | n + 1, S, hv, h, hm => by
    unfold blkL at h ⊢
    cases hb : flB S with
    | true => rw [hb] at h; rw [if_pos rfl, hb] at h; cases h
    | false =>
      rw [hb] at h
      simp only [Bool.false_eq_true, if_false] at h ⊢
      split at h
      · rename_i hx
        rw [if_pos hx]
        exact ⟨fun x hx => by simp at hx, trivial, Nat.zero_le _⟩
      · rename_i hx
        rw [if_neg hx]
        have hl := blk_less s hf hv hb
        obtain ⟨a, b, c⟩ := lv_blk hf P hP n _ (vd_exp s _ (hf.v _ hv)) h (by omega)
        have d := hP S (fl_exp b).2
        refine ⟨fun x hx => ?_, trivial, ?_⟩
        · rw [List.mem_cons] at hx
          rcases hx with rfl | hx
          · exact d.1
          · exact a x hx
        · simp only [List.length_cons]
          omega
theorem lv_prt {α : Type} {f : St → α × St} (hf : Goes s f) (P : α → Prop) {x : ByteArray} (hx : x.toList ≠ []) (hP : ∀ S, Vd s S → Lv P (f S) S) : ∀ (n : Nat) (S : St), Vd s S → flB (prtL s f x n S).2 = false → (∀ y ∈ (prtL s f x n S).1, P y) ∧ flB S = false ∧ (prtL s f x n S).1.length ≤ mS s S
  | 0, S, _, h => ⟨fun y hy => by simp [prtL] at hy, h, Nat.zero_le _⟩
  | n + 1, S, hv, h => by
    unfold prtL at h ⊢
    split at h
    · rename_i hi
      rw [if_pos hi]
      have hl := prt_less s hf hx hv hi
      obtain ⟨a, b, c⟩ := lv_prt hf P hx hP n _ (hf.v _ (vd_nx s hv)) h
      have d := hP _ (vd_nx s hv) b
      refine ⟨fun y hy => ?_, fl_nx d.2, ?_⟩
      · rw [List.mem_cons] at hy
        rcases hy with rfl | hy
        · exact d.1
        · exact a y hy
      · simp only [List.length_cons]
        omega
    · rename_i hi
      rw [if_neg hi]
      exact ⟨fun y hy => by simp at hy, h, Nat.zero_le _⟩
theorem mS_le (S : St) : mS s S ≤ s.size + 1 := by
  cases S with
  | ok a => simp only [mS]; omega
  | error e => exact Nat.zero_le _
def RowH (n : Nat) (r : List AtomT) : Prop := RowG r ∧ r.length ≤ n + 1
theorem lv_row (hv : Vd s S) : Lv (RowH (s.size + 1)) (rowP s S) S := by
  intro h
  have h' : flB (moreP s (atomP s) xAnd (atomP s S).2).2 = false := h
  unfold moreP at h'
  obtain ⟨a, b, c⟩ := lv_prt (x := xAnd) (goes_atom s) AtomG (ne_nil _ _) (fun _ _ => lv_atom) _ _ ((goes_atom s).v _ hv) h'
  have d := lv_atom b
  refine ⟨⟨⟨(atomP s S).1, _, rfl, fun y hy => ?_⟩, ?_⟩, d.2⟩
  · have hy' : y ∈ (atomP s S).1 :: (moreP s (atomP s) xAnd (atomP s S).2).1 := hy
    rw [List.mem_cons] at hy'
    rcases hy' with rfl | hy'
    · exact d.1
    · exact a y hy'
  · have := mS_le (s := s) (atomP s S).2
    show ((atomP s S).1 :: (moreP s (atomP s) xAnd (atomP s S).2).1).length ≤ _
    rw [List.length_cons]
    unfold moreP
    omega
theorem lv_rows (hv : Vd s S) : Lv (fun M => (∃ r N, M = r :: N) ∧ (∀ r ∈ M, RowH (s.size + 1) r) ∧ M.length ≤ s.size + 2) (rowsP s S) S := by
  intro h
  have h' : flB (moreP s (rowP s) xOr (rowP s S).2).2 = false := h
  unfold moreP at h'
  obtain ⟨a, b, c⟩ := lv_prt (x := xOr) (goes_row s) (RowH (s.size + 1)) (ne_nil _ _) (fun _ hv => lv_row hv) _ _ ((goes_row s).v _ hv) h'
  have d := lv_row hv b
  refine ⟨⟨⟨(rowP s S).1, _, rfl⟩, fun y hy => ?_, ?_⟩, d.2⟩
  · have hy' : y ∈ (rowP s S).1 :: (moreP s (rowP s) xOr (rowP s S).2).1 := hy
    rw [List.mem_cons] at hy'
    rcases hy' with rfl | hy'
    · exact d.1
    · exact a y hy'
  · have := mS_le (s := s) (rowP s S).2
    show ((rowP s S).1 :: (moreP s (rowP s) xOr (rowP s S).2).1).length ≤ _
    rw [List.length_cons]
    unfold moreP
    omega
def CondH (n : Nat) (c : CondT) : Prop := CondG c ∧ (∀ r ∈ c.any, r.length ≤ n + 1) ∧ c.any.length ≤ n + 1
theorem lv_cond (hv : Vd s S) : Lv (CondH (s.size + 1)) (condP s S) S := by
  intro h
  unfold condP at h ⊢
  split at h
  · rename_i hx
    rw [if_pos hx]
    have h1 := fl_exp h
    obtain ⟨⟨⟨r, N, e⟩, h2, h4⟩, h3⟩ := lv_rows (vd_nx s hv) h1.2
    exact ⟨⟨Or.inr ⟨Or.inl rfl, r, N, e, fun q hq => (h2 q hq).1⟩, fun r hr => (h2 r hr).2, by simpa using h4⟩, fl_nx h3⟩
  · rename_i hx
    rw [if_neg hx]
    split at h
    · rename_i hx
      rw [if_pos hx]
      have h1 := fl_exp h
      obtain ⟨⟨⟨r, N, e⟩, h2, h4⟩, h3⟩ := lv_rows (vd_nx s hv) h1.2
      exact ⟨⟨Or.inr ⟨Or.inr rfl, r, N, e, fun q hq => (h2 q hq).1⟩, fun r hr => (h2 r hr).2, by simpa using h4⟩, fl_nx h3⟩
    · rename_i hx
      rw [if_neg hx]
      exact ⟨⟨Or.inl ⟨rfl, rfl⟩, fun r hr => by simp at hr, by simp⟩, h⟩
theorem lv_insB (hv : Vd s S) : Lv (fun M => (∀ x ∈ M, InsG x) ∧ M.length ≤ s.size + 1) (insB s S) S := by
  intro h
  unfold insB blkP at h ⊢
  obtain ⟨a, b, c⟩ := lv_blk (goes_ins s) InsG (fun _ => lv_ins) _ _ (vd_exp s _ hv) h (by omega)
  have := mS_le (s := s) (expS s xOpen S)
  exact ⟨⟨a, by omega⟩, (fl_exp b).2⟩
theorem lv_init (hv : Vd s S) : Lv (fun M => (∀ x ∈ M, IniG x) ∧ M.length ≤ s.size + 1) (initP s S) S := by
  intro h
  unfold initP at h ⊢
  split at h
  · rename_i hx
    rw [if_pos hx]
    unfold iniB blkP at h ⊢
    obtain ⟨a, b, c⟩ := lv_blk (goes_ini s) IniG (fun _ => lv_ini) _ _ (vd_exp s _ (vd_nx s hv)) h (by omega)
    have := mS_le (s := s) (expS s xOpen (nx s S))
    exact ⟨⟨a, by omega⟩, fl_nx (fl_exp b).2⟩
  · rename_i hx
    rw [if_neg hx]
    exact ⟨⟨fun x hx => by simp at hx, by simp⟩, h⟩
theorem vd_name (h : Vd s S) : Vd s (nameP s S).2 := by
  unfold nameP; split
  · exact vd_nx s h
  · exact vd_fl s h (by decide)
theorem vd_init (h : Vd s S) : Vd s (initP s S).2 := by
  unfold initP; split
  · exact (goes_iniB s).v _ (vd_nx s h)
  · exact h
theorem vd_more {α : Type} {f : St → α × St} (hf : Goes s f) (x : ByteArray) : ∀ (n : Nat) (S : St), Vd s S → Vd s (prtL s f x n S).2
  | 0, S, h => h
  | n + 1, S, h => by
    unfold prtL
    split
    · exact vd_more hf x n _ (hf.v _ (vd_nx s h))
    · exact h
end
/-- What a text of n bytes at most can hold. -/
structure TestH (n : Nat) (t : TestT) : Prop where
  g : TestG t
  l1 : t.ini.length ≤ n
  l2 : t.thr.length ≤ n
  l3 : ∀ M ∈ t.thr, M.length ≤ n
  l4 : t.cond.any.length ≤ n
  l5 : ∀ r ∈ t.cond.any, r.length ≤ n
theorem vd_rows {s : ByteArray} (S : St) (h : Vd s S) : Vd s (rowsP s S).2 := (Goes.prt s (goes_row s) xOr).v S h
theorem vd_cond {s : ByteArray} (S : St) (h : Vd s S) : Vd s (condP s S).2 := by
  have h1 := vd_rows (nx s S) (vd_nx s h)
  unfold condP
  generalize rowsP s (nx s S) = R at *
  split
  · exact vd_exp s _ h1
  · split
    · exact vd_exp s _ h1
    · exact h
theorem vd_thr {s : ByteArray} (S : St) (h : Vd s S) : Vd s (thrP s S).2 := vd_more (goes_insB s) xThread _ _ h
theorem vd_hd {s : ByteArray} (S : St) (h : Vd s S) : Vd s (hdS s S).2 := vd_exp s xOpen (vd_name (vd_exp s xTest h))
theorem vd_end {s : ByteArray} (S : St) (h : Vd s S) : Vd s (endS s S) := by
  unfold endS
  split
  · exact h
  · exact vd_fl s h (by decide)
theorem vd_test {s : ByteArray} {S : St} (hv0 : Vd s S) : Vd s (testP s S).2 := by
  have h2 := vd_hd S hv0
  have h3 := vd_init h2
  have h4 := vd_thr _ h3
  have h5 := vd_cond _ h4
  exact vd_end _ (vd_exp s xShut h5)
theorem lv_test {s : ByteArray} {S : St} (hv0 : Vd s S) (hb : flB (testP s S).2 = false) : TestH (s.size + 2) (testP s S).1 := by
  have vN : Vd s (hdS s S).2 := vd_exp s xOpen (vd_name (vd_exp s xTest hv0))
  have vI := vd_init vN
  have vT : Vd s (thrP s (initP s (hdS s S).2).2).2 := vd_more (goes_insB s) xThread _ _ vI
  unfold testP at hb ⊢
  have h1 := fl_exp (fl_end hb)
  have c := lv_cond vT h1.2
  have hT : flB (moreP s (insB s) xThread (initP s (hdS s S).2).2).2 = false := c.2
  have e : thrP s (initP s (hdS s S).2).2 = moreP s (insB s) xThread (initP s (hdS s S).2).2 := rfl
  unfold moreP at hT e
  obtain ⟨t1, t2, t3⟩ := lv_prt (x := xThread) (goes_insB s) (fun M => (∀ x ∈ M, InsG x) ∧ M.length ≤ s.size + 1) (ne_nil _ _) (fun _ hv => lv_insB hv) _ _ vI hT
  have i := lv_init vN t2
  have hN : flB (expS s xOpen (nameP s (expS s xTest S)).2) = false := i.2
  have n := lv_name (fl_exp hN).2
  have ml := mS_le (s := s) (initP s (hdS s S).2).2
  rw [← e] at t1 t3
  exact ⟨⟨n.1, i.1.1, fun M hM => (t1 M hM).1, c.1.1⟩, Nat.le_trans i.1.2 (by omega), Nat.le_trans t3 (by omega), fun M hM => Nat.le_trans (t1 M hM).2 (by omega), c.1.2.2, fun r hr => c.1.2.1 r hr⟩
theorem end_zero {s : ByteArray} {R : TestT × St} (hv : Vd s R.2) (h : (endP R).2.1 = 0) : flB R.2 = false := by
  obtain ⟨T, S⟩ := R
  cases S with
  | ok a => rfl
  | error e => exact absurd h hv
theorem end_ok {R : TestT × St} (h : flB R.2 = false) : (endP R).1 = R.1 := by unfold endP; rw [h]; rfl
theorem lv_parse {s : ByteArray} (h : (parseP s).2.1 = 0) : TestH (s.size + 2) (parseP s).1 ∧ s.size ≤ 4000 := by
  unfold parseP at h ⊢
  by_cases hz : 4000 < s.size
  · rw [if_pos hz] at h
    exact absurd h (by decide)
  · rw [if_neg hz] at h ⊢
    have hv0 : Vd s (startS s) := vd_norm s (Nat.zero_le s.size)
    generalize startS s = S at *
    have hv1 := vd_test hv0
    have hl := lv_test hv0
    generalize testP s S = R at *
    have hb := end_zero (s := s) (R := R) hv1 h
    rw [end_ok (R := R) hb]
    exact ⟨hl hb, Nat.le_of_not_lt hz⟩
end Go.Proofs.YtacflahkofmcpaaGreatDoor

namespace Go.Proofs.YtacflahkofmcpaaGreatDoor.Wl
open Go.RowKit

def byteW (b : UInt8) : Value := .int .u8 b.toNat
/-- Some digits stand behind a place. -/
structure Dg (w : World) (N at' : Nat) (D : List UInt8) : Prop where
  ex : ∃ cs : List Value, Bk w N cs.toArray ∧ cs.length = 20 ∧ cs.drop at' = D.map byteW
theorem Dg.put {w : World} {N at' : Nat} {D : List UInt8} (h : Dg w N (at' + 1) D) (b : UInt8) (ha : at' < 20) : Dg (w.setCell ⟨N, at', none⟩ (byteW b)) N at' (b :: D) := by
  obtain ⟨cs, hb, hl, hd⟩ := h.ex
  refine ⟨cs.set at' (byteW b), hb.put at' _, by simp [hl], ?_⟩
  have e : (cs.set at' (byteW b)).drop at' = byteW b :: cs.drop (at' + 1) := by
    rw [List.drop_eq_getElem_cons (by simp [hl]; exact ha)]
    simp [List.drop_set_of_lt]
  rw [e, hd]
  rfl
theorem Dg.at {w : World} {N at' : Nat} {D : List UInt8} (h : Dg w N at' D) : ∀ j (hj : j < D.length), w.cell? ((⟨N, at', none⟩ : Addr).add j) = some (.int .u8 (D[j].toNat : Int)) := by
  obtain ⟨cs, hb, hl, hd⟩ := h.ex
  intro j hj
  rw [Addr.add_lit]
  refine hb.at ?_
  rw [List.getElem?_toArray, ← List.getElem?_drop, hd, List.getElem?_map, List.getElem?_eq_getElem hj]
  rfl
theorem Dg.lt {w : World} {N at' : Nat} {D : List UInt8} (h : Dg w N at' D) : N < w.heap.size := by obtain ⟨cs, hb, _⟩ := h.ex; exact hb.lt
theorem Dg.cell {w : World} {N at' : Nat} {D : List UInt8} (h : Dg w N at' D) {i : Nat} (hi : i < 20) : (∃ u, w.cell? ⟨N, i, none⟩ = some u) ∧ w.frozen? ⟨N, i, none⟩ = false := by
  obtain ⟨cs, hb, hl, _⟩ := h.ex
  exact ⟨⟨_, hb.at (List.getElem?_toArray .. ▸ List.getElem?_eq_getElem (by omega))⟩, hb.fr i⟩
theorem dec_small {r : Nat} (h : r / 10 = 0) : Lib.decDigits r = [UInt8.ofNat (48 + r % 10)] := by
  have h10 : r < 10 := by omega
  rw [Lib.decDigits, dif_pos h10, Nat.mod_eq_of_lt h10]
theorem dec_big {r : Nat} (h : 0 < r / 10) : Lib.decDigits r = Lib.decDigits (r / 10) ++ [UInt8.ofNat (48 + r % 10)] := by
  rw [Lib.decDigits, dif_neg (by omega)]
theorem dig_val (r : Nat) : ((UInt8.ofNat (48 + r % 10)).toNat : Int) = 48 + (r : Int) % 10 := by
  rw [UInt8.toNat_ofNat']
  omega
theorem new_dg (w : World) (T : TypeId) : Dg (w.alloc (.cells #[.int .u8 0, .int .u8 0, .int .u8 0, .int .u8 0, .int .u8 0, .int .u8 0, .int .u8 0, .int .u8 0, .int .u8 0, .int .u8 0, .int .u8 0, .int .u8 0, .int .u8 0, .int .u8 0, .int .u8 0, .int .u8 0, .int .u8 0, .int .u8 0, .int .u8 0, .int .u8 0] T)) w.heap.size 20 [] :=
  ⟨List.replicate 20 (.int .u8 0), Bk.new w _ _, by simp, by simp⟩
theorem alen : Tryz.prog.arrayLen 176 = 20 := by kernel_rfl
theorem aelem : Tryz.prog.elem 176 = 5 := by kernel_rfl
theorem aund : Tryz.prog.underlying 176 = some (.array (Tryz.prog.arrayLen 176) (Tryz.prog.elem 176)) := by kernel_rfl
theorem asize (w : World) : (Go.sizeOf 5).run Tryz.prog w = .ok 1 w := by kernel_rfl
theorem slice_tail (w : World) (N at' : Nat) (h : at' < 20) : (Instr.sliceAt 176 (.pointer (some ⟨N, 0, none⟩)) (some (.int .i64 (at' : Int))) none none).run Tryz.prog w = .ok (.slice (some ⟨N, at', none⟩) (20 - at') (20 - at')) w := by
  rw [run_sliceAt_array_l w 176 ⟨N, 0, none⟩ aund .i64 (at' : Int) (by omega) (by rw [alen]; omega), aelem, asize, alen]
  simp only [Result.andThen, slicedAt, Int.toNat_natCast, Nat.mul_one]
  rw [if_neg (by omega), Addr.add_lit, Nat.zero_add]
/-- Where the numeral's loop stands. -/
structure Nl (w : World) (u r at' : Nat) (D : List UInt8) (more : Bool) (wr : World) : Prop where
  dg : Dg wr w.heap.size at' D
  on : On w wr
  len : at' + D.length = 20
  yes : more = true → Lib.decDigits u = Lib.decDigits r ++ D ∧ r < 10 ^ (19 - D.length) ∧ D.length ≤ 18
  no : more = false → Lib.decDigits u = D ∧ D.length ≤ 19 ∧ 1 ≤ D.length
theorem Nl.step {w wr : World} {u r at' : Nat} {D : List UInt8} (h : Nl w u r (at' + 1) D true wr) : Nl w u (r / 10) at' (UInt8.ofNat (48 + r % 10) :: D) (decide (0 < r / 10)) (wr.setCell ⟨w.heap.size, at', none⟩ (byteW (UInt8.ofNat (48 + r % 10)))) := by
  have hl := h.len
  obtain ⟨y1, y2, y3⟩ := h.yes rfl
  refine ⟨h.dg.put _ (by omega), h.on.setNew (Nat.le_refl _) _, by simp; omega, fun hm => ?_, fun hm => ?_⟩
  · have hm' : 0 < r / 10 := of_decide_eq_true hm
    have e : 19 - D.length = (19 - (D.length + 1)) + 1 := by omega
    rw [e, Nat.pow_succ] at y2
    have hlt : r / 10 < 10 ^ (19 - (D.length + 1)) := by omega
    refine ⟨by rw [y1, dec_big hm']; simp, by simpa using hlt, ?_⟩
    simp only [List.length_cons]
    rcases Nat.lt_or_ge D.length 18 with h' | h'
    · omega
    · have : D.length = 18 := by omega
      rw [this] at hlt
      omega
  · have hm' : r / 10 = 0 := by have := of_decide_eq_false hm; omega
    exact ⟨by rw [y1, dec_small hm']; rfl, by simp; omega, by simp⟩
set_option maxHeartbeats 4000000 in
set_option maxRecDepth 8000 in
theorem number_is (n : Int) (h0 : -9223372036854775808 ≤ n) (h1 : n ≤ 9223372036854775807) (w : World) :
    Calls Tryz.prog 134 #[.int .i64 n] w fun e w' => e = .returned (.string ⟨(Lib.itoa n).toArray⟩) ∧ On w w' := by
  obtain ⟨u, hu, hub⟩ : ∃ u : Nat, u = n.natAbs ∧ u ≤ 9223372036854775808 := ⟨_, rfl, by omega⟩
  obtain ⟨S, hS⟩ : ∃ S, S = Lib.itoa n := ⟨_, rfl⟩
  rw [← hS]
  have hd0 := new_dg w 176
  have hN0 : Nl w u u 20 [] true _ := ⟨hd0, (On.refl w).alloc _, rfl, fun _ => ⟨by simp, by simp; omega, by simp⟩, fun h => by cases h⟩
  clear hd0
  by_cases hneg : n < 0
  · have HS : Hid (S = 45 :: Lib.decDigits u) := by
      show S = _
      rw [hS, Lib.itoa, if_pos hneg, hu]
    have q1 : IntKind.u64.wrap n = ((18446744073709551616 - u : Nat) : Int) := by rw [IntKind.wrap_u64]; omega
    have q2 : IntKind.u64.wrap (-((18446744073709551616 - u : Nat) : Int)) = (u : Int) := by rw [IntKind.wrap_u64]; omega
    generalize 18446744073709551616 - u = m at q1 q2
    clear hS hu
    go_enter Tryz.func134, Tryz.ntmps134
    go_wp2
    go_loopg [3, 5, 6] (u + 1) (fun gg s3 s5 s6 wr => ∃ (r at' : Nat) (D : List UInt8) (more : Bool), gg = (if more then r + 1 else 0) ∧ s3 = .int .u64 (r : Int) ∧ s5 = .int .i64 (at' : Int) ∧ s6 = .bool more ∧ r ≤ 9223372036854775808 ∧ Nl w u r at' D more wr)
    case atStart => exact ⟨u, 20, [], true, rfl, rfl, rfl, rfl, hub, hN0⟩
    case round =>
      clear hN0
      obtain ⟨r, at', D, more, hg, rfl, rfl, rfl, hr, hN⟩ := hrel
      cases more with
      | true =>
        have hl := hN.len
        obtain ⟨y1, y2, y3⟩ := hN.yes rfl
        obtain ⟨b, rfl⟩ : ∃ b, at' = b + 1 := ⟨at' - 1, by omega⟩
        have hst := hN.step
        obtain ⟨⟨u0, c0⟩, f0⟩ := hN.dg.cell (i := b) (by omega)
        obtain ⟨d, hdd, dv, d256⟩ : ∃ d : UInt8, d = UInt8.ofNat (48 + r % 10) ∧ 48 + (r : Int) % 10 = (d.toNat : Int) ∧ (d.toNat : Int) < 256 := ⟨_, rfl, (dig_val r).symm, by have := (UInt8.ofNat (48 + r % 10)).toNat_lt; omega⟩
        rw [← hdd] at hst
        have l0 := hN.dg.lt
        have hb20 : b < 20 := by omega
        have HST : Hid _ := hst
        have hrr : (r : Int) / 10 = ((r / 10 : Nat) : Int) := by omega
        clear hN y1 y2 y3 hst hdd
        obtain ⟨r2, hr2⟩ : ∃ r2, r2 = r / 10 := ⟨_, rfl⟩
        rw [← hr2] at HST hrr
        have HR2 : Hid (r2 = r / 10) := hr2
        clear hr2
        go_wp2
        go_roundg (if decide (0 < r2) then r2 + 1 else 0)
        case measure => have := HR2.out; simp only [if_true] at hg; split <;> (rename_i h; simp at h; omega)
        case rel => exact ⟨r2, b, d :: D, decide (0 < r2), rfl, rfl, by go_num, by simp, by have := HR2.out; omega, HST.out⟩
      | false =>
        obtain ⟨e1, e2, e4⟩ := hN.no rfl
        have hl := hN.len
        obtain ⟨b, rfl⟩ : ∃ b, at' = b + 1 := ⟨at' - 1, by omega⟩
        have hp := hN.dg.put 45 (by omega)
        obtain ⟨⟨u0, c0⟩, f0⟩ := hN.dg.cell (i := b) (by omega)
        have hback := run_convert_bytes_back (P := Tryz.prog) (wr.setCell ⟨w.heap.size, b, none⟩ (.int .u8 45)) 41 9 5 ⟨w.heap.size, b, none⟩ (20 - b) (45 :: D) Tryz.underlying41 Tryz.underlying5 Tryz.underlying9 hp.at
        have HO : Hid (On w wr) := hN.on
        have e3 : (45 :: D).length = 20 - b := by simp; omega
        rw [e3] at hback
        have HE : Hid (S = 45 :: D) := by show S = _; rw [HS.out, e1]
        have hsl := slice_tail (wr.setCell ⟨w.heap.size, b, none⟩ (.int .u8 45)) w.heap.size b (by omega)
        have l0 := hN.dg.lt
        have hb20 : b < 20 := by omega
        clear e1 hN hp
        go_wp2
        go_ret
        exact ⟨by rw [HE.out]; rfl, HO.out.setNew (Nat.le_refl _) _⟩
  · have HS : Hid (S = Lib.decDigits u) := by
      show S = _
      rw [hS, Lib.itoa, if_neg hneg, hu]; congr 1; omega
    have en : n = (u : Int) := by omega
    subst en
    clear hS hu
    go_enter Tryz.func134, Tryz.ntmps134
    go_wp2
    go_loopg [3, 5, 6] (u + 1) (fun gg s3 s5 s6 wr => ∃ (r at' : Nat) (D : List UInt8) (more : Bool), gg = (if more then r + 1 else 0) ∧ s3 = .int .u64 (r : Int) ∧ s5 = .int .i64 (at' : Int) ∧ s6 = .bool more ∧ r ≤ 9223372036854775808 ∧ Nl w u r at' D more wr)
    case atStart => exact ⟨u, 20, [], true, rfl, rfl, rfl, rfl, hub, hN0⟩
    case round =>
      clear hN0
      obtain ⟨r, at', D, more, hg, rfl, rfl, rfl, hr, hN⟩ := hrel
      cases more with
      | true =>
        have hl := hN.len
        obtain ⟨y1, y2, y3⟩ := hN.yes rfl
        obtain ⟨b, rfl⟩ : ∃ b, at' = b + 1 := ⟨at' - 1, by omega⟩
        have hst := hN.step
        obtain ⟨⟨u0, c0⟩, f0⟩ := hN.dg.cell (i := b) (by omega)
        obtain ⟨d, hdd, dv, d256⟩ : ∃ d : UInt8, d = UInt8.ofNat (48 + r % 10) ∧ 48 + (r : Int) % 10 = (d.toNat : Int) ∧ (d.toNat : Int) < 256 := ⟨_, rfl, (dig_val r).symm, by have := (UInt8.ofNat (48 + r % 10)).toNat_lt; omega⟩
        rw [← hdd] at hst
        have l0 := hN.dg.lt
        have hb20 : b < 20 := by omega
        have HST : Hid _ := hst
        have hrr : (r : Int) / 10 = ((r / 10 : Nat) : Int) := by omega
        clear hN y1 y2 y3 hst hdd
        obtain ⟨r2, hr2⟩ : ∃ r2, r2 = r / 10 := ⟨_, rfl⟩
        rw [← hr2] at HST hrr
        have HR2 : Hid (r2 = r / 10) := hr2
        clear hr2
        go_wp2
        go_roundg (if decide (0 < r2) then r2 + 1 else 0)
        case measure => have := HR2.out; simp only [if_true] at hg; split <;> (rename_i h; simp at h; omega)
        case rel => exact ⟨r2, b, d :: D, decide (0 < r2), rfl, rfl, by go_num, by simp, by have := HR2.out; omega, HST.out⟩
      | false =>
        obtain ⟨e1, e2, e4⟩ := hN.no rfl
        have hl := hN.len
        have hback := run_convert_bytes_back (P := Tryz.prog) wr 41 9 5 ⟨w.heap.size, at', none⟩ (20 - at') D Tryz.underlying41 Tryz.underlying5 Tryz.underlying9 hN.dg.at
        have HO : Hid (On w wr) := hN.on
        have e3 : D.length = 20 - at' := by omega
        rw [e3] at hback
        have HE : Hid (S = D) := by show S = D; rw [HS.out, e1]
        have hsl := slice_tail wr w.heap.size at' (by omega)
        have l0 := hN.dg.lt
        clear e1 hN
        go_wp2
        go_ret
        exact ⟨by rw [HE.out]; rfl, HO.out⟩
end Go.Proofs.YtacflahkofmcpaaGreatDoor.Wl

namespace Go.Proofs.YtacflahkofmcpaaGreatDoor.Wl
open Go.RowKit

theorem itoa_small {k : Nat} (h : k ≤ 9) : Lib.itoa (k : Int) = [UInt8.ofNat (48 + k)] := by
  rw [Lib.itoa, if_neg (by omega), Int.toNat_natCast, Lib.decDigits, dif_pos (by omega)]
theorem register_is (k : Nat) (h : k ≤ 9) (w : World) :
    Calls Tryz.prog 133 #[.int .i64 (k : Int)] w fun e w' => e = .returned (.string ⟨#[114, UInt8.ofNat (48 + k)]⟩) ∧ On w w' := by
  have hN := fun W => number_is (k : Int) (by omega) (by omega) W
  rw [itoa_small h] at hN
  generalize UInt8.ofNat (48 + k) = d at *
  go_enter Tryz.func133, Tryz.ntmps133
  go_wp2_with fail
  refine (hN _).mono ?_
  rintro e w1 ⟨rfl, k1⟩
  go_wp2
  go_ret
  exact ⟨rfl, k1⟩
theorem location_is (l : Nat) (h : l ≤ 255) (w : World) :
    Calls Tryz.prog 131 #[.int .i64 (l : Int)] w fun e w' => e = .returned (.string ⟨#[UInt8.ofNat l]⟩) ∧ On w w' := by
  have hv : ((UInt8.ofNat l).toNat : Int) = (l : Int) := by rw [UInt8.toNat_ofNat']; omega
  have hback := run_convert_bytes_back (P := Tryz.prog) (w.alloc (.cells #[.int .u8 (l : Int)] 5)) 41 9 5 ⟨w.heap.size, 0, none⟩ 1 [UInt8.ofNat l] Tryz.underlying41 Tryz.underlying5 Tryz.underlying9 (fun j hj => by
    rw [new_cell]
    match j, hj with
    | 0, _ => simp only [List.getElem?_cons_zero, List.getElem_cons_zero]; rw [hv])
  simp only [List.length_cons, List.length_nil] at hback
  generalize UInt8.ofNat l = d at *
  have hl : (l : Int) ≤ 255 := by omega
  clear hv
  go_enter Tryz.func131, Tryz.ntmps131
  go_wp2
  go_ret
  exact ⟨rfl, (On.refl w).alloc _⟩
end Go.Proofs.YtacflahkofmcpaaGreatDoor.Wl

namespace Go.Proofs.YtacflahkofmcpaaGreatDoor.Wl
open Go.RowKit

theorem isRegister_is (n : Int) (w : World) :
    Calls Tryz.prog 128 #[.int .i64 n] w fun e w' => e = .returned (.bool (regOk n)) ∧ w' = w := by
  unfold regOk
  go_enter Tryz.func128, Tryz.ntmps128
  by_cases h0 : 0 ≤ n
  · go_wp2
    all_goals (try go_ret)
    all_goals exact ⟨by simp [h0], rfl⟩
  · go_wp2
    all_goals (try go_ret)
    all_goals exact ⟨by simp; intro h; omega, rfl⟩
theorem isLocation_is (n : Int) (w : World) :
    Calls Tryz.prog 95 #[.int .i64 n] w fun e w' => e = .returned (.bool (locOk n)) ∧ w' = w := by
  unfold locOk
  go_enter Tryz.func95, Tryz.ntmps95
  by_cases h0 : 97 ≤ n
  · go_wp2
    all_goals (try go_ret)
    all_goals exact ⟨by simp [h0], rfl⟩
  · go_wp2
    all_goals (try go_ret)
    all_goals exact ⟨by simp; intro h; omega, rfl⟩
set_option maxHeartbeats 400000 in
theorem okOperand_is (o : Opd) (w : World) :
    Calls Tryz.prog 127 #[.agg #[.int .i64 o.r, .int .i64 o.v]] w fun e w' => e = .returned (.bool (opdOk o)) ∧ On w w' := by
  obtain ⟨r, v⟩ := o
  unfold opdOk
  simp only
  have hR := fun W => isRegister_is r W
  cases h1 : (r == -1) with
  | true =>
    go_enter Tryz.func127, Tryz.ntmps127
    go_wp2
    all_goals (try go_ret)
    all_goals exact ⟨by simp, (On.refl w).alloc _⟩
  | false =>
    have hrr : ((r : Int) == r) = true := by simp
    cases h2 : (v == 0) with
    | true =>
      go_enter Tryz.func127, Tryz.ntmps127
      go_wp2_with fail
      refine (hR _).mono ?_
      rintro e w1 ⟨rfl, rfl⟩
      go_wp2
      all_goals (try go_ret)
      all_goals exact ⟨by simp, (On.refl w).alloc _⟩
    | false =>
      go_enter Tryz.func127, Tryz.ntmps127
      go_wp2
      all_goals (try go_ret)
      all_goals exact ⟨by simp, (On.refl w).alloc _⟩
end Go.Proofs.YtacflahkofmcpaaGreatDoor.Wl
