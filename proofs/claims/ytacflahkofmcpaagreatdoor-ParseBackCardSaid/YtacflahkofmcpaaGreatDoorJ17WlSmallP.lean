/- What the parser tells without an error is a test that may be. In plain Lean, of no memory. -/
import Derived.Test.YtacflahkofmcpaaGreatDoorJ16BackP
import Derived.Test.YtacflahkofmcpaaGreatDoorJ13WlOwnR
namespace Go.Proofs.YtacflahkofmcpaaGreatDoor

/-- A step's answer is good where no error was told; and then none was told ahead of it. -/
def Lv {α : Type} (P : α → Prop) (R : α × St) (S : St) : Prop := flB R.2 = false → P R.1 ∧ flB S = false
section
variable {s : ByteArray} {S : St}
theorem fl_fl {c : Nat} : flB (flS s c S) = true := by cases S <;> rfl
theorem fl_nx (h : flB (nx s S) = false) : flB S = false := by cases S with
  | ok a => rfl
  | error e => exact h
theorem fl_exp {x : ByteArray} (h : flB (expS s x S) = false) : isX s x S = true ∧ flB S = false := by
  unfold expS at h
  split at h
  · rename_i hx; exact ⟨hx, fl_nx h⟩
  · rw [fl_fl] at h; cases h
theorem fl_end (h : flB (endS s S) = false) : flB S = false := by
  unfold endS at h
  split at h
  · exact h
  · rw [fl_fl] at h; cases h
theorem lv_num : Lv B6 (numP s S) S := by
  intro h
  unfold numP at h ⊢
  split at h
  · rename_i hp
    rw [if_pos hp]
    refine ⟨?_, fl_nx h⟩
    unfold pB at hp
    obtain ⟨v, hv⟩ := Option.isSome_iff_exists.1 hp
    show B6 (pN _)
    unfold pN
    rw [hv]
    exact parseV_bound hv
  · rw [fl_fl] at h; cases h
theorem lv_upto {m : Int} {c : Nat} : Lv (fun n => 0 ≤ n ∧ n ≤ m) (uptoP s m c S) S := by
  intro h
  unfold uptoP at h ⊢
  split at h
  · rw [fl_fl] at h; cases h
  · rename_i ho
    rw [if_neg ho]
    refine ⟨?_, (lv_num h).2⟩
    unfold outB at ho
    unfold numP at h ⊢
    split at h
    · rename_i hp
      rw [hp] at ho
      rw [if_pos hp]
      simp at ho
      exact ho
    · rw [fl_fl] at h; cases h
theorem lv_named {v : Int} {ok : Bool} {P : Int → Prop} (hp : ok = true → P v) : Lv P (namedP s v ok S) S := by
  intro h
  unfold namedP at h ⊢
  split at h
  · rename_i hk
    rw [if_pos hk]
    exact ⟨hp hk, fl_nx h⟩
  · split at h <;> (rw [fl_fl] at h; cases h)
theorem lv_reg : Lv (fun n => Wl.regOk n = true) (regP s S) S := by
  refine lv_named fun hk => ?_
  unfold regV
  rw [if_pos hk]
  unfold regB at hk
  simp only [Bool.and_eq_true, decide_eq_true_eq] at hk
  unfold Wl.regOk
  rw [Bool.and_eq_true, decide_eq_true_eq, decide_eq_true_eq]
  omega
theorem bN_at (x : ByteArray) (i : Nat) : bN x i = hd (x.data.toList.drop i) := rfl
end
/-- A word that is a token is a word that may be. -/
theorem run_chs : ∀ (l : List UInt8) (i : Nat), Wl.chsOk (i + 1) (l.take (runL l)) = true
  | [], _ => rfl
  | c :: r, i => by
    unfold runL
    split
    · rename_i h
      rw [Nat.add_comm 1 (runL r), List.take_succ_cons, Wl.chsOk, Bool.and_eq_true]
      refine ⟨?_, run_chs r (i + 1)⟩
      unfold wordN letN digN at h
      unfold Wl.chOk Wl.locOk
      simp only [Bool.or_eq_true, Bool.and_eq_true, decide_eq_true_eq] at h ⊢
      omega
    · rfl
section
variable {s : ByteArray} {S : St}
theorem word_ok (h : tokK s S = 1) : Wl.wordOk (tokX s S) = true ∧ letN (bN (tokX s S) 0) = true := by
  cases S with
  | error e => cases h
  | ok a =>
    have hk : kind (suf s (pl s a)) = 1 := h
    have hx : (tokX s (.ok a)).data.toList = (suf s (pl s a)).take (tsize (suf s (pl s a))) := tx_list s a
    generalize suf s (pl s a) = l at hk hx
    cases l with
    | nil => cases hk
    | cons c r =>
      have hc : letN c.toNat = true := by
        rw [kind_cons] at hk
        by_cases hc : letN c.toNat = true
        · exact hc
        · rw [if_neg hc] at hk
          split at hk
          · cases hk
          · split at hk
            · cases hk
            · split at hk
              · cases hk
              · split at hk <;> cases hk
      rw [tsize_cons, if_pos hc, Nat.add_comm, List.take_succ_cons] at hx
      unfold Wl.wordOk
      rw [bN_at, size_list, hx]
      refine ⟨?_, by simpa [hd] using hc⟩
      rw [Bool.and_eq_true, Wl.chsOk, Bool.and_eq_true, decide_eq_true_eq]
      refine ⟨⟨?_, run_chs r 0⟩, by simp⟩
      unfold letN at hc
      unfold Wl.chOk Wl.locOk
      simp only [Bool.or_eq_true, Bool.and_eq_true, decide_eq_true_eq] at hc ⊢
      omega
theorem lv_name : Lv (fun x => Wl.wordOk x = true) (nameP s S) S := by
  intro h
  unfold nameP at h ⊢
  split at h
  · rename_i hk
    rw [if_pos hk]
    exact ⟨(word_ok hk).1, fl_nx h⟩
  · rw [fl_fl] at h; cases h
theorem lv_loc : Lv (fun n => Wl.locOk n = true) (locP s S) S := by
  refine lv_named fun hk => ?_
  unfold locV
  rw [if_pos hk]
  unfold locB at hk
  simp only [Bool.and_eq_true, beq_iff_eq] at hk
  have := (word_ok hk.1).2
  unfold letN at this
  unfold Wl.locOk
  simp only [Bool.and_eq_true, decide_eq_true_eq] at this ⊢
  omega
def OpdG (o : Opd) : Prop := Wl.opdOk (cO o) = true ∧ B6 o.v
theorem lv_opd : Lv OpdG (opdP s S) S := by
  intro h
  unfold opdP at h ⊢
  split at h
  · rename_i hk
    rw [if_pos hk]
    have := lv_num h
    exact ⟨⟨by simp [Wl.opdOk, cO], this.1⟩, this.2⟩
  · rename_i hk
    rw [if_neg hk]
    have := lv_reg h
    exact ⟨⟨by simp [Wl.opdOk, cO, this.1], (⟨by decide, by decide⟩ : B6 0)⟩, this.2⟩
theorem lv_ini : Lv IniG (iniP s S) S := by
  intro h
  have h1 := lv_num h
  have h2 := fl_exp h1.2
  have h3 := lv_loc h2.2
  exact ⟨⟨h3.1, h1.1⟩, h3.2⟩
theorem B0 : B6 0 := ⟨by decide, by decide⟩
theorem lv_ins : Lv InsG (insP s S) S := by
  intro h
  unfold insP at h ⊢
  split at h
  · rename_i hx
    rw [if_pos hx]
    have h1 := lv_opd h
    have h2 := lv_loc h1.2
    refine ⟨⟨?_, h1.1.2, B0, B0⟩, fl_nx h2.2⟩
    have a := h1.1.1
    have b := h2.1
    simp [Wl.insOk, cI, storeP, cO] at a b ⊢
    exact ⟨b, a⟩
  · rename_i hx
    rw [if_neg hx]
    split at h
    · rename_i hx
      rw [if_pos hx]
      exact ⟨⟨rfl, B0, B0, B0⟩, fl_nx h⟩
    · rename_i hx
      rw [if_neg hx]
      split at h
      · rename_i hx
        rw [if_pos hx]
        have h1 := lv_opd h
        have h2 := lv_opd (fl_exp h1.2).2
        have h3 := lv_upto (fl_exp h2.2).2
        refine ⟨⟨?_, h2.1.2, h1.1.2, (⟨by have := h3.1.1; omega, h3.1.2⟩ : B6 (uptoP s 9223372036854775807 6 (nx s S)).1)⟩, fl_nx h3.2⟩
        have a := h1.1.1
        have b := h2.1.1
        have c := h3.1.1
        simp [Wl.insOk, cI, skipP, cO] at a b ⊢
        exact ⟨⟨decide_eq_true c, b⟩, a⟩
      · rename_i hx
        rw [if_neg hx]
        unfold asgP at h ⊢
        split at h
        · rename_i hx
          rw [if_pos hx]
          have h1 := lv_loc h
          have h2 := fl_exp (fl_nx h1.2)
          have h3 := lv_reg h2.2
          refine ⟨⟨?_, B0, B0, B0⟩, h3.2⟩
          have a := h1.1
          have b := h3.1
          simp [Wl.insOk, cI, loadP, cO] at a b ⊢
          exact ⟨b, a⟩
        · rename_i hx
          rw [if_neg hx]
          split at h
          · rename_i hx
            rw [if_pos hx]
            have h1 := lv_opd h
            have h2 := lv_opd h1.2
            have h3 := lv_loc h2.2
            have h4 := fl_exp (fl_nx h3.2)
            have h5 := lv_reg h4.2
            refine ⟨⟨?_, h2.1.2, h1.1.2, B0⟩, h5.2⟩
            have a := h1.1.1
            have b := h2.1.1
            have c := h3.1
            have d := h5.1
            simp [Wl.insOk, cI, casP, cO] at a b c d ⊢
            exact ⟨⟨⟨d, c⟩, b⟩, a⟩
          · rename_i hx
            rw [if_neg hx]
            unfold setP at h ⊢
            split at h
            · rename_i ho
              rw [if_pos ho]
              have h1 := lv_opd h
              have h2 := lv_opd (fl_nx h1.2)
              have h4 := fl_exp h2.2
              have h5 := lv_reg h4.2
              refine ⟨⟨?_, h2.1.2, h1.1.2, B0⟩, h5.2⟩
              have a := h1.1.1
              have b := h2.1.1
              have d := h5.1
              generalize tokX s (opdP s (expS s xEq (regP s S).2)).2 = x at *
              have hv : Wl.signOk (opV x) = true := by
                have := opFrom_is x 11 (by omega)
                unfold opB at ho
                unfold opV opR at *
                rw [if_pos (of_decide_eq_true ho)]
                unfold Wl.signOk
                rw [Bool.and_eq_true, decide_eq_true_eq, decide_eq_true_eq]
                have := of_decide_eq_true ho
                omega
              have hn : (opV x == 0) = false := by
                unfold Wl.signOk at hv
                rw [Bool.and_eq_true, decide_eq_true_eq] at hv
                rw [beq_eq_false_iff_ne]
                omega
              have hn' : ¬ opV x = 0 := by rw [beq_eq_false_iff_ne] at hn; exact hn
              simp [Wl.insOk, cI, Wl.secOk, hn', hv, cO] at a b d ⊢
              exact ⟨⟨d, b⟩, a⟩
            · rename_i ho
              rw [if_neg ho]
              have h2 := lv_opd h
              have h4 := fl_exp h2.2
              have h5 := lv_reg h4.2
              refine ⟨⟨?_, h2.1.2, B0, B0⟩, h5.2⟩
              have b := h2.1.1
              have d := h5.1
              simp [Wl.insOk, cI, Wl.secOk, cO] at b d ⊢
              exact ⟨d, b⟩
theorem lv_atom : Lv AtomG (atomP s S) S := by
  intro h
  have h1 := lv_num h
  have h2 := fl_exp h1.2
  have hv := h1.1
  have hS := h2.2
  clear h h1 h2
  unfold atomP at *
  generalize numP s (expS s xEq (subP s S).2) = N at *
  unfold subP at *
  split at hS
  · rename_i hk
    rw [if_pos hk]
    have a := lv_reg hS
    have b := fl_exp a.2
    have c := lv_upto b.2
    refine ⟨⟨?_, hv⟩, c.2⟩
    have c0 := c.1.1
    have c9 := c.1.2
    have a0 := a.1
    have hn : ¬ (uptoP s 9 7 S).1 = -1 := by omega
    simp [Wl.atomOk, cA, hn] at a0 ⊢
    exact ⟨⟨decide_eq_true c0, decide_eq_true c9⟩, a0⟩
  · rename_i hk
    rw [if_neg hk]
    have a := lv_loc hS
    refine ⟨⟨?_, hv⟩, a.2⟩
    have a0 := a.1
    simp [Wl.atomOk, cA] at a0 ⊢
    exact a0
/-! Rows; how many there are. -/
theorem mS_isX {x : ByteArray} (hx : x.toList ≠ []) (h : isX s x S = true) (hv : Vd s S) : mS s (nx s S) < mS s S := by
  obtain ⟨a, rfl⟩ := fl_err s h hx
  exact mS_take s hx h hv.2
theorem lv_blk {α : Type} {f : St → α × St} (hf : Goes s f) (P : α → Prop) (hP : ∀ S, Lv P (f S) S) : ∀ (n : Nat) (S : St), Vd s S → flB (blkL s f n S).2 = false → mS s S < n → (∀ x ∈ (blkL s f n S).1, P x) ∧ flB S = false ∧ (blkL s f n S).1.length ≤ mS s S
  | 0, S, _, h, hm => by omega
  | n + 1, S, hv, h, hm => by
    unfold blkL at h ⊢
    cases hb : flB S with
    | true => rw [hb] at h; rw [if_pos rfl, hb] at h; cases h
    | false =>
      rw [hb] at h
      simp only [Bool.false_eq_true, if_false] at h ⊢
      split at h
      · rename_i hx
        rw [if_pos hx]
        exact ⟨fun x hx => by simp at hx, trivial, Nat.zero_le _⟩
      · rename_i hx
        rw [if_neg hx]
        have hl := blk_less s hf hv hb
        obtain ⟨a, b, c⟩ := lv_blk hf P hP n _ (vd_exp s _ (hf.v _ hv)) h (by omega)
        have d := hP S (fl_exp b).2
        refine ⟨fun x hx => ?_, trivial, ?_⟩
        · rw [List.mem_cons] at hx
          rcases hx with rfl | hx
          · exact d.1
          · exact a x hx
        · simp only [List.length_cons]
          omega
theorem lv_prt {α : Type} {f : St → α × St} (hf : Goes s f) (P : α → Prop) {x : ByteArray} (hx : x.toList ≠ []) (hP : ∀ S, Vd s S → Lv P (f S) S) : ∀ (n : Nat) (S : St), Vd s S → flB (prtL s f x n S).2 = false → (∀ y ∈ (prtL s f x n S).1, P y) ∧ flB S = false ∧ (prtL s f x n S).1.length ≤ mS s S
  | 0, S, _, h => ⟨fun y hy => by simp [prtL] at hy, h, Nat.zero_le _⟩
  | n + 1, S, hv, h => by
    unfold prtL at h ⊢
    split at h
    · rename_i hi
      rw [if_pos hi]
      have hl := prt_less s hf hx hv hi
      obtain ⟨a, b, c⟩ := lv_prt hf P hx hP n _ (hf.v _ (vd_nx s hv)) h
      have d := hP _ (vd_nx s hv) b
      refine ⟨fun y hy => ?_, fl_nx d.2, ?_⟩
      · rw [List.mem_cons] at hy
        rcases hy with rfl | hy
        · exact d.1
        · exact a y hy
      · simp only [List.length_cons]
        omega
    · rename_i hi
      rw [if_neg hi]
      exact ⟨fun y hy => by simp at hy, h, Nat.zero_le _⟩
theorem mS_le (S : St) : mS s S ≤ s.size + 1 := by
  cases S with
  | ok a => simp only [mS]; omega
  | error e => exact Nat.zero_le _
def RowH (n : Nat) (r : List AtomT) : Prop := RowG r ∧ r.length ≤ n + 1
theorem lv_row (hv : Vd s S) : Lv (RowH (s.size + 1)) (rowP s S) S := by
  intro h
  have h' : flB (moreP s (atomP s) xAnd (atomP s S).2).2 = false := h
  unfold moreP at h'
  obtain ⟨a, b, c⟩ := lv_prt (x := xAnd) (goes_atom s) AtomG (ne_nil _ _) (fun _ _ => lv_atom) _ _ ((goes_atom s).v _ hv) h'
  have d := lv_atom b
  refine ⟨⟨⟨(atomP s S).1, _, rfl, fun y hy => ?_⟩, ?_⟩, d.2⟩
  · have hy' : y ∈ (atomP s S).1 :: (moreP s (atomP s) xAnd (atomP s S).2).1 := hy
    rw [List.mem_cons] at hy'
    rcases hy' with rfl | hy'
    · exact d.1
    · exact a y hy'
  · have := mS_le (s := s) (atomP s S).2
    show ((atomP s S).1 :: (moreP s (atomP s) xAnd (atomP s S).2).1).length ≤ _
    rw [List.length_cons]
    unfold moreP
    omega
theorem lv_rows (hv : Vd s S) : Lv (fun M => (∃ r N, M = r :: N) ∧ (∀ r ∈ M, RowH (s.size + 1) r) ∧ M.length ≤ s.size + 2) (rowsP s S) S := by
  intro h
  have h' : flB (moreP s (rowP s) xOr (rowP s S).2).2 = false := h
  unfold moreP at h'
  obtain ⟨a, b, c⟩ := lv_prt (x := xOr) (goes_row s) (RowH (s.size + 1)) (ne_nil _ _) (fun _ hv => lv_row hv) _ _ ((goes_row s).v _ hv) h'
  have d := lv_row hv b
  refine ⟨⟨⟨(rowP s S).1, _, rfl⟩, fun y hy => ?_, ?_⟩, d.2⟩
  · have hy' : y ∈ (rowP s S).1 :: (moreP s (rowP s) xOr (rowP s S).2).1 := hy
    rw [List.mem_cons] at hy'
    rcases hy' with rfl | hy'
    · exact d.1
    · exact a y hy'
  · have := mS_le (s := s) (rowP s S).2
    show ((rowP s S).1 :: (moreP s (rowP s) xOr (rowP s S).2).1).length ≤ _
    rw [List.length_cons]
    unfold moreP
    omega
def CondH (n : Nat) (c : CondT) : Prop := CondG c ∧ (∀ r ∈ c.any, r.length ≤ n + 1) ∧ c.any.length ≤ n + 1
theorem lv_cond (hv : Vd s S) : Lv (CondH (s.size + 1)) (condP s S) S := by
  intro h
  unfold condP at h ⊢
  split at h
  · rename_i hx
    rw [if_pos hx]
    have h1 := fl_exp h
    obtain ⟨⟨⟨r, N, e⟩, h2, h4⟩, h3⟩ := lv_rows (vd_nx s hv) h1.2
    exact ⟨⟨Or.inr ⟨Or.inl rfl, r, N, e, fun q hq => (h2 q hq).1⟩, fun r hr => (h2 r hr).2, by simpa using h4⟩, fl_nx h3⟩
  · rename_i hx
    rw [if_neg hx]
    split at h
    · rename_i hx
      rw [if_pos hx]
      have h1 := fl_exp h
      obtain ⟨⟨⟨r, N, e⟩, h2, h4⟩, h3⟩ := lv_rows (vd_nx s hv) h1.2
      exact ⟨⟨Or.inr ⟨Or.inr rfl, r, N, e, fun q hq => (h2 q hq).1⟩, fun r hr => (h2 r hr).2, by simpa using h4⟩, fl_nx h3⟩
    · rename_i hx
      rw [if_neg hx]
      exact ⟨⟨Or.inl ⟨rfl, rfl⟩, fun r hr => by simp at hr, by simp⟩, h⟩
theorem lv_insB (hv : Vd s S) : Lv (fun M => (∀ x ∈ M, InsG x) ∧ M.length ≤ s.size + 1) (insB s S) S := by
  intro h
  unfold insB blkP at h ⊢
  obtain ⟨a, b, c⟩ := lv_blk (goes_ins s) InsG (fun _ => lv_ins) _ _ (vd_exp s _ hv) h (by omega)
  have := mS_le (s := s) (expS s xOpen S)
  exact ⟨⟨a, by omega⟩, (fl_exp b).2⟩
theorem lv_init (hv : Vd s S) : Lv (fun M => (∀ x ∈ M, IniG x) ∧ M.length ≤ s.size + 1) (initP s S) S := by
  intro h
  unfold initP at h ⊢
  split at h
  · rename_i hx
    rw [if_pos hx]
    unfold iniB blkP at h ⊢
    obtain ⟨a, b, c⟩ := lv_blk (goes_ini s) IniG (fun _ => lv_ini) _ _ (vd_exp s _ (vd_nx s hv)) h (by omega)
    have := mS_le (s := s) (expS s xOpen (nx s S))
    exact ⟨⟨a, by omega⟩, fl_nx (fl_exp b).2⟩
  · rename_i hx
    rw [if_neg hx]
    exact ⟨⟨fun x hx => by simp at hx, by simp⟩, h⟩
theorem vd_name (h : Vd s S) : Vd s (nameP s S).2 := by
  unfold nameP; split
  · exact vd_nx s h
  · exact vd_fl s h (by decide)
theorem vd_init (h : Vd s S) : Vd s (initP s S).2 := by
  unfold initP; split
  · exact (goes_iniB s).v _ (vd_nx s h)
  · exact h
theorem vd_more {α : Type} {f : St → α × St} (hf : Goes s f) (x : ByteArray) : ∀ (n : Nat) (S : St), Vd s S → Vd s (prtL s f x n S).2
  | 0, S, h => h
  | n + 1, S, h => by
    unfold prtL
    split
    · exact vd_more hf x n _ (hf.v _ (vd_nx s h))
    · exact h
end
/-- What a text of n bytes at most can hold. -/
structure TestH (n : Nat) (t : TestT) : Prop where
  g : TestG t
  l1 : t.ini.length ≤ n
  l2 : t.thr.length ≤ n
  l3 : ∀ M ∈ t.thr, M.length ≤ n
  l4 : t.cond.any.length ≤ n
  l5 : ∀ r ∈ t.cond.any, r.length ≤ n
theorem vd_rows {s : ByteArray} (S : St) (h : Vd s S) : Vd s (rowsP s S).2 := (Goes.prt s (goes_row s) xOr).v S h
theorem vd_cond {s : ByteArray} (S : St) (h : Vd s S) : Vd s (condP s S).2 := by
  have h1 := vd_rows (nx s S) (vd_nx s h)
  unfold condP
  generalize rowsP s (nx s S) = R at *
  split
  · exact vd_exp s _ h1
  · split
    · exact vd_exp s _ h1
    · exact h
theorem vd_thr {s : ByteArray} (S : St) (h : Vd s S) : Vd s (thrP s S).2 := vd_more (goes_insB s) xThread _ _ h
theorem vd_hd {s : ByteArray} (S : St) (h : Vd s S) : Vd s (hdS s S).2 := vd_exp s xOpen (vd_name (vd_exp s xTest h))
theorem vd_end {s : ByteArray} (S : St) (h : Vd s S) : Vd s (endS s S) := by
  unfold endS
  split
  · exact h
  · exact vd_fl s h (by decide)
theorem vd_test {s : ByteArray} {S : St} (hv0 : Vd s S) : Vd s (testP s S).2 := by
  have h2 := vd_hd S hv0
  have h3 := vd_init h2
  have h4 := vd_thr _ h3
  have h5 := vd_cond _ h4
  exact vd_end _ (vd_exp s xShut h5)
theorem lv_test {s : ByteArray} {S : St} (hv0 : Vd s S) (hb : flB (testP s S).2 = false) : TestH (s.size + 2) (testP s S).1 := by
  have vN : Vd s (hdS s S).2 := vd_exp s xOpen (vd_name (vd_exp s xTest hv0))
  have vI := vd_init vN
  have vT : Vd s (thrP s (initP s (hdS s S).2).2).2 := vd_more (goes_insB s) xThread _ _ vI
  unfold testP at hb ⊢
  have h1 := fl_exp (fl_end hb)
  have c := lv_cond vT h1.2
  have hT : flB (moreP s (insB s) xThread (initP s (hdS s S).2).2).2 = false := c.2
  have e : thrP s (initP s (hdS s S).2).2 = moreP s (insB s) xThread (initP s (hdS s S).2).2 := rfl
  unfold moreP at hT e
  obtain ⟨t1, t2, t3⟩ := lv_prt (x := xThread) (goes_insB s) (fun M => (∀ x ∈ M, InsG x) ∧ M.length ≤ s.size + 1) (ne_nil _ _) (fun _ hv => lv_insB hv) _ _ vI hT
  have i := lv_init vN t2
  have hN : flB (expS s xOpen (nameP s (expS s xTest S)).2) = false := i.2
  have n := lv_name (fl_exp hN).2
  have ml := mS_le (s := s) (initP s (hdS s S).2).2
  rw [← e] at t1 t3
  exact ⟨⟨n.1, i.1.1, fun M hM => (t1 M hM).1, c.1.1⟩, Nat.le_trans i.1.2 (by omega), Nat.le_trans t3 (by omega), fun M hM => Nat.le_trans (t1 M hM).2 (by omega), c.1.2.2, fun r hr => c.1.2.1 r hr⟩
theorem endP_zero {s : ByteArray} {R : TestT × St} (hv : Vd s R.2) (h : (endP R).2.1 = 0) : flB R.2 = false := by
  obtain ⟨T, S⟩ := R
  cases S with
  | ok a => rfl
  | error e => exact absurd h hv
theorem endP_ok {R : TestT × St} (h : flB R.2 = false) : (endP R).1 = R.1 := by unfold endP; rw [h]; rfl
theorem lv_parse {s : ByteArray} (h : (parseP s).2.1 = 0) : TestH (s.size + 2) (parseP s).1 ∧ s.size ≤ 4000 := by
  unfold parseP at h ⊢
  by_cases hz : 4000 < s.size
  · rw [if_pos hz] at h
    exact absurd h (by decide)
  · rw [if_neg hz] at h ⊢
    have hv0 : Vd s (startS s) := vd_norm s (Nat.zero_le s.size)
    generalize startS s = S at *
    have hv1 := vd_test hv0
    have hl := lv_test hv0
    generalize testP s S = R at *
    have hb := endP_zero (s := s) (R := R) hv1 h
    rw [endP_ok (R := R) hb]
    exact ⟨hl hb, Nat.le_of_not_lt hz⟩
end Go.Proofs.YtacflahkofmcpaaGreatDoor

namespace Go.Proofs.YtacflahkofmcpaaGreatDoor.Wl

/-- The number at a place, its lowest bits. -/
def nxtV (l : List Int) (i : Nat) : Nat := (l.getD i 0 % 65536).toNat
theorem nxtV_lt (l : List Int) (i : Nat) : nxtV l i < 65536 := by unfold nxtV; omega
def opdOf (x : Nat) : Opd := if x / 256 % 3 = 0 then ⟨(x / 1024 % 2 : Nat), 0⟩ else ⟨-1, (x / 64 % 3 : Nat)⟩
def locOf (locs x : Nat) : Int := (120 + x / 16 % locs : Nat)
def regOf (x : Nat) : Int := (x / 2048 % 2 : Nat)
def insOf (locs x : Nat) : List InsT :=
  if x % 12 < 4 then [⟨1, 0, locOf locs x, opdOf x, 0, ⟨0, 0⟩, 0⟩]
  else if x % 12 < 8 then [⟨2, regOf x, locOf locs x, ⟨0, 0⟩, 0, ⟨0, 0⟩, 0⟩]
  else if x % 12 = 8 then [⟨3, 0, 0, ⟨0, 0⟩, 0, ⟨0, 0⟩, 0⟩]
  else if x % 12 = 9 then [⟨4, regOf x, locOf locs x, opdOf x, 0, ⟨-1, 1⟩, 0⟩]
  else if x % 12 = 10 then [⟨5, regOf x, 0, opdOf x, 6, ⟨-1, 1⟩, 0⟩]
  else [⟨6, 0, 0, opdOf x, 0, ⟨-1, 0⟩, 1⟩, ⟨1, 0, locOf locs x, ⟨-1, 2⟩, 0, ⟨0, 0⟩, 0⟩]
def memOf (x : Nat) : Nat := if x % 12 = 8 ∨ x % 12 = 10 then 0 else 1
/-- A thread: its instructions, the next number's place, how often memory was touched. -/
def rowFrom (l : List Int) (most locs : Nat) : Nat → Nat → Nat → List InsT × Nat × Nat
  | 0, at', mem => ([], at', mem)
  | k + 1, at', mem =>
    if mem < most then (insOf locs (nxtV l at') ++ (rowFrom l most locs k (at' + 1) (mem + memOf (nxtV l at'))).1, (rowFrom l most locs k (at' + 1) (mem + memOf (nxtV l at'))).2)
    else ([], at', mem)
def thrFrom (l : List Int) (most locs : Nat) : Nat → Nat → Nat → List (List InsT) × Nat
  | 0, at', _ => ([], at')
  | n + 1, at', mem =>
    ((rowFrom l most locs (nxtV l at' % 3 + 1) (at' + 1) mem).1 :: (thrFrom l most locs n (rowFrom l most locs (nxtV l at' % 3 + 1) (at' + 1) mem).2.1 (rowFrom l most locs (nxtV l at' % 3 + 1) (at' + 1) mem).2.2).1,
      (thrFrom l most locs n (rowFrom l most locs (nxtV l at' % 3 + 1) (at' + 1) mem).2.1 (rowFrom l most locs (nxtV l at' % 3 + 1) (at' + 1) mem).2.2).2)
def anyOf (x : Nat) : List (List AtomT) := [[⟨0, (x / 8 % 2 : Nat), 0, (x / 16 % 2 : Nat)⟩], [⟨-1, 0, 120, (x / 32 % 3 : Nat)⟩, ⟨1, 0, 0, (x / 128 % 2 : Nat)⟩]]
def condOf (x : Nat) : CondT := if x % 3 = 0 then ⟨(x / 3 % 2 + 1 : Nat), anyOf x⟩ else ⟨0, []⟩
def iniOf (l : List Int) : List InitT := if nxtV l 2 % 4 = 0 then [⟨120, (nxtV l 3 % 3 : Nat)⟩] else []
def iniTo (l : List Int) : Nat := if nxtV l 2 % 4 = 0 then 4 else 3
def thrOf (l : List Int) (most : Nat) : List (List InsT) × Nat := thrFrom l most (nxtV l 1 % 2 + 2) (nxtV l 0 % 2 + 2) (iniTo l) 0
def smallP (l : List Int) (most : Nat) : TestT := ⟨⟨#[116]⟩, iniOf l, (thrOf l most).1, condOf (nxtV l (thrOf l most).2)⟩

/-- Letters x, y, z alone. -/
def xyz (l : Int) : Prop := l = 0 ∨ l = 120 ∨ l = 121 ∨ l = 122
theorem locOf_xyz {locs : Nat} (h : locs = 2 ∨ locs = 3) (x : Nat) : xyz (locOf locs x) ∧ locOk (locOf locs x) = true := by
  unfold locOf xyz locOk
  rcases h with rfl | rfl <;> refine ⟨by omega, ?_⟩ <;> simp <;> omega
theorem opdOf_ok (x : Nat) : opdOk (opdOf x) = true := by
  unfold opdOf opdOk regOk
  split <;> simp <;> omega
theorem regOf_ok (x : Nat) : regOk (regOf x) = true := by
  unfold regOf regOk; simp; omega
theorem insOf_ok {locs : Nat} (h : locs = 2 ∨ locs = 3) (x : Nat) : (insOf locs x).all insOk = true ∧ (insOf locs x).length ≤ 2 ∧ (∀ i ∈ insOf locs x, xyz i.l) := by
  have hl := locOf_xyz h x
  have ho := opdOf_ok x
  have hr := regOf_ok x
  have h12 : opdOk ⟨-1, 1⟩ = true := by decide
  have h10 : opdOk ⟨-1, 0⟩ = true := by decide
  have h22 : opdOk ⟨-1, 2⟩ = true := by decide
  have hs : secOk 6 ⟨-1, 1⟩ = true := by decide
  have x0 : xyz 0 := Or.inl rfl
  unfold insOf
  repeat' split
  all_goals simp [insOk, hl, ho, hr, h12, h10, h22, hs, x0]
theorem insOf_skip {locs : Nat} (x : Nat) (r : List InsT) (h : skipBad r = false) : skipBad (insOf locs x ++ r) = false := by
  unfold insOf
  repeat' split
  all_goals simp [skipBad, h]
  omega
theorem rowFrom_ok (l : List Int) (most : Nat) {locs : Nat} (h : locs = 2 ∨ locs = 3) : ∀ k at' mem, ((rowFrom l most locs k at' mem).1.all insOk = true ∧ (rowFrom l most locs k at' mem).1.length ≤ 2 * k ∧ (∀ i ∈ (rowFrom l most locs k at' mem).1, xyz i.l)) ∧ skipBad (rowFrom l most locs k at' mem).1 = false
  | 0, at', mem => by simp [rowFrom, skipBad]
  | k + 1, at', mem => by
    unfold rowFrom
    split
    · obtain ⟨⟨a, b, c⟩, d⟩ := rowFrom_ok l most h k (at' + 1) (mem + memOf (nxtV l at'))
      obtain ⟨a', b', c'⟩ := insOf_ok h (nxtV l at')
      refine ⟨⟨by simp only [List.all_append, a, a', Bool.and_self], by simp only [List.length_append]; omega, fun i hi => ?_⟩, insOf_skip _ _ d⟩
      rcases List.mem_append.1 hi with hi | hi
      · exact c' i hi
      · exact c i hi
    · simp [skipBad]
theorem thrFrom_ok (l : List Int) (most : Nat) {locs : Nat} (h : locs = 2 ∨ locs = 3) : ∀ n at' mem, (thrFrom l most locs n at' mem).1.length = n ∧ ∀ L ∈ (thrFrom l most locs n at' mem).1, (L.all insOk = true ∧ L.length ≤ 6 ∧ (∀ i ∈ L, xyz i.l)) ∧ skipBad L = false
  | 0, at', mem => by simp [thrFrom]
  | n + 1, at', mem => by
    unfold thrFrom
    obtain ⟨ih1, ih2⟩ := thrFrom_ok l most h n (rowFrom l most locs (nxtV l at' % 3 + 1) (at' + 1) mem).2.1 (rowFrom l most locs (nxtV l at' % 3 + 1) (at' + 1) mem).2.2
    obtain ⟨⟨a, b, c⟩, d⟩ := rowFrom_ok l most h (nxtV l at' % 3 + 1) (at' + 1) mem
    refine ⟨by simp [ih1], fun L hL => ?_⟩
    rcases List.mem_cons.1 hL with rfl | hL
    · exact ⟨⟨a, by omega, c⟩, d⟩
    · exact ih2 L hL

/-- No letter but x, y, z. -/
def hiN (n : Nat) : Prop := ∃ a, a < 8 ∧ n = a * 8388608
theorem withL_hi {n : Nat} (h : hiN n) {l : Int} (hl : xyz l) : hiN (withL n l) := by
  obtain ⟨a, ha, rfl⟩ := h
  have key : ∀ (a : Fin 8), hiN (a.val * 8388608 ||| 8388608) ∧ hiN (a.val * 8388608 ||| 16777216) ∧ hiN (a.val * 8388608 ||| 33554432) := by
    have : ∀ (a : Fin 8), (∃ b : Fin 8, (a.val * 8388608 ||| 8388608) = b.val * 8388608) ∧ (∃ b : Fin 8, (a.val * 8388608 ||| 16777216) = b.val * 8388608) ∧ (∃ b : Fin 8, (a.val * 8388608 ||| 33554432) = b.val * 8388608) := by decide +kernel
    intro a
    obtain ⟨⟨b, hb⟩, ⟨c, hc⟩, ⟨d, hd⟩⟩ := this a
    exact ⟨⟨b, b.2, hb⟩, ⟨c, c.2, hc⟩, ⟨d, d.2, hd⟩⟩
  obtain ⟨k1, k2, k3⟩ := key ⟨a, ha⟩
  have e1 : (2 : Nat) ^ ((120 : Int) - 97).toNat = 8388608 := by decide
  have e2 : (2 : Nat) ^ ((121 : Int) - 97).toNat = 16777216 := by decide
  have e3 : (2 : Nat) ^ ((122 : Int) - 97).toNat = 33554432 := by decide
  rcases hl with rfl | rfl | rfl | rfl
  · exact ⟨a, ha, by unfold withL; rw [if_neg (by decide)]⟩
  · unfold withL; rw [if_pos (by decide), e1]; exact k1
  · unfold withL; rw [if_pos (by decide), e2]; exact k2
  · unfold withL; rw [if_pos (by decide), e3]; exact k3
theorem foldHi {α : Type} (f : α → Int) : ∀ (L : List α) (n : Nat), hiN n → (∀ x ∈ L, xyz (f x)) → hiN (L.foldl (fun n x => withL n (f x)) n)
  | [], _, h, _ => h
  | x :: L, n, h, hL => foldHi f L _ (withL_hi h (hL x (by simp))) (fun y hy => hL y (by simp [hy]))
theorem foldHi2 {α : Type} (f : α → Int) : ∀ (LL : List (List α)) (n : Nat), hiN n → (∀ L ∈ LL, ∀ x ∈ L, xyz (f x)) → hiN (LL.foldl (fun n L => L.foldl (fun n x => withL n (f x)) n) n)
  | [], _, h, _ => h
  | L :: LL, n, h, hL => foldHi2 f LL _ (foldHi f L n h (hL L (by simp))) (fun M hM => hL M (by simp [hM]))
theorem cnt_hi {n : Nat} (h : hiN n) : cntN n ≤ 3 := by
  obtain ⟨a, ha, rfl⟩ := h
  have : ∀ a : Fin 8, cntN (a.val * 8388608) ≤ 3 := by decide +kernel
  exact this ⟨a, ha⟩
theorem sumL_le : ∀ (LL : List (List InsT)) (m n : Nat), (∀ L ∈ LL, L.length ≤ m) → LL.foldl (fun n L => n + L.length) n ≤ n + m * LL.length
  | [], m, n, _ => by simp
  | L :: LL, m, n, h => by
    have := sumL_le LL m (n + L.length) (fun M hM => h M (by simp [hM]))
    have h1 := h L (by simp)
    simp only [List.foldl_cons, List.length_cons, Nat.mul_add, Nat.mul_one]
    omega

section
variable (l : List Int) (most : Nat)
theorem iniOf_ok : (iniOf l).all initOk = true ∧ (iniOf l).length ≤ 1 ∧ (∀ i ∈ iniOf l, xyz i.l) := by
  unfold iniOf; split <;> simp [initOk, locOk, xyz]
theorem condOf_ok (x : Nat) : condOk (condOf x) = true ∧ (∀ L ∈ (condOf x).any, ∀ i ∈ L, xyz i.l) := by
  unfold condOf anyOf
  split
  · refine ⟨?_, ?_⟩
    · simp [condOk, rowOk, atomOk, regOk, locOk]
      omega
    · simp [xyz]
  · simp [condOk]
theorem thrOf_ok : (thrOf l most).1.length = nxtV l 0 % 2 + 2 ∧ ∀ L ∈ (thrOf l most).1, (L.all insOk = true ∧ L.length ≤ 6 ∧ (∀ i ∈ L, xyz i.l)) ∧ skipBad L = false :=
  thrFrom_ok l most (by omega) _ _ _
/-- It may be. -/
theorem small_ok : testOk (smallP l most) = true := by
  obtain ⟨h1, h2⟩ := thrOf_ok l most
  unfold testOk smallP
  have hw : wordOk ⟨#[116]⟩ = true := by decide
  simp only [hw, (iniOf_ok l).1, (condOf_ok _).1, Bool.and_true, Bool.true_and, List.all_eq_true]
  intro L hL
  exact (h2 L hL).1.1
theorem small_locs : hiN (locsN (smallP l most)) := by
  unfold locsN smallP
  refine foldHi2 (fun x : AtomT => x.l) _ _ (foldHi2 (fun x : InsT => x.l) _ _ (foldHi (fun x : InitT => x.l) _ _ ⟨0, by omega, rfl⟩ (iniOf_ok l).2.2) ?_) ?_
  · exact fun L hL => ((thrOf_ok l most).2 L hL).1.2.2
  · exact (condOf_ok _).2
theorem big_thr (LL : List (List InsT)) (h1 : 1 ≤ LL.length) (h3 : LL.length ≤ 3) (h : ∀ L ∈ LL, L.length ≤ 6) : thrBig LL = false := by
  have hs : sumL LL ≤ 0 + 6 * LL.length := sumL_le LL 6 0 h
  have ha : LL.any (fun L => decide (10 < L.length)) = false := by
    rw [List.any_eq_false]
    intro L hL
    have := h L hL
    simp; omega
  unfold thrBig
  rw [ha]
  simp
  exact ⟨⟨by intro h; subst h; simp at h1, by omega⟩, by omega⟩
/-- It is small enough. -/
theorem small_check : checkT (smallP l most) = 0 := by
  obtain ⟨h1, h2⟩ := thrOf_ok l most
  have hb : bigT (smallP l most) = false := by
    have hc := cnt_hi (small_locs l most)
    unfold bigT
    have e1 : thrBig (smallP l most).thr = false := big_thr _ (by show 1 ≤ (thrOf l most).1.length; omega) (by show (thrOf l most).1.length ≤ 3; omega) (fun L hL => (h2 L hL).1.2.1)
    have e2 : condBig (smallP l most).cond.any = false := by
      show condBig (condOf _).any = false
      unfold condOf anyOf
      split <;> rfl
    have e3 : decide (20 < (smallP l most).name.size) = false := rfl
    rw [e1, e2, e3]
    simp
    omega
  have ht : twiceFrom 0 (smallP l most).ini = false := by
    show twiceFrom 0 (iniOf l) = false
    unfold iniOf
    split <;> simp [twiceFrom, withL]
  have hn : nowhere (smallP l most) = false := by
    unfold nowhere
    have e1 : (smallP l most).thr.any skipBad = false := by
      rw [List.any_eq_false]
      intro L hL
      rw [(h2 L hL).2]
      simp
    rw [e1]
    show (false || (condOf _).any.any fun L => L.any (farAtom (thrOf l most).1.length)) = false
    unfold condOf anyOf
    split
    · simp [farAtom, h1]; omega
    · simp
  unfold checkT
  rw [small_ok, hb, ht, hn]
  rfl
end
end Go.Proofs.YtacflahkofmcpaaGreatDoor.Wl
