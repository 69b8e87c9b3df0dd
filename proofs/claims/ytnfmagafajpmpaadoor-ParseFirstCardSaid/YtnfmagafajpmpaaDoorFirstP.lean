/- What stands behind the first error's token does not matter: a parser that ends with an error at a place goes the same way over any text that begins the same up to there and has a blank behind it. Of no memory. -/
import Derived.Test.YtnfmagafajpmpaaDoorParseW
import Derived.Test.YtnfmagafajpmpaaDoorLexCut
namespace Go.Proofs.YtnfmagafajpmpaaDoor

theorem gap_idem : ∀ (b : Bool) (l : List UInt8), gap false (l.drop (gap b l)) = 0
  | b, [] => by cases b <;> simp [gap]
  | true, c :: r => by rw [gap_t, Nat.add_comm, List.drop_succ_cons]; exact gap_idem _ r
  | false, c :: r => by
    rw [gap_f]
    split
    · rw [Nat.add_comm, List.drop_succ_cons]; exact gap_idem _ r
    · split
      · rw [Nat.add_comm, List.drop_succ_cons]; exact gap_idem _ r
      · rename_i h1 h2
        rw [List.drop_zero, gap_f, if_neg h1, if_neg h2]
theorem gap_take (m : List UInt8) : ∀ (b : Bool) (l : List UInt8) (k : Nat), k ≤ l.length → gap b l < k → gap b (l.take k ++ m) = gap b l
  | b, [], k, h1, h2 => by simp at h1; omega
  | b, c :: r, 0, h1, h2 => by omega
  | true, c :: r, k + 1, h1, h2 => by
    rw [List.take_succ_cons, List.cons_append, gap_t, gap_t]
    rw [gap_t] at h2
    rw [gap_take m _ r k (by simpa using h1) (by omega)]
  | false, c :: r, k + 1, h1, h2 => by
    rw [List.take_succ_cons, List.cons_append, gap_f, gap_f]
    rw [gap_f] at h2
    by_cases c1 : c.toNat = 35
    · rw [if_pos c1] at h2
      rw [if_pos c1, if_pos c1, gap_take m _ r k (by simpa using h1) (by omega)]
    · rw [if_neg c1] at h2
      rw [if_neg c1, if_neg c1]
      by_cases c2 : blN c.toNat = true
      · rw [if_pos c2] at h2
        rw [if_pos c2, if_pos c2, gap_take m _ r k (by simpa using h1) (by omega)]
      · rw [if_neg c2, if_neg c2]
theorem runL_take (b : UInt8) (m : List UInt8) (hb : wordN b.toNat = false) : ∀ (r : List UInt8) (k : Nat), k ≤ r.length → runL r ≤ k → runL (r.take k ++ b :: m) = runL r
  | [], k, h1, h2 => by simp [runL, hb]
  | c :: r, 0, h1, h2 => by
    have h3 : runL (c :: r) = 0 := by omega
    rw [h3, List.take_zero, List.nil_append]
    simp [runL, hb]
  | c :: r, k + 1, h1, h2 => by
    rw [List.take_succ_cons, List.cons_append]
    simp only [runL] at h2 ⊢
    by_cases hc : wordN c.toNat = true
    · rw [if_pos hc] at h2
      rw [if_pos hc, if_pos hc, runL_take b m hb r k (by simpa using h1) (by omega)]
    · rw [if_neg hc, if_neg hc]

/-- A token that ends ahead of a cut with a blank behind it is the same. -/
theorem keepK (l m : List UInt8) (k : Nat) (hk : k ≤ l.length) (h1 : 1 ≤ k) (hz : tsize l ≤ k) :
    kind (l.take k ++ 32 :: m) = kind l ∧ tsize (l.take k ++ 32 :: m) = tsize l := by
  cases l with
  | nil => simp at hk; omega
  | cons c r =>
    obtain ⟨k, rfl⟩ : ∃ j, k = j + 1 := ⟨k - 1, by omega⟩
    have hk' : k ≤ r.length := by simpa using hk
    rw [List.take_succ_cons, List.cons_append]
    have hh : hd (r.take k ++ 32 :: m) = hd r ∨ (hd (r.take k ++ 32 :: m) = 32 ∧ k = 0) := by
      cases k with
      | zero => exact Or.inr ⟨by rw [List.take_zero, List.nil_append]; rfl, rfl⟩
      | succ k =>
        cases r with
        | nil => simp at hk'
        | cons d r => exact Or.inl rfl
    have hrun : runL r ≤ k → runL (r.take k ++ 32 :: m) = runL r := fun h => runL_take 32 m (by decide) r k hk' h
    rw [tsize_cons] at hz
    rw [kind_cons, kind_cons, tsize_cons, tsize_cons]
    by_cases c1 : letN c.toNat = true
    · rw [if_pos c1] at hz
      simp only [c1, if_true, hrun (by omega), and_self]
    · rw [if_neg c1] at hz
      simp only [c1, if_false, Bool.false_eq_true]
      by_cases c2 : digN c.toNat = true
      · rw [if_pos c2] at hz
        simp only [c2, if_true, hrun (by omega), and_self]
      · rw [if_neg c2] at hz
        simp only [c2, if_false, Bool.false_eq_true]
        by_cases c3 : (c.toNat == 45 && digN (hd r)) = true
        · rw [if_pos c3] at hz
          have hr := hrun (by omega)
          rcases hh with hh | ⟨_, hk0⟩
          · simp only [hh, c3, if_true, hr, and_self]
          · exfalso
            have hd1 : digN (hd r) = true := by simp at c3; exact c3.2
            cases r with
            | nil => simp [hd, digN] at hd1
            | cons d r =>
              rw [hd_cons] at hd1
              have hw : wordN d.toNat = true := by unfold wordN; rw [hd1]; simp
              simp only [runL, hw, if_true] at hz
              omega
        · rw [if_neg c3] at hz
          by_cases c4 : pairN c.toNat (hd r) = true
          · rw [if_pos c4] at hz
            rcases hh with hh | ⟨_, hk0⟩
            · simp only [hh, c3, c4, if_true, if_false, Bool.false_eq_true, and_self]
            · omega
          · rcases hh with hh | ⟨hh, _⟩
            · simp only [hh, c3, c4, if_false, Bool.false_eq_true, and_self]
            · have d3 : (c.toNat == 45 && digN 32) = false := by simp [digN]
              have d4 : pairN c.toNat 32 = false := (bl_facts (n := 32) (by decide)).2.2 _
              simp only [hh, c3, c4, d3, d4, if_false, Bool.false_eq_true, and_self]

theorem pl_pl (s : ByteArray) (a : Nat) : pl s (pl s a) = pl s a := by
  have h : gap false (suf s (pl s a)) = 0 := by
    show gap false (suf s (a + gap false (suf s a))) = 0
    rw [suf_add]
    exact gap_idem false _
  show pl s a + gap false (suf s (pl s a)) = pl s a
  omega

section
variable (s : ByteArray) (p : Nat)
def stp : Nat → Nat → Nat
  | 0, a => a
  | k + 1, a => stp k (to s a)
/-- From a on, token by token, one comes to p. -/
def Reach (a : Nat) : Prop := ∃ k, pl s (stp s k a) = p
structure Live (S : St) : Prop where
  o : ∀ a, S = .ok a → Reach s p a
  e : ∀ x, S = .error x → x.2 = p
variable {s p}
theorem Live.ok {a : Nat} (h : Reach s p a) : Live s p (.ok a) := ⟨fun b hb => by cases hb; exact h, fun x hx => by cases hx⟩
theorem Live.er {e : Nat × Nat} (h : e.2 = p) : Live s p (.error e) := ⟨fun b hb => (by cases hb), fun x hx => by cases hx; exact h⟩
theorem stp_ge : ∀ (k a : Nat), a ≤ stp s k a
  | 0, _ => Nat.le_refl _
  | k + 1, a => Nat.le_trans (to_ge s a) (stp_ge k (to s a))
theorem Reach.here {a : Nat} (h : pl s a = p) : Reach s p a := ⟨0, h⟩
theorem Reach.back {a : Nat} (h : Reach s p (to s a)) : Reach s p a := by obtain ⟨k, h⟩ := h; exact ⟨k + 1, h⟩
theorem Reach.cases {a : Nat} (h : Reach s p a) : pl s a = p ∨ to s a ≤ p := by
  obtain ⟨k, h⟩ := h
  cases k with
  | zero => exact Or.inl h
  | succ k =>
    have h1 := stp_ge (s := s) k (to s a)
    have h2 := pl_ge s (stp s k (to s a))
    have h3 : pl s (stp s k (to s a)) = p := h
    exact Or.inr (by omega)
theorem Reach.le {a : Nat} (h : Reach s p a) : pl s a ≤ p := by
  rcases h.cases with h | h
  · omega
  · have : to s a = pl s a + sz s a := rfl
    omega
theorem Reach.place {a : Nat} (h : Reach s p a) : pl s p = p := by
  obtain ⟨k, h⟩ := h
  rw [← h]
  exact pl_pl s _
theorem Live.reach {a : Nat} (h : Live s p (.ok a)) : Reach s p a := h.o a rfl
theorem Live.err {e : Nat × Nat} (h : Live s p (.error e)) : e.2 = p := h.e e rfl
theorem live_norm {a : Nat} (h : Live s p (norm s a)) : Reach s p a := by
  by_cases h0 : eC pB s a = 0
  · rw [norm_ok s h0] at h; exact h.reach
  · rw [norm_err s h0] at h; exact .here h.err
theorem live_nx {S : St} (h : Live s p (nx s S)) : Live s p S := by
  cases S with
  | ok a => exact .ok (live_norm (show Live s p (norm s (to s a)) from h)).back
  | error e => exact h
theorem live_fl {S : St} {c : Nat} (h : Live s p (flS s c S)) : Live s p S := by
  cases S with
  | ok a => exact .ok (.here (show Live s p (.error (c, pl s a)) from h).err)
  | error e => exact h
theorem live_exp {S : St} {x : ByteArray} (h : Live s p (expS s x S)) : Live s p S := by
  unfold expS at h; split at h
  · exact live_nx h
  · exact live_fl h
theorem live_end {S : St} (h : Live s p (endS s S)) : Live s p S := by
  unfold endS at h; split at h
  · exact h
  · exact live_fl h
theorem live_name {S : St} (h : Live s p (nameP s S).2) : Live s p S := by
  unfold nameP at h; split at h
  · exact live_nx h
  · exact live_fl h
theorem live_num {S : St} (h : Live s p (numP s S).2) : Live s p S := by
  unfold numP at h; split at h
  · exact live_nx h
  · exact live_fl h
theorem live_upto {S : St} {m : Int} {c : Nat} (h : Live s p (uptoP s m c S).2) : Live s p S := by
  unfold uptoP at h; split at h
  · exact live_fl h
  · exact live_num h
theorem live_named {S : St} {v : Int} {ok : Bool} (h : Live s p (namedP s v ok S).2) : Live s p S := by
  unfold namedP at h; split at h
  · exact live_nx h
  · split at h
    · exact live_fl h
    · exact live_fl h
theorem live_reg {S : St} (h : Live s p (regP s S).2) : Live s p S := live_named h
theorem live_loc {S : St} (h : Live s p (locP s S).2) : Live s p S := live_named h
theorem live_opd {S : St} (h : Live s p (opdP s S).2) : Live s p S := by
  unfold opdP at h; split at h
  · exact live_num h
  · exact live_reg h
theorem live_ini {S : St} (h : Live s p (iniP s S).2) : Live s p S := live_loc (live_exp (live_num h))
theorem live_sub {S : St} (h : Live s p (subP s S).2) : Live s p S := by
  unfold subP at h; split at h
  · exact live_upto (live_exp (live_reg h))
  · exact live_loc h
theorem live_atom {S : St} (h : Live s p (atomP s S).2) : Live s p S := live_sub (live_exp (live_num h))
theorem live_skip {S : St} (h : Live s p (skipP s S).2) : Live s p S := live_upto (live_exp (live_opd (live_exp (live_opd h))))
theorem live_set {S : St} {r : Int} (h : Live s p (setP s r S).2) : Live s p S := by
  unfold setP at h; split at h
  · exact live_opd (live_nx (live_opd h))
  · exact live_opd h
theorem live_asg {S : St} {r : Int} (h : Live s p (asgP s r S).2) : Live s p S := by
  unfold asgP at h; split at h
  · exact live_nx (live_loc h)
  · split at h
    · exact live_nx (live_loc (live_opd (live_opd h)))
    · exact live_set h
theorem live_ins {S : St} (h : Live s p (insP s S).2) : Live s p S := by
  unfold insP at h; split at h
  · exact live_nx (live_loc (live_opd h))
  · split at h
    · exact live_nx h
    · split at h
      · exact live_nx (live_skip h)
      · exact live_reg (live_exp (live_asg h))
end

/-- t begins as s does, up to n; then a blank. The token at p ends ahead of n. -/
structure Cut (s t : ByteArray) (p n : Nat) : Prop where
  list : ∃ m, t.data.toList = s.data.toList.take n ++ 32 :: m
  hn : n ≤ s.size
  hp : p < n
  he : to s p ≤ n

section
variable {s t : ByteArray} {p n : Nat} (C : Cut s t p n)
include C
theorem Cut.suf {a : Nat} (ha : a ≤ n) : ∃ m, suf t a = (suf s a).take (n - a) ++ 32 :: m := by
  obtain ⟨m, h⟩ := C.list
  have h1 := C.hn
  rw [size_list] at h1
  refine ⟨m, ?_⟩
  unfold Go.Proofs.YtnfmagafajpmpaaDoor.suf
  rw [h, List.drop_append_of_le_length (by rw [List.length_take]; omega), List.drop_take]
theorem Cut.size : n < t.size := by
  obtain ⟨m, h⟩ := C.list
  have h1 := C.hn
  have h2 := size_list s
  have h3 := size_list t
  rw [h, List.length_append, List.length_take, List.length_cons] at h3
  omega
theorem Cut.agree {a : Nat} (h : Reach s p a) : kd t a = kd s a ∧ tx t a = tx s a ∧ pl t a = pl s a ∧ to t a = to s a := by
  have hq := h.le
  have hp := C.hp
  have hn := C.hn
  have ha := pl_ge s a
  have ht : to s a ≤ n := by
    rcases h.cases with h1 | h1
    · have e : to s a = to s p := by
        have hp' := pl_pl s a
        rw [h1] at hp'
        show pl s a + tsize (Go.Proofs.YtnfmagafajpmpaaDoor.suf s (pl s a)) = pl s p + tsize (Go.Proofs.YtnfmagafajpmpaaDoor.suf s (pl s p))
        rw [hp', h1]
      rw [e]; exact C.he
    · omega
  obtain ⟨m, hm⟩ := C.suf (a := a) (by omega)
  have hlen := suf_length s a
  have hg : gap false (Go.Proofs.YtnfmagafajpmpaaDoor.suf t a) = gap false (Go.Proofs.YtnfmagafajpmpaaDoor.suf s a) := by
    rw [hm]
    refine gap_take _ false _ _ (by omega) ?_
    have : pl s a = a + gap false (Go.Proofs.YtnfmagafajpmpaaDoor.suf s a) := rfl
    omega
  have e1 : pl t a = pl s a := by unfold pl; rw [hg]
  obtain ⟨m', hm'⟩ := C.suf (a := pl s a) (by omega)
  have hlen' := suf_length s (pl s a)
  have hz : to s a = pl s a + tsize (Go.Proofs.YtnfmagafajpmpaaDoor.suf s (pl s a)) := rfl
  obtain ⟨k1, k2⟩ := keepK (Go.Proofs.YtnfmagafajpmpaaDoor.suf s (pl s a)) m' (n - pl s a) (by omega) (by omega) (by omega)
  have e2 : kd t a = kd s a := by unfold kd; rw [e1, hm', k1]
  have e3 : sz t a = sz s a := by unfold sz; rw [e1, hm', k2]
  have e4 : Go.Proofs.YtnfmagafajpmpaaDoor.to t a = Go.Proofs.YtnfmagafajpmpaaDoor.to s a := by unfold Go.Proofs.YtnfmagafajpmpaaDoor.to; rw [e1, e3]
  refine ⟨e2, ?_, e1, e4⟩
  apply bytes_ext
  rw [tx_list, tx_list, e1, e3, hm', List.take_append_of_le_length]
  · rw [List.take_take]
    congr 1
    unfold sz
    omega
  · rw [List.length_take]
    unfold sz
    omega
theorem Cut.ec {a : Nat} (h : Reach s p a) : eC pB t a = eC pB s a := by
  obtain ⟨h1, h2, _, _⟩ := C.agree h
  unfold eC; rw [h1, h2]
theorem Cut.norm {a : Nat} (h : Reach s p a) : norm t a = norm s a := by
  unfold Go.Proofs.YtnfmagafajpmpaaDoor.norm; rw [C.ec h, (C.agree h).2.2.1]
theorem Cut.tok {S : St} (h : Live s p S) : tokK t S = tokK s S ∧ tokX t S = tokX s S := by
  cases S with
  | ok a => exact ⟨(C.agree h.reach).1, (C.agree h.reach).2.1⟩
  | error e => exact ⟨rfl, rfl⟩
theorem Cut.is {S : St} (x : ByteArray) (h : Live s p S) : isX t x S = isX s x S := by unfold isX; rw [(C.tok h).2]
theorem Cut.vd {S : St} (h : Live s p S) (hv : Vd s S) : Vd t S := by
  cases S with
  | ok a =>
    have h1 : Reach s p a := h.reach
    refine ⟨(C.ec h1).trans hv.1, ?_⟩
    have := pl_ge s a
    have := h1.le
    have := C.hp
    have := C.size
    omega
  | error e => exact hv
theorem Cut.nx {S : St} (h : Live s p (nx s S)) : nx t S = nx s S := by
  have hl := live_nx h
  cases S with
  | ok a =>
    have h1 : Reach s p a := hl.reach
    show Go.Proofs.YtnfmagafajpmpaaDoor.norm t (to t a) = Go.Proofs.YtnfmagafajpmpaaDoor.norm s (to s a)
    rw [(C.agree h1).2.2.2]
    exact C.norm (live_norm (show Live s p (Go.Proofs.YtnfmagafajpmpaaDoor.norm s (to s a)) from h))
  | error e => rfl
theorem Cut.fl {S : St} {c : Nat} (h : Live s p (flS s c S)) : flS t c S = flS s c S := by
  have hl := live_fl h
  cases S with
  | ok a =>
    have h1 : Reach s p a := hl.reach
    show (Except.error (c, pl t a) : St) = .error (c, pl s a)
    rw [(C.agree h1).2.2.1]
  | error e => rfl
theorem Cut.exp {S : St} {x : ByteArray} (h : Live s p (expS s x S)) : expS t x S = expS s x S := by
  have hl := live_exp h
  unfold expS at h ⊢
  rw [C.is x hl]
  split at h
  · rename_i q; rw [if_pos q, if_pos q]; exact C.nx h
  · rename_i q; rw [if_neg q, if_neg q]; exact C.fl h
theorem Cut.fin {S : St} (h : Live s p (endS s S)) : endS t S = endS s S := by
  have hl := live_end h
  unfold endS at h ⊢
  rw [(C.tok hl).1]
  split at h
  · rename_i q; rw [if_pos q, if_pos q]
  · rename_i q; rw [if_neg q, if_neg q]; exact C.fl h
theorem Cut.name {S : St} (h : Live s p (nameP s S).2) : nameP t S = nameP s S := by
  have hl := live_name h
  unfold nameP at h ⊢
  rw [(C.tok hl).1, (C.tok hl).2]
  split at h
  · rename_i q; rw [if_pos q, if_pos q, C.nx h]
  · rename_i q; rw [if_neg q, if_neg q, C.fl h]
theorem Cut.num {S : St} (h : Live s p (numP s S).2) : numP t S = numP s S := by
  have hl := live_num h
  unfold numP at h ⊢
  rw [(C.tok hl).2]
  split at h
  · rename_i q; rw [if_pos q, if_pos q, C.nx h]
  · rename_i q; rw [if_neg q, if_neg q, C.fl h]
theorem Cut.upto {S : St} {m : Int} {c : Nat} (h : Live s p (uptoP s m c S).2) : uptoP t m c S = uptoP s m c S := by
  have hl := live_upto h
  unfold uptoP outB at h ⊢
  rw [(C.tok hl).2]
  split at h
  · rename_i q; rw [if_pos q, if_pos q, C.fl h]
  · rename_i q; rw [if_neg q, if_neg q, C.num h]
theorem Cut.named {S : St} {v : Int} {ok : Bool} (h : Live s p (namedP s v ok S).2) : namedP t v ok S = namedP s v ok S := by
  have hl := live_named h
  unfold namedP at h ⊢
  rw [(C.tok hl).1]
  split at h
  · rename_i q; rw [if_pos q, if_pos q, C.nx h]
  · rename_i q
    rw [if_neg q, if_neg q]
    split at h
    · rename_i q; rw [if_pos q, if_pos q, C.fl h]
    · rename_i q; rw [if_neg q, if_neg q, C.fl h]
theorem Cut.reg {S : St} (h : Live s p (regP s S).2) : regP t S = regP s S := by
  have hl := live_reg h
  show namedP t (regV (tokX t S)) (regB (tokX t S)) S = regP s S
  rw [(C.tok hl).2]
  exact C.named h
theorem Cut.loc {S : St} (h : Live s p (locP s S).2) : locP t S = locP s S := by
  have hl := live_loc h
  show namedP t (locV (tokK t S) (tokX t S)) (locB (tokK t S) (tokX t S)) S = locP s S
  rw [(C.tok hl).1, (C.tok hl).2]
  exact C.named h
theorem Cut.opd {S : St} (h : Live s p (opdP s S).2) : opdP t S = opdP s S := by
  have hl := live_opd h
  unfold opdP at h ⊢
  rw [(C.tok hl).1]
  split at h
  · rename_i q; rw [if_pos q, if_pos q, C.num h]
  · rename_i q; rw [if_neg q, if_neg q, C.reg h]
theorem Cut.ini {S : St} (h : Live s p (iniP s S).2) : iniP t S = iniP s S := by
  have h1 := live_num h
  have h2 := live_exp h1
  unfold iniP
  rw [C.loc h2, C.exp h1, C.num h]
theorem Cut.sub {S : St} (h : Live s p (subP s S).2) : subP t S = subP s S := by
  have hl := live_sub h
  unfold subP at h ⊢
  rw [(C.tok hl).1]
  split at h
  · rename_i q
    have h1 := live_reg h
    rw [if_pos q, if_pos q, C.upto (live_exp h1), C.exp h1, C.reg h]
  · rename_i q; rw [if_neg q, if_neg q, C.loc h]
theorem Cut.atom {S : St} (h : Live s p (atomP s S).2) : atomP t S = atomP s S := by
  have h1 := live_num h
  unfold atomP
  rw [C.sub (live_exp h1), C.exp h1, C.num h]
theorem Cut.skip {S : St} (h : Live s p (skipP s S).2) : skipP t S = skipP s S := by
  have h1 : Live s p (skB s S) := live_opd h
  have h2 := live_exp h1
  have h3 : Live s p (skA s S) := live_opd h2
  have h4 := live_exp h3
  have eA : skA t S = skA s S := by unfold skA; rw [C.upto h4, C.exp h3]
  have eB : skB t S = skB s S := by unfold skB; rw [eA, C.opd h2, C.exp h1]
  unfold skipP
  rw [eA, eB, C.upto h4, C.opd h2, C.opd h]
theorem Cut.set {S : St} {r : Int} (h : Live s p (setP s r S).2) : setP t r S = setP s r S := by
  have hl : Live s p (opdP s S).2 := by
    unfold setP at h; split at h
    · exact live_nx (live_opd h)
    · exact h
  unfold setP at h ⊢
  rw [C.opd hl, (C.tok hl).2]
  split at h
  · rename_i q
    have h1 := live_opd h
    rw [if_pos q, if_pos q, C.nx h1, C.opd h]
  · rename_i q; rw [if_neg q, if_neg q]
theorem Cut.store {S : St} (h : Live s p (storeP s S).2) : storeP t S = storeP s S := by
  have h1 := live_opd h
  unfold storeP
  rw [C.loc h1, C.opd h]
theorem Cut.load {S : St} {r : Int} (h : Live s p (loadP s r S).2) : loadP t r S = loadP s r S := by
  unfold loadP
  rw [C.loc h]
theorem Cut.cas {S : St} {r : Int} (h : Live s p (casP s r S).2) : casP t r S = casP s r S := by
  have h1 := live_opd h
  have h2 := live_opd h1
  unfold casP
  rw [C.loc h2, C.opd h1, C.opd h]
theorem Cut.asg {S : St} {r : Int} (h : Live s p (asgP s r S).2) : asgP t r S = asgP s r S := by
  have hl := live_asg h
  unfold asgP at h ⊢
  rw [C.is _ hl, C.is _ hl]
  split at h
  · rename_i q
    have h1 := live_loc h
    rw [if_pos q, if_pos q, C.nx h1, C.load h]
  · rename_i q
    rw [if_neg q, if_neg q]
    split at h
    · rename_i q
      have h1 := live_loc (live_opd (live_opd h))
      rw [if_pos q, if_pos q, C.nx h1, C.cas h]
    · rename_i q
      rw [if_neg q, if_neg q, C.set h]
theorem Cut.ins {S : St} (h : Live s p (insP s S).2) : insP t S = insP s S := by
  have hl := live_ins h
  unfold insP at h ⊢
  rw [C.is _ hl, C.is _ hl, C.is _ hl]
  split at h
  · rename_i q
    have h1 := live_loc (live_opd h)
    rw [if_pos q, if_pos q, C.nx h1, C.store h]
  · rename_i q
    rw [if_neg q, if_neg q]
    split at h
    · rename_i q
      rw [if_pos q, if_pos q, C.nx h]
    · rename_i q
      rw [if_neg q, if_neg q]
      split at h
      · rename_i q
        have h1 := live_skip h
        rw [if_pos q, if_pos q, C.nx h1, C.skip h]
      · rename_i q
        have h1 := live_asg h
        have h2 := live_exp h1
        rw [if_neg q, if_neg q, C.reg h2, C.exp h1, C.asg h]
end

/-! Rows. -/
structure Sm {α : Type} (s : ByteArray) (p : Nat) (f g : St → α × St) : Prop where
  l : ∀ S, Live s p (f S).2 → Live s p S
  e : ∀ S, Vd s S → Live s p (f S).2 → g S = f S

section
variable {α : Type} {s t : ByteArray} {p n : Nat} {f g : St → α × St}
theorem live_blk (hf : Sm s p f g) : ∀ (N : Nat) (S : St), Live s p (blkL s f N S).2 → Live s p S
  | 0, S, h => h
  | N + 1, S, h => by
    unfold blkL at h
    split at h
    · exact h
    · split at h
      · exact live_nx h
      · exact hf.l _ (live_exp (live_blk hf N _ h))
theorem live_prt (hf : Sm s p f g) (x : ByteArray) : ∀ (N : Nat) (S : St), Live s p (prtL s f x N S).2 → Live s p S
  | 0, S, h => h
  | N + 1, S, h => by
    unfold prtL at h
    split at h
    · exact live_nx (hf.l _ (live_prt hf x N _ h))
    · exact h
theorem Cut.blkL (C : Cut s t p n) (hf : Sm s p f g) (hg : Goes s f) : ∀ (N : Nat) (S : St), Vd s S → Live s p (blkL s f N S).2 → blkL t g N S = blkL s f N S
  | 0, S, _, _ => rfl
  | N + 1, S, hv, h => by
    have hl := live_blk hf (N + 1) S h
    unfold Go.Proofs.YtnfmagafajpmpaaDoor.blkL at h ⊢
    rw [C.is _ hl]
    split at h
    · rename_i q; rw [if_pos q, if_pos q]
    · rename_i q
      rw [if_neg q, if_neg q]
      split at h
      · rename_i q; rw [if_pos q, if_pos q, C.nx h]
      · rename_i q
        have h1 := live_blk hf N _ h
        have h2 := live_exp h1
        rw [if_neg q, if_neg q, hf.e S hv h2, C.exp h1, Cut.blkL C hf hg N _ (vd_exp s _ (hg.v _ hv)) h]
theorem Cut.prtL (C : Cut s t p n) (hf : Sm s p f g) (hg : Goes s f) (x : ByteArray) : ∀ (N : Nat) (S : St), Vd s S → Live s p (prtL s f x N S).2 → prtL t g x N S = prtL s f x N S
  | 0, S, _, _ => rfl
  | N + 1, S, hv, h => by
    have hl := live_prt hf x (N + 1) S h
    unfold Go.Proofs.YtnfmagafajpmpaaDoor.prtL at h ⊢
    rw [C.is _ hl]
    split at h
    · rename_i q
      have h1 := live_prt hf x N _ h
      have h2 := hf.l _ h1
      rw [if_pos q, if_pos q, C.nx h2, hf.e _ (vd_nx s hv) h1, Cut.prtL C hf hg x N _ (hg.v _ (vd_nx s hv)) h]
    · rename_i q; rw [if_neg q, if_neg q]
theorem Cut.blk (C : Cut s t p n) (hf : Sm s p f g) (hs : Goes s f) (ht : Goes t g) {S : St} (hv : Vd s S) (h : Live s p (blkP s f S).2) : Live s p S ∧ blkP t g S = blkP s f S := by
  have hl := live_blk hf _ _ h
  have e1 : blkP s f S = Go.Proofs.YtnfmagafajpmpaaDoor.blkL s f (max (mS s S) (mS t S) + 1) S := blkL_fuel s hs _ _ S hv (by omega) (by omega)
  have e2 : blkP t g S = Go.Proofs.YtnfmagafajpmpaaDoor.blkL t g (max (mS s S) (mS t S) + 1) S := blkL_fuel t ht _ _ S (C.vd hl hv) (by omega) (by omega)
  rw [e1] at h
  rw [e1, e2]
  exact ⟨hl, Cut.blkL C hf hs _ S hv h⟩
theorem Cut.more (C : Cut s t p n) (hf : Sm s p f g) (hs : Goes s f) (ht : Goes t g) {x : ByteArray} (hx : x.toList ≠ []) {S : St} (hv : Vd s S) (h : Live s p (moreP s f x S).2) : Live s p S ∧ moreP t g x S = moreP s f x S := by
  have hl := live_prt hf x _ _ h
  have e1 : moreP s f x S = Go.Proofs.YtnfmagafajpmpaaDoor.prtL s f x (max (mS s S) (mS t S) + 1) S := prtL_fuel s hs hx _ _ S hv (by omega) (by omega)
  have e2 : moreP t g x S = Go.Proofs.YtnfmagafajpmpaaDoor.prtL t g x (max (mS s S) (mS t S) + 1) S := prtL_fuel t ht hx _ _ S (C.vd hl hv) (by omega) (by omega)
  rw [e1] at h
  rw [e1, e2]
  exact ⟨hl, Cut.prtL C hf hs x _ S hv h⟩
theorem Cut.prt (C : Cut s t p n) (hf : Sm s p f g) (hs : Goes s f) (ht : Goes t g) {x : ByteArray} (hx : x.toList ≠ []) : Sm s p (prtP s f x) (prtP t g x) := by
  refine ⟨fun S h => hf.l _ (live_prt hf x _ _ h), fun S hv h => ?_⟩
  have h1 := C.more hf hs ht hx (hs.v _ hv) h
  unfold prtP
  rw [hf.e S hv h1.1, h1.2]
end

section
variable {s t : ByteArray} {p n : Nat} (C : Cut s t p n)
include C
theorem Cut.smIni : Sm s p (iniP s) (iniP t) := ⟨fun _ => live_ini, fun _ _ h => C.ini h⟩
theorem Cut.smIns : Sm s p (insP s) (insP t) := ⟨fun _ => live_ins, fun _ _ h => C.ins h⟩
theorem Cut.smAtom : Sm s p (atomP s) (atomP t) := ⟨fun _ => live_atom, fun _ _ h => C.atom h⟩
theorem Cut.smRow : Sm s p (rowP s) (rowP t) := C.prt C.smAtom (goes_atom s) (goes_atom t) (ne_nil _ _)
theorem Cut.smRows : Sm s p (rowsP s) (rowsP t) := C.prt C.smRow (goes_row s) (goes_row t) (ne_nil _ _)
theorem Cut.smInsB : Sm s p (insB s) (insB t) := by
  refine ⟨fun S h => live_exp (live_blk C.smIns _ _ h), fun S hv h => ?_⟩
  have h1 := C.blk C.smIns (goes_ins s) (goes_ins t) (vd_exp s _ hv) h
  unfold insB
  rw [C.exp h1.1, h1.2]
theorem Cut.smIniB : Sm s p (iniB s) (iniB t) := by
  refine ⟨fun S h => live_exp (live_blk C.smIni _ _ h), fun S hv h => ?_⟩
  have h1 := C.blk C.smIni (goes_ini s) (goes_ini t) (vd_exp s _ hv) h
  unfold iniB
  rw [C.exp h1.1, h1.2]
theorem Cut.ask (k : Int) {S : St} (hv : Vd s S) (h : Live s p (expS s xSemi (rowsP s (Go.Proofs.YtnfmagafajpmpaaDoor.nx s S)).2)) :
    ((⟨k, (rowsP t (Go.Proofs.YtnfmagafajpmpaaDoor.nx t S)).1⟩ : CondT), expS t xSemi (rowsP t (Go.Proofs.YtnfmagafajpmpaaDoor.nx t S)).2) = (⟨k, (rowsP s (Go.Proofs.YtnfmagafajpmpaaDoor.nx s S)).1⟩, expS s xSemi (rowsP s (Go.Proofs.YtnfmagafajpmpaaDoor.nx s S)).2) := by
  have h1 : Live s p (rowsP s (Go.Proofs.YtnfmagafajpmpaaDoor.nx s S)).2 := live_exp h
  have e1 := C.nx (C.smRows.l _ h1)
  have e2 := C.smRows.e _ (vd_nx s hv) h1
  have e3 := C.exp h
  rw [e1, e2, e3]
theorem Cut.smCond : Sm s p (condP s) (condP t) := by
  have hl : ∀ S, Live s p (condP s S).2 → Live s p S := by
    intro S h
    unfold condP at h; split at h
    · exact live_nx (C.smRows.l _ (live_exp h))
    · split at h
      · exact live_nx (C.smRows.l _ (live_exp h))
      · exact h
  refine ⟨hl, fun S hv h => ?_⟩
  have h0 := hl S h
  unfold condP at h ⊢
  rw [C.is _ h0, C.is _ h0]
  split at h
  · rename_i q
    rw [if_pos q, if_pos q]
    exact C.ask 1 hv h
  · rename_i q
    rw [if_neg q, if_neg q]
    split at h
    · rename_i q
      rw [if_pos q, if_pos q]
      exact C.ask 2 hv h
    · rename_i q
      rw [if_neg q, if_neg q]
theorem Cut.smThr : Sm s p (thrP s) (thrP t) :=
  ⟨fun _ h => live_prt C.smInsB xThread _ _ h, fun _ hv h => (C.more C.smInsB (goes_insB s) (goes_insB t) (ne_nil _ _) hv h).2⟩
theorem Cut.smInit : Sm s p (initP s) (initP t) := by
  have hl : ∀ S, Live s p (initP s S).2 → Live s p S := by
    intro S h
    unfold initP at h; split at h
    · exact live_nx (C.smIniB.l _ h)
    · exact h
  refine ⟨hl, fun S hv h => ?_⟩
  have h0 := hl S h
  unfold initP at h ⊢
  rw [C.is _ h0]
  split at h
  · rename_i q
    rw [if_pos q, if_pos q, C.nx (C.smIniB.l _ h), C.smIniB.e _ (vd_nx s hv) h]
  · rename_i q
    rw [if_neg q, if_neg q]
omit C in
theorem vd_name {S : St} (h : Vd s S) : Vd s (nameP s S).2 := by
  unfold nameP; split
  · exact vd_nx s h
  · exact vd_fl s h (by decide)
omit C in
theorem vd_init {S : St} (h : Vd s S) : Vd s (initP s S).2 := by
  unfold initP; split
  · exact (goes_iniB s).v _ (vd_nx s h)
  · exact h
omit C in
theorem vd_thr {S : St} (h : Vd s S) : Vd s (thrP s S).2 := by
  have key : ∀ (N : Nat) (S : St), Vd s S → Vd s (Go.Proofs.YtnfmagafajpmpaaDoor.prtL s (insB s) xThread N S).2 := by
    intro N
    induction N with
    | zero => intro S h; exact h
    | succ N ih =>
      intro S h
      unfold Go.Proofs.YtnfmagafajpmpaaDoor.prtL
      split
      · exact ih _ ((goes_insB s).v _ (vd_nx s h))
      · exact h
  exact key _ S h
theorem Cut.test {S : St} (hv : Vd s S) (h : Live s p (testP s S).2) : Live s p S ∧ testP t S = testP s S := by
  have h1 := live_end h
  have h2 := live_exp h1
  have h3 := C.smCond.l _ h2
  have h4 := C.smThr.l _ h3
  have h5 := C.smInit.l _ h4
  have h6 : Live s p (nameP s (expS s xTest S)).2 := live_exp h5
  have h7 := live_name h6
  have v1 : Vd s (hdS s S).2 := vd_exp s _ (vd_name (vd_exp s _ hv))
  have v2 := vd_init v1
  have v3 := vd_thr v2
  have e1 : hdS t S = hdS s S := by unfold hdS; rw [C.exp h7, C.name h6, C.exp h5]
  have e2 := C.smInit.e _ v1 h4
  have e3 := C.smThr.e _ v2 h3
  have e4 := C.smCond.e _ v3 h2
  refine ⟨live_exp h7, ?_⟩
  unfold testP
  rw [e1, e2, e3, e4, C.exp h1, C.fin h]
end

/-- An error that is told at p is told of every text that has the same up to behind p's token, and a blank there. -/
theorem first_live {s : ByteArray} {c p : Nat} (hs : s.size ≤ 4000) (hc : c ≠ 0) (h : (parseP s).2 = (c, p)) : Live s p (testP s (startS s)).2 ∧ (testP s (startS s)).2 = .error (c, p) := by
  unfold parseP at h
  rw [if_neg (by omega)] at h
  unfold endP at h
  cases hR : (testP s (startS s)).2 with
  | ok a =>
    rw [hR] at h
    simp only [flB, Bool.false_eq_true, if_false, Prod.mk.injEq] at h
    omega
  | error e =>
    rw [hR] at h
    simp only [flB, if_true, erC, erP, Prod.mk.injEq] at h
    obtain ⟨rfl, rfl⟩ := h
    exact ⟨.er rfl, rfl⟩
theorem first_same {s t : ByteArray} {c p n : Nat} (C : Cut s t p n) (hs : s.size ≤ 4000) (ht : t.size ≤ 4000) (hc : c ≠ 0) (h : (parseP s).2 = (c, p)) : (parseP t).2 = (c, p) := by
  obtain ⟨h1, h2⟩ := first_live hs hc h
  have hv : Vd s (startS s) := vd_norm s (Nat.zero_le _)
  obtain ⟨h3, h4⟩ := C.test hv h1
  have h5 : startS t = startS s := C.norm (live_norm h3)
  have e1 : parseP t = endP (testP t (startS t)) := by unfold parseP; exact if_neg (by omega)
  have e2 : parseP s = endP (testP s (startS s)) := by unfold parseP; exact if_neg (by omega)
  rw [e1, h5, h4, ← e2]
  exact h

/-- The text up to behind the error's token, a blank, and what else is laid behind. -/
def firstN (s : ByteArray) (p : Nat) : Nat := if eC pB s p = 0 then to s p else s.size
theorem cut_of {s u : ByteArray} {p n : Nat} (hn : n ≤ s.size) (hp : p < n) (he : to s p ≤ n) : Cut s (s.extract 0 n ++ ⟨#[32]⟩ ++ u) p n := by
  refine ⟨⟨u.data.toList, ?_⟩, hn, hp, he⟩
  rw [list_append, list_append]
  have h := cut_list s 0 n
  rw [Nat.zero_add] at h
  rw [h, List.append_assoc]
  rfl
theorem first_place {s : ByteArray} {c p : Nat} (hs : s.size ≤ 4000) (hc : c ≠ 0) (h : (parseP s).2 = (c, p)) (hp : p < s.size) : pl s p = p := by
  obtain ⟨h1, h2⟩ := first_live hs hc h
  have hv : Vd s (startS s) := vd_norm s (Nat.zero_le _)
  have C : Cut s (s.extract 0 s.size ++ ⟨#[32]⟩ ++ ⟨#[]⟩) p s.size := cut_of (Nat.le_refl _) hp (to_le (Nat.le_of_lt hp))
  obtain ⟨h3, _⟩ := C.test hv h1
  exact (live_norm h3).place
theorem first_n {s : ByteArray} {c p : Nat} (hs : s.size ≤ 4000) (hc : c ≠ 0) (h : (parseP s).2 = (c, p)) (hp : p < s.size) : firstN s p ≤ s.size ∧ p < firstN s p ∧ to s p ≤ firstN s p := by
  have h1 := first_place hs hc h hp
  have h2 := to_le (s := s) (Nat.le_of_lt hp)
  unfold firstN
  by_cases h0 : eC pB s p = 0
  · rw [if_pos h0]
    refine ⟨h2, to_gt (eC_kd h0) (fun h4 => ?_), Nat.le_refl _⟩
    have e : suf s (pl s p) = [] := kind_end.1 h4
    have e2 := suf_length s (pl s p)
    rw [e, h1] at e2
    simp at e2
    omega
  · rw [if_neg h0]
    exact ⟨Nat.le_refl _, hp, h2⟩
theorem first_is {s u : ByteArray} {c p : Nat} (hs : s.size + u.size ≤ 3900) (hc : c ≠ 0) (h : (parseP s).2 = (c, p)) (hp : p < s.size) : (parseP (s.extract 0 (firstN s p) ++ ⟨#[32]⟩ ++ u)).2 = (c, p) ∧ (s.extract 0 (firstN s p) ++ ⟨#[32]⟩ ++ u).size ≤ 4000 := by
  obtain ⟨h1, h2, h3⟩ := first_n (by omega) hc h hp
  have C := cut_of (u := u) h1 h2 h3
  have hz : (s.extract 0 (firstN s p) ++ ⟨#[32]⟩ ++ u).size ≤ 4000 := by
    have e := size_list (s.extract 0 (firstN s p) ++ ⟨#[32]⟩ ++ u)
    have e1 := size_list u
    have e2 := cut_list s 0 (firstN s p)
    rw [Nat.zero_add] at e2
    rw [list_append, list_append, e2, List.length_append, List.length_append, List.length_take, ← e1] at e
    have e3 := suf_length s 0
    have e4 : (⟨#[32]⟩ : ByteArray).data.toList.length = 1 := rfl
    omega
  exact ⟨first_same C (by omega) hz hc h, hz⟩
end Go.Proofs.YtnfmagafajpmpaaDoor
