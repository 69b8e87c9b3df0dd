/- What a text's cuts are: a token's text with a blank behind it is the same token; tokens joined by blanks and comments are the same tokens. Of no program. -/
import Derived.Test.YtacflahkofmcpaaGreatDoorJ00LexPure
import Derived.Test.YtacflahkofmcpaaGreatDoorJ04LexBase
import Derived.Lib.Strings
namespace Go.Proofs.YtacflahkofmcpaaGreatDoor

theorem suf_add (s : ByteArray) (a n : Nat) : suf s (a + n) = (suf s a).drop n := by unfold suf; rw [List.drop_drop]
theorem cut_list (s : ByteArray) (a n : Nat) : (s.extract a (a + n)).data.toList = (suf s a).take n := by
  rw [Lib.extract_data]
  unfold suf
  rw [Nat.add_sub_cancel_left]
theorem tx_list (s : ByteArray) (a : Nat) : (tx s a).data.toList = (suf s (pl s a)).take (sz s a) := cut_list s _ _
theorem tx_size {s : ByteArray} {a : Nat} (h : a ≤ s.size) : (tx s a).size = sz s a := by
  rw [size_list, tx_list, List.length_take, suf_length]
  have h1 := to_le h
  unfold to at h1
  omega

theorem runL_cut (b : UInt8) (m : List UInt8) (hb : wordN b.toNat = false) : ∀ r : List UInt8, runL (r.take (runL r) ++ b :: m) = runL r
  | [] => by simp [runL, hb]
  | c :: r => by
    by_cases hc : wordN c.toNat = true
    · have e : runL (c :: r) = runL r + 1 := by simp only [runL, hc, if_true]; omega
      rw [e, List.take_succ_cons, List.cons_append]
      simp only [runL, hc, if_true]
      rw [runL_cut b m hb r]
      omega
    · have e : runL (c :: r) = 0 := by simp only [runL, hc]; simp
      rw [e]
      simp [runL, hb]

theorem hd_cut (r m : List UInt8) (b : UInt8) (h : digN (hd r) = true) : hd (r.take (runL r) ++ b :: m) = hd r := by
  cases r with
  | nil => simp [hd, digN] at h
  | cons c r =>
    have hc : wordN c.toNat = true := by unfold wordN; rw [hd_cons] at h; rw [h]; simp
    have e : runL (c :: r) = runL r + 1 := by simp only [runL, hc, if_true]; omega
    rw [e]
    rfl

theorem bl_facts {n : Nat} (h : blN n = true) : wordN n = false ∧ digN n = false ∧ ∀ c, pairN c n = false := by
  simp only [blN, Bool.or_eq_true, beq_iff_eq] at h
  rcases h with (rfl | rfl) | rfl <;> refine ⟨by decide, by decide, fun c => by simp [pairN]⟩

theorem kind_cons (c : UInt8) (r : List UInt8) : kind (c :: r) = if letN c.toNat then 1 else if digN c.toNat then 2 else if c.toNat == 45 && digN (hd r) then 2
    else if pairN c.toNat (hd r) then 3 else if oneN c.toNat then 3 else 0 := rfl
theorem tsize_cons (c : UInt8) (r : List UInt8) : tsize (c :: r) = if letN c.toNat then 1 + runL r else if digN c.toNat then 1 + runL r else if c.toNat == 45 && digN (hd r) then 1 + runL r
    else if pairN c.toNat (hd r) then 2 else if oneN c.toNat then 1 else 0 := rfl

/-- A token's text with a blank behind it is that token. -/
theorem keep (l m : List UInt8) (b : UInt8) (hb : blN b.toNat = true) (h0 : kind l ≠ 0) (h4 : kind l ≠ 4) :
    kind (l.take (tsize l) ++ b :: m) = kind l ∧ tsize (l.take (tsize l) ++ b :: m) = tsize l := by
  obtain ⟨b1, b2, b3⟩ := bl_facts hb
  cases l with
  | nil => simp [kind] at h4
  | cons c r =>
    have hrun := runL_cut b m b1 r
    by_cases c1 : letN c.toNat = true
    · have e : tsize (c :: r) = runL r + 1 := by simp only [tsize_cons, c1, if_true]; omega
      rw [e, List.take_succ_cons, List.cons_append]
      simp only [kind_cons, tsize_cons, c1, if_true, hrun]
      exact ⟨trivial, by omega⟩
    · by_cases c2 : digN c.toNat = true
      · have e : tsize (c :: r) = runL r + 1 := by simp only [tsize_cons, c1, c2, if_true]; simp; omega
        rw [e, List.take_succ_cons, List.cons_append]
        simp only [kind_cons, tsize_cons, c1, c2, if_true, hrun]
        simp
        omega
      · by_cases c3 : (c.toNat == 45 && digN (hd r)) = true
        · have e : tsize (c :: r) = runL r + 1 := by rw [tsize_cons, if_neg c1, if_neg c2, if_pos c3]; omega
          have hh := hd_cut r m b (by simp at c3; exact c3.2)
          rw [e, List.take_succ_cons, List.cons_append]
          simp only [kind_cons, tsize_cons, hh, c1, c2, c3, if_true, hrun]
          simp
          omega
        · by_cases c4 : pairN c.toNat (hd r) = true
          · have e : tsize (c :: r) = 2 := by rw [tsize_cons, if_neg c1, if_neg c2, if_neg c3, if_pos c4]
            cases r with
            | nil => simp [hd, pairN] at c4
            | cons d r =>
              rw [e]
              show kind (c :: d :: (b :: m)) = _ ∧ tsize (c :: d :: (b :: m)) = _
              simp only [kind_cons, tsize_cons, hd_cons]
              rw [hd_cons] at c3 c4
              simp only [c1, c2, c3, c4, if_true]
              simp
          · by_cases c5 : oneN c.toNat = true
            · have e : tsize (c :: r) = 1 := by rw [tsize_cons, if_neg c1, if_neg c2, if_neg c3, if_neg c4, if_pos c5]
              rw [e]
              show kind (c :: (b :: m)) = _ ∧ tsize (c :: (b :: m)) = _
              have d3 : ¬ (c.toNat == 45 && digN b.toNat) = true := by rw [b2]; simp
              have d4 : ¬ pairN c.toNat b.toNat = true := by rw [b3]; simp
              simp only [kind_cons, tsize_cons, hd_cons, c1, c2, c3, c4, c5, d3, d4, if_true]
              simp
            · exfalso
              apply h0
              rw [kind_cons, if_neg c1, if_neg c2, if_neg c3, if_neg c4, if_neg c5]

/-- Where a token begins there is no gap. -/
theorem gap_tok {l : List UInt8} (h0 : kind l ≠ 0) : gap false l = 0 := by
  cases l with
  | nil => rfl
  | cons c r =>
    rw [gap_f]
    by_cases c1 : c.toNat = 35
    · exfalso; apply h0; rw [kind_cons, c1]; simp [letN, digN, pairN, oneN]
    · rw [if_neg c1]
      by_cases c2 : blN c.toNat = true
      · exfalso; apply h0
        simp only [blN, Bool.or_eq_true, beq_iff_eq] at c2
        rw [kind_cons]
        rcases c2 with (e | e) | e <;> rw [e] <;> simp [letN, digN, pairN, oneN]
      · rw [if_neg c2]

/-- What may stand between tokens. -/
def Sep (l : List UInt8) : Prop := l = [32] ∨ l = [9] ∨ l = [10] ∨ l = [32, 35, 32, 110, 10]
theorem gap_sep {p : List UInt8} (h : Sep p) (y : List UInt8) : gap false (p ++ y) = p.length + gap false y := by
  rcases h with rfl | rfl | rfl | rfl
  · simp [gap, blN]
  · simp [gap, blN]
  · simp [gap, blN]
  · simp [gap, blN]
    omega
theorem Sep.head {p : List UInt8} (h : Sep p) : ∃ b m, p = b :: m ∧ blN b.toNat = true := by
  rcases h with rfl | rfl | rfl | rfl <;> exact ⟨_, _, rfl, by decide⟩

def joined : List Tk → List (List UInt8) → List UInt8
  | t :: ts, p :: ps => t.x.data.toList ++ p ++ joined ts ps
  | _, _ => []

theorem gap_pre {q : List UInt8} (h : q = [] ∨ Sep q) (y : List UInt8) : gap false (q ++ y) = q.length + gap false y := by
  rcases h with rfl | h
  · simp
  · exact gap_sep h y

theorem joined_cons (t : Tk) (ts : List Tk) (p : List UInt8) (ps : List (List UInt8)) : joined (t :: ts) (p :: ps) = t.x.data.toList ++ p ++ joined ts ps := rfl

theorem joins_end (good : ByteArray → Bool) (s t : ByteArray) {a : Nat} (ha : a ≤ s.size) (he : eC good s a = 0) (h4 : kd s a = 4) {ts : List Tk} (hal : al good s a = (ts, 0, 0)) {ps : List (List UInt8)} (hlen : ps.length = ts.length) (hps : ∀ p ∈ ps, Sep p)
    {q : List UInt8} (hq : q = [] ∨ Sep q) {a' : Nat} (ha' : a' ≤ t.size) (hsuf : suf t a' = q ++ joined ts ps) : ∃ us, al good t a' = (us, 0, 0) ∧ us.map (fun u => (u.k, u.x)) = ts.map (fun u => (u.k, u.x)) := by
  rw [al_end ha he h4] at hal
  obtain rfl : [tk s a] = ts := congrArg Prod.fst hal
  match ps, hlen with
  | [p], _ =>
    have hp := hps p (by simp)
    have hnil : suf s (pl s a) = [] := kind_end.1 h4
    have hx : (tk s a).x.data.toList = [] := by rw [show (tk s a).x = tx s a from rfl, tx_list, hnil]; exact List.take_nil
    have hj : joined [tk s a] [p] = p ++ [] := by rw [joined_cons, hx]; rfl
    rw [hj] at hsuf
    have hgap : gap false (suf t a') = q.length + p.length := by rw [hsuf, gap_pre hq, gap_sep hp]; simp [gap]
    have hs1 : suf t (pl t a') = [] := by
      unfold pl
      rw [hgap, suf_add, hsuf]
      simp
    have hk : kd t a' = 4 := by unfold kd; rw [hs1]; rfl
    have hec : eC good t a' = 0 := by unfold eC; rw [hk]; simp
    refine ⟨[tk t a'], al_end ha' hec hk, ?_⟩
    have htx : tx t a' = tx s a := by
      apply bytes_ext
      rw [tx_list, tx_list, hs1, hnil, List.take_nil, List.take_nil]
    simp only [List.map_cons, List.map_nil, tk, hk, h4, htx]

theorem joins (good : ByteArray → Bool) (s t : ByteArray) : ∀ (n a : Nat), s.size - a ≤ n → a ≤ s.size → ∀ ts, al good s a = (ts, 0, 0) → ∀ ps : List (List UInt8), ps.length = ts.length → (∀ p ∈ ps, Sep p) →
    ∀ q : List UInt8, (q = [] ∨ Sep q) → ∀ a', a' ≤ t.size → suf t a' = q ++ joined ts ps → ∃ us, al good t a' = (us, 0, 0) ∧ us.map (fun u => (u.k, u.x)) = ts.map (fun u => (u.k, u.x)) := by
  intro n
  induction n with
  | zero =>
    intro a hn ha ts hal ps hlen hps q hq a' ha' hsuf
    have he : eC good s a = 0 := by
      rcases Nat.eq_zero_or_pos (eC good s a) with h | h
      · exact h
      · rw [al_err ha (by omega)] at hal; simp at hal; omega
    by_cases h4 : kd s a = 4
    · exact joins_end good s t ha he h4 hal hlen hps hq ha' hsuf
    · have h1 := to_gt (eC_kd he) h4
      have h2 := to_le ha
      omega
  | succ n ih =>
    intro a hn ha ts hal ps hlen hps q hq a' ha' hsuf
    have he : eC good s a = 0 := by
      rcases Nat.eq_zero_or_pos (eC good s a) with h | h
      · exact h
      · rw [al_err ha (by omega)] at hal; simp at hal; omega
    by_cases h4 : kd s a = 4
    · exact joins_end good s t ha he h4 hal hlen hps hq ha' hsuf
    · have h1 := to_gt (eC_kd he) h4
      have h2 := to_le ha
      have hst := al_step ha he h4
      rw [hst] at hal
      obtain ⟨ts', hts⟩ : ∃ ts', (al good s (to s a)).1 = ts' := ⟨_, rfl⟩
      have hal' : al good s (to s a) = (ts', 0, 0) := by
        rw [← hts]
        exact Prod.ext rfl (show (al good s (to s a)).2 = (0, 0) from congrArg Prod.snd hal)
      have ets : ts = tk s a :: ts' := by rw [← hts]; exact (congrArg Prod.fst hal).symm
      subst ets
      cases ps with
      | nil => simp at hlen
      | cons p ps =>
        obtain ⟨b, m, hp, hb⟩ := (hps p (by simp)).head
        have hx : (tk s a).x.data.toList = (suf s (pl s a)).take (tsize (suf s (pl s a))) := tx_list s a
        have k0 : kind (suf s (pl s a)) ≠ 0 := eC_kd he
        obtain ⟨e1, e2⟩ := keep (suf s (pl s a)) (m ++ joined ts' ps) b hb k0 h4
        have hj : joined (tk s a :: ts') (p :: ps) = (suf s (pl s a)).take (tsize (suf s (pl s a))) ++ b :: (m ++ joined ts' ps) := by
          rw [joined_cons, hx, hp]; simp
        rw [hj] at hsuf
        have hgap : gap false (suf t a') = q.length := by
          rw [hsuf, gap_pre hq, gap_tok (by rw [e1]; exact k0)]; rfl
        have hpl : pl t a' = a' + q.length := by unfold pl; rw [hgap]
        have hs1 : suf t (pl t a') = (suf s (pl s a)).take (tsize (suf s (pl s a))) ++ b :: (m ++ joined ts' ps) := by
          rw [hpl, suf_add, hsuf, List.drop_left]
        have hk : kd t a' = kd s a := by unfold kd; rw [hs1, e1]
        have hz : sz t a' = sz s a := by unfold sz; rw [hs1, e2]
        have hl : ((suf s (pl s a)).take (tsize (suf s (pl s a)))).length = sz s a := by
          rw [List.length_take]; have := tsize_le (suf s (pl s a)); unfold sz; omega
        have htx : tx t a' = tx s a := by
          apply bytes_ext
          rw [tx_list, tx_list, hz, hs1, ← hl, List.take_left, hl]
          rfl
        have hec : eC good t a' = 0 := by unfold eC; rw [hk, htx]; exact he
        have hto : suf t (to t a') = p ++ joined ts' ps := by
          unfold to
          rw [suf_add, hs1, hz, ← hl, List.drop_left, hp]
          rfl
        obtain ⟨us, hu1, hu2⟩ := ih (to s a) (by omega) h2 ts' hal' ps (by simpa using hlen) (fun p' hp' => hps p' (by simp [hp'])) p (Or.inr (hps p (by simp))) (to t a') (to_le ha') hto
        refine ⟨tk t a' :: us, ?_, ?_⟩
        · rw [al_step ha' hec (by rw [hk]; exact h4), hu1]
        · simp only [List.map_cons, hu2]
          simp only [tk, hk, htx]
end Go.Proofs.YtacflahkofmcpaaGreatDoor
