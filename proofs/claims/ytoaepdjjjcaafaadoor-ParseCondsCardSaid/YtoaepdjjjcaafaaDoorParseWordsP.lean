/- Where a word stands as a register, and as a location: what the parser says of it, in plain Lean. -/
import Derived.Test.YtoaepdjjjcaafaaDoorParseAwake
import Derived.Test.YtoaepdjjjcaafaaDoorLexCut
import Derived.Test.YtoaepdjjjcaafaaDoorBytes
namespace Go.Proofs.YtoaepdjjjcaafaaDoor

section
variable (s : ByteArray) (e : Nat × Nat)
theorem isX_err {x : ByteArray} (hx : x.toList ≠ []) : isX s x (.error e) = false := by
  cases h : isX s x (.error e) with
  | false => rfl
  | true => obtain ⟨a, ha⟩ := fl_err s h hx; cases ha
theorem exp_err {x : ByteArray} (hx : x.toList ≠ []) : expS s x (.error e) = .error e := by unfold expS; rw [isX_err s e hx]; rfl
theorem blk_err {α : Type} (f : St → α × St) : (blkP s f (.error e)).2 = .error e := by rw [blk_fl s rfl]
theorem more_err {α : Type} (f : St → α × St) {x : ByteArray} (hx : x.toList ≠ []) : moreP s f x (.error e) = ([], .error e) := more_end s (isX_err s e hx)
theorem cond_err : (condP s (.error e)).2 = .error e := by unfold condP; rw [isX_err s e (ne_nil _ _), isX_err s e (ne_nil _ _)]; rfl
theorem end_err : endS s (.error e) = .error e := by unfold endS; rw [if_neg (by simp [tokK])]; rfl

/-- The first instruction of the first thread is refused: so is the text. -/
theorem first_refused {nm : ByteArray} {a b : Nat} (h1 : hdS s (startS s) = (nm, .ok a)) (h2 : isX s xInit (.ok a) = false) (h3 : isX s xThread (.ok a) = true) (h4 : expS s xOpen (nx s (.ok a)) = .ok b)
    (h5 : isX s xShut (.ok b) = false) (hv : Vd s (.ok a)) (hvb : Vd s (.ok b)) (h6 : (insP s (.ok b)).2 = .error e) (hz : s.size ≤ 4000) : parseP s = (noTest, e.1, e.2) := by
  have hE : ∀ S : St, S = .error e → expS s xSemi S = .error e := by intro S h; subst h; exact exp_err s e (ne_nil _ _)
  have hB : ∀ S : St, S = .error e → (blkP s (insP s) S).2 = .error e := by intro S h; subst h; exact blk_err s e _
  have hM : ∀ S : St, S = .error e → (moreP s (insB s) xThread S).2 = .error e := by intro S h; subst h; rw [more_err s e _ (ne_nil _ _)]
  have hC : ∀ S : St, S = .error e → endS s (expS s xShut (condP s S).2) = .error e := by intro S h; subst h; rw [cond_err, exp_err s e (ne_nil _ _), end_err]
  have hI : (insB s (nx s (.ok a))).2 = .error e := by
    have h7 := congrArg Prod.snd (blk_on s (goes_ins s) hvb rfl h5)
    unfold insB
    rw [h4]
    exact h7.trans (hB _ (hE _ h6))
  have hT : (thrP s (.ok a)).2 = .error e := (congrArg Prod.snd (more_on s (goes_insB s) (ne_nil _ _) hv h3)).trans (hM _ hI)
  have hi : initP s (.ok a) = ([], .ok a) := by unfold initP; rw [h2]; rfl
  have hR : (testP s (startS s)).2 = .error e := by
    have h8 : (thrP s (initP s (hdS s (startS s)).2).2).2 = .error e := by rw [h1]; show (thrP s (initP s (.ok a)).2).2 = _; rw [hi]; exact hT
    simp only [testP]
    exact hC (thrP s (initP s (hdS s (startS s)).2).2).2 h8
  unfold parseP
  rw [if_neg (by omega)]
  unfold endP
  rw [hR]
  rfl
end

/-- A word ahead of a blank. -/
structure Wd (x : List UInt8) : Prop where
  hd : ∃ c r, x = c :: r ∧ letN c.toNat = true ∧ (∀ d ∈ r, wordN d.toNat = true)
theorem runL_words : ∀ (r q : List UInt8), (∀ d ∈ r, wordN d.toNat = true) → runL (r ++ 32 :: q) = r.length
  | [], q, _ => rfl
  | d :: r, q, h => by
    show (if wordN d.toNat then 1 + runL (r ++ 32 :: q) else 0) = _
    rw [if_pos (h d (by simp)), runL_words r q (fun e he => h e (by simp [he]))]
    simp; omega
theorem let_not {c : UInt8} (h : letN c.toNat = true) : c.toNat ≠ 35 ∧ blN c.toNat = false := by
  unfold letN at h; simp at h
  unfold blN; simp; omega

theorem word_at {P x q : List UInt8} (hx : Wd x) (s : ByteArray) (hs : s = ⟨(P ++ 32 :: (x ++ 32 :: q)).toArray⟩) :
    pl s P.length = P.length + 1 ∧ kd s P.length = 1 ∧ tx s P.length = ⟨x.toArray⟩ ∧ eC pB s P.length = 0 := by
  obtain ⟨c, r, rfl, hc, hr⟩ := hx.hd
  have hd : s.data.toList = P ++ 32 :: (c :: r ++ 32 :: q) := by rw [hs]
  have e1 : suf s P.length = 32 :: (c :: r ++ 32 :: q) := by unfold suf; rw [hd]; simp
  have e2 : suf s (P.length + 1) = c :: (r ++ 32 :: q) := by unfold suf; rw [hd]; simp
  obtain ⟨n1, n2⟩ := let_not hc
  have hg : gap false (suf s P.length) = 1 := by
    rw [e1, gap_f, if_neg (by decide), if_pos (by decide)]
    show 1 + gap false (c :: (r ++ 32 :: q)) = 1
    rw [gap_f, if_neg n1, n2]
    rfl
  have hp : pl s P.length = P.length + 1 := by unfold pl; rw [hg]
  have hk : kd s P.length = 1 := by unfold kd; rw [hp, e2, kind_cons, if_pos hc]
  have hz : sz s P.length = 1 + r.length := by
    unfold sz; rw [hp, e2, tsize_cons, if_pos hc, runL_words r q hr]
  refine ⟨hp, hk, ?_, by unfold eC; rw [hk]; rfl⟩
  apply bytes_ext
  rw [tx_list, hp, hz, e2]
  show (c :: (r ++ 32 :: q)).take (1 + r.length) = c :: r
  rw [Nat.add_comm, List.take_succ_cons, List.take_left]

/-! `test a { thread { store x` WORD .. and `test a { thread { r0 = load` WORD .. -/
def txA (x q : List UInt8) : ByteArray := ⟨([116, 101, 115, 116, 32, 97, 32, 123, 32, 116, 104, 114, 101, 97, 100, 32, 123, 32, 115, 116, 111, 114, 101, 32, 120] ++ 32 :: (x ++ 32 :: q)).toArray⟩
def txB (x q : List UInt8) : ByteArray := ⟨([116, 101, 115, 116, 32, 97, 32, 123, 32, 116, 104, 114, 101, 97, 100, 32, 123, 32, 114, 48, 32, 61, 32, 108, 111, 97, 100] ++ 32 :: (x ++ 32 :: q)).toArray⟩
section
variable (x q : List UInt8)
theorem a1 : hdS (txA x q) (startS (txA x q)) = (⟨#[97]⟩, .ok 8) := by kernel_rfl
theorem a2 : isX (txA x q) xInit (.ok 8) = false := by kernel_rfl
theorem a3 : isX (txA x q) xThread (.ok 8) = true := by kernel_rfl
theorem a4 : expS (txA x q) xOpen (nx (txA x q) (.ok 8)) = .ok 17 := by kernel_rfl
theorem a5 : isX (txA x q) xShut (.ok 17) = false := by kernel_rfl
theorem a6 : isX (txA x q) xStore (.ok 17) = true := by kernel_rfl
theorem a7 : (locP (txA x q) (nx (txA x q) (.ok 17))).2 = norm (txA x q) 25 := by kernel_rfl
theorem a8 : eC pB (txA x q) 8 = 0 := by kernel_rfl
theorem a9 : eC pB (txA x q) 17 = 0 := by kernel_rfl
theorem b1 : hdS (txB x q) (startS (txB x q)) = (⟨#[97]⟩, .ok 8) := by kernel_rfl
theorem b2 : isX (txB x q) xInit (.ok 8) = false := by kernel_rfl
theorem b3 : isX (txB x q) xThread (.ok 8) = true := by kernel_rfl
theorem b4 : expS (txB x q) xOpen (nx (txB x q) (.ok 8)) = .ok 17 := by kernel_rfl
theorem b5 : isX (txB x q) xShut (.ok 17) = false := by kernel_rfl
theorem b6 : isX (txB x q) xStore (.ok 17) = false := by kernel_rfl
theorem b6' : isX (txB x q) xFence (.ok 17) = false := by kernel_rfl
theorem b6'' : isX (txB x q) xSkip (.ok 17) = false := by kernel_rfl
theorem b7 : expS (txB x q) xEq (regP (txB x q) (.ok 17)).2 = .ok 22 := by kernel_rfl
theorem b7' : isX (txB x q) xLoad (.ok 22) = true := by kernel_rfl
theorem b7'' : nx (txB x q) (.ok 22) = norm (txB x q) 27 := by kernel_rfl
theorem b8 : eC pB (txB x q) 8 = 0 := by kernel_rfl
theorem b9 : eC pB (txB x q) 17 = 0 := by kernel_rfl
end
theorem named_no (s : ByteArray) (v : Int) {S : St} (h : tokK s S = 1) : namedP s v false S = (0, flS s 7 S) := by
  unfold namedP; rw [if_neg (by decide), if_pos h]

theorem store_refused (s : ByteArray) {b c p : Nat} (h1 : isX s xStore (.ok b) = true) (h2 : (locP s (nx s (.ok b))).2 = .ok c) (hk : tokK s (.ok c) = 1) (hr : regB (tokX s (.ok c)) = false) (hp : pl s c = p) : (insP s (.ok b)).2 = .error (7, p) := by
  unfold insP
  rw [if_pos h1]
  simp only [storeP]
  rw [h2]
  unfold opdP
  rw [if_neg (by rw [hk]; decide)]
  simp only [regP]
  rw [hr, named_no _ _ hk, ← hp]
  rfl
theorem load_refused (s : ByteArray) {b m c p : Nat} (h1 : isX s xStore (.ok b) = false) (h2 : isX s xFence (.ok b) = false) (h3 : isX s xSkip (.ok b) = false) (h4 : expS s xEq (regP s (.ok b)).2 = .ok m) (h5 : isX s xLoad (.ok m) = true) (h6 : nx s (.ok m) = .ok c)
    (hk : tokK s (.ok c) = 1) (hr : locB 1 (tokX s (.ok c)) = false) (hp : pl s c = p) : (insP s (.ok b)).2 = .error (7, p) := by
  unfold insP asgP
  rw [h1, h2, h3, h4, h5, h6]
  simp only [Bool.false_eq_true, if_false, if_true, loadP, locP]
  rw [hk, hr, named_no _ _ hk, ← hp]
  rfl

theorem bad_reg {x q : List UInt8} (hx : Wd x) (hz : (txA x q).size ≤ 4000) (hr : regB ⟨x.toArray⟩ = false) : parseP (txA x q) = (noTest, 7, 26) := by
  obtain ⟨w1, w2, w3, w4⟩ := word_at (P := [116, 101, 115, 116, 32, 97, 32, 123, 32, 116, 104, 114, 101, 97, 100, 32, 123, 32, 115, 116, 111, 114, 101, 32, 120]) hx (txA x q) rfl
  have v1 : 8 ≤ (txA x q).size := by simp [txA, ByteArray.size]
  have v2 : 17 ≤ (txA x q).size := by simp [txA, ByteArray.size]
  have f1 := a1 x q; have f2 := a2 x q; have f3 := a3 x q; have f4 := a4 x q; have f5 := a5 x q; have f6 := a6 x q; have f7 := a7 x q; have f8 := a8 x q; have f9 := a9 x q
  generalize txA x q = s at *
  exact first_refused s (7, 26) f1 f2 f3 f4 f5 ⟨f8, v1⟩ ⟨f9, v2⟩ (store_refused s f6 (f7.trans (norm_ok s w4)) w2 (by show regB (tx s 25) = false; rw [show tx s 25 = _ from w3]; exact hr) w1) hz
theorem bad_loc {x q : List UInt8} (hx : Wd x) (hz : (txB x q).size ≤ 4000) (hr : locB 1 ⟨x.toArray⟩ = false) : parseP (txB x q) = (noTest, 7, 28) := by
  obtain ⟨w1, w2, w3, w4⟩ := word_at (P := [116, 101, 115, 116, 32, 97, 32, 123, 32, 116, 104, 114, 101, 97, 100, 32, 123, 32, 114, 48, 32, 61, 32, 108, 111, 97, 100]) hx (txB x q) rfl
  have v1 : 8 ≤ (txB x q).size := by simp [txB, ByteArray.size]
  have v2 : 17 ≤ (txB x q).size := by simp [txB, ByteArray.size]
  have f1 := b1 x q; have f2 := b2 x q; have f3 := b3 x q; have f4 := b4 x q; have f5 := b5 x q; have f6 := b6 x q; have g6 := b6' x q; have k6 := b6'' x q; have f7 := b7 x q; have g7 := b7' x q; have k7 := b7'' x q; have f8 := b8 x q; have f9 := b9 x q
  generalize txB x q = s at *
  exact first_refused s (7, 28) f1 f2 f3 f4 f5 ⟨f8, v1⟩ ⟨f9, v2⟩ (load_refused s f6 g6 k6 f7 g7 (k7.trans (norm_ok s w4)) w2 (by show locB 1 (tx s 27) = false; rw [show tx s 27 = _ from w3]; exact hr) w1) hz
end Go.Proofs.YtoaepdjjjcaafaaDoor
