/- The tokens of a text in plain Lean, of no program: what stands between tokens, a token's kind and size, the tokens of a whole text. -/
import Derived.IntWalk
namespace Go.Proofs.YtmnpcbcnjnklnaaGreatDoor

/-- Kinds of bytes, by their numbers. -/
def letN (n : Nat) : Bool := decide (97 ≤ n) && decide (n ≤ 122)
def digN (n : Nat) : Bool := decide (48 ≤ n) && decide (n ≤ 57)
def blN (n : Nat) : Bool := n == 32 || n == 9 || n == 10
def oneN (n : Nat) : Bool := n == 123 || n == 125 || n == 59 || n == 58 || n == 61 || n == 43 || n == 45 || n == 42 || n == 38 || n == 124 || n == 94 || n == 60
def pairN (n m : Nat) : Bool := (n == 60 && m == 60) || (n == 62 && m == 62) || (n == 61 && m == 61) || (n == 33 && m == 61)
def wordN (n : Nat) : Bool := letN n || digN n

/-- The first byte's number, 0 where there is none. -/
def hd (l : List UInt8) : Nat := (l.headD 0).toNat

/-- How many bytes stand ahead of the next token; note: within a comment. -/
def gap : Bool → List UInt8 → Nat
  | _, [] => 0
  | true, c :: r => 1 + gap (c.toNat != 10) r
  | false, c :: r => if c.toNat = 35 then 1 + gap true r else if blN c.toNat then 1 + gap false r else 0

theorem gap_t (c : UInt8) (r : List UInt8) : gap true (c :: r) = 1 + gap (c.toNat != 10) r := rfl
theorem gap_f (c : UInt8) (r : List UInt8) : gap false (c :: r) = if c.toNat = 35 then 1 + gap true r else if blN c.toNat then 1 + gap false r else 0 := rfl

/-- How many letters and digits. -/
def runL : List UInt8 → Nat
  | [] => 0
  | c :: r => if wordN c.toNat then 1 + runL r else 0

/-- The kind of the token that begins here: 0 where none does. -/
def kind : List UInt8 → Nat
  | [] => 4
  | c :: r => if letN c.toNat then 1 else if digN c.toNat then 2 else if c.toNat == 45 && digN (hd r) then 2
    else if pairN c.toNat (hd r) then 3 else if oneN c.toNat then 3 else 0
def tsize : List UInt8 → Nat
  | [] => 0
  | c :: r => if letN c.toNat then 1 + runL r else if digN c.toNat then 1 + runL r else if c.toNat == 45 && digN (hd r) then 1 + runL r
    else if pairN c.toNat (hd r) then 2 else if oneN c.toNat then 1 else 0

theorem gap_le : ∀ (b : Bool) (l : List UInt8), gap b l ≤ l.length
  | b, [] => by cases b <;> simp [gap]
  | true, c :: r => by have := gap_le (c.toNat != 10) r; simp [gap]; omega
  | false, c :: r => by
    have h1 := gap_le true r
    have h2 := gap_le false r
    simp only [gap, List.length_cons]
    split
    · omega
    · split <;> omega

theorem runL_le : ∀ l : List UInt8, runL l ≤ l.length
  | [] => by simp [runL]
  | c :: r => by have := runL_le r; simp only [runL, List.length_cons]; split <;> omega

theorem hd_nil : hd [] = 0 := rfl
theorem hd_cons (c : UInt8) (r : List UInt8) : hd (c :: r) = c.toNat := rfl

theorem tsize_le : ∀ l : List UInt8, tsize l ≤ l.length
  | [] => by simp [tsize]
  | c :: r => by
    have h1 := runL_le r
    simp only [tsize, List.length_cons]
    split
    · omega
    · split
      · omega
      · split
        · omega
        · split
          · rename_i h
            cases r with
            | nil => simp [pairN, hd] at h
            | cons d r => simp
          · split <;> omega

theorem kind_end {l : List UInt8} : kind l = 4 ↔ l = [] := by
  cases l with
  | nil => simp [kind]
  | cons c r =>
    simp only [kind, reduceCtorEq, iff_false]
    repeat' split
    all_goals simp

theorem tsize_pos {l : List UInt8} (h0 : kind l ≠ 0) (h4 : kind l ≠ 4) : 1 ≤ tsize l := by
  cases l with
  | nil => simp [kind] at h4
  | cons c r =>
    simp only [kind, tsize] at *
    split
    · omega
    · split
      · omega
      · split
        · omega
        · split
          · omega
          · split
            · omega
            · simp_all

/-- A token: its kind, its text, its place. -/
structure Tk where
  k : Nat
  x : ByteArray
  p : Nat

/-- The bytes of s from a on. -/
def suf (s : ByteArray) (a : Nat) : List UInt8 := s.data.toList.drop a
/-- The place of the next token from a on; its kind; its size; its text. -/
def pl (s : ByteArray) (a : Nat) : Nat := a + gap false (suf s a)
def kd (s : ByteArray) (a : Nat) : Nat := kind (suf s (pl s a))
def sz (s : ByteArray) (a : Nat) : Nat := tsize (suf s (pl s a))
def tx (s : ByteArray) (a : Nat) : ByteArray := s.extract (pl s a) (pl s a + sz s a)
def tk (s : ByteArray) (a : Nat) : Tk := ⟨kd s a, tx s a, pl s a⟩
def to (s : ByteArray) (a : Nat) : Nat := pl s a + sz s a

theorem suf_length (s : ByteArray) (a : Nat) : (suf s a).length = s.size - a := by
  unfold suf; rw [List.length_drop]; rfl
theorem pl_ge (s : ByteArray) (a : Nat) : a ≤ pl s a := by unfold pl; omega
theorem pl_le {s : ByteArray} {a : Nat} (h : a ≤ s.size) : pl s a ≤ s.size := by
  have := gap_le false (suf s a); rw [suf_length] at this; unfold pl; omega
theorem to_le {s : ByteArray} {a : Nat} (h : a ≤ s.size) : to s a ≤ s.size := by
  have h1 := tsize_le (suf s (pl s a)); rw [suf_length] at h1
  have h2 := pl_le h
  unfold to sz; omega
theorem to_ge (s : ByteArray) (a : Nat) : a ≤ to s a := by have := pl_ge s a; unfold to; omega
theorem to_gt {s : ByteArray} {a : Nat} (h0 : kd s a ≠ 0) (h4 : kd s a ≠ 4) : a < to s a := by
  have h1 := pl_ge s a
  have h2 : 1 ≤ sz s a := tsize_pos h0 h4
  unfold to; omega

theorem suf_lt {s : ByteArray} {a : Nat} (h : a < s.size) : suf s a = s[a] :: suf s (a + 1) := by
  unfold suf
  have h' : a < s.data.toList.length := h
  rw [List.drop_eq_getElem_cons h']
  rfl
theorem suf_ge {s : ByteArray} {a : Nat} (h : s.size ≤ a) : suf s a = [] := List.drop_eq_nil_of_le h

/-- The number of the byte at i, 0 behind the end. -/
def bN (s : ByteArray) (i : Nat) : Nat := hd (suf s i)
theorem bN_lt {s : ByteArray} {i : Nat} (h : i < s.size) : bN s i = (s[i]).toNat := by unfold bN; rw [suf_lt h]; rfl
theorem bN_ge {s : ByteArray} {i : Nat} (h : s.size ≤ i) : bN s i = 0 := by unfold bN; rw [suf_ge h]; rfl
theorem bN_255 (s : ByteArray) (i : Nat) : bN s i ≤ 255 := by
  unfold bN hd
  generalize (suf s i).headD 0 = c
  have := UInt8.toNat_lt c
  omega

/-- The error that stands at a's next token, 0 where none does; good: which texts are numbers. -/
def eC (good : ByteArray → Bool) (s : ByteArray) (a : Nat) : Nat := if kd s a = 0 then 4 else if kd s a = 2 ∧ good (tx s a) = false then 5 else 0

/-- The tokens from a on up to the end or the first error, and the error (0, 0: none). -/
def toks (good : ByteArray → Bool) (s : ByteArray) : Nat → Nat → List Tk × Nat × Nat
  | 0, _ => ([], 0, 0)
  | n + 1, a =>
    if eC good s a ≠ 0 then ([], eC good s a, pl s a)
    else if kd s a = 4 then ([tk s a], 0, 0)
    else (tk s a :: (toks good s n (to s a)).1, (toks good s n (to s a)).2)

theorem eC_kd {good : ByteArray → Bool} {s : ByteArray} {a : Nat} (h : eC good s a = 0) : kd s a ≠ 0 := by
  intro k; simp [eC, k] at h

theorem toks_fuel (good : ByteArray → Bool) (s : ByteArray) : ∀ (n m a : Nat), a ≤ s.size → s.size + 1 - a ≤ n → s.size + 1 - a ≤ m → toks good s n a = toks good s m a
  | 0, _, a, h, hn, _ => by omega
  | _ + 1, 0, a, h, _, hm => by omega
  | n + 1, m + 1, a, h, hn, hm => by
    unfold toks
    by_cases he : eC good s a ≠ 0
    · rw [if_pos he, if_pos he]
    · rw [if_neg he, if_neg he]
      by_cases h4 : kd s a = 4
      · rw [if_pos h4, if_pos h4]
      · rw [if_neg h4, if_neg h4]
        have hg := to_gt (eC_kd (good := good) (by omega)) h4
        rw [toks_fuel good s n m (to s a) (to_le h) (by omega) (by omega)]

/-- .. with as much fuel as it takes. -/
def al (good : ByteArray → Bool) (s : ByteArray) (a : Nat) : List Tk × Nat × Nat := toks good s (s.size + 1 - a) a

theorem al_err {good : ByteArray → Bool} {s : ByteArray} {a : Nat} (h : a ≤ s.size) (he : eC good s a ≠ 0) : al good s a = ([], eC good s a, pl s a) := by
  unfold al
  rw [show s.size + 1 - a = (s.size - a) + 1 by omega]
  unfold toks
  rw [if_pos he]
theorem al_end {good : ByteArray → Bool} {s : ByteArray} {a : Nat} (h : a ≤ s.size) (he : eC good s a = 0) (h4 : kd s a = 4) : al good s a = ([tk s a], 0, 0) := by
  unfold al
  rw [show s.size + 1 - a = (s.size - a) + 1 by omega]
  unfold toks
  rw [if_neg (by omega), if_pos h4]
theorem al_step {good : ByteArray → Bool} {s : ByteArray} {a : Nat} (h : a ≤ s.size) (he : eC good s a = 0) (h4 : kd s a ≠ 4) :
    al good s a = (tk s a :: (al good s (to s a)).1, (al good s (to s a)).2) := by
  have hg := to_gt (eC_kd he) h4
  have ht := to_le h
  unfold al
  rw [show s.size + 1 - a = (s.size - a) + 1 by omega]
  conv => lhs; unfold toks
  rw [if_neg (by omega), if_neg h4, toks_fuel good s (s.size - a) (s.size + 1 - to s a) (to s a) ht (by omega) (by omega)]

/-! Steps of the loops, by places. -/
theorem gap_hash {s : ByteArray} {a : Nat} (h : a < s.size) (hc : bN s a = 35) : gap false (suf s a) = gap true (suf s a) := by
  rw [bN_lt h] at hc
  rw [suf_lt h, gap_t, gap_f, hc]
  rfl
theorem gap_note {s : ByteArray} {a : Nat} (h : a < s.size) (hc : bN s a ≠ 10) : gap true (suf s a) = 1 + gap true (suf s (a + 1)) := by
  rw [bN_lt h] at hc
  have e : ((s[a]).toNat != 10) = true := by simpa using hc
  rw [suf_lt h, gap_t, e]
theorem gap_line {s : ByteArray} {a : Nat} (h : a < s.size) (hc : bN s a = 10) : gap true (suf s a) = gap false (suf s a) := by
  rw [bN_lt h] at hc
  rw [suf_lt h, gap_t, gap_f, hc]
  rfl
theorem gap_blank {s : ByteArray} {a : Nat} (h : a < s.size) (hn : bN s a ≠ 35) (hb : blN (bN s a) = true) : gap false (suf s a) = 1 + gap false (suf s (a + 1)) := by
  rw [bN_lt h] at hn hb
  rw [suf_lt h]
  simp [gap, hn, hb]
theorem gap_stop {s : ByteArray} {a : Nat} (h : a < s.size) (hn : bN s a ≠ 35) (hb : blN (bN s a) = false) : gap false (suf s a) = 0 := by
  rw [bN_lt h] at hn hb
  rw [suf_lt h]
  simp [gap, hn, hb]
theorem gap_over {s : ByteArray} {a : Nat} (b : Bool) (h : s.size ≤ a) : gap b (suf s a) = 0 := by
  rw [suf_ge h]; cases b <;> rfl
theorem run_on {s : ByteArray} {a : Nat} (hw : wordN (bN s a) = true) : runL (suf s a) = 1 + runL (suf s (a + 1)) := by
  rcases Nat.lt_or_ge a s.size with h | h
  · rw [bN_lt h] at hw
    rw [suf_lt h]
    simp [runL, hw]
  · rw [bN_ge h] at hw
    simp [wordN, letN, digN] at hw
theorem run_off {s : ByteArray} {a : Nat} (hw : wordN (bN s a) = false) : runL (suf s a) = 0 := by
  rcases Nat.lt_or_ge a s.size with h | h
  · rw [bN_lt h] at hw
    rw [suf_lt h]
    simp [runL, hw]
  · rw [suf_ge h]; rfl
theorem run_le (s : ByteArray) {a : Nat} (h : a ≤ s.size) : a + runL (suf s a) ≤ s.size := by
  have := runL_le (suf s a); rw [suf_length] at this; omega

theorem kind_at {s : ByteArray} {p : Nat} (h : p < s.size) : kind (suf s p) = if letN (bN s p) then 1 else if digN (bN s p) then 2 else if bN s p == 45 && digN (bN s (p + 1)) then 2
    else if pairN (bN s p) (bN s (p + 1)) then 3 else if oneN (bN s p) then 3 else 0 := by
  rw [bN_lt h, suf_lt h]; rfl
theorem tsize_at {s : ByteArray} {p : Nat} (h : p < s.size) : tsize (suf s p) = if letN (bN s p) then 1 + runL (suf s (p + 1)) else if digN (bN s p) then 1 + runL (suf s (p + 1)) else if bN s p == 45 && digN (bN s (p + 1)) then 1 + runL (suf s (p + 1))
    else if pairN (bN s p) (bN s (p + 1)) then 2 else if oneN (bN s p) then 1 else 0 := by
  rw [bN_lt h, suf_lt h]; rfl
end Go.Proofs.YtmnpcbcnjnklnaaGreatDoor
