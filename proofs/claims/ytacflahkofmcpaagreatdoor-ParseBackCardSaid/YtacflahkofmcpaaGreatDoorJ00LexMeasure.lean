/- The tokens of a text in plain Lean, of no program: what stands between tokens, a token's kind and size, the tokens of a whole text. -/
import Derived.IntWalk
import Derived.Test.YtacflahkofmcpaaGreatDoorProg
import Derived.WalkKit
import Derived.WalkSpells
import Derived.WalkLawsBesides
import Derived.WalkSmall
import Derived.Maps.AppendAt
import Derived.Deep.LoopGhost
namespace Go.Proofs.YtacflahkofmcpaaGreatDoor

/-- Kinds of bytes, by their numbers. -/
def letN (n : Nat) : Bool := decide (97 ≤ n) && decide (n ≤ 122)
def digN (n : Nat) : Bool := decide (48 ≤ n) && decide (n ≤ 57)
def blN (n : Nat) : Bool := n == 32 || n == 9 || n == 10
def oneN (n : Nat) : Bool := n == 123 || n == 125 || n == 59 || n == 58 || n == 61 || n == 43 || n == 45 || n == 42 || n == 38 || n == 124 || n == 94 || n == 60
def pairN (n m : Nat) : Bool := (n == 60 && m == 60) || (n == 62 && m == 62) || (n == 61 && m == 61) || (n == 33 && m == 61)
def wordN (n : Nat) : Bool := letN n || digN n

/-- The first byte's number, 0 where there is none. -/
def hd (l : List UInt8) : Nat := (l.headD 0).toNat

/-- How many bytes stand ahead of the next token; note: within a comment. -/
def gap : Bool → List UInt8 → Nat
  | _, [] => 0
  | true, c :: r => 1 + gap (c.toNat != 10) r
  | false, c :: r => if c.toNat = 35 then 1 + gap true r else if blN c.toNat then 1 + gap false r else 0

theorem gap_t (c : UInt8) (r : List UInt8) : gap true (c :: r) = 1 + gap (c.toNat != 10) r := rfl
theorem gap_f (c : UInt8) (r : List UInt8) : gap false (c :: r) = if c.toNat = 35 then 1 + gap true r else if blN c.toNat then 1 + gap false r else 0 := rfl

/-- How many letters and digits. -/
def runL : List UInt8 → Nat
  | [] => 0
  | c :: r => if wordN c.toNat then 1 + runL r else 0

/-- The kind of the token that begins here: 0 where none does. -/
def kind : List UInt8 → Nat
  | [] => 4
  | c :: r => if letN c.toNat then 1 else if digN c.toNat then 2 else if c.toNat == 45 && digN (hd r) then 2
    else if pairN c.toNat (hd r) then 3 else if oneN c.toNat then 3 else 0
def tsize : List UInt8 → Nat
  | [] => 0
  | c :: r => if letN c.toNat then 1 + runL r else if digN c.toNat then 1 + runL r else if c.toNat == 45 && digN (hd r) then 1 + runL r
    else if pairN c.toNat (hd r) then 2 else if oneN c.toNat then 1 else 0

theorem gap_le : ∀ (b : Bool) (l : List UInt8), gap b l ≤ l.length
  | b, [] => by cases b <;> simp [gap]
  | true, c :: r => by have := gap_le (c.toNat != 10) r; simp [gap]; omega
  | false, c :: r => by
    have h1 := gap_le true r
    have h2 := gap_le false r
    simp only [gap, List.length_cons]
    split
    · omega
    · split <;> omega

theorem runL_le : ∀ l : List UInt8, runL l ≤ l.length
  | [] => by simp [runL]
  | c :: r => by have := runL_le r; simp only [runL, List.length_cons]; split <;> omega

theorem hd_nil : hd [] = 0 := rfl
theorem hd_cons (c : UInt8) (r : List UInt8) : hd (c :: r) = c.toNat := rfl

theorem tsize_le : ∀ l : List UInt8, tsize l ≤ l.length
  | [] => by simp [tsize]
  | c :: r => by
    have h1 := runL_le r
    simp only [tsize, List.length_cons]
    split
    · omega
    · split
      · omega
      · split
        · omega
        · split
          · rename_i h
            cases r with
            | nil => simp [pairN, hd] at h
            | cons d r => simp
          · split <;> omega

theorem kind_end {l : List UInt8} : kind l = 4 ↔ l = [] := by
  cases l with
  | nil => simp [kind]
  | cons c r =>
    simp only [kind, reduceCtorEq, iff_false]
    repeat' split
    all_goals simp

theorem tsize_pos {l : List UInt8} (h0 : kind l ≠ 0) (h4 : kind l ≠ 4) : 1 ≤ tsize l := by
  cases l with
  | nil => simp [kind] at h4
  | cons c r =>
    simp only [kind, tsize] at *
    split
    · omega
    · split
      · omega
      · split
        · omega
        · split
          · omega
          · split
            · omega
            · simp_all

/-- A token: its kind, its text, its place. -/
structure Tk where
  k : Nat
  x : ByteArray
  p : Nat

/-- The bytes of s from a on. -/
def suf (s : ByteArray) (a : Nat) : List UInt8 := s.data.toList.drop a
/-- The place of the next token from a on; its kind; its size; its text. -/
def pl (s : ByteArray) (a : Nat) : Nat := a + gap false (suf s a)
def kd (s : ByteArray) (a : Nat) : Nat := kind (suf s (pl s a))
def sz (s : ByteArray) (a : Nat) : Nat := tsize (suf s (pl s a))
def tx (s : ByteArray) (a : Nat) : ByteArray := s.extract (pl s a) (pl s a + sz s a)
def tk (s : ByteArray) (a : Nat) : Tk := ⟨kd s a, tx s a, pl s a⟩
def to (s : ByteArray) (a : Nat) : Nat := pl s a + sz s a

theorem suf_length (s : ByteArray) (a : Nat) : (suf s a).length = s.size - a := by
  unfold suf; rw [List.length_drop]; rfl
theorem pl_ge (s : ByteArray) (a : Nat) : a ≤ pl s a := by unfold pl; omega
theorem pl_le {s : ByteArray} {a : Nat} (h : a ≤ s.size) : pl s a ≤ s.size := by
  have := gap_le false (suf s a); rw [suf_length] at this; unfold pl; omega
theorem to_le {s : ByteArray} {a : Nat} (h : a ≤ s.size) : to s a ≤ s.size := by
  have h1 := tsize_le (suf s (pl s a)); rw [suf_length] at h1
  have h2 := pl_le h
  unfold to sz; omega
theorem to_ge (s : ByteArray) (a : Nat) : a ≤ to s a := by have := pl_ge s a; unfold to; omega
theorem to_gt {s : ByteArray} {a : Nat} (h0 : kd s a ≠ 0) (h4 : kd s a ≠ 4) : a < to s a := by
  have h1 := pl_ge s a
  have h2 : 1 ≤ sz s a := tsize_pos h0 h4
  unfold to; omega

theorem suf_lt {s : ByteArray} {a : Nat} (h : a < s.size) : suf s a = s[a] :: suf s (a + 1) := by
  unfold suf
  have h' : a < s.data.toList.length := h
  rw [List.drop_eq_getElem_cons h']
  rfl
theorem suf_ge {s : ByteArray} {a : Nat} (h : s.size ≤ a) : suf s a = [] := List.drop_eq_nil_of_le h

/-- The number of the byte at i, 0 behind the end. -/
def bN (s : ByteArray) (i : Nat) : Nat := hd (suf s i)
theorem bN_lt {s : ByteArray} {i : Nat} (h : i < s.size) : bN s i = (s[i]).toNat := by unfold bN; rw [suf_lt h]; rfl
theorem bN_ge {s : ByteArray} {i : Nat} (h : s.size ≤ i) : bN s i = 0 := by unfold bN; rw [suf_ge h]; rfl
theorem bN_255 (s : ByteArray) (i : Nat) : bN s i ≤ 255 := by
  unfold bN hd
  generalize (suf s i).headD 0 = c
  have := UInt8.toNat_lt c
  omega

/-- The error that stands at a's next token, 0 where none does; good: which texts are numbers. -/
def eC (good : ByteArray → Bool) (s : ByteArray) (a : Nat) : Nat := if kd s a = 0 then 4 else if kd s a = 2 ∧ good (tx s a) = false then 5 else 0

/-- The tokens from a on up to the end or the first error, and the error (0, 0: none). -/
def toks (good : ByteArray → Bool) (s : ByteArray) : Nat → Nat → List Tk × Nat × Nat
  | 0, _ => ([], 0, 0)
  | n + 1, a =>
    if eC good s a ≠ 0 then ([], eC good s a, pl s a)
    else if kd s a = 4 then ([tk s a], 0, 0)
    else (tk s a :: (toks good s n (to s a)).1, (toks good s n (to s a)).2)

theorem eC_kd {good : ByteArray → Bool} {s : ByteArray} {a : Nat} (h : eC good s a = 0) : kd s a ≠ 0 := by
  intro k; simp [eC, k] at h

theorem toks_fuel (good : ByteArray → Bool) (s : ByteArray) : ∀ (n m a : Nat), a ≤ s.size → s.size + 1 - a ≤ n → s.size + 1 - a ≤ m → toks good s n a = toks good s m a
  | 0, _, a, h, hn, _ => by omega
  | _ + 1, 0, a, h, _, hm => by omega
  | n + 1, m + 1, a, h, hn, hm => by
    unfold toks
    by_cases he : eC good s a ≠ 0
    · rw [if_pos he, if_pos he]
    · rw [if_neg he, if_neg he]
      by_cases h4 : kd s a = 4
      · rw [if_pos h4, if_pos h4]
      · rw [if_neg h4, if_neg h4]
        have hg := to_gt (eC_kd (good := good) (by omega)) h4
        rw [toks_fuel good s n m (to s a) (to_le h) (by omega) (by omega)]

/-- .. with as much fuel as it takes. -/
def al (good : ByteArray → Bool) (s : ByteArray) (a : Nat) : List Tk × Nat × Nat := toks good s (s.size + 1 - a) a

theorem al_err {good : ByteArray → Bool} {s : ByteArray} {a : Nat} (h : a ≤ s.size) (he : eC good s a ≠ 0) : al good s a = ([], eC good s a, pl s a) := by
  unfold al
  rw [show s.size + 1 - a = (s.size - a) + 1 by omega]
  unfold toks
  rw [if_pos he]
theorem al_end {good : ByteArray → Bool} {s : ByteArray} {a : Nat} (h : a ≤ s.size) (he : eC good s a = 0) (h4 : kd s a = 4) : al good s a = ([tk s a], 0, 0) := by
  unfold al
  rw [show s.size + 1 - a = (s.size - a) + 1 by omega]
  unfold toks
  rw [if_neg (by omega), if_pos h4]
theorem al_step {good : ByteArray → Bool} {s : ByteArray} {a : Nat} (h : a ≤ s.size) (he : eC good s a = 0) (h4 : kd s a ≠ 4) :
    al good s a = (tk s a :: (al good s (to s a)).1, (al good s (to s a)).2) := by
  have hg := to_gt (eC_kd he) h4
  have ht := to_le h
  unfold al
  rw [show s.size + 1 - a = (s.size - a) + 1 by omega]
  conv => lhs; unfold toks
  rw [if_neg (by omega), if_neg h4, toks_fuel good s (s.size - a) (s.size + 1 - to s a) (to s a) ht (by omega) (by omega)]

/-! Steps of the loops, by places. -/
theorem gap_hash {s : ByteArray} {a : Nat} (h : a < s.size) (hc : bN s a = 35) : gap false (suf s a) = gap true (suf s a) := by
  rw [bN_lt h] at hc
  rw [suf_lt h, gap_t, gap_f, hc]
  rfl
theorem gap_note {s : ByteArray} {a : Nat} (h : a < s.size) (hc : bN s a ≠ 10) : gap true (suf s a) = 1 + gap true (suf s (a + 1)) := by
  rw [bN_lt h] at hc
  have e : ((s[a]).toNat != 10) = true := by simpa using hc
  rw [suf_lt h, gap_t, e]
theorem gap_line {s : ByteArray} {a : Nat} (h : a < s.size) (hc : bN s a = 10) : gap true (suf s a) = gap false (suf s a) := by
  rw [bN_lt h] at hc
  rw [suf_lt h, gap_t, gap_f, hc]
  rfl
theorem gap_blank {s : ByteArray} {a : Nat} (h : a < s.size) (hn : bN s a ≠ 35) (hb : blN (bN s a) = true) : gap false (suf s a) = 1 + gap false (suf s (a + 1)) := by
  rw [bN_lt h] at hn hb
  rw [suf_lt h]
  simp [gap, hn, hb]
theorem gap_stop {s : ByteArray} {a : Nat} (h : a < s.size) (hn : bN s a ≠ 35) (hb : blN (bN s a) = false) : gap false (suf s a) = 0 := by
  rw [bN_lt h] at hn hb
  rw [suf_lt h]
  simp [gap, hn, hb]
theorem gap_over {s : ByteArray} {a : Nat} (b : Bool) (h : s.size ≤ a) : gap b (suf s a) = 0 := by
  rw [suf_ge h]; cases b <;> rfl
theorem run_on {s : ByteArray} {a : Nat} (hw : wordN (bN s a) = true) : runL (suf s a) = 1 + runL (suf s (a + 1)) := by
  rcases Nat.lt_or_ge a s.size with h | h
  · rw [bN_lt h] at hw
    rw [suf_lt h]
    simp [runL, hw]
  · rw [bN_ge h] at hw
    simp [wordN, letN, digN] at hw
theorem run_off {s : ByteArray} {a : Nat} (hw : wordN (bN s a) = false) : runL (suf s a) = 0 := by
  rcases Nat.lt_or_ge a s.size with h | h
  · rw [bN_lt h] at hw
    rw [suf_lt h]
    simp [runL, hw]
  · rw [suf_ge h]; rfl
theorem run_le (s : ByteArray) {a : Nat} (h : a ≤ s.size) : a + runL (suf s a) ≤ s.size := by
  have := runL_le (suf s a); rw [suf_length] at this; omega

theorem kind_at {s : ByteArray} {p : Nat} (h : p < s.size) : kind (suf s p) = if letN (bN s p) then 1 else if digN (bN s p) then 2 else if bN s p == 45 && digN (bN s (p + 1)) then 2
    else if pairN (bN s p) (bN s (p + 1)) then 3 else if oneN (bN s p) then 3 else 0 := by
  rw [bN_lt h, suf_lt h]; rfl
theorem tsize_at {s : ByteArray} {p : Nat} (h : p < s.size) : tsize (suf s p) = if letN (bN s p) then 1 + runL (suf s (p + 1)) else if digN (bN s p) then 1 + runL (suf s (p + 1)) else if bN s p == 45 && digN (bN s (p + 1)) then 1 + runL (suf s (p + 1))
    else if pairN (bN s p) (bN s (p + 1)) then 2 else if oneN (bN s p) then 1 else 0 := by
  rw [bN_lt h, suf_lt h]; rfl
end Go.Proofs.YtacflahkofmcpaaGreatDoor

namespace Go.Proofs.YtacflahkofmcpaaGreatDoor
open Go.RowKit

/-- Block b holds a lexer: its text, its place, how far it has read. -/
structure Lx (w : World) (b : Nat) (s : ByteArray) (a r : Nat) : Prop where
  blk : ∃ T, w.heap[b]? = some (.cells #[.string s, .int .i64 a, .int .i64 r] T (0, 0))

variable {w w' : World} {b : Nat} {s : ByteArray} {a r : Nat}

theorem Lx.c0 (h : Lx w b s a r) : w.cell? ⟨b, 0, none⟩ = some (.string s) := by obtain ⟨T, h⟩ := h.blk; simp [World.cell?, h]
theorem Lx.c1 (h : Lx w b s a r) : w.cell? ⟨b, 1, none⟩ = some (.int .i64 a) := by obtain ⟨T, h⟩ := h.blk; simp [World.cell?, h]
theorem Lx.c2 (h : Lx w b s a r) : w.cell? ⟨b, 2, none⟩ = some (.int .i64 r) := by obtain ⟨T, h⟩ := h.blk; simp [World.cell?, h]
theorem Lx.f0 (h : Lx w b s a r) : w.frozen? ⟨b, 0, none⟩ = false := by obtain ⟨T, h⟩ := h.blk; simp [World.frozen?, h]
theorem Lx.f1 (h : Lx w b s a r) : w.frozen? ⟨b, 1, none⟩ = false := by obtain ⟨T, h⟩ := h.blk; simp [World.frozen?, h]
theorem Lx.f2 (h : Lx w b s a r) : w.frozen? ⟨b, 2, none⟩ = false := by obtain ⟨T, h⟩ := h.blk; simp [World.frozen?, h]
theorem Lx.lt (h : Lx w b s a r) : b < w.heap.size := by obtain ⟨T, h⟩ := h.blk; exact lt_of_block h
theorem Lx.drew (h : Lx w b s a r) : Lx w.drew b s a r := ⟨h.blk⟩

theorem heap_set {w : World} {b i : Nat} {cs : Array Value} {T : TypeId} {u : Value} (h : w.heap[b]? = some (.cells cs T (0, 0))) : (w.setCell ⟨b, i, none⟩ u).heap[b]? = some (.cells (cs.setIfInBounds i u) T (0, 0)) := by
  have hlt := lt_of_block h
  have h' : w.heap[b] = .cells cs T (0, 0) := by simpa [Array.getElem?_eq_getElem hlt] using h
  show (w.heap.modify b _)[b]? = _
  rw [Array.getElem?_eq_getElem (by simpa using hlt), Array.getElem_modify_self, h']
  rfl
theorem Lx.set1 (h : Lx w b s a r) (x : Nat) : Lx (w.setCell ⟨b, 1, none⟩ (.int .i64 x)) b s x r := by obtain ⟨T, h⟩ := h.blk; exact ⟨T, heap_set h⟩
theorem Lx.set2 (h : Lx w b s a r) (x : Nat) : Lx (w.setCell ⟨b, 2, none⟩ (.int .i64 x)) b s a x := by obtain ⟨T, h⟩ := h.blk; exact ⟨T, heap_set h⟩

theorem Lx.to1 (h : Lx w b s a r) {x : Int} {n : Nat} (e : x = n) : Lx (w.setCell ⟨b, 1, none⟩ (.int .i64 x)) b s n r := by subst e; exact h.set1 n
theorem Lx.to2 (h : Lx w b s a r) {x : Int} {n : Nat} (e : x = n) : Lx (w.setCell ⟨b, 2, none⟩ (.int .i64 x)) b s a n := by subst e; exact h.set2 n

/-- Only block b is written; new blocks may be. -/
def Wr (b : Nat) (w w' : World) : Prop := w.grownBy w' (some b)
theorem Wr.refl (b : Nat) (w : World) : Wr b w w := World.grownBy.refl _ _
theorem Wr.trans {b : Nat} {x y z : World} (h : Wr b x y) (k : Wr b y z) : Wr b x z := World.grownBy.trans h k
theorem Wr.drew {b : Nat} {x y : World} (h : Wr b x y) : Wr b x y.drew := ⟨h.os, h.tape, h.output, h.size, h.block⟩
theorem Wr.set {b i : Nat} {x y : World} (h : Wr b x y) (u : Value) : Wr b x (y.setCell ⟨b, i, none⟩ u) :=
  h.trans ⟨rfl, rfl, rfl, by simp [World.setCell], fun k _ hne => Below.heap_setCell _ _ _ _ (fun e => hne (by rw [e]))⟩

/-- Kinds of bytes. -/
def hasB (set c : Int) : Bool := bits .and .u64 (set / 2 ^ min c.toNat 64) 1 == 1
theorem has_is (set c : Int) (hc : 0 ≤ c) (w : World) :
    Calls Tryz.prog 169 #[.int .u64 set, .int .u8 c] w fun e w' => e = .returned (.bool (hasB set c)) ∧ w' = w := by
  go_enter Tryz.func169, Tryz.ntmps169
  go_wp2
  go_ret
  exact ⟨rfl, rfl⟩
theorem hasHigh_is (set c : Int) (w : World) :
    Calls Tryz.prog 180 #[.int .u64 set, .int .u8 c] w fun e w' => e = .returned (.bool (hasB set (IntKind.u8.wrap (c - 64)))) ∧ w' = w := by
  have h0 := wrap_u8_nonneg (c - 64)
  go_enter Tryz.func180, Tryz.ntmps180
  go_wp2_with (go_at_call 169; refine (has_is _ _ (by assumption) _).mono ?_; rintro e w' ⟨rfl, rfl⟩)
  go_ret
  exact ⟨rfl, rfl⟩

theorem dig_all : ∀ c : Fin 256, hasB 287948901175001088 (c.val : Int) = digN c.val := by decide +kernel
theorem let_all : ∀ c : Fin 256, hasB 576460743713488896 (IntKind.u8.wrap ((c.val : Int) - 64)) = letN c.val := by decide +kernel
theorem one_all : ∀ c : Fin 256, (hasB 4323504295665205248 (c.val : Int) || hasB 4035225267197706240 (IntKind.u8.wrap ((c.val : Int) - 64))) = oneN c.val := by decide +kernel
theorem bl_all : ∀ c : Fin 256, hasB 4294968832 (c.val : Int) = blN c.val := by decide +kernel

theorem isDigit_is (c : Nat) (hc : c ≤ 255) (w : World) :
    Calls Tryz.prog 172 #[.int .u8 c] w fun e w' => e = .returned (.bool (digN c)) ∧ w' = w := by
  have e : hasB 287948901175001088 (c : Int) = digN c := dig_all ⟨c, by omega⟩
  have hP := has_is 287948901175001088 (c : Int) (by omega) w
  rw [e] at hP
  clear e
  go_enter Tryz.func172, Tryz.ntmps172
  go_wp2_with (go_at_call 169; refine hP.mono ?_; rintro e w' ⟨rfl, rfl⟩)
  go_ret
  exact ⟨rfl, rfl⟩
theorem isLetter_is (c : Nat) (hc : c ≤ 255) (w : World) :
    Calls Tryz.prog 170 #[.int .u8 c] w fun e w' => e = .returned (.bool (letN c)) ∧ w' = w := by
  have e : hasB 576460743713488896 (IntKind.u8.wrap ((c : Int) - 64)) = letN c := let_all ⟨c, by omega⟩
  have hP := hasHigh_is 576460743713488896 (c : Int) w
  rw [e] at hP
  clear e
  go_enter Tryz.func170, Tryz.ntmps170
  go_wp2_with (go_at_call 180; refine hP.mono ?_; rintro e w' ⟨rfl, rfl⟩)
  go_ret
  exact ⟨rfl, rfl⟩
theorem hasBl_is (c : Nat) (hc : c ≤ 255) (w : World) :
    Calls Tryz.prog 169 #[.int .u64 4294968832, .int .u8 c] w fun e w' => e = .returned (.bool (blN c)) ∧ w' = w := by
  have e : hasB 4294968832 (c : Int) = blN c := bl_all ⟨c, by omega⟩
  have hP := has_is 4294968832 (c : Int) (by omega) w
  rw [e] at hP
  exact hP
theorem isSign_is (c : Nat) (hc : c ≤ 255) (w : World) :
    Calls Tryz.prog 174 #[.int .u8 c] w fun e w' => e = .returned (.bool (oneN c)) ∧ w' = w := by
  have e := one_all ⟨c, by omega⟩
  have hP := has_is 4323504295665205248 (c : Int) (by omega) w
  have hQ := hasHigh_is 4035225267197706240 (c : Int) w
  dsimp only at e
  rw [← e]
  clear e
  generalize hasB 4035225267197706240 (IntKind.u8.wrap ((c : Int) - 64)) = y at *
  generalize hasB 4323504295665205248 (c : Int) = x at *
  cases x
  all_goals
    go_enter Tryz.func174, Tryz.ntmps174
    go_wp2_with (first | (go_at_call 169; refine hP.mono ?_; rintro e w' ⟨rfl, rfl⟩) | (go_at_call 180; refine hQ.mono ?_; rintro e w' ⟨rfl, rfl⟩))
    go_ret
    exact ⟨rfl, rfl⟩

/-- How far it has read once place i was looked at. -/
def rd (s : ByteArray) (r i : Nat) : Nat := if i < s.size then max r (i + 1) else r

set_option maxHeartbeats 400000 in
theorem look_is (w : World) (b : Nat) (s : ByteArray) (a r k : Nat) (hs : s.size ≤ 140737488351232) (ha : a ≤ s.size) (hk : k ≤ s.size + 2) (hl : Lx w b s a r) :
    Calls Tryz.prog 167 #[.pointer (some ⟨b, 0, none⟩), .int .i64 k] w fun e w' => e = .returned (.int .u8 (bN s (a + k))) ∧ Lx w' b s a (rd s r (a + k)) ∧ Wr b w w' := by
  have c0 := hl.c0
  have c1 := hl.c1
  have c2 := hl.c2
  have f2 := hl.f2
  have HL : Hid (Lx w b s a r) := hl
  clear hl
  by_cases hik : a + k < s.size
  · go_enter Tryz.func167, Tryz.ntmps167
    go_wp2
    all_goals
      go_ret
      refine ⟨by rw [bN_lt hik]; rfl, ?_, (Wr.refl _ _).set _⟩
      exact HL.out.to2 (by unfold rd; rw [if_pos hik]; omega)
  · go_enter Tryz.func167, Tryz.ntmps167
    go_wp2
    go_ret
    refine ⟨?_, ?_, Wr.refl _ _⟩
    · rw [bN_ge (by omega)]; rfl
    · unfold rd; rw [if_neg hik]; exact HL.out

theorem nat_beq (x y : Nat) : ((x : Int) == (y : Int)) = decide (x = y) := by
  by_cases h : x = y
  · subst h; simp
  · rw [decide_eq_false h, beq_eq_false_iff_ne]; omega

set_option maxHeartbeats 400000 in
theorem atEnd_is (w : World) (b : Nat) (s : ByteArray) (a r : Nat) (hl : Lx w b s a r) :
    Calls Tryz.prog 166 #[.pointer (some ⟨b, 0, none⟩)] w fun e w' => e = .returned (.bool (decide (a = s.size))) ∧ Lx w' b s a r ∧ Wr b w w' := by
  have c0 := hl.c0
  have c1 := hl.c1
  have HL : Hid (Lx w b s a r) := hl
  clear hl
  go_enter Tryz.func166, Tryz.ntmps166
  go_wp2
  go_region
  all_goals (try go_wp2)
  all_goals go_ret
  refine ⟨?_, HL.out.drew, (Wr.refl _ _).drew⟩
  show Ending.returned (.bool ((a : Int) == (s.size : Int))) = _
  rw [nat_beq]
end Go.Proofs.YtacflahkofmcpaaGreatDoor

namespace Go.Proofs.YtacflahkofmcpaaGreatDoor
open Go.RowKit

/-- All up to the place was looked at, and at most one byte more. -/
structure Inv (s : ByteArray) (a r : Nat) : Prop where
  h1 : a ≤ r
  h2 : r ≤ a + 1
  h3 : r ≤ s.size
  h4 : a ≤ s.size

theorem Inv.look {s : ByteArray} {a r : Nat} (h : Inv s a r) : Inv s a (rd s r (a + 0)) := by
  obtain ⟨h1, h2, h3, h4⟩ := h
  unfold rd
  split
  · exact ⟨by omega, by omega, by omega, by omega⟩
  · exact ⟨h1, h2, h3, h4⟩
theorem Inv.step {s : ByteArray} {a r : Nat} (h : Inv s a r) (hl : a < s.size) : Inv s (a + 1) (rd s r (a + 0)) := by
  obtain ⟨h1, h2, h3, h4⟩ := h
  unfold rd
  rw [if_pos (by omega)]
  exact ⟨by omega, by omega, by omega, by omega⟩

set_option maxHeartbeats 400000 in
theorem skipComment_is (w : World) (b : Nat) (s : ByteArray) (a r : Nat) (hs : s.size ≤ 140737488351232) (hi : Inv s a r) (hl : Lx w b s a r) :
    Calls Tryz.prog 168 #[.pointer (some ⟨b, 0, none⟩)] w fun e w' => e = .returned (.tuple #[]) ∧ ∃ a' r', a ≤ a' ∧ (bN s a ≠ 10 → a < s.size → a < a') ∧ Inv s a' r' ∧ a' + gap false (suf s a') = a + gap true (suf s a) ∧ Lx w' b s a' r' ∧ Wr b w w' := by
  go_enter Tryz.func168, Tryz.ntmps168
  go_wp2
  go_loopg [] (s.size - a) (fun k wr => ∃ a' r', k = s.size - a' ∧ a ≤ a' ∧ Inv s a' r' ∧ a' + gap true (suf s a') = a + gap true (suf s a) ∧ Lx wr b s a' r' ∧ Wr b w wr)
  case atStart => exact ⟨a, r, rfl, Nat.le_refl _, hi, rfl, hl, Wr.refl _ _⟩
  case round =>
    obtain ⟨a', r', hk, haa, hinv, hg, hlx, hwr⟩ := hrel
    have hE := atEnd_is wr b s a' r' hlx
    by_cases he : a' = s.size
    · have e1 : decide (a' = s.size) = true := by simp [he]
      rw [e1] at hE
      clear hlx e1
      go_wp2_with (go_at_call 166; refine hE.mono ?_; rintro e w1 ⟨rfl, hlx1, hw1⟩)
      go_end0
      exact ⟨rfl, a', r', haa, fun _ h => by omega, hinv, by rw [← hg, gap_over _ (by omega), gap_over _ (by omega)], hlx1, hwr.trans hw1⟩
    · have e1 : decide (a' = s.size) = false := by simp [he]
      rw [e1] at hE
      have hlt : a' < s.size := by have := hinv.h4; omega
      have hK : ∀ w1, Lx w1 b s a' r' → Calls Tryz.prog 167 #[.pointer (some ⟨b, 0, none⟩), .int .i64 0] w1 fun e w' => e = .returned (.int .u8 (bN s (a' + 0))) ∧ Lx w' b s a' (rd s r' (a' + 0)) ∧ Wr b w1 w' :=
        fun w1 h => look_is w1 b s a' r' 0 hs hinv.h4 (by omega) h
      clear hlx e1
      by_cases hc : bN s a' = 10
      · have e2 : ((bN s (a' + 0) : Int) != 10) = false := by rw [Nat.add_zero, hc]; rfl
        go_wp2_with (first | (go_at_call 166; refine hE.mono ?_; rintro e w1 ⟨rfl, hlx1, hw1⟩) | (go_at_call 167; refine (hK _ hlx1).mono ?_; rintro e w2 ⟨rfl, hlx2, hw2⟩))
        go_end0
        exact ⟨rfl, a', _, haa, fun h1 _ => Nat.lt_of_le_of_ne haa (fun h2 => h1 (by rw [h2]; exact hc)), hinv.look, by rw [← hg, gap_line hlt hc], hlx2, (hwr.trans hw1).trans hw2⟩
      · have e2 : ((bN s (a' + 0) : Int) != 10) = true := by rw [Nat.add_zero]; simp; omega
        have hbd : a' ≤ 140737488351232 := by omega
        go_wp2_with (first | (go_at_call 166; refine hE.mono ?_; rintro e w1 ⟨rfl, hlx1, hw1⟩) | (go_at_call 167; refine (hK _ hlx1).mono ?_; rintro e w2 ⟨rfl, hlx2, hw2⟩; have d1 := hlx2.c1; have d2 := hlx2.f1))
        go_roundg (s.size - (a' + 1))
        case measure => omega
        case rel => exact ⟨a' + 1, _, rfl, by omega, hinv.step hlt, by rw [← hg, gap_note hlt hc]; omega, hlx2.to1 (by omega), ((hwr.trans hw1).trans hw2).set _⟩

set_option maxHeartbeats 800000 in
theorem skip_is (w : World) (b : Nat) (s : ByteArray) (a r : Nat) (hs : s.size ≤ 140737488351232) (hi : Inv s a r) (hl : Lx w b s a r) :
    Calls Tryz.prog 149 #[.pointer (some ⟨b, 0, none⟩)] w fun e w' => e = .returned (.tuple #[]) ∧ ∃ r', Inv s (pl s a) r' ∧ Lx w' b s (pl s a) r' ∧ Wr b w w' := by
  go_enter Tryz.func149, Tryz.ntmps149
  go_wp2
  go_loopg [] (s.size - a) (fun k wr => ∃ a' r', k = s.size - a' ∧ Inv s a' r' ∧ a' + gap false (suf s a') = pl s a ∧ Lx wr b s a' r' ∧ Wr b w wr)
  case atStart => exact ⟨a, r, rfl, hi, rfl, hl, Wr.refl _ _⟩
  case round =>
    obtain ⟨a', r', hk, hinv, hg, hlx, hwr⟩ := hrel
    have hE := atEnd_is wr b s a' r' hlx
    have Hg : Hid (a' + gap false (suf s a') = pl s a) := hg
    clear hg
    by_cases he : a' = s.size
    · have e1 : decide (a' = s.size) = true := by simp [he]
      rw [e1] at hE
      clear hlx e1
      go_wp2_with (go_at_call 166; refine hE.mono ?_; rintro e w1 ⟨rfl, hlx1, hw1⟩)
      go_end0
      have e2 : pl s a = a' := by rw [← Hg.out, gap_over _ (by omega)]; rfl
      rw [e2]
      exact ⟨rfl, r', hinv, hlx1, hwr.trans hw1⟩
    · have e1 : decide (a' = s.size) = false := by simp [he]
      rw [e1] at hE
      have hlt : a' < s.size := by have := hinv.h4; omega
      have hK : ∀ w1, Lx w1 b s a' r' → Calls Tryz.prog 167 #[.pointer (some ⟨b, 0, none⟩), .int .i64 0] w1 fun e w' => e = .returned (.int .u8 (bN s (a' + 0))) ∧ Lx w' b s a' (rd s r' (a' + 0)) ∧ Wr b w1 w' :=
        fun w1 h => look_is w1 b s a' r' 0 hs hinv.h4 (by omega) h
      clear hlx e1
      rw [Nat.add_zero] at hK
      by_cases hc : bN s a' = 35
      · have e2 : ((bN s a' : Int) == 35) = true := by rw [hc]; rfl
        have hi2 := hinv.look
        rw [Nat.add_zero] at hi2
        have hC : ∀ w1, Lx w1 b s a' (rd s r' a') → Calls Tryz.prog 168 #[.pointer (some ⟨b, 0, none⟩)] w1 fun e w' => e = .returned (.tuple #[]) ∧ ∃ a2 r2, a' ≤ a2 ∧ (bN s a' ≠ 10 → a' < s.size → a' < a2) ∧ Inv s a2 r2 ∧ a2 + gap false (suf s a2) = a' + gap true (suf s a') ∧ Lx w' b s a2 r2 ∧ Wr b w1 w' :=
          fun w1 h => skipComment_is w1 b s a' _ hs hi2 h
        go_wp2_with (first | (go_at_call 166; refine hE.mono ?_; rintro e w1 ⟨rfl, hlx1, hw1⟩) | (go_at_call 167; refine (hK _ hlx1).mono ?_; rintro e w2 ⟨rfl, hlx2, hw2⟩) | (go_at_call 168; refine (hC _ hlx2).mono ?_; rintro e w3 ⟨rfl, HX⟩))
        obtain ⟨a2, r2, q1, q2, q3, q4, q5, q6⟩ := HX
        have q7 := q2 (by omega) hlt
        go_roundg (s.size - a2)
        case measure => have := q3.h4; omega
        case rel => exact ⟨a2, r2, rfl, q3, by rw [q4, ← Hg.out, gap_hash hlt hc], q5, ((hwr.trans hw1).trans hw2).trans q6⟩
      · have e2 : ((bN s a' : Int) == 35) = false := by rw [beq_eq_false_iff_ne]; omega
        have hB : ∀ w1, Calls Tryz.prog 169 #[.int .u64 4294968832, .int .u8 (bN s a')] w1 fun e w' => e = .returned (.bool (blN (bN s a'))) ∧ w' = w1 := fun w1 => hasBl_is _ (bN_255 s a') w1
        by_cases hb : blN (bN s a') = true
        · rw [hb] at hB
          have hbd : a' ≤ 140737488351232 := by omega
          go_wp2_with (first | (go_at_call 166; refine hE.mono ?_; rintro e w1 ⟨rfl, hlx1, hw1⟩) | (go_at_call 167; refine (hK _ hlx1).mono ?_; rintro e w2 ⟨rfl, hlx2, hw2⟩; have d1 := hlx2.c1; have d2 := hlx2.f1) | (go_at_call 169; refine (hB _).mono ?_; rintro e w3 ⟨rfl, rfl⟩))
          go_roundg (s.size - (a' + 1))
          case measure => omega
          case rel => exact ⟨a' + 1, _, rfl, hinv.step hlt, by rw [← Hg.out, gap_blank hlt hc hb]; omega, hlx2.to1 (by omega), ((hwr.trans hw1).trans hw2).set _⟩
        · have hb' : blN (bN s a') = false := by simpa using hb
          rw [hb'] at hB
          go_wp2_with (first | (go_at_call 166; refine hE.mono ?_; rintro e w1 ⟨rfl, hlx1, hw1⟩) | (go_at_call 167; refine (hK _ hlx1).mono ?_; rintro e w2 ⟨rfl, hlx2, hw2⟩) | (go_at_call 169; refine (hB _).mono ?_; rintro e w3 ⟨rfl, rfl⟩))
          (try simp only [Exit.inBlock, Exit.then])
          refine bodyPost_ret (results_none rfl _ _ _) rfl ?_
          have e3 : pl s a = a' := by rw [← Hg.out, gap_stop hlt hc hb']; rfl
          rw [e3]
          have hi2 := hinv.look
          rw [Nat.add_zero] at hi2
          exact ⟨rfl, _, hi2, hlx2, (hwr.trans hw1).trans hw2⟩
end Go.Proofs.YtacflahkofmcpaaGreatDoor

namespace Go.Proofs.YtacflahkofmcpaaGreatDoor
open Go.RowKit

theorem word_lt {s : ByteArray} {i : Nat} (h : wordN (bN s i) = true) : i < s.size := by
  rcases Nat.lt_or_ge i s.size with h' | h'
  · exact h'
  · rw [bN_ge h'] at h; simp [wordN, letN, digN] at h

set_option maxHeartbeats 400000 in
theorem run_is (w : World) (b : Nat) (s : ByteArray) (a r z : Nat) (hs : s.size ≤ 140737488351232) (ha : a ≤ s.size) (hi : Inv s (a + z) r) (hl : Lx w b s a r) :
    Calls Tryz.prog 171 #[.pointer (some ⟨b, 0, none⟩), .int .i64 z] w fun e w' => e = .returned (.int .i64 ((z + runL (suf s (a + z)) : Nat) : Int)) ∧ ∃ r', Inv s (a + (z + runL (suf s (a + z)))) r' ∧ Lx w' b s a r' ∧ Wr b w w' := by
  obtain ⟨Z, hZ⟩ : ∃ Z, Z = z + runL (suf s (a + z)) := ⟨_, rfl⟩
  rw [← hZ]
  go_enter Tryz.func171, Tryz.ntmps171
  go_wp2
  go_loopg [1] (s.size - (a + z)) (fun k v wr => ∃ z' r' : Nat, v = .int .i64 z' ∧ k = s.size - (a + z') ∧ Inv s (a + z') r' ∧ z' + runL (suf s (a + z')) = Z ∧ Lx wr b s a r' ∧ Wr b w wr)
  case atStart => exact ⟨z, r, rfl, rfl, hi, hZ.symm, hl, Wr.refl _ _⟩
  case round =>
    obtain ⟨z', r', rfl, hk, hinv, hg, hlx, hwr⟩ := hrel
    have Hg : Hid (z' + runL (suf s (a + z')) = Z) := hg
    have HZ : Hid (Z = z + runL (suf s (a + z))) := hZ
    clear hg hZ
    have h4 := hinv.h4
    have hK := look_is wr b s a r' z' hs ha (by omega) hlx
    have hL : ∀ w1, Calls Tryz.prog 170 #[.int .u8 (bN s (a + z'))] w1 fun e w' => e = .returned (.bool (letN (bN s (a + z')))) ∧ w' = w1 := fun w1 => isLetter_is _ (bN_255 s _) w1
    have hD : ∀ w1, Calls Tryz.prog 172 #[.int .u8 (bN s (a + z'))] w1 fun e w' => e = .returned (.bool (digN (bN s (a + z')))) ∧ w' = w1 := fun w1 => isDigit_is _ (bN_255 s _) w1
    clear hlx
    by_cases h1 : letN (bN s (a + z')) = true
    · have hw : wordN (bN s (a + z')) = true := by unfold wordN; rw [h1]; rfl
      have hlt := word_lt hw
      have hbd : z' ≤ 140737488351232 := by omega
      rw [h1] at hL
      go_wp2_with (first | (go_at_call 167; refine hK.mono ?_; rintro e w1 ⟨rfl, hlx1, hw1⟩) | (go_at_call 170; refine (hL _).mono ?_; rintro e w3 ⟨rfl, rfl⟩) | (go_at_call 172; refine (hD _).mono ?_; rintro e w3 ⟨rfl, rfl⟩))
      go_roundg (s.size - (a + (z' + 1)))
      case measure => omega
      case rel => exact ⟨z' + 1, _, by go_num, rfl, hinv.step hlt, by rw [← Hg.out, run_on hw, Nat.add_assoc z']; rfl, hlx1, hwr.trans hw1⟩
    · have h1' : letN (bN s (a + z')) = false := by simpa using h1
      rw [h1'] at hL
      by_cases h2 : digN (bN s (a + z')) = true
      · have hw : wordN (bN s (a + z')) = true := by unfold wordN; rw [h2]; simp
        have hlt := word_lt hw
        have hbd : z' ≤ 140737488351232 := by omega
        rw [h2] at hD
        go_wp2_with (first | (go_at_call 167; refine hK.mono ?_; rintro e w1 ⟨rfl, hlx1, hw1⟩) | (go_at_call 170; refine (hL _).mono ?_; rintro e w3 ⟨rfl, rfl⟩) | (go_at_call 172; refine (hD _).mono ?_; rintro e w3 ⟨rfl, rfl⟩))
        go_roundg (s.size - (a + (z' + 1)))
        case measure => omega
        case rel => exact ⟨z' + 1, _, by go_num, rfl, hinv.step hlt, by rw [← Hg.out, run_on hw, Nat.add_assoc z']; rfl, hlx1, hwr.trans hw1⟩
      · have h2' : digN (bN s (a + z')) = false := by simpa using h2
        rw [h2'] at hD
        have hw : wordN (bN s (a + z')) = false := by unfold wordN; rw [h1', h2']; rfl
        go_wp2_with (first | (go_at_call 167; refine hK.mono ?_; rintro e w1 ⟨rfl, hlx1, hw1⟩) | (go_at_call 170; refine (hL _).mono ?_; rintro e w3 ⟨rfl, rfl⟩) | (go_at_call 172; refine (hD _).mono ?_; rintro e w3 ⟨rfl, rfl⟩))
        go_ret
        have e3 : Z = z' := by rw [← Hg.out, run_off hw]; rfl
        rw [e3]
        exact ⟨rfl, _, hinv.look, hlx1, hwr.trans hw1⟩

theorem ret_bool {x y : Bool} (h : x = y) : Ending.returned (.bool x) = .returned (.bool y) := by rw [h]

/-- May the next byte be looked at for a sign of two bytes? -/
def opens (n : Nat) : Bool := n == 60 || n == 62 || n == 61 || n == 33
theorem pair_opens {n m : Nat} (h : opens n = false) : pairN n m = false := by
  simp only [opens, Bool.or_eq_false_iff, beq_eq_false_iff_ne] at h
  unfold pairN
  simp only [Bool.or_eq_false_iff, Bool.and_eq_false_iff, beq_eq_false_iff_ne]
  omega

set_option maxHeartbeats 400000 in
theorem atPair_is (w : World) (b : Nat) (s : ByteArray) (a r c : Nat) (hs : s.size ≤ 140737488351232) (ha : a ≤ s.size) (hl : Lx w b s a r) :
    Calls Tryz.prog 173 #[.pointer (some ⟨b, 0, none⟩), .int .u8 c] w fun e w' => e = .returned (.bool (pairN c (bN s (a + 1)))) ∧ Lx w' b s a (if opens c then rd s r (a + 1) else r) ∧ Wr b w w' := by
  have hK : Calls Tryz.prog 167 #[.pointer (some ⟨b, 0, none⟩), .int .i64 1] w fun e w' => e = .returned (.int .u8 (bN s (a + 1))) ∧ Lx w' b s a (rd s r (a + 1)) ∧ Wr b w w' := look_is w b s a r 1 hs ha (by omega) hl
  have HL : Hid (Lx w b s a r) := hl
  clear hl ha hs
  generalize bN s (a + 1) = d at hK ⊢
  rcases (show c = 60 ∨ c = 62 ∨ c = 61 ∨ c = 33 ∨ opens c = false from by unfold opens; simp; omega) with h60 | h62 | h61 | h33 | ho
  · subst h60
    go_enter Tryz.func173, Tryz.ntmps173
    go_wp2_with (go_at_call 167; refine hK.mono ?_; rintro e w1 ⟨rfl, hlx1, hw1⟩)
    go_ret
    refine ⟨?_, hlx1, hw1⟩
    exact ret_bool (by rw [Bool.eq_iff_iff]; simp [pairN]; try omega)
  · subst h62
    go_enter Tryz.func173, Tryz.ntmps173
    go_wp2_with (go_at_call 167; refine hK.mono ?_; rintro e w1 ⟨rfl, hlx1, hw1⟩)
    go_ret
    refine ⟨?_, hlx1, hw1⟩
    exact ret_bool (by rw [Bool.eq_iff_iff]; simp [pairN]; try omega)
  · subst h61
    go_enter Tryz.func173, Tryz.ntmps173
    go_wp2_with (go_at_call 167; refine hK.mono ?_; rintro e w1 ⟨rfl, hlx1, hw1⟩)
    go_ret
    refine ⟨?_, hlx1, hw1⟩
    exact ret_bool (by rw [Bool.eq_iff_iff]; simp [pairN]; try omega)
  · subst h33
    go_enter Tryz.func173, Tryz.ntmps173
    go_wp2_with (go_at_call 167; refine hK.mono ?_; rintro e w1 ⟨rfl, hlx1, hw1⟩)
    go_ret
    refine ⟨?_, hlx1, hw1⟩
    exact ret_bool (by rw [Bool.eq_iff_iff]; simp [pairN]; try omega)
  · rw [pair_opens ho, ho]
    have ho' := ho
    simp only [opens, Bool.or_eq_false_iff, beq_eq_false_iff_ne] at ho'
    have e1 : ((c : Int) == 60) = false := by rw [beq_eq_false_iff_ne]; omega
    have e2 : ((c : Int) == 62) = false := by rw [beq_eq_false_iff_ne]; omega
    have e3 : ((c : Int) == 61) = false := by rw [beq_eq_false_iff_ne]; omega
    have e4 : ((c : Int) == 33) = false := by rw [beq_eq_false_iff_ne]; omega
    clear ho ho'
    go_enter Tryz.func173, Tryz.ntmps173
    go_wp2
    go_ret
    exact ⟨rfl, HL.out, Wr.refl _ _⟩

set_option maxHeartbeats 2000000 in
/-- What measure reads: past the token by one byte at most. -/
theorem measure_is (w : World) (b : Nat) (s : ByteArray) (a r : Nat) (hs : s.size ≤ 140737488351232) (hi : Inv s a r) (hl : Lx w b s a r) :
    Calls Tryz.prog 150 #[.pointer (some ⟨b, 0, none⟩)] w fun e w' => e = .returned (.tuple #[.int .i64 (kind (suf s a)), .int .i64 (tsize (suf s a))]) ∧ ∃ r', (kind (suf s a) ≠ 0 → Inv s (a + tsize (suf s a)) r') ∧ Lx w' b s a r' ∧ Wr b w w' := by
  have hE := atEnd_is w b s a r hl
  have h4 := hi.h4
  by_cases he : a = s.size
  · have e1 : decide (a = s.size) = true := by simp [he]
    have e2 : suf s a = [] := suf_ge (by omega)
    rw [e1] at hE
    rw [e2]
    clear hl e1 e2
    go_enter Tryz.func150, Tryz.ntmps150
    go_wp2_with (go_at_call 166; refine hE.mono ?_; rintro e w1 ⟨rfl, hlx1, hw1⟩)
    go_ret2
    exact ⟨rfl, r, fun _ => hi, hlx1, hw1⟩
  · have hlt : a < s.size := by omega
    have e1 : decide (a = s.size) = false := by simp [he]
    rw [e1] at hE
    rw [kind_at hlt, tsize_at hlt]
    have hK : ∀ w1, Lx w1 b s a r → Calls Tryz.prog 167 #[.pointer (some ⟨b, 0, none⟩), .int .i64 0] w1 fun e w' => e = .returned (.int .u8 (bN s a)) ∧ Lx w' b s a (rd s r a) ∧ Wr b w1 w' :=
      fun w1 h => look_is w1 b s a r 0 hs h4 (by omega) h
    have hK1 : ∀ w1, Lx w1 b s a (rd s r a) → Calls Tryz.prog 167 #[.pointer (some ⟨b, 0, none⟩), .int .i64 1] w1 fun e w' => e = .returned (.int .u8 (bN s (a + 1))) ∧ Lx w' b s a (rd s (rd s r a) (a + 1)) ∧ Wr b w1 w' :=
      fun w1 h => look_is w1 b s a _ 1 hs h4 (by omega) h
    have hL : ∀ w1, Calls Tryz.prog 170 #[.int .u8 (bN s a)] w1 fun e w' => e = .returned (.bool (letN (bN s a))) ∧ w' = w1 := fun w1 => isLetter_is _ (bN_255 s _) w1
    have hD : ∀ w1, Calls Tryz.prog 172 #[.int .u8 (bN s a)] w1 fun e w' => e = .returned (.bool (digN (bN s a))) ∧ w' = w1 := fun w1 => isDigit_is _ (bN_255 s _) w1
    have hD1 : ∀ w1, Calls Tryz.prog 172 #[.int .u8 (bN s (a + 1))] w1 fun e w' => e = .returned (.bool (digN (bN s (a + 1)))) ∧ w' = w1 := fun w1 => isDigit_is _ (bN_255 s _) w1
    have hO : ∀ w1, Calls Tryz.prog 174 #[.int .u8 (bN s a)] w1 fun e w' => e = .returned (.bool (oneN (bN s a))) ∧ w' = w1 := fun w1 => isSign_is _ (bN_255 s _) w1
    have hi1 : Inv s (a + 1) (rd s r a) := hi.step hlt
    have hR : ∀ w1, Lx w1 b s a (rd s r a) → Calls Tryz.prog 171 #[.pointer (some ⟨b, 0, none⟩), .int .i64 1] w1 fun e w' => e = .returned (.int .i64 ((1 + runL (suf s (a + 1)) : Nat) : Int)) ∧ ∃ r', Inv s (a + (1 + runL (suf s (a + 1)))) r' ∧ Lx w' b s a r' ∧ Wr b w1 w' :=
      fun w1 h => run_is w1 b s a _ 1 hs h4 hi1 h
    clear hl e1
    by_cases h1 : letN (bN s a) = true
    · simp only [h1, if_true]
      rw [h1] at hL
      go_enter Tryz.func150, Tryz.ntmps150
      go_wp2_with (first | (go_at_call 166; refine hE.mono ?_; rintro e w1 ⟨rfl, hlx1, hw1⟩) | (go_at_call 167; refine (hK _ hlx1).mono ?_; rintro e w2 ⟨rfl, hlx2, hw2⟩) | (go_at_call 170; refine (hL _).mono ?_; rintro e w3 ⟨rfl, rfl⟩) | (go_at_call 171; refine (hR _ hlx2).mono ?_; rintro e w4 ⟨rfl, HX⟩))
      go_ret2
      obtain ⟨r', q1, q2, q3⟩ := HX
      exact ⟨rfl, r', fun _ => q1, q2, (hw1.trans hw2).trans q3⟩
    · have h1' : letN (bN s a) = false := by simpa using h1
      rw [h1'] at hL
      clear h1
      by_cases h2 : digN (bN s a) = true
      · simp only [h1', h2, if_true, Bool.false_eq_true, if_false]
        rw [h2] at hD
        go_enter Tryz.func150, Tryz.ntmps150
        go_wp2_with (first | (go_at_call 166; refine hE.mono ?_; rintro e w1 ⟨rfl, hlx1, hw1⟩) | (go_at_call 167; refine (hK _ hlx1).mono ?_; rintro e w2 ⟨rfl, hlx2, hw2⟩) | (go_at_call 170; refine (hL _).mono ?_; rintro e w3 ⟨rfl, rfl⟩) | (go_at_call 172; refine (hD _).mono ?_; rintro e w3 ⟨rfl, rfl⟩) | (go_at_call 171; refine (hR _ hlx2).mono ?_; rintro e w5 ⟨rfl, HX⟩))
        go_ret2
        obtain ⟨r', q1, q2, q3⟩ := HX
        exact ⟨rfl, r', fun _ => q1, q2, (hw1.trans hw2).trans q3⟩
      · have h2' : digN (bN s a) = false := by simpa using h2
        rw [h2'] at hD
        clear h2
        by_cases h45 : bN s a = 45
        · have e45 : ((bN s a : Int) == 45) = true := by rw [h45]; rfl
          have b45 : (bN s a == 45) = true := by rw [h45]; rfl
          by_cases h3 : digN (bN s (a + 1)) = true
          · simp only [h1', h2', h3, b45, Bool.and_self, if_true, Bool.false_eq_true, if_false]
            rw [h3] at hD1
            have hw : wordN (bN s (a + 1)) = true := by unfold wordN; rw [h3]; simp
            have hlt1 := word_lt hw
            have hi2 : Inv s (a + 2) (rd s (rd s r a) (a + 1)) := hi1.step hlt1
            have hR2 : ∀ w1, Lx w1 b s a (rd s (rd s r a) (a + 1)) → Calls Tryz.prog 171 #[.pointer (some ⟨b, 0, none⟩), .int .i64 2] w1 fun e w' => e = .returned (.int .i64 ((2 + runL (suf s (a + 2)) : Nat) : Int)) ∧ ∃ r', Inv s (a + (2 + runL (suf s (a + 2)))) r' ∧ Lx w' b s a r' ∧ Wr b w1 w' :=
              fun w1 h => run_is w1 b s a _ 2 hs h4 hi2 h
            have e2 : 1 + runL (suf s (a + 1)) = 2 + runL (suf s (a + 2)) := by rw [run_on hw]; show 1 + (1 + runL (suf s (a + 2))) = _; omega
            rw [e2]
            clear h45 e2 hw h3 hR hi1
            go_enter Tryz.func150, Tryz.ntmps150
            go_wp2_with (first | (go_at_call 166; refine hE.mono ?_; rintro e w1 ⟨rfl, hlx1, hw1⟩) | (go_at_call 167; refine (hK1 _ hlx2).mono ?_; rintro e w4 ⟨rfl, hlx4, hw4⟩) | (go_at_call 167; refine (hK _ hlx1).mono ?_; rintro e w2 ⟨rfl, hlx2, hw2⟩) | (go_at_call 170; refine (hL _).mono ?_; rintro e w3 ⟨rfl, rfl⟩) | (go_at_call 172; have _h := hlx4; refine (hD1 _).mono ?_; rintro e w3 ⟨rfl, rfl⟩) | (go_at_call 172; refine (hD _).mono ?_; rintro e w3 ⟨rfl, rfl⟩) | (go_at_call 171; refine (hR2 _ hlx4).mono ?_; rintro e w5 ⟨rfl, HX⟩))
            go_ret2
            obtain ⟨r', q1, q2, q3⟩ := HX
            exact ⟨rfl, r', fun _ => q1, q2, ((hw1.trans hw2).trans hw4).trans q3⟩
          · have h3' : digN (bN s (a + 1)) = false := by simpa using h3
            have p45 : pairN (bN s a) (bN s (a + 1)) = false := by rw [h45]; exact pair_opens rfl
            have o45 : opens (bN s a) = false := by rw [h45]; rfl
            have g45 : oneN (bN s a) = true := by rw [h45]; rfl
            simp only [h1', h2', h3', b45, p45, g45, Bool.and_false, if_true, Bool.false_eq_true, if_false]
            rw [h3'] at hD1
            rw [g45] at hO
            have hP : ∀ w1, Lx w1 b s a (rd s (rd s r a) (a + 1)) → Calls Tryz.prog 173 #[.pointer (some ⟨b, 0, none⟩), .int .u8 (bN s a)] w1 fun e w' => e = .returned (.bool false) ∧ Lx w' b s a (rd s (rd s r a) (a + 1)) ∧ Wr b w1 w' := by
              intro w1 h
              have := atPair_is w1 b s a _ (bN s a) hs h4 h
              rw [p45, o45] at this
              exact this
            have hi2 : Inv s (a + 1) (rd s (rd s r a) (a + 1)) := hi1.look
            clear h45 h3 hR hi1 p45 o45 g45
            go_enter Tryz.func150, Tryz.ntmps150
            go_wp2_with (first | (go_at_call 166; refine hE.mono ?_; rintro e w1 ⟨rfl, hlx1, hw1⟩) | (go_at_call 167; refine (hK1 _ hlx2).mono ?_; rintro e w4 ⟨rfl, hlx4, hw4⟩) | (go_at_call 167; refine (hK _ hlx1).mono ?_; rintro e w2 ⟨rfl, hlx2, hw2⟩) | (go_at_call 170; refine (hL _).mono ?_; rintro e w3 ⟨rfl, rfl⟩) | (go_at_call 172; have _h := hlx4; refine (hD1 _).mono ?_; rintro e w3 ⟨rfl, rfl⟩) | (go_at_call 172; refine (hD _).mono ?_; rintro e w3 ⟨rfl, rfl⟩) | (go_at_call 173; refine (hP _ hlx4).mono ?_; rintro e w5 ⟨rfl, hlx5, hw5⟩) | (go_at_call 174; refine (hO _).mono ?_; rintro e w3 ⟨rfl, rfl⟩))
            go_ret2
            exact ⟨rfl, _, fun _ => hi2, hlx5, ((hw1.trans hw2).trans hw4).trans hw5⟩
        · have e45 : ((bN s a : Int) == 45) = false := by rw [beq_eq_false_iff_ne]; omega
          have b45 : (bN s a == 45) = false := by rw [beq_eq_false_iff_ne]; exact h45
          have hP : ∀ w1, Lx w1 b s a (rd s r a) → Calls Tryz.prog 173 #[.pointer (some ⟨b, 0, none⟩), .int .u8 (bN s a)] w1 fun e w' => e = .returned (.bool (pairN (bN s a) (bN s (a + 1)))) ∧ Lx w' b s a (if opens (bN s a) then rd s (rd s r a) (a + 1) else rd s r a) ∧ Wr b w1 w' :=
            fun w1 h => atPair_is w1 b s a _ (bN s a) hs h4 h
          by_cases h5 : pairN (bN s a) (bN s (a + 1)) = true
          · simp only [h1', h2', b45, h5, Bool.false_and, if_true, Bool.false_eq_true, if_false]
            have ho : opens (bN s a) = true := by
              cases ho : opens (bN s a) with
              | true => rfl
              | false => rw [pair_opens ho] at h5; cases h5
            have hlt1 : a + 1 < s.size := by
              rcases Nat.lt_or_ge (a + 1) s.size with h' | h'
              · exact h'
              · rw [bN_ge h'] at h5; simp [pairN] at h5
            have hi2 : Inv s (a + 2) (rd s (rd s r a) (a + 1)) := hi1.step hlt1
            rw [h5] at hP
            simp only [ho, if_true] at hP
            clear h45 h5 ho hR hK1
            go_enter Tryz.func150, Tryz.ntmps150
            go_wp2_with (first | (go_at_call 166; refine hE.mono ?_; rintro e w1 ⟨rfl, hlx1, hw1⟩) | (go_at_call 167; refine (hK _ hlx1).mono ?_; rintro e w2 ⟨rfl, hlx2, hw2⟩) | (go_at_call 170; refine (hL _).mono ?_; rintro e w3 ⟨rfl, rfl⟩) | (go_at_call 172; refine (hD _).mono ?_; rintro e w3 ⟨rfl, rfl⟩) | (go_at_call 173; refine (hP _ hlx2).mono ?_; rintro e w5 ⟨rfl, hlx5, hw5⟩))
            go_ret2
            exact ⟨rfl, _, fun _ => hi2, hlx5, (hw1.trans hw2).trans hw5⟩
          · have h5' : pairN (bN s a) (bN s (a + 1)) = false := by simpa using h5
            rw [h5'] at hP
            have hi2 : Inv s (a + 1) (if opens (bN s a) then rd s (rd s r a) (a + 1) else rd s r a) := by
              split
              · exact hi1.look
              · exact hi1
            generalize (if opens (bN s a) then rd s (rd s r a) (a + 1) else rd s r a) = r5 at *
            by_cases h6 : oneN (bN s a) = true
            · simp only [h1', h2', b45, h5', h6, Bool.false_and, if_true, Bool.false_eq_true, if_false]
              rw [h6] at hO
              clear h45 h5 hR hK1 h5' h6
              go_enter Tryz.func150, Tryz.ntmps150
              go_wp2_with (first | (go_at_call 166; refine hE.mono ?_; rintro e w1 ⟨rfl, hlx1, hw1⟩) | (go_at_call 167; refine (hK _ hlx1).mono ?_; rintro e w2 ⟨rfl, hlx2, hw2⟩) | (go_at_call 170; refine (hL _).mono ?_; rintro e w3 ⟨rfl, rfl⟩) | (go_at_call 172; refine (hD _).mono ?_; rintro e w3 ⟨rfl, rfl⟩) | (go_at_call 173; refine (hP _ hlx2).mono ?_; rintro e w5 ⟨rfl, hlx5, hw5⟩) | (go_at_call 174; refine (hO _).mono ?_; rintro e w3 ⟨rfl, rfl⟩))
              go_ret2
              exact ⟨rfl, _, fun _ => hi2, hlx5, (hw1.trans hw2).trans hw5⟩
            · have h6' : oneN (bN s a) = false := by simpa using h6
              simp only [h1', h2', b45, h5', h6', Bool.false_and, Bool.false_eq_true, if_false]
              rw [h6'] at hO
              clear h45 h5 hR hK1 h5' h6
              go_enter Tryz.func150, Tryz.ntmps150
              go_wp2_with (first | (go_at_call 166; refine hE.mono ?_; rintro e w1 ⟨rfl, hlx1, hw1⟩) | (go_at_call 167; refine (hK _ hlx1).mono ?_; rintro e w2 ⟨rfl, hlx2, hw2⟩) | (go_at_call 170; refine (hL _).mono ?_; rintro e w3 ⟨rfl, rfl⟩) | (go_at_call 172; refine (hD _).mono ?_; rintro e w3 ⟨rfl, rfl⟩) | (go_at_call 173; refine (hP _ hlx2).mono ?_; rintro e w5 ⟨rfl, hlx5, hw5⟩) | (go_at_call 174; refine (hO _).mono ?_; rintro e w3 ⟨rfl, rfl⟩))
              go_ret2
              exact ⟨rfl, _, fun h => absurd rfl h, hlx5, (hw1.trans hw2).trans hw5⟩
end Go.Proofs.YtacflahkofmcpaaGreatDoor
