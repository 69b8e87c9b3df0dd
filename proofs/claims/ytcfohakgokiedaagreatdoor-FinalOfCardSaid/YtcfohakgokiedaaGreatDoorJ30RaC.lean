/- Executions in memory whose blocks are told apart by their types; rows of executions that grow. -/
import Derived.Test.YtcfohakgokiedaaGreatDoorJ29RaP
import Derived.Test.YtcfohakgokiedaaGreatDoorJ25Tys
import Derived.Lib.TrailingZeros
import Derived.Laws.BitsAllLaws
import Derived.Test.YtcfohakgokiedaaGreatDoorJ03Puts
import Derived.Test.YtcfohakgokiedaaGreatDoorJ22MathB
import Derived.Laws.ShiftsVarLaws
import Derived.Deep.QuietTactic
import Derived.BigQuiet
import Derived.Deep.WholeRow
import Derived.Deep.MidRow
import Derived.Deep.RegionHeld3
import Derived.Test.YtcfohakgokiedaaGreatDoorJ06RegFin3
import Derived.Laws.CopyOwn
import Derived.Laws.CopyRow
namespace Go.Proofs.YtcfohakgokiedaaGreatDoor
open Go.RowKit

abbrev TX : TypeId := 41
abbrev TS : TypeId := 29
/-- v holds this list, in a block of cells of type T. -/
def RdT {α : Type} (T : TypeId) (C : α → List Value) (k : Nat) (w : World) (v : Value) (L : List α) : Prop :=
 Rd C k w v L ∧ ∀ (g off n c : Nat), v = .slice (some ⟨g, off, none⟩) n c → 0 < L.length → ∃ cs fr, w.heap[g]? = some (.cells cs T fr)
/-- All blocks stand but those of cells of executions, and of rows of them. -/
structure Ky (w w' : World) : Prop where
 size : w.heap.size ≤ w'.heap.size
 block : ∀ (g : Nat) cs T fr, w.heap[g]? = some (.cells cs T fr) → T ≠ TX → T ≠ TS → w'.heap[g]? = w.heap[g]?
theorem Ky.refl (w : World) : Ky w w := ⟨Nat.le_refl _, fun _ _ _ _ _ _ _ => rfl⟩
theorem Ky.on {w w' : World} (h : On w w') : Ky w w' := ⟨h.size, fun g _ _ _ e _ _ => h.block g (lt_of_block e)⟩
theorem Ky.trans {a b c : World} (h : Ky a b) (k : Ky b c) : Ky a c :=
 ⟨Nat.le_trans h.size k.size, fun g cs T fr e h1 h2 => (k.block g cs T fr ((h.block g cs T fr e h1 h2).trans e) h1 h2).trans (h.block g cs T fr e h1 h2)⟩
theorem Ky.drew {w w' : World} (h : Ky w w') : Ky w w'.drew := ⟨h.size, h.block⟩
theorem Ky.grown {w w' : World} {base k n : Nat} {v : Value} {xs : List Value} (ho : w.ownsRow base TX k v n xs) (hg : w.grownBy w' v.ownBlock) : Ky w w' := by
 refine ⟨hg.size, fun g cs T fr e h1 _ => hg.block g (lt_of_block e) (fun eq => ?_)⟩
 rcases ho.2 with ⟨hv, _⟩ | ⟨g2, cap, cur, hv, hb, hh, _⟩
 ·
  rw [hv] at eq; cases eq
 ·
  rw [hv] at eq
  simp only [Value.ownBlock, Option.some.injEq] at eq
  subst eq
  rw [e] at hh
  simp only [Option.some.injEq, Obj.cells.injEq] at hh
  exact h1 hh.2.1
theorem Ky.row {w : World} {N : Nat} {cs : Array Value} {T : TypeId} {fr : Nat × Nat} (h : w.heap[N]? = some (.cells cs T fr)) (hT : T = TX ∨ T = TS) (c : Array Value) : Ky w (w.setRow N c) := by
 refine ⟨by rw [size_setRow]; exact Nat.le_refl _, fun g cs' T' fr' e h1 h2 => setRow_other w N g c (fun eq => ?_)⟩
 subst eq
 rw [h] at e
 simp only [Option.some.injEq, Obj.cells.injEq] at e
 rcases hT with rfl | rfl
 ·
  exact h1 e.2.1.symm
 ·
  exact h2 e.2.1.symm
theorem Ky.set {w : World} {N i : Nat} {cs : Array Value} {T : TypeId} {fr : Nat × Nat} (h : w.heap[N]? = some (.cells cs T fr)) (hT : T = TX ∨ T = TS) (u : Value) : Ky w (w.setCell ⟨N, i, none⟩ u) := by
 refine ⟨by rw [World.size_setCell]; exact Nat.le_refl _, fun g cs' T' fr' e h1 h2 => Below.heap_setCell _ _ _ _ ?_⟩
 show g ≠ N
 rintro rfl
 rw [h] at e
 simp only [Option.some.injEq, Obj.cells.injEq] at e
 rcases hT with rfl | rfl
 ·
  exact h1 e.2.1.symm
 ·
  exact h2 e.2.1.symm
section
variable {α : Type} {T : TypeId} {C : α → List Value} {k : Nat} {w w' : World} {v : Value} {L : List α}
theorem RdT.ky (h : RdT T C k w v L) (o : Ky w w') (h1 : T ≠ TX) (h2 : T ≠ TS) : RdT T C k w' v L := by
 obtain ⟨⟨a, c, hv, hc, hm, hr⟩, ht⟩ := h
 have key : ∀ (g off n c : Nat), v = .slice (some ⟨g, off, none⟩) n c → 0 < L.length → w'.heap[g]? = w.heap[g]? := fun g off n c e h0 => by
  obtain ⟨cs, fr, e2⟩ := ht g off n c e h0
  exact o.block g cs T fr e2 h1 h2
 refine ⟨⟨a, c, hv, hc, hm, fun hl => ?_⟩, fun g off n c e h0 => ?_⟩
 ·
  obtain ⟨g, off, ha, hg, hcell⟩ := hr hl
  refine ⟨g, off, ha, Nat.lt_of_lt_of_le hg o.size, fun i x j u hi hj => ?_⟩
  rw [← hcell i x j u hi hj]
  exact World.cell?_of_block (key g off _ c (by rw [hv, ha]) hl)
 ·
  obtain ⟨cs, fr, e2⟩ := ht g off n c e h0
  exact ⟨cs, fr, (key g off n c e h0).trans e2⟩
theorem RdT.on (h : RdT T C k w v L) (o : On w w') : RdT T C k w' v L :=
 ⟨h.1.on o, fun g off n c e h0 => by
  obtain ⟨cs, fr, e2⟩ := h.2 g off n c e h0
  exact ⟨cs, fr, (o.block g (lt_of_block e2)).trans e2⟩⟩
theorem RdT.own {base : Nat} (hC : ∀ x, (C x).length = k) (h : w.ownsRow base T k v L.length (L.flatMap C)) : RdT T C k w v L := by
 refine ⟨Rd.own hC h, fun g off n c e h0 => ?_⟩
 rcases h.2 with ⟨_, hz⟩ | ⟨g2, cap, cur, hv, hb, hh, _⟩
 ·
  omega
 ·
  rw [hv] at e
  simp only [Value.slice.injEq, Option.some.injEq, Addr.mk.injEq] at e
  obtain ⟨⟨rfl, _⟩, _⟩ := e
  exact ⟨cur, _, hh⟩
theorem RdT.nil (T : TypeId) (C : α → List Value) (k : Nat) (w : World) : RdT T C k w (.slice none 0 0) ([] : List α) :=
 ⟨Rd.nil _ _ _, fun g off n c e => by cases e⟩
end
/-- Rows of numbers, in blocks of their types. -/
def RdT2 (w : World) (v : Value) (LL : List (List Int)) : Prop :=
 ∃ vs : List Value, vs.length = LL.length ∧ RdT 22 oneC 1 w v vs ∧ ∀ (i : Nat) (u : Value) (L : List Int), vs[i]? = some u → LL[i]? = some L → RdT 3 intC 1 w u L
theorem tI1 : (22 : TypeId) ≠ TX := by decide
theorem tI2 : (22 : TypeId) ≠ TS := by decide
theorem tN1 : (3 : TypeId) ≠ TX := by decide
theorem tN2 : (3 : TypeId) ≠ TS := by decide
theorem tE1 : (58 : TypeId) ≠ TX := by decide
theorem tE2 : (58 : TypeId) ≠ TS := by decide
theorem RdT2.ky {w w' : World} {v : Value} {LL : List (List Int)} (h : RdT2 w v LL) (o : Ky w w') : RdT2 w' v LL := by
 obtain ⟨vs, h1, h2, h3⟩ := h
 exact ⟨vs, h1, h2.ky o tI1 tI2, fun i u L a b => (h3 i u L a b).ky o tN1 tN2⟩
theorem RdT2.rd {w : World} {v : Value} {LL : List (List Int)} (h : RdT2 w v LL) : Rd2 intC 1 w v LL := by
 obtain ⟨vs, h1, h2, h3⟩ := h
 exact ⟨vs, h1, h2.1, fun i u L a b => (h3 i u L a b).1⟩
abbrev Tri := Value × Value × Value
def triC (t : Tri) : List Value := [t.1, t.2.1, t.2.2]
def triV (t : Tri) : Value := .agg #[t.1, t.2.1, t.2.2]
theorem triC_len (t : Tri) : (triC t).length = 3 := rfl
/-- These three slices are this execution. -/
structure ExTd (w : World) (t : Tri) (x : ExT) : Prop where
 ex : ∃ a1 c1 a2 c2 a3 c3, t = (.slice a1 x.evs.length c1, .slice a2 x.rf.length c2, .slice a3 x.co.length c3)
 evs : RdT 58 evC 6 w t.1 x.evs
 rf : RdT 3 intC 1 w t.2.1 x.rf
 co : RdT2 w t.2.2 x.co
theorem ExTd.ky {w w' : World} {t : Tri} {x : ExT} (h : ExTd w t x) (o : Ky w w') : ExTd w' t x :=
 ⟨h.ex, h.evs.ky o tE1 tE2, h.rf.ky o tN1 tN2, h.co.ky o⟩
theorem ExTd.on {w w' : World} {t : Tri} {x : ExT} (h : ExTd w t x) (o : On w w') : ExTd w' t x := h.ky (Ky.on o)
theorem ExTd.rd {w : World} {t : Tri} {x : ExT} (h : ExTd w t x) : ExRd w (triV t) x := by
 obtain ⟨a1, c1, a2, c2, a3, c3, e⟩ := h.ex
 have h1 := h.evs.1
 have h2 := h.rf.1
 have h3 := h.co.rd
 subst e
 exact ⟨a1, c1, a2, c2, a3, c3, rfl, h1, h2, h3⟩
theorem ExTd.one {w : World} {t : Tri} {x : ExT} (h : ExTd w t x) : ∀ u ∈ triC t, u.oneCell' = true := by
 obtain ⟨a1, c1, a2, c2, a3, c3, e⟩ := h.ex
 subst e
 intro u hu
 simp only [triC, List.mem_cons, List.not_mem_nil, or_false] at hu
 rcases hu with rfl | rfl | rfl <;> rfl
/-- v is a row of the call's own of these executions. -/
def OwX (w : World) (b : Nat) (v : Value) (L : List ExT) : Prop :=
 ∃ vs : List Tri, vs.length = L.length ∧ w.ownsRow b TX 3 v L.length (vs.flatMap triC) ∧ ∀ (i : Nat) (t : Tri) (x : ExT), vs[i]? = some t → L[i]? = some x → ExTd w t x
theorem OwX.on {w w' : World} {b : Nat} {v : Value} {L : List ExT} (h : OwX w b v L) (o : On w w') : OwX w' b v L := by
 obtain ⟨vs, h1, h2, h3⟩ := h
 exact ⟨vs, h1, own_on h2 o, fun i t x a b => (h3 i t x a b).on o⟩
theorem OwX.nil (w : World) (b : Nat) : OwX w b (.slice none 0 0) [] := ⟨[], rfl, World.ownsRow_nil _ _ _ _, fun i t x a _ => by simp at a⟩
theorem OwX.slice {w : World} {b : Nat} {v : Value} {L : List ExT} (h : OwX w b v L) : ∃ a c, v = .slice a L.length c := by
 obtain ⟨vs, _, h2, _⟩ := h
 exact own_slice h2
/-- What stands: all but block N and the row's own block; the row's next block is the old one or a new one. -/
structure Fx (N : Nat) (v v' : Value) (w w' : World) : Prop where
 os : w'.os = w.os
 tape : w'.tape = w.tape
 output : w'.output = w.output
 size : w.heap.size ≤ w'.heap.size
 block : ∀ g, g < w.heap.size → g ≠ N → v.ownBlock ≠ some g → w'.heap[g]? = w.heap[g]?
 next : v'.ownBlock = v.ownBlock ∨ ∀ g, v'.ownBlock = some g → w.heap.size ≤ g
theorem Fx.refl (N : Nat) (v : Value) (w : World) : Fx N v v w w := ⟨rfl, rfl, rfl, Nat.le_refl _, fun _ _ _ _ => rfl, Or.inl rfl⟩
theorem Fx.on {w w' : World} (N : Nat) (v : Value) (h : On w w') : Fx N v v w w' := ⟨h.os, h.tape, h.output, h.size, fun g hg _ _ => h.block g hg, Or.inl rfl⟩
theorem Fx.trans {N : Nat} {v v' v'' : Value} {a b c : World} (h : Fx N v v' a b) (k : Fx N v' v'' b c) : Fx N v v'' a c := by
 refine ⟨k.os.trans h.os, k.tape.trans h.tape, k.output.trans h.output, Nat.le_trans h.size k.size, fun g hg hN hv => ?_, ?_⟩
 ·
  refine (k.block g (Nat.lt_of_lt_of_le hg h.size) hN (fun e => ?_)).trans (h.block g hg hN hv)
  rcases h.next with e2 | e2
  ·
   exact hv (e2 ▸ e)
  ·
   have := e2 g e; omega
 ·
  rcases k.next with e | e
  ·
   rcases h.next with e2 | e2
   ·
    exact Or.inl (e.trans e2)
   ·
    exact Or.inr fun g hg => e2 g (e ▸ hg)
  ·
   exact Or.inr fun g hg => Nat.le_trans h.size (e g hg)
theorem On.fx {w0 w w' : World} {N : Nat} {v v' : Value} (h : On w0 w) (f : Fx N v v' w w') (hN : w0.heap.size ≤ N) (hv : ∀ g, v.ownBlock = some g → w0.heap.size ≤ g) : On w0 w' :=
 ⟨f.os.trans h.os, f.tape.trans h.tape, f.output.trans h.output, Nat.le_trans h.size f.size, fun g hg => (f.block g (Nat.lt_of_lt_of_le hg h.size) (by omega) (fun e => by have := hv g e; omega)).trans (h.block g hg)⟩
theorem OwX.low {w : World} {b : Nat} {v : Value} {L : List ExT} (h : OwX w b v L) : ∀ g, v.ownBlock = some g → b ≤ g ∧ g < w.heap.size := by
 obtain ⟨vs, h1, h2, h3⟩ := h
 intro g e
 exact h2.lt g e
end Go.Proofs.YtcfohakgokiedaaGreatDoor

namespace Go.Proofs.YtcfohakgokiedaaGreatDoor

def bits64 (n : Nat) : List Nat := (List.range 64).filter (fun i => n.testBit i)
def cnt64 (n : Nat) : Nat := (bits64 n).length
/-- How many of the lowest so many bits. -/
def pc : Nat → Nat → Nat
 | 0, _ => 0
 | n + 1, x => x % 2 + pc n (x / 2)
theorem pc_count : ∀ (n x : Nat), (List.range n).countP (fun i => x.testBit i) = pc n x
 | 0, _ => rfl
 | n + 1, x => by
  rw [List.range_succ_eq_map, List.countP_cons, List.countP_map, pc, ← pc_count n (x / 2)]
  have e : ((fun i => x.testBit i) ∘ Nat.succ) = fun i => (x / 2).testBit i := by
   funext i
   exact Nat.testBit_succ x i
  rw [e, Nat.add_comm]
  congr 1
  rw [Nat.testBit_zero]
  rcases Nat.mod_two_eq_zero_or_one x with h | h <;> simp [h]
theorem cnt_pc (x : Nat) : cnt64 x = pc 64 x := by
 rw [← pc_count]
 exact (List.countP_eq_length_filter).symm
theorem pc_zero : ∀ n, pc n 0 = 0
 | 0 => rfl
 | n + 1 => by simp [pc, pc_zero n]
theorem pc_le : ∀ n x, pc n x ≤ n
 | 0, _ => Nat.le_refl _
 | n + 1, x => by have := pc_le n (x / 2); unfold pc; omega
theorem cnt_le (x : Nat) : cnt64 x ≤ 64 := by rw [cnt_pc]; exact pc_le 64 x
theorem pc_split : ∀ (a b x : Nat), pc (a + b) x = pc a (x % 2 ^ a) + pc b (x / 2 ^ a)
 | 0, b, x => by simp [pc]
 | a + 1, b, x => by
  have e : a + 1 + b = (a + b) + 1 := by omega
  rw [e, pc, pc_split a b (x / 2), pc]
  have h1 : x % 2 ^ (a + 1) % 2 = x % 2 := by
   rw [Nat.pow_succ, Nat.mul_comm, Nat.mod_mul_right_mod]
  have h2 : x % 2 ^ (a + 1) / 2 = x / 2 % 2 ^ a := by
   rw [Nat.pow_succ, Nat.mul_comm, Nat.mod_mul_right_div_self]
  have h3 : x / 2 / 2 ^ a = x / 2 ^ (a + 1) := by
   rw [Nat.div_div_eq_div_mul, Nat.pow_succ, Nat.mul_comm]
  rw [h1, h2, h3]
  omega
/-- A mask digit by digit. -/
theorem and_digit (k c m x : Nat) (hc : c < 2 ^ k) : x &&& (c + 2 ^ k * m) = (x % 2 ^ k &&& c) + 2 ^ k * (x / 2 ^ k &&& m) := by
 apply Nat.eq_of_testBit_eq
 intro i
 have hl : (x % 2 ^ k &&& c) < 2 ^ k := Nat.lt_of_le_of_lt Nat.and_le_right hc
 rw [Nat.add_comm c, Nat.add_comm (x % 2 ^ k &&& c), Nat.testBit_and, Nat.testBit_two_pow_mul_add _ hc, Nat.testBit_two_pow_mul_add _ hl]
 by_cases h : i < k
 ·
  simp [h, Nat.testBit_mod_two_pow]
 ·
  have e : (x / 2 ^ k).testBit (i - k) = x.testBit i := by
   rw [Nat.testBit_div_two_pow]
   congr 1
   omega
  simp [h, e]
/-- The mask that has c in each of n digits of k bits. -/
def mk (k c : Nat) : Nat → Nat
 | 0 => 0
 | n + 1 => c + 2 ^ k * mk k c n
/-- A function at each of n digits of k bits. -/
def dg (k : Nat) (f : Nat → Nat) : Nat → Nat → Nat
 | 0, _ => 0
 | n + 1, x => f (x % 2 ^ k) + 2 ^ k * dg k f n (x / 2 ^ k)
/-- The sum of f over n digits of k bits. -/
def ds (k : Nat) (f : Nat → Nat) : Nat → Nat → Nat
 | 0, _ => 0
 | n + 1, x => f (x % 2 ^ k) + ds k f n (x / 2 ^ k)
theorem pc_ds (k : Nat) : ∀ (n x : Nat), pc (k * n) x = ds k (pc k) n x
 | 0, x => rfl
 | n + 1, x => by
  have e : k * (n + 1) = k + k * n := by rw [Nat.mul_add, Nat.mul_one, Nat.add_comm]
  rw [e, pc_split, pc_ds k n, ds]
theorem ds_dg (k : Nat) (f g : Nat → Nat) (hf : ∀ d, d < 2 ^ k → f d < 2 ^ k) : ∀ (n x : Nat), ds k g n (dg k f n x) = ds k (fun d => g (f d)) n x
 | 0, _ => rfl
 | n + 1, x => by
  have hp : 0 < 2 ^ k := Nat.two_pow_pos k
  have hl := hf _ (Nat.mod_lt x hp)
  have h1 : (f (x % 2 ^ k) + 2 ^ k * dg k f n (x / 2 ^ k)) % 2 ^ k = f (x % 2 ^ k) := by
   rw [Nat.add_mul_mod_self_left, Nat.mod_eq_of_lt hl]
  have h2 : (f (x % 2 ^ k) + 2 ^ k * dg k f n (x / 2 ^ k)) / 2 ^ k = dg k f n (x / 2 ^ k) := by
   rw [Nat.add_mul_div_left _ _ hp, Nat.div_eq_of_lt hl, Nat.zero_add]
  rw [dg, ds, ds, h1, h2, ds_dg k f g hf n]
/-- Digits of 2k bits out of digits of k bits. -/
theorem ds_pair (k : Nat) (f : Nat → Nat) : ∀ (n x : Nat), ds k f (2 * n) x = ds (2 * k) (fun d => f (d % 2 ^ k) + f (d / 2 ^ k)) n x
 | 0, _ => rfl
 | n + 1, x => by
  have e : 2 * (n + 1) = (2 * n + 1) + 1 := by omega
  have e2 : 2 * k = k + k := by omega
  rw [e, ds, ds, ds_pair k f n, ds, e2]
  have h1 : x % 2 ^ (k + k) % 2 ^ k = x % 2 ^ k := by rw [Nat.pow_add, Nat.mod_mul_right_mod]
  have h2 : x % 2 ^ (k + k) / 2 ^ k = x / 2 ^ k % 2 ^ k := by rw [Nat.pow_add, Nat.mod_mul_right_div_self]
  have h3 : x / 2 ^ k / 2 ^ k = x / 2 ^ (k + k) := by rw [Nat.div_div_eq_div_mul, Nat.pow_add]
  rw [h1, h2, h3]
  omega
theorem ds_congr (k : Nat) (f g : Nat → Nat) (h : ∀ d, d < 2 ^ k → f d = g d) : ∀ (n x : Nat), ds k f n x = ds k g n x
 | 0, _ => rfl
 | n + 1, x => by rw [ds, ds, h _ (Nat.mod_lt _ (Nat.two_pow_pos k)), ds_congr k f g h n]
theorem dg_congr (k : Nat) (f g : Nat → Nat) (h : ∀ d, d < 2 ^ k → f d = g d) : ∀ (n x : Nat), dg k f n x = dg k g n x
 | 0, _ => rfl
 | n + 1, x => by rw [dg, dg, h _ (Nat.mod_lt _ (Nat.two_pow_pos k)), dg_congr k f g h n]
/-- Halves of digits, added. -/
theorem halves (k : Nat) : ∀ (n x : Nat), (x / 2 ^ k &&& mk (2 * k) (2 ^ k - 1) n) + (x &&& mk (2 * k) (2 ^ k - 1) n) = dg (2 * k) (fun d => d / 2 ^ k + d % 2 ^ k) n x
 | 0, _ => by simp [mk, dg]
 | n + 1, x => by
  have hp : 0 < 2 ^ k := Nat.two_pow_pos k
  have hc : 2 ^ k - 1 < 2 ^ (2 * k) := by
   have : 2 ^ k ≤ 2 ^ (2 * k) := Nat.pow_le_pow_right (by decide) (by omega)
   omega
  have e2 : 2 * k = k + k := by omega
  have h0 : x / 2 ^ k % 2 ^ (2 * k) % 2 ^ k = x % 2 ^ (2 * k) / 2 ^ k := by
   rw [e2, Nat.pow_add, Nat.mod_mul_right_mod, Nat.mod_mul_right_div_self]
  have h1 : x / 2 ^ k / 2 ^ (2 * k) = x / 2 ^ (2 * k) / 2 ^ k := by rw [Nat.div_div_eq_div_mul, Nat.div_div_eq_div_mul, Nat.mul_comm]
  rw [mk, and_digit _ _ _ _ hc, and_digit _ _ _ _ hc, Nat.and_two_pow_sub_one_eq_mod, Nat.and_two_pow_sub_one_eq_mod, h0, h1, dg, ← halves k n, Nat.mul_add]
  omega
/-- Four bits a digit, none above four: two of them added, no carry. -/
def nib : Nat → Nat → Prop
 | 0, _ => True
 | n + 1, x => x % 16 ≤ 4 ∧ nib n (x / 16)
theorem nib_dg (f : Nat → Nat) (hf : ∀ d, d < 2 ^ 4 → f d ≤ 4) : ∀ (n x : Nat), nib n (dg 4 f n x)
 | 0, _ => trivial
 | n + 1, x => by
  have hl := hf _ (Nat.mod_lt x (by decide))
  have h1 : (f (x % 2 ^ 4) + 2 ^ 4 * dg 4 f n (x / 2 ^ 4)) % 16 = f (x % 2 ^ 4) := by omega
  have h2 : (f (x % 2 ^ 4) + 2 ^ 4 * dg 4 f n (x / 2 ^ 4)) / 16 = dg 4 f n (x / 2 ^ 4) := by omega
  unfold nib dg
  rw [h1, h2]
  exact ⟨hl, nib_dg f hf n _⟩
theorem fold8 : ∀ (n x : Nat), nib (2 * n) x → x < 256 ^ n → (x / 16 + x) &&& mk 8 15 n = dg 8 (fun d => d / 16 + d % 16) n x
 | 0, x, _, _ => by simp [mk, dg]
 | n + 1, x, h, hx => by
  have e : 2 * (n + 1) = (2 * n + 1) + 1 := by omega
  rw [e] at h
  obtain ⟨h0, h1, h2⟩ := h
  have hd : x / 16 / 16 = x / 256 := by omega
  rw [hd] at h2
  have hx' : x / 256 < 256 ^ n := by rw [Nat.pow_succ] at hx; omega
  have ih := fold8 n (x / 256) h2 hx'
  have ha : x / 256 % 16 ≤ 4 := by
   cases n with
   | zero => simp at hx'; omega
   | succ m =>
    have e : 2 * (m + 1) = (2 * m + 1) + 1 := by omega
    rw [e] at h2
    exact h2.1
  have q1 : (x / 16 + x) / 2 ^ 8 = x / 256 / 16 + x / 256 := by omega
  have q2 : (x / 16 + x) % 2 ^ 8 % 2 ^ 4 = x % 256 / 16 + x % 256 % 16 := by omega
  have q3 : x / 2 ^ 8 = x / 256 := rfl
  have q4 : (x / 16 + x) % 2 ^ 8 &&& 15 = x % 256 / 16 + x % 256 % 16 := by
   rw [← q2]
   exact Nat.and_two_pow_sub_one_eq_mod _ 4
  rw [mk, and_digit 8 15 _ _ (by decide), q1, ih, q4, dg, q3]
theorem mod128 (y0 y1 y2 y3 y4 y5 y6 y7 x a b c : Nat) (h0 : y0 ≤ 8) (h1 : y1 ≤ 8) (h2 : y2 ≤ 8) (h3 : y3 ≤ 8) (h4 : y4 ≤ 8) (h5 : y5 ≤ 8) (h6 : y6 ≤ 8) (h7 : y7 ≤ 8)
  (hx : x = y0 + 256 * (y1 + 256 * (y2 + 256 * (y3 + 256 * (y4 + 256 * (y5 + 256 * (y6 + 256 * y7)))))))
  (ha : a = x + x / 256) (hb : b = a + a / 65536) (hc : c = b + b / 4294967296) : c < 18446744073709551616 ∧ c % 128 = y0 + y1 + y2 + y3 + y4 + y5 + y6 + y7 := by
 have ea : a = (y0 + y1) + 256 * ((y1 + y2) + 256 * ((y2 + y3) + 256 * ((y3 + y4) + 256 * ((y4 + y5) + 256 * ((y5 + y6) + 256 * ((y6 + y7) + 256 * y7)))))) := by omega
 have ea2 : a / 65536 = (y2 + y3) + 256 * ((y3 + y4) + 256 * ((y4 + y5) + 256 * ((y5 + y6) + 256 * ((y6 + y7) + 256 * y7)))) := by omega
 have eb : b = (y0 + y1 + y2 + y3) + 256 * ((y1 + y2 + y3 + y4) + 256 * ((y2 + y3 + y4 + y5) + 256 * ((y3 + y4 + y5 + y6) + 256 * ((y4 + y5 + y6 + y7) + 256 * ((y5 + y6 + y7) + 256 * ((y6 + y7) + 256 * y7)))))) := by omega
 have eb2 : b / 4294967296 = (y4 + y5 + y6 + y7) + 256 * ((y5 + y6 + y7) + 256 * ((y6 + y7) + 256 * y7)) := by omega
 clear ha hb hx ea ea2
 rw [eb2, eb] at hc
 omega
theorem dg_dg (k : Nat) (f g : Nat → Nat) (hf : ∀ d, d < 2 ^ k → f d < 2 ^ k) : ∀ (n x : Nat), dg k g n (dg k f n x) = dg k (fun d => g (f d)) n x
 | 0, _ => rfl
 | n + 1, x => by
  have hp : 0 < 2 ^ k := Nat.two_pow_pos k
  have hl := hf _ (Nat.mod_lt x hp)
  have h1 : (f (x % 2 ^ k) + 2 ^ k * dg k f n (x / 2 ^ k)) % 2 ^ k = f (x % 2 ^ k) := by
   rw [Nat.add_mul_mod_self_left, Nat.mod_eq_of_lt hl]
  have h2 : (f (x % 2 ^ k) + 2 ^ k * dg k f n (x / 2 ^ k)) / 2 ^ k = dg k f n (x / 2 ^ k) := by
   rw [Nat.add_mul_div_left _ _ hp, Nat.div_eq_of_lt hl, Nat.zero_add]
  rw [dg, dg, dg, h1, h2, dg_dg k f g hf n]
theorem dg_pair (k : Nat) (f : Nat → Nat) : ∀ (n x : Nat), dg k f (2 * n) x = dg (2 * k) (fun d => f (d % 2 ^ k) + 2 ^ k * f (d / 2 ^ k)) n x
 | 0, _ => rfl
 | n + 1, x => by
  have e : 2 * (n + 1) = (2 * n + 1) + 1 := by omega
  have e2 : 2 * k = k + k := by omega
  rw [e, dg, dg, dg_pair k f n, dg, e2]
  have h1 : x % 2 ^ (k + k) % 2 ^ k = x % 2 ^ k := by rw [Nat.pow_add, Nat.mod_mul_right_mod]
  have h2 : x % 2 ^ (k + k) / 2 ^ k = x / 2 ^ k % 2 ^ k := by rw [Nat.pow_add, Nat.mod_mul_right_div_self]
  have h3 : x / 2 ^ k / 2 ^ k = x / 2 ^ (k + k) := by rw [Nat.div_div_eq_div_mul, Nat.pow_add]
  rw [h1, h2, h3, Nat.mul_add, ← Nat.mul_assoc, ← Nat.pow_add, Nat.add_assoc]
theorem dg_step (f : Nat → Nat) (n x : Nat) : dg 8 f (n + 1) x = f (x % 256) + 256 * dg 8 f n (x / 256) := rfl
theorem ds_step (f : Nat → Nat) (n x : Nat) : ds 8 f (n + 1) x = f (x % 256) + ds 8 f n (x / 256) := rfl
theorem eight (x : Nat) : ∃ y0 y1 y2 y3 y4 y5 y6 y7 : Nat, y0 ≤ 8 ∧ y1 ≤ 8 ∧ y2 ≤ 8 ∧ y3 ≤ 8 ∧ y4 ≤ 8 ∧ y5 ≤ 8 ∧ y6 ≤ 8 ∧ y7 ≤ 8 ∧
  dg 8 (pc 8) 8 x = y0 + 256 * (y1 + 256 * (y2 + 256 * (y3 + 256 * (y4 + 256 * (y5 + 256 * (y6 + 256 * y7)))))) ∧ ds 8 (pc 8) 8 x = y0 + y1 + y2 + y3 + y4 + y5 + y6 + y7 := by
 have hp : ∀ d, pc 8 d ≤ 8 := pc_le 8
 generalize pc 8 = f at *
 refine ⟨f (x % 256), f (x / 256 % 256), f (x / 256 / 256 % 256), f (x / 256 / 256 / 256 % 256), f (x / 256 / 256 / 256 / 256 % 256), f (x / 256 / 256 / 256 / 256 / 256 % 256), f (x / 256 / 256 / 256 / 256 / 256 / 256 % 256), f (x / 256 / 256 / 256 / 256 / 256 / 256 / 256 % 256), hp _, hp _, hp _, hp _, hp _, hp _, hp _, hp _, ?_, ?_⟩
 ·
  rw [dg_step, dg_step, dg_step, dg_step, dg_step, dg_step, dg_step, dg_step, dg, Nat.mul_zero, Nat.add_zero]
 ·
  rw [ds_step, ds_step, ds_step, ds_step, ds_step, ds_step, ds_step, ds_step, ds, Nat.add_zero]
  simp only [← Nat.add_assoc]
/-- math/bits.OnesCount64, step by step. -/
theorem ones64 (x x1 x2 x3 a b c : Nat)
  (h1 : x1 = (x / 2 &&& 6148914691236517205) + (x &&& 6148914691236517205)) (h2 : x2 = (x1 / 4 &&& 3689348814741910323) + (x1 &&& 3689348814741910323))
  (h3 : x3 = (x2 / 16 + x2) &&& 1085102592571150095) (ha : a = x3 + x3 / 256) (hb : b = a + a / 65536) (hc : c = b + b / 4294967296) :
  x1 ≤ 12297829382473034410 ∧ x2 ≤ 7378697629483820646 ∧ x3 ≤ 1085102592571150095 ∧ c % 128 = cnt64 x := by
 have hx1 := halves 1 32 x
 have hx2 := halves 2 16 x1
 rw [show mk (2 * 1) (2 ^ 1 - 1) 32 = 6148914691236517205 by decide +kernel] at hx1
 rw [show mk (2 * 2) (2 ^ 2 - 1) 16 = 3689348814741910323 by decide +kernel] at hx2
 have e1 : x1 = dg 2 (pc 2) (2 * 16) x := (h1.trans hx1).trans (dg_congr 2 _ _ (by decide) 32 x)
 have e2 : x2 = dg 4 (fun d => d / 2 ^ 2 + d % 2 ^ 2) 16 x1 := h2.trans hx2
 rw [dg_pair] at e1
 rw [e1, dg_dg 4 _ _ (by decide +kernel), dg_congr 4 _ (pc 4) (by decide +kernel)] at e2
 have hx2l : x2 < 256 ^ 8 := by
  have q1 : x1 / 4 &&& 3689348814741910323 ≤ 3689348814741910323 := Nat.and_le_right
  have q2 : x1 &&& 3689348814741910323 ≤ 3689348814741910323 := Nat.and_le_right
  omega
 have hn : nib (2 * 8) x2 := by rw [e2]; exact nib_dg (pc 4) (fun d _ => pc_le 4 d) 16 x
 have e3 := fold8 8 x2 hn hx2l
 rw [show mk 8 15 8 = 1085102592571150095 by decide +kernel, ← h3, e2, dg_pair 4 (pc 4) 8, dg_dg 8 _ _ (by decide +kernel), dg_congr 8 _ (pc 8) (by decide +kernel)] at e3
 have e4 : cnt64 x = ds 8 (pc 8) 8 x := by rw [cnt_pc]; exact pc_ds 8 8 x
 have q1 : x / 2 &&& 6148914691236517205 ≤ 6148914691236517205 := Nat.and_le_right
 have q2 : x &&& 6148914691236517205 ≤ 6148914691236517205 := Nat.and_le_right
 have q3 : x1 / 4 &&& 3689348814741910323 ≤ 3689348814741910323 := Nat.and_le_right
 have q4 : x1 &&& 3689348814741910323 ≤ 3689348814741910323 := Nat.and_le_right
 have q5 : (x2 / 16 + x2) &&& 1085102592571150095 ≤ 1085102592571150095 := Nat.and_le_right
 rw [← h3] at q5
 obtain ⟨y0, y1, y2, y3, y4, y5, y6, y7, l0, l1, l2, l3, l4, l5, l6, l7, f3, f4⟩ := eight x
 rw [f3] at e3
 rw [f4] at e4
 have hm := mod128 y0 y1 y2 y3 y4 y5 y6 y7 x3 a b c l0 l1 l2 l3 l4 l5 l6 l7 e3 ha hb hc
 refine ⟨by omega, by omega, q5, ?_⟩
 rw [hm.2, e4]
end Go.Proofs.YtcfohakgokiedaaGreatDoor

namespace Go.Proofs.YtcfohakgokiedaaGreatDoor

theorem b64_zero : bits64 0 = [] := by decide +kernel
theorem low_bits (k m i : Nat) : (2 ^ k * (2 * m + 1)).testBit i = (decide (i = k) || (2 ^ (k + 1) * m).testBit i) := by
 rw [Nat.mul_comm, Nat.testBit_mul_two_pow, Nat.mul_comm (2 ^ (k + 1)), Nat.testBit_mul_two_pow]
 rcases Nat.lt_trichotomy i k with h | h | h
 ·
  have h1 : ¬ k ≤ i := by omega
  have h2 : ¬ k + 1 ≤ i := by omega
  simp [h1, h2]; omega
 ·
  subst h
  simp [Nat.testBit_zero]
 ·
  obtain ⟨j, rfl⟩ : ∃ j, i = k + (j + 1) := ⟨i - k - 1, by omega⟩
  have e : k + (j + 1) - k = j + 1 := by omega
  have e2 : k + (j + 1) - (k + 1) = j := by omega
  have d : (2 * m + 1) / 2 = m := by omega
  rw [e, e2, Nat.testBit_succ, d]
  simp
theorem low_and (k m : Nat) : (2 ^ k * (2 * m + 1)) &&& (2 ^ k * (2 * m + 1) - 1) = 2 ^ (k + 1) * m := by
 have hp : 0 < 2 ^ k := Nat.two_pow_pos k
 have e : 2 ^ k * (2 * m + 1) - 1 = 2 ^ (k + 1) * m + (2 ^ k - 1) := by
  rw [Nat.pow_succ, Nat.mul_add, Nat.mul_one, Nat.mul_assoc]
  omega
 have hlt : 2 ^ k - 1 < 2 ^ (k + 1) := by rw [Nat.pow_succ]; omega
 apply Nat.eq_of_testBit_eq
 intro i
 rw [Nat.testBit_and, low_bits, e, Nat.testBit_two_pow_mul_add _ hlt, Nat.mul_comm (2 ^ (k + 1)), Nat.testBit_mul_two_pow]
 by_cases h : i < k + 1
 ·
  have h1 : ¬ k + 1 ≤ i := by omega
  rw [if_pos h, Nat.testBit_two_pow_sub_one]
  simp [h1]
  omega
 ·
  have h1 : k + 1 ≤ i := by omega
  have h2 : ¬ i = k := by omega
  rw [if_neg h]
  simp [h1, h2]
theorem filter_cons (A B : Nat → Bool) (k d : Nat) (hA : ∀ i, A i = (decide (i = k) || B i)) (hB : ∀ i, i ≤ k → B i = false) :
  (List.range (k + (d + 1))).filter A = k :: (List.range (k + (d + 1))).filter B := by
 have h1 : (List.range k).filter A = [] := by
  rw [List.filter_eq_nil_iff]
  intro i hi
  have hi' : i < k := by simpa using hi
  rw [hA, hB i (by omega)]
  simp; omega
 have h2 : (List.range k).filter B = [] := by
  rw [List.filter_eq_nil_iff]
  intro i hi
  have hi' : i < k := by simpa using hi
  rw [hB i (by omega)]
  simp
 have h3 : ((List.range d).map (fun i => k + (i + 1))).filter A = ((List.range d).map (fun i => k + (i + 1))).filter B := by
  apply List.filter_congr
  intro i hi
  obtain ⟨j, _, rfl⟩ := List.mem_map.1 hi
  rw [hA]
  simp
 have e : List.range (k + (d + 1)) = List.range k ++ (k :: (List.range d).map (fun i => k + (i + 1))) := by
  rw [List.range_add, List.range_succ_eq_map, List.map_cons, List.map_map]
  rfl
 rw [e, List.filter_append, List.filter_append, h1, h2, List.filter_cons, List.filter_cons, h3, hA k, hB k (Nat.le_refl _)]
 simp
theorem b64_cons (k m : Nat) (hk : k < 64) : bits64 (2 ^ k * (2 * m + 1)) = k :: bits64 (2 ^ (k + 1) * m) := by
 unfold bits64
 have e : 64 = k + ((63 - k) + 1) := by omega
 rw [e]
 refine filter_cons _ _ k (63 - k) (fun i => low_bits k m i) (fun i hi => ?_)
 rw [Nat.mul_comm, Nat.testBit_mul_two_pow]
 have : ¬ k + 1 ≤ i := by omega
 simp [this]
/-- The least, and the others. -/
theorem rise64 (r : Nat) (h0 : r ≠ 0) (h : r < 18446744073709551616) : Lib.ctz 64 r < 64 ∧ bits64 r = Lib.ctz 64 r :: bits64 (r &&& (r - 1)) ∧ r &&& (r - 1) < r := by
 obtain ⟨m, hm, hk⟩ := Lib.ctzFrom_spec 64 r (by omega) (by simpa using h)
 have e : Lib.ctz 64 r = Lib.ctzFrom 64 r := by simp [Lib.ctz, h0]
 rw [e]
 generalize Lib.ctzFrom 64 r = k at *
 have hp : 0 < 2 ^ k := Nat.two_pow_pos k
 have ha : r &&& (r - 1) = 2 ^ (k + 1) * m := by rw [hm]; exact low_and k m
 refine ⟨hk, ?_, ?_⟩
 ·
  rw [ha, hm]; exact b64_cons k m hk
 ·
  rw [ha, hm, Nat.pow_succ, Nat.mul_add, Nat.mul_one, Nat.mul_assoc]; omega
theorem mem64 (s i : Nat) : i ∈ bits64 s ↔ i < 64 ∧ s.testBit i = true := by
 unfold bits64
 rw [List.mem_filter]
 simp
/-- The least number, -1 of none. -/
def firstN (s : Nat) : Int := if s = 0 then -1 else (Lib.ctz 64 s : Nat)
/-- A number's bit. -/
def bitI (i : Int) : Nat := if 0 ≤ i ∧ i < 64 then 2 ^ i.toNat else 0
def hasI (s : Nat) (i : Int) : Bool := s &&& bitI i != 0
def withI (s : Nat) (i : Int) : Nat := s ||| bitI i
def lessI (s : Nat) (i : Int) : Nat := s &&& (18446744073709551615 - bitI i)
theorem bit_lt (i : Int) : bitI i < 18446744073709551616 := by
 unfold bitI
 split
 ·
  rename_i h
  have : 2 ^ i.toNat ≤ 2 ^ 63 := Nat.pow_le_pow_right (by decide) (by omega)
  exact Nat.lt_of_le_of_lt this (by decide)
 ·
  decide
theorem with_lt (s : Nat) (i : Int) (h : s < 18446744073709551616) : withI s i < 18446744073709551616 := Nat.or_lt_two_pow (n := 64) h (bit_lt i)
theorem less_lt (s : Nat) (i : Int) (h : s < 18446744073709551616) : lessI s i < 18446744073709551616 := Nat.lt_of_le_of_lt Nat.and_le_left h
theorem bit_bit (i : Int) (j : Nat) : (bitI i).testBit j = decide (i = (j : Int) ∧ j < 64) := by
 unfold bitI
 split
 ·
  rename_i h
  rw [Nat.testBit_two_pow]
  congr 1
  apply propext
  omega
 ·
  rename_i h
  rw [Nat.zero_testBit]
  symm
  rw [decide_eq_false_iff_not]
  omega
theorem not_bit (x j : Nat) (hx : x < 18446744073709551616) : (18446744073709551615 - x).testBit j = (decide (j < 64) && !x.testBit j) := by
 have : 18446744073709551615 - x = 2 ^ 64 - (x + 1) := by omega
 rw [this, Nat.testBit_two_pow_sub_succ hx]
theorem has_bit (s : Nat) (i : Int) : hasI s i = (decide (0 ≤ i ∧ i < 64) && s.testBit i.toNat) := by
 unfold hasI bitI
 split
 ·
  rename_i h
  rw [decide_eq_true h, Bool.true_and]
  by_cases hb : s.testBit i.toNat = true
  ·
   rw [hb]
   have : s &&& 2 ^ i.toNat ≠ 0 := by
    intro h0
    have := congrArg (fun n => n.testBit i.toNat) h0
    simp [Nat.testBit_and, hb] at this
   simpa using this
  ·
   have hb' : s.testBit i.toNat = false := by simpa using hb
   rw [hb']
   have : s &&& 2 ^ i.toNat = 0 := by
    apply Nat.eq_of_testBit_eq
    intro j
    rw [Nat.testBit_and, Nat.testBit_two_pow, Nat.zero_testBit]
    by_cases h : i.toNat = j
    ·
     subst h; simp [hb']
    ·
     simp [h]
   simp [this]
 ·
  rename_i h
  rw [decide_eq_false h]
  simp
theorem with_bit (s : Nat) (i : Int) (j : Nat) : (withI s i).testBit j = (s.testBit j || decide (i = (j : Int) ∧ j < 64)) := by
 unfold withI
 rw [Nat.testBit_or, bit_bit]
theorem less_bit (s : Nat) (i : Int) (j : Nat) (hs : s < 18446744073709551616) : (lessI s i).testBit j = (s.testBit j && !decide (i = (j : Int) ∧ j < 64)) := by
 unfold lessI
 rw [Nat.testBit_and, not_bit _ _ (bit_lt i), bit_bit]
 by_cases h : j < 64
 ·
  simp [h]
 ·
  have : s.testBit j = false := Nat.testBit_lt_two_pow (Nat.lt_of_lt_of_le hs (Nat.pow_le_pow_right (n := 2) (i := 64) (by decide) (by omega)))
  simp [this]
def uptoI (n : Int) : Nat := if n < 0 then 0 else if 64 ≤ n then 18446744073709551615 else 2 ^ n.toNat - 1
def nextN (s : Nat) : Nat :=
 let c := (s + (s &&& (18446744073709551616 - s) % 18446744073709551616)) % 18446744073709551616
 if c = 0 then 0 else c ||| ((s ^^^ c) / 2 ^ Lib.ctz 64 s) / 4
end Go.Proofs.YtcfohakgokiedaaGreatDoor

namespace Go.Proofs.YtcfohakgokiedaaGreatDoor
open Go.RowKit

abbrev S64 (s : Nat) : Value := .int .u64 s
theorem ret_int {k : IntKind} {a b : Int} (h : a = b) : Ending.returned (.int k a) = .returned (.int k b) := by rw [h]
theorem ret_b {a b : Bool} (h : a = b) : Ending.returned (.bool a) = .returned (.bool b) := by rw [h]
theorem bit_val (i : Int) (h0 : 0 ≤ i) (h1 : i < 64) : IntKind.u64.wrap (2 ^ i.toNat) = ((bitI i : Nat) : Int) := by
 have hm : min i.toNat 64 = i.toNat := by omega
 have hv := u64_shl_one_var i h0
 rw [hm] at hv
 rw [IntKind.wrap_u64, hv]
 unfold bitI
 have h2 : ¬ 64 ≤ i := by omega
 simp [h0, h1, h2]
theorem has_int (s : Nat) (i : Int) (hs : s < 18446744073709551616) : (bits .and .u64 (s : Int) ((bitI i : Nat) : Int) != 0) = hasI s i := by
 rw [u64_and_nat s _ hs (bit_lt i)]
 unfold hasI
 cases h : (s &&& bitI i) with
 | zero => rfl
 | succ n =>
  have h1 : (((n + 1 : Nat) : Int) == 0) = false := by rw [beq_eq_false_iff_ne]; omega
  have h2 : (n + 1 == 0) = false := rfl
  rw [bne, bne, h1, h2]
end Go.Proofs.YtcfohakgokiedaaGreatDoor

namespace Go.Proofs.YtcfohakgokiedaaGreatDoor
open Go.RowKit

theorem less_val (i : Int) (h0 : 0 ≤ i) (h1 : i < 64) : IntKind.u64.wrap (IntKind.u64.wrap (2 ^ i.toNat) - 1) = ((2 ^ i.toNat - 1 : Nat) : Int) := by
 have e : bitI i = 2 ^ i.toNat := by unfold bitI; rw [if_pos ⟨h0, h1⟩]
 have hl := bit_lt i
 rw [bit_val i h0 h1, e, IntKind.wrap_u64]
 rw [e] at hl
 have hp : 0 < 2 ^ i.toNat := Nat.two_pow_pos _
 omega
def carN (s : Nat) : Nat := (s + (s &&& (18446744073709551616 - s) % 18446744073709551616)) % 18446744073709551616
theorem car_lt (s : Nat) : carN s < 18446744073709551616 := Nat.mod_lt _ (by decide)
theorem car_val (s : Nat) (hs : s < 18446744073709551616) : IntKind.u64.wrap ((s : Int) + bits .and .u64 (s : Int) (IntKind.u64.wrap (-(s : Int)))) = ((carN s : Nat) : Int) := by
 have e : IntKind.u64.wrap (-(s : Int)) = (((18446744073709551616 - s) % 18446744073709551616 : Nat) : Int) := by rw [IntKind.wrap_u64]; omega
 rw [e, u64_and_nat s _ hs (Nat.mod_lt _ (by decide)), IntKind.wrap_u64]
 unfold carN
 omega
end Go.Proofs.YtcfohakgokiedaaGreatDoor

namespace Go.Proofs.YtcfohakgokiedaaGreatDoor
open Go.RowKit

structure RelT where
 n : Nat
 f : Nat → Nat
def relL (r : RelT) : List Value := .int .i64 r.n :: (List.range 64).map (fun i => .int .u64 (r.f i))
def relA (r : RelT) : Array Value := (relL r).toArray
def zeroR : RelT := ⟨0, fun _ => 0⟩
def newR (n : Int) : RelT := ⟨min n.toNat 64, fun _ => 0⟩
theorem relL_len (r : RelT) : (relL r).length = 65 := by simp [relL]
theorem relA_size (r : RelT) : (relA r).size = 65 := by simp [relA, relL]
theorem relA_one (r : RelT) : ∀ v ∈ (relA r).toList, v.oneCell' = true := by
 intro v hv
 unfold relA relL at hv
 simp only [List.mem_cons, List.mem_map] at hv
 rcases hv with rfl | ⟨i, _, rfl⟩ <;> rfl
theorem relA_zero (r : RelT) : (relA r)[0]? = some (.int .i64 r.n) := rfl
theorem relA_at (r : RelT) {i : Nat} (h : i < 64) : (relA r)[1 + i]? = some (.int .u64 (r.f i)) := by
 unfold relA relL
 rw [List.getElem?_toArray, Nat.add_comm, List.getElem?_cons_succ, List.getElem?_map, List.getElem?_range h]
 rfl
theorem relL_set0 (r : RelT) (n : Nat) : (relL r).set 0 (.int .i64 n) = relL ⟨n, r.f⟩ := rfl
theorem relL_set (r : RelT) (i x : Nat) (h : i < 64) : (relL r).set (1 + i) (.int .u64 x) = relL ⟨r.n, fun j => if j = i then x else r.f j⟩ := by
 unfold relL
 rw [Nat.add_comm, List.set_cons_succ]
 congr 1
 apply List.ext_getElem?
 intro j
 rw [List.getElem?_set, List.getElem?_map, List.getElem?_map]
 by_cases hij : i = j
 ·
  subst hij
  rw [if_pos rfl, if_pos (by simpa using h), List.getElem?_range h]
  simp
 ·
  rw [if_neg hij]
  by_cases hj : j < 64
  ·
   rw [List.getElem?_range hj]
   have : ¬ j = i := fun h => hij h.symm
   simp [this]
  ·
   rw [List.getElem?_eq_none (by simpa using hj)]
   rfl
/-- A whole block out of memory, into memory. -/
theorem ld65 {W : World} {N : Nat} {cs : Array Value} (h : Bk W N cs) (hs : cs.size = 65) : (loadCellsFrom ⟨N, 0, none⟩ 0 65 #[]).run Tryz.prog W = .ok cs W := by
 obtain ⟨T, e⟩ := h
 have := run_loadCells_list (P := Tryz.prog) W ⟨N, 0, none⟩ cs.toList (fun j v hv => by
  have hadd : (⟨N, 0, none⟩ : Addr).add j = ⟨N, j, none⟩ := by unfold Addr.add; split <;> simp_all
  rw [hadd, cell_of_row _ _ j cs T (0, 0) e]
  simpa using hv)
 simpa [loadCells, hs] using this
theorem st65 {W : World} {N : Nat} {old cs : Array Value} (h : Bk W N old) (ho : old.size = 65) (hs : cs.size = 65) (h1 : ∀ v ∈ cs.toList, v.oneCell' = true) : (storeCells ⟨N, 0, none⟩ cs.toList).run Tryz.prog W = .ok () (W.setRow N cs) := by
 obtain ⟨T, e⟩ := h
 have := run_storeCells_from (P := Tryz.prog) N T cs.toList 0 old W e (by simp; omega) h1
 simpa using this
theorem Bk.row {W : World} {N : Nat} {old : Array Value} (h : Bk W N old) (cs : Array Value) : Bk (W.setRow N cs) N cs := by
 obtain ⟨T, e⟩ := h
 exact ⟨T, setRow_heap W N old cs T _ e⟩
theorem Bk.rowFar {W : World} {N M : Nat} {cs : Array Value} (h : Bk W M cs) (hne : N ≠ M) (c : Array Value) : Bk (W.setRow N c) M cs := by
 obtain ⟨T, e⟩ := h
 exact ⟨T, (setRow_other W N M c (fun h => hne h.symm)).trans e⟩
theorem On.row {w x : World} {N : Nat} (h : On w x) (hN : w.heap.size ≤ N) (cs : Array Value) : On w (x.setRow N cs) :=
 ⟨h.os, h.tape, h.output, by rw [size_setRow]; exact h.size, fun k hk => (setRow_other x N k cs (by omega)).trans (h.block k hk)⟩
theorem Bk.set1 {W : World} {N : Nat} {r : RelT} (h : Bk W N (relA r)) {i : Nat} (hi : i < 64) (x : Nat) : Bk (W.setCell ⟨N, 1 + i, none⟩ (.int .u64 x)) N (relA ⟨r.n, fun j => if j = i then x else r.f j⟩) := by
 have := Bk.put (cs := relL r) h (1 + i) (.int .u64 x)
 rw [relL_set r i x hi] at this
 exact this
theorem Bk.setN0 {W : World} {N : Nat} {r : RelT} (h : Bk W N (relA r)) (n : Nat) : Bk (W.setCell ⟨N, 0, none⟩ (.int .i64 n)) N (relA ⟨n, r.f⟩) := by
 have := Bk.put (cs := relL r) h 0 (.int .i64 n)
 rw [relL_set0] at this
 exact this
theorem Bk.drew {W : World} {N : Nat} {cs : Array Value} (h : Bk W N cs) : Bk W.drew N cs := h
theorem rel_ne (r : RelT) : ¬ relA r = #[] := fun h => by have := congrArg Array.size h; rw [relA_size] at this; cases this
/-- What a loop over the rows has done so far. -/
def uptoR (r : RelT) (g : Nat → Nat) (i : Nat) : RelT := ⟨r.n, fun j => if j < i then g j else r.f j⟩
theorem uptoR_zero (r : RelT) (g : Nat → Nat) : uptoR r g 0 = r := by
 unfold uptoR
 simp
theorem uptoR_step (r : RelT) (g : Nat → Nat) (i : Nat) : (⟨(uptoR r g i).n, fun j => if j = i then g i else (uptoR r g i).f j⟩ : RelT) = uptoR r g (i + 1) := by
 unfold uptoR
 congr 1
 funext j
 by_cases h : j = i
 ·
  subst h; simp
 ·
  by_cases h2 : j < i
  ·
   have : j < i + 1 := by omega
   simp [h, h2, this]
  ·
   have : ¬ j < i + 1 := by omega
   simp [h, h2, this]
theorem uptoR_skip (r : RelT) (g : Nat → Nat) (i : Nat) (h : g i = r.f i) : uptoR r g (i + 1) = uptoR r g i := by
 unfold uptoR
 congr 1
 funext j
 by_cases hj : j = i
 ·
  subst hj; simp [h]
 ·
  by_cases h2 : j < i
  ·
   have : j < i + 1 := by omega
   simp [h2, this]
  ·
   have : ¬ j < i + 1 := by omega
   simp [h2, this]
theorem uptoR_at (r : RelT) (g : Nat → Nat) (i : Nat) : (uptoR r g i).f i = r.f i := by unfold uptoR; simp
/-- Is a one of the numbers? -/
def overR (r : RelT) (a : Int) : Bool := decide (0 ≤ a) && decide (a < r.n)
theorem over_spec {r : RelT} {a : Int} (h : overR r a = true) : ∃ k : Nat, a = k ∧ k < r.n := by
 unfold overR at h
 simp only [Bool.and_eq_true, decide_eq_true_eq] at h
 exact ⟨a.toNat, by omega, by omega⟩
end Go.Proofs.YtcfohakgokiedaaGreatDoor

namespace Go.Proofs.YtcfohakgokiedaaGreatDoor
open Go.RowKit

theorem run_copyK (w : World) (dT sT ty elem : TypeId) (k : Nat) (g off dLen dCap sLen sCap : Nat) (dp sp : Option Addr) (cur : List Value) (t : TypeId) (cs : List Value)
  (hu : Tryz.prog.underlying dT = some (.slice elem)) (hs : (Tryz.prog.info? elem).map (·.size) = some k) (hg : w.heap[g]? = some (.cells cur.toArray t (0, 0))) (hn : cs.length = Nat.min sLen dLen * k) (hk : 0 < k)
  (hpos : 0 < cs.length → dp = some ⟨g, off, none⟩ ∧ ∃ ad, sp = some ad ∧ ∀ j v, cs[j]? = some v → w.cell? (ad.add j) = some v) (hfit : off + cs.length ≤ cur.length) (h1 : ∀ v ∈ cs, v.oneCell' = true) :
  (Builtin.copy_ #[dT, sT] ty #[.slice dp dLen dCap, .slice sp sLen sCap]).run Tryz.prog w = .ok (goInt (Nat.min sLen dLen)) (w.setRow g (cur.take off ++ cs ++ cur.drop (off + cs.length)).toArray) := by
 cases hq : Tryz.prog.info? elem with
 | none => simp [hq] at hs
 | some i =>
  have hi : i.size = k := by simpa [hq] using hs
  by_cases h0 : cs.length = 0
  ·
   obtain rfl : cs = [] := List.eq_nil_of_length_eq_zero h0
   have hm : Nat.min sLen dLen = 0 := by
    rcases Nat.eq_zero_or_pos (Nat.min sLen dLen) with h | h
    ·
     exact h
    ·
     have := Nat.mul_pos h hk
     simp only [List.length_nil] at hn
     omega
   have hl : ∀ (x : Addr), (loadCells x 0).run Tryz.prog w = .ok #[] w := fun x => by simpa using run_loadCells_list (P := Tryz.prog) w x [] (by simp)
   have he : w.setRow g (cur.take off ++ [] ++ cur.drop (off + ([] : List Value).length)).toArray = w := by
    have : cur.take off ++ [] ++ cur.drop (off + ([] : List Value).length) = cur := by simp
    rw [this]
    exact setRow_self w g cur.toArray t (0, 0) hg
   rw [he, hm]
   cases dp <;> cases sp <;> simp [Builtin.copy_, run_underlying hu, Builtin.lenOf, Builtin.firstCells, sizeOf, typeInfo, hq, hm, storeCells, hl]
  ·
   obtain ⟨rfl, ad, rfl, hsrc⟩ := hpos (by omega)
   have hl := run_loadCells_list (P := Tryz.prog) w ad cs hsrc
   have hst := run_storeCells_at Tryz.prog g off t cs 0 cur.toArray w hg (by simpa using hfit) h1
   simp [Builtin.copy_, run_underlying hu, Builtin.lenOf, Builtin.firstCells, sizeOf, typeInfo, hq, hi, ← hn, hl, hst]
theorem wp_copyK {o : Oper} {a : Act} {w : World} {K : Act → World → Prop} {Q : Exit → Act → World → Prop} (d s : Operand) (dT sT : TypeId)
  (ho : o.op = .call { callee := .builtin .copy, args := #[d, s], argTypes := #[dT, sT] }) (elem : TypeId) (k : Nat) (hu : Tryz.prog.underlying dT = some (.slice elem)) (hs : (Tryz.prog.info? elem).map (·.size) = some k)
  {g off dLen dCap sLen sCap : Nat} {dp sp : Option Addr} (hd : a.eval d = .slice dp dLen dCap) (hsr : a.eval s = .slice sp sLen sCap) (cur : List Value) (t : TypeId) (cs : List Value)
  (hg : w.heap[g]? = some (.cells cur.toArray t (0, 0))) (hn : cs.length = Nat.min sLen dLen * k) (hk : 0 < k)
  (hpos : 0 < cs.length → dp = some ⟨g, off, none⟩ ∧ ∃ ad, sp = some ad ∧ ∀ j v, cs[j]? = some v → w.cell? (ad.add j) = some v) (hfit : off + cs.length ≤ cur.length) (h1 : ∀ v ∈ cs, v.oneCell' = true)
  (h : K (a.put o.dst (goInt (Nat.min sLen dLen))) (w.setRow g (cur.take off ++ cs ++ cur.drop (off + cs.length)).toArray)) : o.wp Tryz.prog a w K Q := by
 have hrun := run_copyK w dT sT o.type elem k g off dLen dCap sLen sCap dp sp cur t cs hu hs hg hn hk hpos hfit h1
 unfold Oper.wp execOp
 simp only [ho, resolve, invoke, builtin, Sem.run_bind, Sem.run_pure, Result.andThen_ok, List.map_toArray, List.map_cons, List.map_nil, hd, hsr, hrun]
 exact h
end Go.Proofs.YtcfohakgokiedaaGreatDoor

namespace Go.Proofs.YtcfohakgokiedaaGreatDoor
open Go.RowKit

def nil3 : List Value := [Value.slice none 0 0, Value.slice none 0 0, Value.slice none 0 0]
def curX (vs : List Tri) (SP : List Value) : List Value := vs.flatMap triC ++ nil3 ++ SP
theorem infoX : (Tryz.prog.info? 41).map (fun i => (i.zero, i.size, i.bytes)) = some (some (.agg #[.slice none 0 0, .slice none 0 0, .slice none 0 0]), 3, 72) := by kernel_rfl
theorem flat_len3 (vs : List Tri) : (vs.flatMap triC).length = vs.length * 3 := by
 induction vs with
 | nil => rfl
 | cons t vs ih => rw [List.flatMap_cons, List.length_append, ih, triC_len, List.length_cons]; omega
theorem flat_one3 {w : World} {L : List ExT} {vs : List Tri} (h : vs.length = L.length) (hts : ∀ (i : Nat) (t : Tri) (x : ExT), vs[i]? = some t → L[i]? = some x → ExTd w t x) : ∀ u ∈ vs.flatMap triC, u.oneCell' = true := by
 intro u hu
 obtain ⟨t, ht, hu⟩ := List.mem_flatMap.1 hu
 obtain ⟨i, hi, rfl⟩ := List.mem_iff_getElem.1 ht
 exact (hts i _ L[i] (List.getElem?_eq_getElem hi) (List.getElem?_eq_getElem (by omega))).one u hu
/-- What the copy leaves: room for one behind the first m. -/
theorem ins_cells (vs : List Tri) (m : Nat) (hm : m ≤ vs.length) (z0 z1 z2 : Value) (SP : List Value) :
  ∃ u0 u1 u2, (vs.flatMap triC ++ [z0, z1, z2] ++ SP).take ((m + 1) * 3) ++ (vs.drop m).flatMap triC ++ (vs.flatMap triC ++ [z0, z1, z2] ++ SP).drop ((m + 1) * 3 + ((vs.drop m).flatMap triC).length) =
   (vs.take m).flatMap triC ++ u0 :: u1 :: u2 :: ((vs.drop m).flatMap triC ++ SP) := by
 have e : vs.flatMap triC = (vs.take m).flatMap triC ++ (vs.drop m).flatMap triC := by rw [← List.flatMap_append, List.take_append_drop]
 have hA : ((vs.take m).flatMap triC).length = m * 3 := by rw [flat_len3, List.length_take, Nat.min_eq_left hm]
 have hB : ((vs.drop m).flatMap triC).length = (vs.length - m) * 3 := by rw [flat_len3, List.length_drop]
 have hd : (vs.flatMap triC ++ [z0, z1, z2] ++ SP).drop ((m + 1) * 3 + ((vs.drop m).flatMap triC).length) = SP := by
  rw [hB, List.drop_append, List.drop_of_length_le (by rw [List.length_append, flat_len3]; simp only [List.length_cons, List.length_nil]; omega), List.nil_append]
  have : (m + 1) * 3 + (vs.length - m) * 3 - (vs.flatMap triC ++ [z0, z1, z2]).length = 0 := by rw [List.length_append, flat_len3]; simp only [List.length_cons, List.length_nil]; omega
  rw [this, List.drop_zero]
 rw [hd]
 have ht : ∃ u0 u1 u2, (vs.flatMap triC ++ [z0, z1, z2] ++ SP).take ((m + 1) * 3) = (vs.take m).flatMap triC ++ [u0, u1, u2] := by
  rw [e]
  simp only [List.append_assoc]
  rw [List.take_append, hA, show (m + 1) * 3 - m * 3 = 3 by omega, List.take_of_length_le (by omega)]
  cases vs.drop m with
  | nil => exact ⟨z0, z1, z2, by simp⟩
  | cons t r => exact ⟨t.1, t.2.1, t.2.2, by simp [triC]⟩
 obtain ⟨u0, u1, u2, ht⟩ := ht
 exact ⟨u0, u1, u2, by rw [ht]; simp⟩
theorem set3 (A R : List Value) (u0 u1 u2 t1 t2 t3 : Value) (m : Nat) (hA : A.length = m * 3) : (((A ++ u0 :: u1 :: u2 :: R).set (m * 3) t1).set (m * 3 + 1) t2).set (m * 3 + 2) t3 = A ++ t1 :: t2 :: t3 :: R := by
 rw [← hA, set_split, show A ++ t1 :: u1 :: u2 :: R = (A ++ [t1]) ++ u1 :: u2 :: R by simp, show A.length + 1 = (A ++ [t1]).length by simp, set_split,
  show (A ++ [t1]) ++ t2 :: u2 :: R = (A ++ [t1, t2]) ++ u2 :: R by simp, show A.length + 2 = (A ++ [t1, t2]).length by simp, set_split]
 simp
theorem ins_all {α β : Type} {R : α → β → Prop} {A : List α} {B : List β} (h : A.length = B.length) (hR : ∀ (i : Nat) a b, A[i]? = some a → B[i]? = some b → R a b) (m : Nat) (hm : m ≤ A.length) {a : α} {b : β} (hab : R a b) :
  ∀ (i : Nat) x y, (A.take m ++ a :: A.drop m)[i]? = some x → (B.take m ++ b :: B.drop m)[i]? = some y → R x y := by
 intro i x y hx hy
 have h1 : (A.take m).length = m := by rw [List.length_take]; omega
 have h2 : (B.take m).length = m := by rw [List.length_take]; omega
 rcases Nat.lt_trichotomy i m with hi | hi | hi
 ·
  rw [List.getElem?_append_left (by omega), List.getElem?_take, if_pos hi] at hx hy
  exact hR i x y hx hy
 ·
  subst hi
  rw [List.getElem?_append_right (by omega), h1, Nat.sub_self] at hx
  rw [List.getElem?_append_right (by omega), h2, Nat.sub_self] at hy
  simp only [List.getElem?_cons_zero, Option.some.injEq] at hx hy
  subst hx; subst hy
  exact hab
 ·
  rw [List.getElem?_append_right (by omega), h1, show i - m = (i - m - 1) + 1 by omega, List.getElem?_cons_succ, List.getElem?_drop] at hx
  rw [List.getElem?_append_right (by omega), h2, show i - m = (i - m - 1) + 1 by omega, List.getElem?_cons_succ, List.getElem?_drop] at hy
  exact hR _ x y hx hy
def CmpIs : Prop := ∀ (x y : ExT) (vx vy : Value) (w : World), ExRd w vx x → ExRd w vy y → Calls Tryz.prog 78 #[vx, vy] w fun e w' => e = .returned (.int .i64 (exCmp x y)) ∧ On w w'
set_option maxHeartbeats 4000000 in
set_option maxRecDepth 8000 in
theorem rput_is (hC : CmpIs) (L : List ExT) (x : ExT) (v : Value) (tx : Tri) (b : Nat) (w : World) (hb : b ≤ w.heap.size) (hO : OwX w b v L) (hx : ExTd w tx x) (hl : L.length ≤ 100000) :
  Calls Tryz.prog 65 #[v, triV tx] w fun e w' => ∃ v', e = .returned v' ∧ OwX w' b v' (putP L x) ∧ (∀ N, Fx N v v' w w') ∧ Ky w w' := by
 obtain ⟨a, c, rfl⟩ := hO.slice
 have hO0 := hO
 obtain ⟨vs, hvl, hown, hts⟩ := hO
 obtain ⟨t1, t2, t3⟩ := tx
 have HX : Hid (ExTd w (t1, t2, t3) x) := hx
 have HT : Hid (∀ (i : Nat) (t : Tri) (x : ExT), vs[i]? = some t → L[i]? = some x → ExTd w t x) := hts
 have hRd : Rd triC 3 w (.slice a L.length c) vs := Rd.own triC_len (base := b) (e := TX) (by rw [hvl]; exact hown)
 have HR : Hid (Rd triC 3 w (.slice a L.length c) vs) := hRd
 have HOW : Hid (w.ownsRow b TX 3 (.slice a L.length c) L.length (vs.flatMap triC)) := hown
 have HC : Hid CmpIs := hC
 obtain ⟨n, hn⟩ : ∃ n, n = L.length := ⟨_, rfl⟩
 rw [← hn] at HR HOW hl hvl ⊢
 obtain ⟨T, hT⟩ : ∃ T, T = putAtP L x := ⟨_, rfl⟩
 have HTT : Hid (T = bsP L x (n + 1) 0 n) := by show T = _; rw [hT, hn]; rfl
 have HTD : Hid (T = putAtP L x) := hT
 have HN : Hid (n = L.length) := hn
 have HOX : Hid (OwX w b (.slice a n c) L) := by show OwX w b _ L; rw [hn]; exact hO0
 clear hO0
 have HVL : Hid (vs.length = n) := hvl
 clear hC hx hts hRd hown hT hn hvl
 obtain ⟨W1, hW1⟩ : ∃ W1, W1 = w.alloc (.cells #[t1, t2, t3] TX) := ⟨_, rfl⟩
 have P1 : Bk W1 w.heap.size #[t1, t2, t3] := by rw [hW1]; exact Bk.new w _ _
 have K1 : On w W1 := by rw [hW1]; exact (On.refl w).alloc _
 unfold triV
 go_enter Tryz.func65, Tryz.ntmps65
 go_upto_region 1 with fail
 rw [← hW1]
 clear hW1
 go_wp2
 go_loopg [5, 6] n (fun gg s5 s6 wr => ∃ lo hi k : Nat, lo ≤ hi ∧ hi ≤ n ∧ gg = hi - lo ∧ s5 = .int .i64 lo ∧ s6 = .int .i64 hi ∧ Hid (On w wr) ∧ Bk wr w.heap.size #[t1, t2, t3] ∧ Hid (T = bsP L x k lo hi ∧ hi - lo < k))
 case atStart => exact ⟨0, n, n + 1, Nat.zero_le _, Nat.le_refl _, rfl, rfl, rfl, K1, P1, HTT.out, by omega⟩
 case round =>
  clear HTT K1 P1
  obtain ⟨lo, hi, k, hlh, hhn, hg, rfl, rfl, HO, PB, HB⟩ := hrel
  rcases Nat.lt_or_ge lo hi with hlt | hge
  ·
   obtain ⟨m, hm⟩ : ∃ m, m = (lo + hi) / 2 := ⟨_, rfl⟩
   have hmn : m < n := by omega
   obtain ⟨t, ht⟩ : ∃ t, vs[m]? = some t := ⟨_, List.getElem?_eq_getElem (by rw [HVL.out]; exact hmn)⟩
   obtain ⟨y, hy⟩ : ∃ y, L[m]? = some y := ⟨_, List.getElem?_eq_getElem (by rw [← HN.out]; exact hmn)⟩
   have hRr := HR.out.on HO.out
   rw [← HVL.out] at hRr
   obtain ⟨g, off, rfl, hgw, hcell⟩ := hRr.at ht
   have q0 := hcell 0 _ rfl
   have q1 := hcell 1 _ rfl
   have q2 := hcell 2 _ rfl
   rw [Nat.add_zero] at q0
   have hC1 := fun W (k : On wr W) => HC.out y x (triV t) (triV (t1, t2, t3)) W ((HT.out m t y ht hy).on (HO.out.trans k)).rd (HX.out.on (HO.out.trans k)).rd
   have hq : ((lo : Int) + (hi : Int)) / 2 = (m : Int) := by omega
   have hg : g < wr.heap.size := hgw
   have hlm : lo ≤ m := by omega
   have hmh : m < hi := by omega
   have bm0 : (0 : Int) ≤ (m : Int) := by omega
   have bm1 : (m : Int) < (n : Int) := by omega
   have hgy : L.getD m x = y := by rw [List.getD_eq_getElem?_getD, hy]; rfl
   obtain ⟨k', rfl⟩ : ∃ k', k = k' + 1 := ⟨k - 1, by have := HB.out.2; omega⟩
   have hbs := HB.out.1
   rw [bsP, if_pos hlt, ← hm, hgy] at hbs
   clear hm
   generalize exCmp y x = z at *
   by_cases hz : z < 0
   ·
    have dz : decide (z < 0) = true := decide_eq_true hz
    rw [if_pos hz] at hbs
    have HB2 : Hid (T = bsP L x k' (m + 1) hi ∧ hi - (m + 1) < k') := ⟨hbs, by have := HB.out.2; omega⟩
    have hov : IntKind.i64.wrap ((m : Int) + 1) = ((m + 1 : Nat) : Int) := by rw [wrap_small]; omega; omega; omega
    clear HB hbs hgy hy ht hcell hRr hz
    go_upto_region 4 with fail
    have K0 : On wr wr.drew := On.drew (On.refl wr)
    have hon : ∀ W W', On wr W → On W W' → On wr W' := fun W W' h k => h.trans k
    refine region_fin (fun W => On wr W) 99 7 (by kernel_rfl) rfl ?_
    refine fin_take 0 (v := ?_) rfl (by kernel_rfl) (by kernel_rfl) (by kernel_rfl) (by kernel_rfl) (fun _ _ _ h => h) rfl ?_ K0 ?_
    rotate_left
    ·
     intro W hW
     go_simp
     (try with_reducible rfl)
    simp only [pu, sa, sz0, ss1]
    refine fin_take 1 (v := ?_) rfl (by kernel_rfl) (by kernel_rfl) (by kernel_rfl) (by kernel_rfl) (fun _ _ _ h => h) rfl ?_ K0 ?_
    rotate_left
    ·
     intro W hW
     go_simp
     (try with_reducible rfl)
    simp only [pu, sa, sz0, ss1]
    refine fin_take 2 (v := ?_) rfl (by kernel_rfl) (by kernel_rfl) (by kernel_rfl) (by kernel_rfl) (fun _ _ _ h => h) rfl ?_ K0 ?_
    rotate_left
    ·
     intro W hW
     have f0 := (hW.cell (p := ⟨g, off + m * 3, none⟩) hg).trans q0
     have f1 := (hW.cell (p := ⟨g, off + m * 3 + 1, none⟩) hg).trans q1
     have f2 := (hW.cell (p := ⟨g, off + m * 3 + 2, none⟩) hg).trans q2
     have l1 := Nat.lt_of_lt_of_le hg hW.size
     have x0 := (PB.on hW).at (i := 0) rfl
     have x1 := (PB.on hW).at (i := 1) rfl
     have x2 := (PB.on hW).at (i := 2) rfl
     have xl := (PB.on hW).lt
     go_simp
     (try with_reducible rfl)
    simp only [pu, sa, sz0, ss1]
    refine fin_take 3 (v := ?_) rfl (by kernel_rfl) (by kernel_rfl) (by kernel_rfl) (by kernel_rfl) (fun _ _ _ h => h) rfl ?_ K0 ?_
    rotate_left
    ·
     intro W hW
     have f0 := (hW.cell (p := ⟨g, off + m * 3, none⟩) hg).trans q0
     have f1 := (hW.cell (p := ⟨g, off + m * 3 + 1, none⟩) hg).trans q1
     have f2 := (hW.cell (p := ⟨g, off + m * 3 + 2, none⟩) hg).trans q2
     have l1 := Nat.lt_of_lt_of_le hg hW.size
     have x0 := (PB.on hW).at (i := 0) rfl
     have x1 := (PB.on hW).at (i := 1) rfl
     have x2 := (PB.on hW).at (i := 2) rfl
     have xl := (PB.on hW).lt
     go_simp
     (try with_reducible rfl)
    simp only [pu, sa, sz0, ss1]
    refine fin_take 4 (v := ?_) rfl (by kernel_rfl) (by kernel_rfl) (by kernel_rfl) (by kernel_rfl) (fun _ _ _ h => h) rfl ?_ K0 ?_
    rotate_left
    ·
     intro W hW
     have f0 := (hW.cell (p := ⟨g, off + m * 3, none⟩) hg).trans q0
     have f1 := (hW.cell (p := ⟨g, off + m * 3 + 1, none⟩) hg).trans q1
     have f2 := (hW.cell (p := ⟨g, off + m * 3 + 2, none⟩) hg).trans q2
     have l1 := Nat.lt_of_lt_of_le hg hW.size
     have x0 := (PB.on hW).at (i := 0) rfl
     have x1 := (PB.on hW).at (i := 1) rfl
     have x2 := (PB.on hW).at (i := 2) rfl
     have xl := (PB.on hW).lt
     go_simp
     (try with_reducible rfl)
    simp only [pu, sa, sz0, ss1]
    refine fin_one 5 rfl rfl (by kernel_rfl) (fun K hK => ?_)
    go_simp
    refine (hC1 _ K0).mono ?_
    rintro _ x1 ⟨rfl, kx1⟩
    have Sx1 := hon _ _ K0 kx1
    have Kx1 := K0.trans kx1
    refine hK.out _ _ (fun _ => Sx1) ?_
    clear hK
    refine fin_take 6 (v := ?_) rfl (by kernel_rfl) (by kernel_rfl) (by kernel_rfl) (by kernel_rfl) (fun _ _ _ h => h) rfl ?_ Sx1 ?_
    rotate_left
    ·
     intro W hW
     go_simp
     (try with_reducible rfl)
    simp only [pu, sa, sz0, ss1]
    refine fin_done (by kernel_rfl) (NoPanic.normal ?_)
    go_wp2
    go_roundg (hi - (m + 1))
    case measure => omega
    case rel => exact ⟨m + 1, hi, k', by omega, hhn, rfl, rfl, rfl, HO.out.trans Kx1, PB.on Kx1, HB2⟩
   ·
    have dz : decide (z < 0) = false := decide_eq_false hz
    rw [if_neg hz] at hbs
    have HB2 : Hid (T = bsP L x k' lo m ∧ m - lo < k') := ⟨hbs, by have := HB.out.2; omega⟩
    clear HB hbs hgy hy ht hcell hRr hz
    go_upto_region 4 with fail
    have K0 : On wr wr.drew := On.drew (On.refl wr)
    have hon : ∀ W W', On wr W → On W W' → On wr W' := fun W W' h k => h.trans k
    refine region_fin (fun W => On wr W) 99 7 (by kernel_rfl) rfl ?_
    refine fin_take 0 (v := ?_) rfl (by kernel_rfl) (by kernel_rfl) (by kernel_rfl) (by kernel_rfl) (fun _ _ _ h => h) rfl ?_ K0 ?_
    rotate_left
    ·
     intro W hW
     go_simp
     (try with_reducible rfl)
    simp only [pu, sa, sz0, ss1]
    refine fin_take 1 (v := ?_) rfl (by kernel_rfl) (by kernel_rfl) (by kernel_rfl) (by kernel_rfl) (fun _ _ _ h => h) rfl ?_ K0 ?_
    rotate_left
    ·
     intro W hW
     go_simp
     (try with_reducible rfl)
    simp only [pu, sa, sz0, ss1]
    refine fin_take 2 (v := ?_) rfl (by kernel_rfl) (by kernel_rfl) (by kernel_rfl) (by kernel_rfl) (fun _ _ _ h => h) rfl ?_ K0 ?_
    rotate_left
    ·
     intro W hW
     have f0 := (hW.cell (p := ⟨g, off + m * 3, none⟩) hg).trans q0
     have f1 := (hW.cell (p := ⟨g, off + m * 3 + 1, none⟩) hg).trans q1
     have f2 := (hW.cell (p := ⟨g, off + m * 3 + 2, none⟩) hg).trans q2
     have l1 := Nat.lt_of_lt_of_le hg hW.size
     have x0 := (PB.on hW).at (i := 0) rfl
     have x1 := (PB.on hW).at (i := 1) rfl
     have x2 := (PB.on hW).at (i := 2) rfl
     have xl := (PB.on hW).lt
     go_simp
     (try with_reducible rfl)
    simp only [pu, sa, sz0, ss1]
    refine fin_take 3 (v := ?_) rfl (by kernel_rfl) (by kernel_rfl) (by kernel_rfl) (by kernel_rfl) (fun _ _ _ h => h) rfl ?_ K0 ?_
    rotate_left
    ·
     intro W hW
     have f0 := (hW.cell (p := ⟨g, off + m * 3, none⟩) hg).trans q0
     have f1 := (hW.cell (p := ⟨g, off + m * 3 + 1, none⟩) hg).trans q1
     have f2 := (hW.cell (p := ⟨g, off + m * 3 + 2, none⟩) hg).trans q2
     have l1 := Nat.lt_of_lt_of_le hg hW.size
     have x0 := (PB.on hW).at (i := 0) rfl
     have x1 := (PB.on hW).at (i := 1) rfl
     have x2 := (PB.on hW).at (i := 2) rfl
     have xl := (PB.on hW).lt
     go_simp
     (try with_reducible rfl)
    simp only [pu, sa, sz0, ss1]
    refine fin_take 4 (v := ?_) rfl (by kernel_rfl) (by kernel_rfl) (by kernel_rfl) (by kernel_rfl) (fun _ _ _ h => h) rfl ?_ K0 ?_
    rotate_left
    ·
     intro W hW
     have f0 := (hW.cell (p := ⟨g, off + m * 3, none⟩) hg).trans q0
     have f1 := (hW.cell (p := ⟨g, off + m * 3 + 1, none⟩) hg).trans q1
     have f2 := (hW.cell (p := ⟨g, off + m * 3 + 2, none⟩) hg).trans q2
     have l1 := Nat.lt_of_lt_of_le hg hW.size
     have x0 := (PB.on hW).at (i := 0) rfl
     have x1 := (PB.on hW).at (i := 1) rfl
     have x2 := (PB.on hW).at (i := 2) rfl
     have xl := (PB.on hW).lt
     go_simp
     (try with_reducible rfl)
    simp only [pu, sa, sz0, ss1]
    refine fin_one 5 rfl rfl (by kernel_rfl) (fun K hK => ?_)
    go_simp
    refine (hC1 _ K0).mono ?_
    rintro _ x1 ⟨rfl, kx1⟩
    have Sx1 := hon _ _ K0 kx1
    have Kx1 := K0.trans kx1
    refine hK.out _ _ (fun _ => Sx1) ?_
    clear hK
    refine fin_take 6 (v := ?_) rfl (by kernel_rfl) (by kernel_rfl) (by kernel_rfl) (by kernel_rfl) (fun _ _ _ h => h) rfl ?_ Sx1 ?_
    rotate_left
    ·
     intro W hW
     go_simp
     (try with_reducible rfl)
    simp only [pu, sa, sz0, ss1]
    refine fin_done (by kernel_rfl) (NoPanic.normal ?_)
    go_wp2
    go_roundg (m - lo)
    case measure => omega
    case rel => exact ⟨lo, m, k', by omega, by omega, rfl, rfl, rfl, HO.out.trans Kx1, PB.on Kx1, HB2⟩
  ·
   obtain rfl : lo = hi := by omega
   have hT : T = lo := by have := HB.out.1; rwa [bs_end] at this
   obtain ⟨m, hm⟩ : ∃ m, m = lo := ⟨_, rfl⟩
   subst hm
   subst hT
   obtain ⟨i0, hi, hz0, hz1, hz2⟩ := info_parts infoX
   clear HB hlh hge
   rcases Nat.lt_or_ge T n with hlt | hge
   ·
    obtain ⟨t, ht⟩ : ∃ t, vs[T]? = some t := ⟨_, List.getElem?_eq_getElem (by rw [HVL.out]; exact hlt)⟩
    obtain ⟨y, hy⟩ : ∃ y, L[T]? = some y := ⟨_, List.getElem?_eq_getElem (by rw [← HN.out]; exact hlt)⟩
    have hRr := HR.out.on HO.out
    rw [← HVL.out] at hRr
    obtain ⟨g, off, rfl, hgw, hcell⟩ := hRr.at ht
    have q0 := hcell 0 _ rfl
    have q1 := hcell 1 _ rfl
    have q2 := hcell 2 _ rfl
    rw [Nat.add_zero] at q0
    have hC1 := fun W (k : On wr W) => HC.out y x (triV t) (triV (t1, t2, t3)) W ((HT.out T t y ht hy).on (HO.out.trans k)).rd (HX.out.on (HO.out.trans k)).rd
    have hg : g < wr.heap.size := hgw
    have bm0 : (0 : Int) ≤ (T : Int) := by omega
    have bm1 : (T : Int) < (n : Int) := by omega
    have dl : decide (T < n) = true := decide_eq_true hlt
    have hgy : L.getD T x = y := by rw [List.getD_eq_getElem?_getD, hy]; rfl
    have hhas : putHasP L x = (exCmp y x == 0) := by unfold putHasP; rw [← HTD.out, hgy, ← HN.out, dl]; rfl
    generalize exCmp y x = z at *
    cases hz : (z == 0) with
    | true =>
     have HP : Hid (putP L x = L) := by show putP L x = L; unfold putP; rw [hhas, hz]; rfl
     clear hgy hhas hy ht hcell hRr
     go_upto_region 7 with fail
     have K0 : On wr wr.drew := On.drew (On.refl wr)
     have hon : ∀ W W', On wr W → On W W' → On wr W' := fun W W' h k => h.trans k
     refine region_fin (fun W => On wr W) 99 13 (by kernel_rfl) rfl ?_
     refine fin_take 0 (v := ?_) rfl (by kernel_rfl) (by kernel_rfl) (by kernel_rfl) (by kernel_rfl) (fun _ _ _ h => h) rfl ?_ K0 ?_
     rotate_left
     ·
      intro W hW
      go_simp
      (try with_reducible rfl)
     simp only [pu, sa, sz0, ss1]
     refine fin_take 1 (v := ?_) rfl (by kernel_rfl) (by kernel_rfl) (by kernel_rfl) (by kernel_rfl) (fun _ _ _ h => h) rfl ?_ K0 ?_
     rotate_left
     ·
      intro W hW
      go_simp
      (try with_reducible rfl)
     simp only [pu, sa, sz0, ss1]
     refine fin_take 2 (v := ?_) rfl (by kernel_rfl) (by kernel_rfl) (by kernel_rfl) (by kernel_rfl) (fun _ _ _ h => h) rfl ?_ K0 ?_
     rotate_left
     ·
      intro W hW
      go_simp
      (try with_reducible rfl)
     simp only [pu, sa, sz0, ss1]
     refine fin_take 3 (v := ?_) rfl (by kernel_rfl) (by kernel_rfl) (by kernel_rfl) (by kernel_rfl) (fun _ _ _ h => h) rfl ?_ K0 ?_
     rotate_left
     ·
      intro W hW
      go_simp
      (try with_reducible rfl)
     simp only [pu, sa, sz0, ss1]
     refine fin_take 4 (v := ?_) rfl (by kernel_rfl) (by kernel_rfl) (by kernel_rfl) (by kernel_rfl) (fun _ _ _ h => h) rfl ?_ K0 ?_
     rotate_left
     ·
      intro W hW
      go_simp
      (try with_reducible rfl)
     simp only [pu, sa, sz0, ss1]
     refine fin_takeG 5 (v := ?_) rfl (by kernel_rfl) (by kernel_rfl) (by kernel_rfl) (by kernel_rfl) (fun _ _ _ h => h) (by rfl) ?_ K0 ?_
     rotate_left
     ·
      intro W hW
      go_simp
      (try with_reducible rfl)
     simp only [pu, sa, sz0, ss1]
     refine fin_takeG 6 (v := ?_) rfl (by kernel_rfl) (by kernel_rfl) (by kernel_rfl) (by kernel_rfl) (fun _ _ _ h => h) (by rfl) ?_ K0 ?_
     rotate_left
     ·
      intro W hW
      go_simp
      (try with_reducible rfl)
     simp only [pu, sa, sz0, ss1]
     refine fin_takeG 7 (v := ?_) rfl (by kernel_rfl) (by kernel_rfl) (by kernel_rfl) (by kernel_rfl) (fun _ _ _ h => h) (by rfl) ?_ K0 ?_
     rotate_left
     ·
      intro W hW
      have f0 := (hW.cell (p := ⟨g, off + T * 3, none⟩) hg).trans q0
      have f1 := (hW.cell (p := ⟨g, off + T * 3 + 1, none⟩) hg).trans q1
      have f2 := (hW.cell (p := ⟨g, off + T * 3 + 2, none⟩) hg).trans q2
      have l1 := Nat.lt_of_lt_of_le hg hW.size
      have x0 := (PB.on hW).at (i := 0) rfl
      have x1 := (PB.on hW).at (i := 1) rfl
      have x2 := (PB.on hW).at (i := 2) rfl
      have xl := (PB.on hW).lt
      go_simp
      (try with_reducible rfl)
     simp only [pu, sa, sz0, ss1]
     refine fin_takeG 8 (v := ?_) rfl (by kernel_rfl) (by kernel_rfl) (by kernel_rfl) (by kernel_rfl) (fun _ _ _ h => h) (by rfl) ?_ K0 ?_
     rotate_left
     ·
      intro W hW
      have f0 := (hW.cell (p := ⟨g, off + T * 3, none⟩) hg).trans q0
      have f1 := (hW.cell (p := ⟨g, off + T * 3 + 1, none⟩) hg).trans q1
      have f2 := (hW.cell (p := ⟨g, off + T * 3 + 2, none⟩) hg).trans q2
      have l1 := Nat.lt_of_lt_of_le hg hW.size
      have x0 := (PB.on hW).at (i := 0) rfl
      have x1 := (PB.on hW).at (i := 1) rfl
      have x2 := (PB.on hW).at (i := 2) rfl
      have xl := (PB.on hW).lt
      go_simp
      (try with_reducible rfl)
     simp only [pu, sa, sz0, ss1]
     refine fin_takeG 9 (v := ?_) rfl (by kernel_rfl) (by kernel_rfl) (by kernel_rfl) (by kernel_rfl) (fun _ _ _ h => h) (by rfl) ?_ K0 ?_
     rotate_left
     ·
      intro W hW
      have f0 := (hW.cell (p := ⟨g, off + T * 3, none⟩) hg).trans q0
      have f1 := (hW.cell (p := ⟨g, off + T * 3 + 1, none⟩) hg).trans q1
      have f2 := (hW.cell (p := ⟨g, off + T * 3 + 2, none⟩) hg).trans q2
      have l1 := Nat.lt_of_lt_of_le hg hW.size
      have x0 := (PB.on hW).at (i := 0) rfl
      have x1 := (PB.on hW).at (i := 1) rfl
      have x2 := (PB.on hW).at (i := 2) rfl
      have xl := (PB.on hW).lt
      go_simp
      (try with_reducible rfl)
     simp only [pu, sa, sz0, ss1]
     refine fin_oneG 10 rfl (by rfl) (by kernel_rfl) (fun K hK => ?_)
     go_simp
     refine (hC1 _ K0).mono ?_
     rintro _ y1 ⟨rfl, ky1⟩
     have Sy1 := hon _ _ K0 ky1
     have Ky1 := K0.trans ky1
     refine hK.out _ _ (fun _ => Sy1) ?_
     clear hK
     refine fin_takeG 11 (v := ?_) rfl (by kernel_rfl) (by kernel_rfl) (by kernel_rfl) (by kernel_rfl) (fun _ _ _ h => h) (by rfl) ?_ Sy1 ?_
     rotate_left
     ·
      intro W hW
      go_simp
      (try with_reducible rfl)
     simp only [pu, sa, sz0, ss1]
     refine fin_take 12 (v := ?_) rfl (by kernel_rfl) (by kernel_rfl) (by kernel_rfl) (by kernel_rfl) (fun _ _ _ h => h) rfl ?_ Sy1 ?_
     rotate_left
     ·
      intro W hW
      go_simp
      (try with_reducible rfl)
     simp only [pu, sa, sz0, ss1]
     refine fin_done (by kernel_rfl) (NoPanic.normal ?_)
     go_wp2
     go_ret
     exact ⟨_, rfl, by rw [HP.out]; exact HOX.out.on (HO.out.trans Ky1), fun N => Fx.on N _ (HO.out.trans Ky1), Ky.on (HO.out.trans Ky1)⟩
    | false =>
     have HP : Hid (putP L x = L.take T ++ x :: L.drop T) := by show putP L x = _; unfold putP; rw [hhas, hz, ← HTD.out]; rfl
     clear hgy hhas hy ht hcell hRr
     go_upto_region 7 with fail
     have K0 : On wr wr.drew := On.drew (On.refl wr)
     have hon : ∀ W W', On wr W → On W W' → On wr W' := fun W W' h k => h.trans k
     refine region_fin (fun W => On wr W) 99 13 (by kernel_rfl) rfl ?_
     refine fin_take 0 (v := ?_) rfl (by kernel_rfl) (by kernel_rfl) (by kernel_rfl) (by kernel_rfl) (fun _ _ _ h => h) rfl ?_ K0 ?_
     rotate_left
     ·
      intro W hW
      go_simp
      (try with_reducible rfl)
     simp only [pu, sa, sz0, ss1]
     refine fin_take 1 (v := ?_) rfl (by kernel_rfl) (by kernel_rfl) (by kernel_rfl) (by kernel_rfl) (fun _ _ _ h => h) rfl ?_ K0 ?_
     rotate_left
     ·
      intro W hW
      go_simp
      (try with_reducible rfl)
     simp only [pu, sa, sz0, ss1]
     refine fin_take 2 (v := ?_) rfl (by kernel_rfl) (by kernel_rfl) (by kernel_rfl) (by kernel_rfl) (fun _ _ _ h => h) rfl ?_ K0 ?_
     rotate_left
     ·
      intro W hW
      go_simp
      (try with_reducible rfl)
     simp only [pu, sa, sz0, ss1]
     refine fin_take 3 (v := ?_) rfl (by kernel_rfl) (by kernel_rfl) (by kernel_rfl) (by kernel_rfl) (fun _ _ _ h => h) rfl ?_ K0 ?_
     rotate_left
     ·
      intro W hW
      go_simp
      (try with_reducible rfl)
     simp only [pu, sa, sz0, ss1]
     refine fin_take 4 (v := ?_) rfl (by kernel_rfl) (by kernel_rfl) (by kernel_rfl) (by kernel_rfl) (fun _ _ _ h => h) rfl ?_ K0 ?_
     rotate_left
     ·
      intro W hW
      go_simp
      (try with_reducible rfl)
     simp only [pu, sa, sz0, ss1]
     refine fin_takeG 5 (v := ?_) rfl (by kernel_rfl) (by kernel_rfl) (by kernel_rfl) (by kernel_rfl) (fun _ _ _ h => h) (by rfl) ?_ K0 ?_
     rotate_left
     ·
      intro W hW
      go_simp
      (try with_reducible rfl)
     simp only [pu, sa, sz0, ss1]
     refine fin_takeG 6 (v := ?_) rfl (by kernel_rfl) (by kernel_rfl) (by kernel_rfl) (by kernel_rfl) (fun _ _ _ h => h) (by rfl) ?_ K0 ?_
     rotate_left
     ·
      intro W hW
      go_simp
      (try with_reducible rfl)
     simp only [pu, sa, sz0, ss1]
     refine fin_takeG 7 (v := ?_) rfl (by kernel_rfl) (by kernel_rfl) (by kernel_rfl) (by kernel_rfl) (fun _ _ _ h => h) (by rfl) ?_ K0 ?_
     rotate_left
     ·
      intro W hW
      have f0 := (hW.cell (p := ⟨g, off + T * 3, none⟩) hg).trans q0
      have f1 := (hW.cell (p := ⟨g, off + T * 3 + 1, none⟩) hg).trans q1
      have f2 := (hW.cell (p := ⟨g, off + T * 3 + 2, none⟩) hg).trans q2
      have l1 := Nat.lt_of_lt_of_le hg hW.size
      have x0 := (PB.on hW).at (i := 0) rfl
      have x1 := (PB.on hW).at (i := 1) rfl
      have x2 := (PB.on hW).at (i := 2) rfl
      have xl := (PB.on hW).lt
      go_simp
      (try with_reducible rfl)
     simp only [pu, sa, sz0, ss1]
     refine fin_takeG 8 (v := ?_) rfl (by kernel_rfl) (by kernel_rfl) (by kernel_rfl) (by kernel_rfl) (fun _ _ _ h => h) (by rfl) ?_ K0 ?_
     rotate_left
     ·
      intro W hW
      have f0 := (hW.cell (p := ⟨g, off + T * 3, none⟩) hg).trans q0
      have f1 := (hW.cell (p := ⟨g, off + T * 3 + 1, none⟩) hg).trans q1
      have f2 := (hW.cell (p := ⟨g, off + T * 3 + 2, none⟩) hg).trans q2
      have l1 := Nat.lt_of_lt_of_le hg hW.size
      have x0 := (PB.on hW).at (i := 0) rfl
      have x1 := (PB.on hW).at (i := 1) rfl
      have x2 := (PB.on hW).at (i := 2) rfl
      have xl := (PB.on hW).lt
      go_simp
      (try with_reducible rfl)
     simp only [pu, sa, sz0, ss1]
     refine fin_takeG 9 (v := ?_) rfl (by kernel_rfl) (by kernel_rfl) (by kernel_rfl) (by kernel_rfl) (fun _ _ _ h => h) (by rfl) ?_ K0 ?_
     rotate_left
     ·
      intro W hW
      have f0 := (hW.cell (p := ⟨g, off + T * 3, none⟩) hg).trans q0
      have f1 := (hW.cell (p := ⟨g, off + T * 3 + 1, none⟩) hg).trans q1
      have f2 := (hW.cell (p := ⟨g, off + T * 3 + 2, none⟩) hg).trans q2
      have l1 := Nat.lt_of_lt_of_le hg hW.size
      have x0 := (PB.on hW).at (i := 0) rfl
      have x1 := (PB.on hW).at (i := 1) rfl
      have x2 := (PB.on hW).at (i := 2) rfl
      have xl := (PB.on hW).lt
      go_simp
      (try with_reducible rfl)
     simp only [pu, sa, sz0, ss1]
     refine fin_oneG 10 rfl (by rfl) (by kernel_rfl) (fun K hK => ?_)
     go_simp
     refine (hC1 _ K0).mono ?_
     rintro _ y1 ⟨rfl, ky1⟩
     have Sy1 := hon _ _ K0 ky1
     have Ky1 := K0.trans ky1
     refine hK.out _ _ (fun _ => Sy1) ?_
     clear hK
     refine fin_takeG 11 (v := ?_) rfl (by kernel_rfl) (by kernel_rfl) (by kernel_rfl) (by kernel_rfl) (fun _ _ _ h => h) (by rfl) ?_ Sy1 ?_
     rotate_left
     ·
      intro W hW
      go_simp
      (try with_reducible rfl)
     simp only [pu, sa, sz0, ss1]
     refine fin_take 12 (v := ?_) rfl (by kernel_rfl) (by kernel_rfl) (by kernel_rfl) (by kernel_rfl) (fun _ _ _ h => h) rfl ?_ Sy1 ?_
     rotate_left
     ·
      intro W hW
      go_simp
      (try with_reducible rfl)
     simp only [pu, sa, sz0, ss1]
     refine fin_done (by kernel_rfl) (NoPanic.normal ?_)
     have KY : Hid (On w y1) := HO.out.trans Ky1
     have PY := PB.on Ky1
     have hownY := own_on HOW.out KY.out
     have hbY : b ≤ y1.heap.size := Nat.le_trans hb KY.out.size
     go_wp2_with (at_builtin; refine wpList_append_own_at _ rfl _ _ TS rfl b TX i0 (.agg #[.slice none 0 0, .slice none 0 0, .slice none 0 0]) 3 72 Tryz.underlying29 hi hz0 hz1 hz2 rfl (by decide) _ _ _ rfl (hownY.alloc _) ⟨y1.heap.size, 0, none⟩ 1 1 [.slice none 0 0, .slice none 0 0, .slice none 0 0] rfl rfl ?c1 ?c2 ?c3 ?c4 ?c5 ?_)
     case c1 =>
      intro j u hu
      rw [new_cell]
      exact hu
     case c2 =>
      intro u hu
      simp only [List.mem_cons, List.not_mem_nil, or_false] at hu
      rcases hu with rfl | rfl | rfl <;> rfl
     case c3 => unfold maxLen; omega
     case c4 => omega
     case c5 => simp only [World.size_alloc]; omega
     intro v4 w4 hown4 hg4 _ hat4
     obtain ⟨g4, cap4, cur4, rfl, hb4, hh4, hc4, hm4, hs4, ht4⟩ : ∃ g cap cur, v4 = .slice (some ⟨g, 0, none⟩) (n + 1) cap ∧ b ≤ g ∧ w4.heap[g]? = some (.cells cur TX (0, 0)) ∧ n + 1 ≤ cap ∧ cap ≤ maxLen ∧ cur.size = cap * 3 ∧ cur.toList.take ((n + 1) * 3) = vs.flatMap triC ++ nil3 := by
      rcases hown4.2 with ⟨_, h0⟩ | h
      ·
       omega
      ·
       exact h
     obtain ⟨SP, hSP⟩ : ∃ SP, SP = cur4.toList.drop ((n + 1) * 3) := ⟨_, rfl⟩
     have hcur : cur4 = (curX vs SP).toArray := by unfold curX; rw [← ht4, hSP, List.take_append_drop]
     have hspl : SP.length = cap4 * 3 - (n + 1) * 3 := by rw [hSP, List.length_drop, Array.length_toList, hs4]
     rw [hcur] at hh4
     have NE4 : g4 ≠ w.heap.size := by
      rintro rfl
      rcases hat4 with e | e
      ·
       have := (HOW.out.lt w.heap.size e.symm).2; omega
      ·
       simp only [Value.ownBlock, Option.some.injEq] at e; have := PY.lt; omega
     have hK4 : Ky y1 w4 := (Ky.on ((On.refl y1).alloc _)).trans (Ky.grown (hownY.alloc _) hg4)
     have hF4 : ∀ N, Fx N (.slice (some ⟨g, off, none⟩) n c) (.slice (some ⟨g4, 0, none⟩) (n + 1) cap4) y1 w4 := fun N => ⟨hg4.os, hg4.tape, hg4.output, Nat.le_trans (Nat.le_succ _) (by have := hg4.size; rwa [World.size_alloc] at this), fun g hg _ hv => (hg4.block g (by rw [World.size_alloc]; omega) (fun e => hv e.symm)).trans (Below.heap_alloc y1 _ g hg), by
      rcases hat4 with e | e
      ·
       exact Or.inl e
      ·
       refine Or.inr fun g hg => ?_
       rw [e] at hg
       simp only [Option.some.injEq] at hg
       omega⟩
     have PX : Bk w4 w.heap.size #[t1, t2, t3] := by
      obtain ⟨T', e⟩ := PY.alloc (.cells #[.slice none 0 0, .slice none 0 0, .slice none 0 0] TX)
      exact ⟨T', (hg4.block _ (lt_of_block e) (fun e' => by have := (HOW.out.lt _ e'.symm).2; omega)).trans e⟩
     have HK4 : Hid (Ky y1 w4) := hK4
     have HF4 : Hid (∀ N, Fx N (.slice (some ⟨g, off, none⟩) n c) (.slice (some ⟨g4, 0, none⟩) (n + 1) cap4) y1 w4) := hF4
     clear hK4 hF4 hown4 hg4 hat4 ht4 hcur hSP hs4 hownY PY
     have HH4 : Hid (w4.heap[g4]? = some (.cells (curX vs SP).toArray TX (0, 0))) := hh4
     clear hh4
     go_upto_region 10 with fail
     have K0 : w4.drew.heap[g4]? = some (.cells (curX vs SP).toArray TX (0, 0)) := HH4.out
     have hov : IntKind.i64.wrap ((T : Int) + 1) = ((T + 1 : Nat) : Int) := by rw [wrap_small]; omega; omega; omega
     have bz0 : (0 : Int) ≤ (T : Int) + 1 := by omega
     have bz1 : (T : Int) ≤ (n : Int) + 1 := by omega
     have bz2 : (T : Int) + 1 ≤ (n : Int) + 1 := by omega
     have hvl := HVL.out
     have hfl : ((vs.drop T).flatMap triC).length = (n - T) * 3 := by rw [flat_len3, List.length_drop, hvl]
     have hAl : ((vs.take T).flatMap triC).length = T * 3 := by rw [flat_len3, List.length_take, hvl, Nat.min_eq_left hhn]
     have hcl : (curX vs SP).length = cap4 * 3 := by unfold curX nil3; rw [List.length_append, List.length_append, flat_len3, hvl, hspl]; simp only [List.length_cons, List.length_nil]; omega
     have hsrc : ∀ (W : World), W.heap[g4]? = some (.cells (curX vs SP).toArray TX (0, 0)) → ∀ j u, ((vs.drop T).flatMap triC)[j]? = some u → W.cell? ((⟨g4, T * 3, none⟩ : Addr).add j) = some u := fun W e j u hj => by
      rw [Addr.add_lit]
      have hj2 := (List.getElem?_eq_some_iff.1 hj).1
      simp only [World.cell?, e]
      unfold curX
      have e2 : vs.flatMap triC = (vs.take T).flatMap triC ++ (vs.drop T).flatMap triC := by rw [← List.flatMap_append, List.take_append_drop]
      rw [e2]
      simp only [List.append_assoc]
      rw [List.getElem?_toArray, List.getElem?_append_right (by omega), hAl, Nat.add_sub_cancel_left, List.getElem?_append_left hj2]
      simpa using hj
     have h1c : ∀ u ∈ (vs.drop T).flatMap triC, u.oneCell' = true := fun u hu => by
      refine flat_one3 (HVL.out.trans HN.out) HT.out u ?_
      obtain ⟨t, ht, hu⟩ := List.mem_flatMap.1 hu
      exact List.mem_flatMap.2 ⟨t, List.mem_of_mem_drop ht, hu⟩
     have HSRC : Hid (∀ (W : World), W.heap[g4]? = some (.cells (curX vs SP).toArray TX (0, 0)) → ∀ j u, ((vs.drop T).flatMap triC)[j]? = some u → W.cell? ((⟨g4, T * 3, none⟩ : Addr).add j) = some u) := hsrc
     have H1C : Hid (∀ u ∈ (vs.drop T).flatMap triC, u.oneCell' = true) := h1c
     have HFL : Hid (((vs.drop T).flatMap triC).length = (n - T) * 3) := hfl
     have HAL : Hid (((vs.take T).flatMap triC).length = T * 3) := hAl
     have HCL : Hid ((curX vs SP).length = cap4 * 3) := hcl
     clear hsrc h1c hfl hAl hcl hvl
     refine region_fin (fun _ => True) 99 8 (by kernel_rfl) rfl ?_
     refine fin_take 0 (v := ?_) rfl (by kernel_rfl) (by kernel_rfl) (by kernel_rfl) (by kernel_rfl) (fun _ _ _ h => h) rfl ?_ trivial ?_
     rotate_left
     ·
      intro W _
      go_simp
      (try with_reducible rfl)
     simp only [pu, sa, sz0, ss1]
     refine fin_take 1 (v := ?_) rfl (by kernel_rfl) (by kernel_rfl) (by kernel_rfl) (by kernel_rfl) (fun _ _ _ h => h) rfl ?_ trivial ?_
     rotate_left
     ·
      intro W _
      go_simp
      (try with_reducible rfl)
     simp only [pu, sa, sz0, ss1]
     refine fin_take 2 (v := ?_) rfl (by kernel_rfl) (by kernel_rfl) (by kernel_rfl) (by kernel_rfl) (fun _ _ _ h => h) rfl ?_ trivial ?_
     rotate_left
     ·
      intro W _
      go_simp
      (try with_reducible rfl)
     simp only [pu, sa, sz0, ss1]
     refine fin_take 3 (v := ?_) rfl (by kernel_rfl) (by kernel_rfl) (by kernel_rfl) (by kernel_rfl) (fun _ _ _ h => h) rfl ?_ trivial ?_
     rotate_left
     ·
      intro W _
      go_simp
      (try with_reducible rfl)
     simp only [pu, sa, sz0, ss1]
     refine fin_take 4 (v := ?_) rfl (by kernel_rfl) (by kernel_rfl) (by kernel_rfl) (by kernel_rfl) (fun _ _ _ h => h) rfl ?_ trivial ?_
     rotate_left
     ·
      intro W _
      go_simp
      (try with_reducible rfl)
     simp only [pu, sa, sz0, ss1]
     refine fin_take 5 (v := ?_) rfl (by kernel_rfl) (by kernel_rfl) (by kernel_rfl) (by kernel_rfl) (fun _ _ _ h => h) rfl ?_ trivial ?_
     rotate_left
     ·
      intro W _
      go_simp
      (try with_reducible rfl)
     simp only [pu, sa, sz0, ss1]
     refine fin_take 6 (v := ?_) rfl (by kernel_rfl) (by kernel_rfl) (by kernel_rfl) (by kernel_rfl) (fun _ _ _ h => h) rfl ?_ trivial ?_
     rotate_left
     ·
      intro W _
      go_simp
      (try with_reducible rfl)
     simp only [pu, sa, sz0, ss1]
     refine fin_one 7 rfl rfl (by kernel_rfl) (fun K hK => ?_)
     refine wp_copyK _ _ TS TS rfl TX 3 Tryz.underlying29 (by rw [hi]; simp [hz1]) (g := g4) (off := (T + 1) * 3) rfl rfl (curX vs SP) TX ((vs.drop T).flatMap triC) K0 ?d1 (by decide) ?d2 ?d3 H1C.out ?_
     case d1 => rw [HFL.out]; congr 1; show n - T = Nat.min (n + 1 - T) (n - T); exact (Nat.min_eq_right (by omega)).symm
     case d2 => exact fun h0 => ⟨if_neg (by rw [HFL.out] at h0; omega), _, if_neg (by omega), HSRC.out _ K0⟩
     case d3 => rw [HFL.out, HCL.out]; omega
     refine hK.out _ _ (fun _ => trivial) ?_
     clear hK
     refine fin_done (by kernel_rfl) (NoPanic.normal ?_)
     generalize (if cap4 = T + 1 then some (⟨g4, 0, none⟩ : Addr) else some ⟨g4, (T + 1) * 3, none⟩) = D1
     generalize (if cap4 = T then some (⟨g4, 0, none⟩ : Addr) else some ⟨g4, T * 3, none⟩) = D2
     obtain ⟨u0, u1, u2, hu⟩ := ins_cells vs T (by rw [HVL.out]; exact hhn) (.slice none 0 0) (.slice none 0 0) (.slice none 0 0) SP
     have hu2 : (curX vs SP).take ((T + 1) * 3) ++ (vs.drop T).flatMap triC ++ (curX vs SP).drop ((T + 1) * 3 + ((vs.drop T).flatMap triC).length) = (vs.take T).flatMap triC ++ u0 :: u1 :: u2 :: ((vs.drop T).flatMap triC ++ SP) := hu
     rw [hu2]
     clear hu hu2
     obtain ⟨CL, hCL⟩ : ∃ CL, CL = (vs.take T).flatMap triC ++ u0 :: u1 :: u2 :: ((vs.drop T).flatMap triC ++ SP) := ⟨_, rfl⟩
     rw [← hCL]
     obtain ⟨w5, hw5⟩ : ∃ w5, w5 = w4.drew.setRow g4 CL.toArray := ⟨_, rfl⟩
     rw [← hw5]
     have h5 : w5.heap[g4]? = some (.cells CL.toArray TX (0, 0)) := by rw [hw5]; exact setRow_heap w4.drew g4 _ _ TX _ K0
     have P5 : Bk w5 w.heap.size #[t1, t2, t3] := by rw [hw5]; exact PX.drew.rowFar NE4 _
     have HK5 : Hid (Ky w4 w5) := by show Ky w4 w5; rw [hw5]; exact (Ky.refl w4).drew.trans (Ky.row K0 (Or.inl rfl) _)
     have HF5 : Hid (∀ g, g ≠ g4 → w5.heap[g]? = w4.heap[g]?) := by show ∀ g, _; intro g hg; rw [hw5]; exact setRow_other w4.drew g4 g _ hg
     have HS5 : Hid (w5.heap.size = w4.heap.size ∧ w5.os = w4.os ∧ w5.tape = w4.tape ∧ w5.output = w4.output) := by show _ ∧ _; rw [hw5]; exact ⟨size_setRow _ _ _, rfl, rfl, rfl⟩
     clear hw5
     obtain ⟨p1, n1, k1, p2, n2, k2, p3, n3, k3, e1, e2, e3⟩ : ∃ p1 n1 k1 p2 n2 k2 p3 n3 k3, t1 = .slice p1 n1 k1 ∧ t2 = .slice p2 n2 k2 ∧ t3 = .slice p3 n3 k3 := by
      obtain ⟨a1, c1, a2, c2, a3, c3, e⟩ := HX.out.ex
      simp only [Prod.mk.injEq] at e
      exact ⟨_, _, _, _, _, _, _, _, _, e.1, e.2.1, e.2.2⟩
     subst e1
     subst e2
     subst e3
     have B5 : Bk w5 g4 CL.toArray := ⟨TX, h5⟩
     have hu0 : CL[T * 3]? = some u0 := by rw [hCL, List.getElem?_append_right (by rw [HAL.out]; omega), HAL.out, Nat.sub_self]; rfl
     have hu1 : CL[T * 3 + 1]? = some u1 := by rw [hCL, List.getElem?_append_right (by rw [HAL.out]; omega), HAL.out, Nat.add_sub_cancel_left]; rfl
     have hu2 : CL[T * 3 + 2]? = some u2 := by rw [hCL, List.getElem?_append_right (by rw [HAL.out]; omega), HAL.out, Nat.add_sub_cancel_left]; rfl
     have c0 := B5.at (i := T * 3) (v := u0) (by rw [List.getElem?_toArray]; exact hu0)
     have c1 := B5.at (i := T * 3 + 1) (v := u1) (by rw [List.getElem?_toArray]; exact hu1)
     have c2 := B5.at (i := T * 3 + 2) (v := u2) (by rw [List.getElem?_toArray]; exact hu2)
     have cf := fun i => B5.fr i
     have cl := B5.lt
     have x0 := P5.at (i := 0) rfl
     have x1 := P5.at (i := 1) rfl
     have x2 := P5.at (i := 2) rfl
     have xl := P5.lt
     have H6 : Hid ((((w5.setCell ⟨g4, T * 3, none⟩ (Value.slice p1 n1 k1)).setCell ⟨g4, T * 3 + 1, none⟩ (Value.slice p2 n2 k2)).setCell ⟨g4, T * 3 + 2, none⟩ (Value.slice p3 n3 k3)).heap[g4]? = some (.cells ((vs.take T).flatMap triC ++ (Value.slice p1 n1 k1) :: (Value.slice p2 n2 k2) :: (Value.slice p3 n3 k3) :: ((vs.drop T).flatMap triC ++ SP)).toArray TX (0, 0))) := by
      have := heap_put (heap_put (heap_put h5 (T * 3) (Value.slice p1 n1 k1)) (T * 3 + 1) (Value.slice p2 n2 k2)) (T * 3 + 2) (Value.slice p3 n3 k3)
      rw [hCL, set3 _ _ _ _ _ _ _ _ T HAL.out] at this
      exact this
     have HK6 : Hid (Ky w5 (((w5.setCell ⟨g4, T * 3, none⟩ (Value.slice p1 n1 k1)).setCell ⟨g4, T * 3 + 1, none⟩ (Value.slice p2 n2 k2)).setCell ⟨g4, T * 3 + 2, none⟩ (Value.slice p3 n3 k3))) :=
      ((Ky.set h5 (Or.inl rfl) (Value.slice p1 n1 k1)).trans (Ky.set (heap_put h5 (T * 3) (Value.slice p1 n1 k1)) (Or.inl rfl) (Value.slice p2 n2 k2))).trans (Ky.set (heap_put (heap_put h5 (T * 3) (Value.slice p1 n1 k1)) (T * 3 + 1) (Value.slice p2 n2 k2)) (Or.inl rfl) (Value.slice p3 n3 k3))
     clear h5 B5 hu0 hu1 hu2 hCL K0 HSRC H1C HH4
     go_wp2
     go_ret
     obtain ⟨w6, hw6⟩ : ∃ w6, w6 = ((w5.setCell ⟨g4, T * 3, none⟩ (Value.slice p1 n1 k1)).setCell ⟨g4, T * 3 + 1, none⟩ (Value.slice p2 n2 k2)).setCell ⟨g4, T * 3 + 2, none⟩ (Value.slice p3 n3 k3) := ⟨_, rfl⟩
     have h6 := H6.out
     have k6 := HK6.out
     rw [← hw6] at h6 k6 ⊢
     have KYA : Ky w w6 := (((Ky.on KY.out).trans HK4.out).trans HK5.out).trans k6
     have hlen : (L.take T ++ x :: L.drop T).length = n + 1 := by
      rw [List.length_append, List.length_cons, List.length_take, List.length_drop, ← HN.out]; omega
     refine ⟨_, rfl, ?_, fun N => ?_, KYA⟩
     ·
      rw [HP.out]
      refine ⟨vs.take T ++ ((Value.slice p1 n1 k1), (Value.slice p2 n2 k2), (Value.slice p3 n3 k3)) :: vs.drop T, ?_, ?_, ins_all (HVL.out.trans HN.out) (fun i t y a b => (HT.out i t y a b).ky KYA) T (by rw [HVL.out]; exact hhn) (HX.out.ky KYA)⟩
      ·
       rw [hlen, List.length_append, List.length_cons, List.length_take, List.length_drop, HVL.out]; omega
      ·
       rw [hlen]
       have e3 : (vs.take T ++ ((Value.slice p1 n1 k1), (Value.slice p2 n2 k2), (Value.slice p3 n3 k3)) :: vs.drop T).flatMap triC = (vs.take T).flatMap triC ++ (Value.slice p1 n1 k1) :: (Value.slice p2 n2 k2) :: (Value.slice p3 n3 k3) :: (vs.drop T).flatMap triC := by rw [List.flatMap_append, List.flatMap_cons]; rfl
       have e4 : ((vs.take T).flatMap triC ++ (Value.slice p1 n1 k1) :: (Value.slice p2 n2 k2) :: (Value.slice p3 n3 k3) :: (vs.drop T).flatMap triC).length = (n + 1) * 3 := by
        rw [List.length_append, HAL.out]; simp only [List.length_cons]; rw [HFL.out]; omega
       rw [e3]
       refine ⟨e4, Or.inr ⟨g4, cap4, _, rfl, hb4, h6, hc4, hm4, ?_, ?_⟩⟩
       ·
        have := HCL.out
        unfold curX nil3 at this
        simp only [List.length_append, List.length_cons, List.length_nil, flat_len3, HVL.out, List.size_toArray, HAL.out, HFL.out] at this ⊢
        omega
       ·
        have : (vs.take T).flatMap triC ++ (Value.slice p1 n1 k1) :: (Value.slice p2 n2 k2) :: (Value.slice p3 n3 k3) :: ((vs.drop T).flatMap triC ++ SP) = ((vs.take T).flatMap triC ++ (Value.slice p1 n1 k1) :: (Value.slice p2 n2 k2) :: (Value.slice p3 n3 k3) :: (vs.drop T).flatMap triC) ++ SP := by simp
        rw [this, List.take_append_of_le_length (by rw [e4]; exact Nat.le_refl _), List.take_of_length_le (by rw [e4]; exact Nat.le_refl _)]
     ·
      have F1 := Fx.on N (.slice (some ⟨g, off, none⟩) n c) KY.out
      have F2 := F1.trans (HF4.out N)
      refine F2.trans ⟨?_, ?_, ?_, ?_, fun g hg _ hv => ?_, Or.inl rfl⟩
      ·
       rw [hw6]; exact HS5.out.2.1
      ·
       rw [hw6]; exact HS5.out.2.2.1
      ·
       rw [hw6]; exact HS5.out.2.2.2
      ·
       rw [hw6]; simp only [World.size_setCell]; rw [HS5.out.1]; exact Nat.le_refl _
      ·
       have hne : g ≠ g4 := fun e => hv (by rw [e]; rfl)
       rw [hw6, Below.heap_setCell _ _ _ _ hne, Below.heap_setCell _ _ _ _ hne, Below.heap_setCell _ _ _ _ hne]
       exact HF5.out g hne
   ·
    have dl : decide (T < n) = false := decide_eq_false (by omega)
    have hhas : putHasP L x = false := by unfold putHasP; rw [← HTD.out, ← HN.out, dl]; rfl
    have HP : Hid (putP L x = L.take T ++ x :: L.drop T) := by show putP L x = _; unfold putP; rw [hhas, ← HTD.out]; rfl
    clear hhas hge
    go_upto_region 7 with fail
    have K0 : On wr wr.drew := On.drew (On.refl wr)
    have hon : ∀ W W', On wr W → On W W' → On wr W' := fun W W' h k => h.trans k
    refine region_fin (fun W => On wr W) 99 13 (by kernel_rfl) rfl ?_
    refine fin_take 0 (v := ?_) rfl (by kernel_rfl) (by kernel_rfl) (by kernel_rfl) (by kernel_rfl) (fun _ _ _ h => h) rfl ?_ K0 ?_
    rotate_left
    ·
     intro W hW
     go_simp
     (try with_reducible rfl)
    simp only [pu, sa, sz0, ss1]
    refine fin_take 1 (v := ?_) rfl (by kernel_rfl) (by kernel_rfl) (by kernel_rfl) (by kernel_rfl) (fun _ _ _ h => h) rfl ?_ K0 ?_
    rotate_left
    ·
     intro W hW
     go_simp
     (try with_reducible rfl)
    simp only [pu, sa, sz0, ss1]
    refine fin_take 2 (v := ?_) rfl (by kernel_rfl) (by kernel_rfl) (by kernel_rfl) (by kernel_rfl) (fun _ _ _ h => h) rfl ?_ K0 ?_
    rotate_left
    ·
     intro W hW
     go_simp
     (try with_reducible rfl)
    simp only [pu, sa, sz0, ss1]
    refine fin_take 3 (v := ?_) rfl (by kernel_rfl) (by kernel_rfl) (by kernel_rfl) (by kernel_rfl) (fun _ _ _ h => h) rfl ?_ K0 ?_
    rotate_left
    ·
     intro W hW
     go_simp
     (try with_reducible rfl)
    simp only [pu, sa, sz0, ss1]
    refine fin_take 4 (v := ?_) rfl (by kernel_rfl) (by kernel_rfl) (by kernel_rfl) (by kernel_rfl) (fun _ _ _ h => h) rfl ?_ K0 ?_
    rotate_left
    ·
     intro W hW
     go_simp
     (try with_reducible rfl)
    simp only [pu, sa, sz0, ss1]
    refine fin_takeN 5 rfl (by kernel_rfl) (by kernel_rfl) (by kernel_rfl) (by kernel_rfl) (fun _ _ _ h => h) (by rfl) K0 ?_
    simp only [pu, sa, sz0, ss1]
    refine fin_takeN 6 rfl (by kernel_rfl) (by kernel_rfl) (by kernel_rfl) (by kernel_rfl) (fun _ _ _ h => h) (by rfl) K0 ?_
    simp only [pu, sa, sz0, ss1]
    refine fin_takeN 7 rfl (by kernel_rfl) (by kernel_rfl) (by kernel_rfl) (by kernel_rfl) (fun _ _ _ h => h) (by rfl) K0 ?_
    simp only [pu, sa, sz0, ss1]
    refine fin_takeN 8 rfl (by kernel_rfl) (by kernel_rfl) (by kernel_rfl) (by kernel_rfl) (fun _ _ _ h => h) (by rfl) K0 ?_
    simp only [pu, sa, sz0, ss1]
    refine fin_takeN 9 rfl (by kernel_rfl) (by kernel_rfl) (by kernel_rfl) (by kernel_rfl) (fun _ _ _ h => h) (by rfl) K0 ?_
    simp only [pu, sa, sz0, ss1]
    refine fin_takeN 10 rfl (by kernel_rfl) (by kernel_rfl) (by kernel_rfl) (by kernel_rfl) (fun _ _ _ h => h) (by rfl) K0 ?_
    simp only [pu, sa, sz0, ss1]
    refine fin_takeN 11 rfl (by kernel_rfl) (by kernel_rfl) (by kernel_rfl) (by kernel_rfl) (fun _ _ _ h => h) (by rfl) K0 ?_
    simp only [pu, sa, sz0, ss1]
    refine fin_take 12 (v := ?_) rfl (by kernel_rfl) (by kernel_rfl) (by kernel_rfl) (by kernel_rfl) (fun _ _ _ h => h) rfl ?_ K0 ?_
    rotate_left
    ·
     intro W hW
     go_simp
     (try with_reducible rfl)
    simp only [pu, sa, sz0, ss1]
    refine fin_done (by kernel_rfl) (NoPanic.normal ?_)
    obtain ⟨y1, hy1⟩ : ∃ y1, y1 = wr.drew := ⟨_, rfl⟩
    rw [← hy1]
    have Kz1 : On wr y1 := by rw [hy1]; exact K0
    clear hy1 K0
    have KY : Hid (On w y1) := HO.out.trans Kz1
    have PY := PB.on Kz1
    have hownY := own_on HOW.out KY.out
    have hbY : b ≤ y1.heap.size := Nat.le_trans hb KY.out.size
    go_wp2_with (at_builtin; refine wpList_append_own_at _ rfl _ _ TS rfl b TX i0 (.agg #[.slice none 0 0, .slice none 0 0, .slice none 0 0]) 3 72 Tryz.underlying29 hi hz0 hz1 hz2 rfl (by decide) _ _ _ rfl (hownY.alloc _) ⟨y1.heap.size, 0, none⟩ 1 1 [.slice none 0 0, .slice none 0 0, .slice none 0 0] rfl rfl ?c1 ?c2 ?c3 ?c4 ?c5 ?_)
    case c1 =>
     intro j u hu
     rw [new_cell]
     exact hu
    case c2 =>
     intro u hu
     simp only [List.mem_cons, List.not_mem_nil, or_false] at hu
     rcases hu with rfl | rfl | rfl <;> rfl
    case c3 => unfold maxLen; omega
    case c4 => omega
    case c5 => simp only [World.size_alloc]; omega
    intro v4 w4 hown4 hg4 _ hat4
    obtain ⟨g4, cap4, cur4, rfl, hb4, hh4, hc4, hm4, hs4, ht4⟩ : ∃ g cap cur, v4 = .slice (some ⟨g, 0, none⟩) (n + 1) cap ∧ b ≤ g ∧ w4.heap[g]? = some (.cells cur TX (0, 0)) ∧ n + 1 ≤ cap ∧ cap ≤ maxLen ∧ cur.size = cap * 3 ∧ cur.toList.take ((n + 1) * 3) = vs.flatMap triC ++ nil3 := by
     rcases hown4.2 with ⟨_, h0⟩ | h
     ·
      omega
     ·
      exact h
    obtain ⟨SP, hSP⟩ : ∃ SP, SP = cur4.toList.drop ((n + 1) * 3) := ⟨_, rfl⟩
    have hcur : cur4 = (curX vs SP).toArray := by unfold curX; rw [← ht4, hSP, List.take_append_drop]
    have hspl : SP.length = cap4 * 3 - (n + 1) * 3 := by rw [hSP, List.length_drop, Array.length_toList, hs4]
    rw [hcur] at hh4
    have NE4 : g4 ≠ w.heap.size := by
     rintro rfl
     rcases hat4 with e | e
     ·
      have := (HOW.out.lt w.heap.size e.symm).2; omega
     ·
      simp only [Value.ownBlock, Option.some.injEq] at e; have := PY.lt; omega
    have hK4 : Ky y1 w4 := (Ky.on ((On.refl y1).alloc _)).trans (Ky.grown (hownY.alloc _) hg4)
    have hF4 : ∀ N, Fx N (.slice a n c) (.slice (some ⟨g4, 0, none⟩) (n + 1) cap4) y1 w4 := fun N => ⟨hg4.os, hg4.tape, hg4.output, Nat.le_trans (Nat.le_succ _) (by have := hg4.size; rwa [World.size_alloc] at this), fun g hg _ hv => (hg4.block g (by rw [World.size_alloc]; omega) (fun e => hv e.symm)).trans (Below.heap_alloc y1 _ g hg), by
     rcases hat4 with e | e
     ·
      exact Or.inl e
     ·
      refine Or.inr fun g hg => ?_
      rw [e] at hg
      simp only [Option.some.injEq] at hg
      omega⟩
    have PX : Bk w4 w.heap.size #[t1, t2, t3] := by
     obtain ⟨T', e⟩ := PY.alloc (.cells #[.slice none 0 0, .slice none 0 0, .slice none 0 0] TX)
     exact ⟨T', (hg4.block _ (lt_of_block e) (fun e' => by have := (HOW.out.lt _ e'.symm).2; omega)).trans e⟩
    have HK4 : Hid (Ky y1 w4) := hK4
    have HF4 : Hid (∀ N, Fx N (.slice a n c) (.slice (some ⟨g4, 0, none⟩) (n + 1) cap4) y1 w4) := hF4
    clear hK4 hF4 hown4 hg4 hat4 ht4 hcur hSP hs4 hownY PY
    have HH4 : Hid (w4.heap[g4]? = some (.cells (curX vs SP).toArray TX (0, 0))) := hh4
    clear hh4
    go_upto_region 10 with fail
    have K0 : w4.drew.heap[g4]? = some (.cells (curX vs SP).toArray TX (0, 0)) := HH4.out
    have hov : IntKind.i64.wrap ((T : Int) + 1) = ((T + 1 : Nat) : Int) := by rw [wrap_small]; omega; omega; omega
    have bz0 : (0 : Int) ≤ (T : Int) + 1 := by omega
    have bz1 : (T : Int) ≤ (n : Int) + 1 := by omega
    have bz2 : (T : Int) + 1 ≤ (n : Int) + 1 := by omega
    have hvl := HVL.out
    have hfl : ((vs.drop T).flatMap triC).length = (n - T) * 3 := by rw [flat_len3, List.length_drop, hvl]
    have hAl : ((vs.take T).flatMap triC).length = T * 3 := by rw [flat_len3, List.length_take, hvl, Nat.min_eq_left hhn]
    have hcl : (curX vs SP).length = cap4 * 3 := by unfold curX nil3; rw [List.length_append, List.length_append, flat_len3, hvl, hspl]; simp only [List.length_cons, List.length_nil]; omega
    have hsrc : ∀ (W : World), W.heap[g4]? = some (.cells (curX vs SP).toArray TX (0, 0)) → ∀ j u, ((vs.drop T).flatMap triC)[j]? = some u → W.cell? ((⟨g4, T * 3, none⟩ : Addr).add j) = some u := fun W e j u hj => by
     rw [Addr.add_lit]
     have hj2 := (List.getElem?_eq_some_iff.1 hj).1
     simp only [World.cell?, e]
     unfold curX
     have e2 : vs.flatMap triC = (vs.take T).flatMap triC ++ (vs.drop T).flatMap triC := by rw [← List.flatMap_append, List.take_append_drop]
     rw [e2]
     simp only [List.append_assoc]
     rw [List.getElem?_toArray, List.getElem?_append_right (by omega), hAl, Nat.add_sub_cancel_left, List.getElem?_append_left hj2]
     simpa using hj
    have h1c : ∀ u ∈ (vs.drop T).flatMap triC, u.oneCell' = true := fun u hu => by
     refine flat_one3 (HVL.out.trans HN.out) HT.out u ?_
     obtain ⟨t, ht, hu⟩ := List.mem_flatMap.1 hu
     exact List.mem_flatMap.2 ⟨t, List.mem_of_mem_drop ht, hu⟩
    have HSRC : Hid (∀ (W : World), W.heap[g4]? = some (.cells (curX vs SP).toArray TX (0, 0)) → ∀ j u, ((vs.drop T).flatMap triC)[j]? = some u → W.cell? ((⟨g4, T * 3, none⟩ : Addr).add j) = some u) := hsrc
    have H1C : Hid (∀ u ∈ (vs.drop T).flatMap triC, u.oneCell' = true) := h1c
    have HFL : Hid (((vs.drop T).flatMap triC).length = (n - T) * 3) := hfl
    have HAL : Hid (((vs.take T).flatMap triC).length = T * 3) := hAl
    have HCL : Hid ((curX vs SP).length = cap4 * 3) := hcl
    clear hsrc h1c hfl hAl hcl hvl
    refine region_fin (fun _ => True) 99 8 (by kernel_rfl) rfl ?_
    refine fin_take 0 (v := ?_) rfl (by kernel_rfl) (by kernel_rfl) (by kernel_rfl) (by kernel_rfl) (fun _ _ _ h => h) rfl ?_ trivial ?_
    rotate_left
    ·
     intro W _
     go_simp
     (try with_reducible rfl)
    simp only [pu, sa, sz0, ss1]
    refine fin_take 1 (v := ?_) rfl (by kernel_rfl) (by kernel_rfl) (by kernel_rfl) (by kernel_rfl) (fun _ _ _ h => h) rfl ?_ trivial ?_
    rotate_left
    ·
     intro W _
     go_simp
     (try with_reducible rfl)
    simp only [pu, sa, sz0, ss1]
    refine fin_take 2 (v := ?_) rfl (by kernel_rfl) (by kernel_rfl) (by kernel_rfl) (by kernel_rfl) (fun _ _ _ h => h) rfl ?_ trivial ?_
    rotate_left
    ·
     intro W _
     go_simp
     (try with_reducible rfl)
    simp only [pu, sa, sz0, ss1]
    refine fin_take 3 (v := ?_) rfl (by kernel_rfl) (by kernel_rfl) (by kernel_rfl) (by kernel_rfl) (fun _ _ _ h => h) rfl ?_ trivial ?_
    rotate_left
    ·
     intro W _
     go_simp
     (try with_reducible rfl)
    simp only [pu, sa, sz0, ss1]
    refine fin_take 4 (v := ?_) rfl (by kernel_rfl) (by kernel_rfl) (by kernel_rfl) (by kernel_rfl) (fun _ _ _ h => h) rfl ?_ trivial ?_
    rotate_left
    ·
     intro W _
     go_simp
     (try with_reducible rfl)
    simp only [pu, sa, sz0, ss1]
    refine fin_take 5 (v := ?_) rfl (by kernel_rfl) (by kernel_rfl) (by kernel_rfl) (by kernel_rfl) (fun _ _ _ h => h) rfl ?_ trivial ?_
    rotate_left
    ·
     intro W _
     go_simp
     (try with_reducible rfl)
    simp only [pu, sa, sz0, ss1]
    refine fin_take 6 (v := ?_) rfl (by kernel_rfl) (by kernel_rfl) (by kernel_rfl) (by kernel_rfl) (fun _ _ _ h => h) rfl ?_ trivial ?_
    rotate_left
    ·
     intro W _
     go_simp
     (try with_reducible rfl)
    simp only [pu, sa, sz0, ss1]
    refine fin_one 7 rfl rfl (by kernel_rfl) (fun K hK => ?_)
    refine wp_copyK _ _ TS TS rfl TX 3 Tryz.underlying29 (by rw [hi]; simp [hz1]) (g := g4) (off := (T + 1) * 3) rfl rfl (curX vs SP) TX ((vs.drop T).flatMap triC) K0 ?d1 (by decide) ?d2 ?d3 H1C.out ?_
    case d1 => rw [HFL.out]; congr 1; show n - T = Nat.min (n + 1 - T) (n - T); exact (Nat.min_eq_right (by omega)).symm
    case d2 => exact fun h0 => ⟨if_neg (by rw [HFL.out] at h0; omega), _, if_neg (by omega), HSRC.out _ K0⟩
    case d3 => rw [HFL.out, HCL.out]; omega
    refine hK.out _ _ (fun _ => trivial) ?_
    clear hK
    refine fin_done (by kernel_rfl) (NoPanic.normal ?_)
    generalize (if cap4 = T + 1 then some (⟨g4, 0, none⟩ : Addr) else some ⟨g4, (T + 1) * 3, none⟩) = D1
    generalize (if cap4 = T then some (⟨g4, 0, none⟩ : Addr) else some ⟨g4, T * 3, none⟩) = D2
    obtain ⟨u0, u1, u2, hu⟩ := ins_cells vs T (by rw [HVL.out]; exact hhn) (.slice none 0 0) (.slice none 0 0) (.slice none 0 0) SP
    have hu2 : (curX vs SP).take ((T + 1) * 3) ++ (vs.drop T).flatMap triC ++ (curX vs SP).drop ((T + 1) * 3 + ((vs.drop T).flatMap triC).length) = (vs.take T).flatMap triC ++ u0 :: u1 :: u2 :: ((vs.drop T).flatMap triC ++ SP) := hu
    rw [hu2]
    clear hu hu2
    obtain ⟨CL, hCL⟩ : ∃ CL, CL = (vs.take T).flatMap triC ++ u0 :: u1 :: u2 :: ((vs.drop T).flatMap triC ++ SP) := ⟨_, rfl⟩
    rw [← hCL]
    obtain ⟨w5, hw5⟩ : ∃ w5, w5 = w4.drew.setRow g4 CL.toArray := ⟨_, rfl⟩
    rw [← hw5]
    have h5 : w5.heap[g4]? = some (.cells CL.toArray TX (0, 0)) := by rw [hw5]; exact setRow_heap w4.drew g4 _ _ TX _ K0
    have P5 : Bk w5 w.heap.size #[t1, t2, t3] := by rw [hw5]; exact PX.drew.rowFar NE4 _
    have HK5 : Hid (Ky w4 w5) := by show Ky w4 w5; rw [hw5]; exact (Ky.refl w4).drew.trans (Ky.row K0 (Or.inl rfl) _)
    have HF5 : Hid (∀ g, g ≠ g4 → w5.heap[g]? = w4.heap[g]?) := by show ∀ g, _; intro g hg; rw [hw5]; exact setRow_other w4.drew g4 g _ hg
    have HS5 : Hid (w5.heap.size = w4.heap.size ∧ w5.os = w4.os ∧ w5.tape = w4.tape ∧ w5.output = w4.output) := by show _ ∧ _; rw [hw5]; exact ⟨size_setRow _ _ _, rfl, rfl, rfl⟩
    clear hw5
    obtain ⟨p1, n1, k1, p2, n2, k2, p3, n3, k3, e1, e2, e3⟩ : ∃ p1 n1 k1 p2 n2 k2 p3 n3 k3, t1 = .slice p1 n1 k1 ∧ t2 = .slice p2 n2 k2 ∧ t3 = .slice p3 n3 k3 := by
     obtain ⟨a1, c1, a2, c2, a3, c3, e⟩ := HX.out.ex
     simp only [Prod.mk.injEq] at e
     exact ⟨_, _, _, _, _, _, _, _, _, e.1, e.2.1, e.2.2⟩
    subst e1
    subst e2
    subst e3
    have B5 : Bk w5 g4 CL.toArray := ⟨TX, h5⟩
    have hu0 : CL[T * 3]? = some u0 := by rw [hCL, List.getElem?_append_right (by rw [HAL.out]; omega), HAL.out, Nat.sub_self]; rfl
    have hu1 : CL[T * 3 + 1]? = some u1 := by rw [hCL, List.getElem?_append_right (by rw [HAL.out]; omega), HAL.out, Nat.add_sub_cancel_left]; rfl
    have hu2 : CL[T * 3 + 2]? = some u2 := by rw [hCL, List.getElem?_append_right (by rw [HAL.out]; omega), HAL.out, Nat.add_sub_cancel_left]; rfl
    have c0 := B5.at (i := T * 3) (v := u0) (by rw [List.getElem?_toArray]; exact hu0)
    have c1 := B5.at (i := T * 3 + 1) (v := u1) (by rw [List.getElem?_toArray]; exact hu1)
    have c2 := B5.at (i := T * 3 + 2) (v := u2) (by rw [List.getElem?_toArray]; exact hu2)
    have cf := fun i => B5.fr i
    have cl := B5.lt
    have x0 := P5.at (i := 0) rfl
    have x1 := P5.at (i := 1) rfl
    have x2 := P5.at (i := 2) rfl
    have xl := P5.lt
    have H6 : Hid ((((w5.setCell ⟨g4, T * 3, none⟩ (Value.slice p1 n1 k1)).setCell ⟨g4, T * 3 + 1, none⟩ (Value.slice p2 n2 k2)).setCell ⟨g4, T * 3 + 2, none⟩ (Value.slice p3 n3 k3)).heap[g4]? = some (.cells ((vs.take T).flatMap triC ++ (Value.slice p1 n1 k1) :: (Value.slice p2 n2 k2) :: (Value.slice p3 n3 k3) :: ((vs.drop T).flatMap triC ++ SP)).toArray TX (0, 0))) := by
     have := heap_put (heap_put (heap_put h5 (T * 3) (Value.slice p1 n1 k1)) (T * 3 + 1) (Value.slice p2 n2 k2)) (T * 3 + 2) (Value.slice p3 n3 k3)
     rw [hCL, set3 _ _ _ _ _ _ _ _ T HAL.out] at this
     exact this
    have HK6 : Hid (Ky w5 (((w5.setCell ⟨g4, T * 3, none⟩ (Value.slice p1 n1 k1)).setCell ⟨g4, T * 3 + 1, none⟩ (Value.slice p2 n2 k2)).setCell ⟨g4, T * 3 + 2, none⟩ (Value.slice p3 n3 k3))) :=
     ((Ky.set h5 (Or.inl rfl) (Value.slice p1 n1 k1)).trans (Ky.set (heap_put h5 (T * 3) (Value.slice p1 n1 k1)) (Or.inl rfl) (Value.slice p2 n2 k2))).trans (Ky.set (heap_put (heap_put h5 (T * 3) (Value.slice p1 n1 k1)) (T * 3 + 1) (Value.slice p2 n2 k2)) (Or.inl rfl) (Value.slice p3 n3 k3))
    clear h5 B5 hu0 hu1 hu2 hCL K0 HSRC H1C HH4
    go_wp2
    go_ret
    obtain ⟨w6, hw6⟩ : ∃ w6, w6 = ((w5.setCell ⟨g4, T * 3, none⟩ (Value.slice p1 n1 k1)).setCell ⟨g4, T * 3 + 1, none⟩ (Value.slice p2 n2 k2)).setCell ⟨g4, T * 3 + 2, none⟩ (Value.slice p3 n3 k3) := ⟨_, rfl⟩
    have h6 := H6.out
    have k6 := HK6.out
    rw [← hw6] at h6 k6 ⊢
    have KYA : Ky w w6 := (((Ky.on KY.out).trans HK4.out).trans HK5.out).trans k6
    have hlen : (L.take T ++ x :: L.drop T).length = n + 1 := by
     rw [List.length_append, List.length_cons, List.length_take, List.length_drop, ← HN.out]; omega
    refine ⟨_, rfl, ?_, fun N => ?_, KYA⟩
    ·
     rw [HP.out]
     refine ⟨vs.take T ++ ((Value.slice p1 n1 k1), (Value.slice p2 n2 k2), (Value.slice p3 n3 k3)) :: vs.drop T, ?_, ?_, ins_all (HVL.out.trans HN.out) (fun i t y a b => (HT.out i t y a b).ky KYA) T (by rw [HVL.out]; exact hhn) (HX.out.ky KYA)⟩
     ·
      rw [hlen, List.length_append, List.length_cons, List.length_take, List.length_drop, HVL.out]; omega
     ·
      rw [hlen]
      have e3 : (vs.take T ++ ((Value.slice p1 n1 k1), (Value.slice p2 n2 k2), (Value.slice p3 n3 k3)) :: vs.drop T).flatMap triC = (vs.take T).flatMap triC ++ (Value.slice p1 n1 k1) :: (Value.slice p2 n2 k2) :: (Value.slice p3 n3 k3) :: (vs.drop T).flatMap triC := by rw [List.flatMap_append, List.flatMap_cons]; rfl
      have e4 : ((vs.take T).flatMap triC ++ (Value.slice p1 n1 k1) :: (Value.slice p2 n2 k2) :: (Value.slice p3 n3 k3) :: (vs.drop T).flatMap triC).length = (n + 1) * 3 := by
       rw [List.length_append, HAL.out]; simp only [List.length_cons]; rw [HFL.out]; omega
      rw [e3]
      refine ⟨e4, Or.inr ⟨g4, cap4, _, rfl, hb4, h6, hc4, hm4, ?_, ?_⟩⟩
      ·
       have := HCL.out
       unfold curX nil3 at this
       simp only [List.length_append, List.length_cons, List.length_nil, flat_len3, HVL.out, List.size_toArray, HAL.out, HFL.out] at this ⊢
       omega
      ·
       have : (vs.take T).flatMap triC ++ (Value.slice p1 n1 k1) :: (Value.slice p2 n2 k2) :: (Value.slice p3 n3 k3) :: ((vs.drop T).flatMap triC ++ SP) = ((vs.take T).flatMap triC ++ (Value.slice p1 n1 k1) :: (Value.slice p2 n2 k2) :: (Value.slice p3 n3 k3) :: (vs.drop T).flatMap triC) ++ SP := by simp
       rw [this, List.take_append_of_le_length (by rw [e4]; exact Nat.le_refl _), List.take_of_length_le (by rw [e4]; exact Nat.le_refl _)]
    ·
     have F1 := Fx.on N (.slice a n c) KY.out
     have F2 := F1.trans (HF4.out N)
     refine F2.trans ⟨?_, ?_, ?_, ?_, fun g hg _ hv => ?_, Or.inl rfl⟩
     ·
      rw [hw6]; exact HS5.out.2.1
     ·
      rw [hw6]; exact HS5.out.2.2.1
     ·
      rw [hw6]; exact HS5.out.2.2.2
     ·
      rw [hw6]; simp only [World.size_setCell]; rw [HS5.out.1]; exact Nat.le_refl _
     ·
      have hne : g ≠ g4 := fun e => hv (by rw [e]; rfl)
      rw [hw6, Below.heap_setCell _ _ _ _ hne, Below.heap_setCell _ _ _ _ hne, Below.heap_setCell _ _ _ _ hne]
      exact HF5.out g hne
end Go.Proofs.YtcfohakgokiedaaGreatDoor
