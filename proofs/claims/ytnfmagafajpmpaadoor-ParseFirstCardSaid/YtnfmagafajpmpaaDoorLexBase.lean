/- A lexer's block in memory; kinds of bytes by shifts; look and atEnd. -/
import Derived.Test.YtnfmagafajpmpaaDoorProg
import Derived.Test.YtnfmagafajpmpaaDoorLexPure
import Derived.WalkKit
import Derived.WalkSpells
import Derived.WalkLawsBesides
import Derived.WalkSmall
import Derived.Maps.AppendAt
namespace Go.Proofs.YtnfmagafajpmpaaDoor
open Go.RowKit

/-- Block b holds a lexer: its text, its place, how far it has read. -/
structure Lx (w : World) (b : Nat) (s : ByteArray) (a r : Nat) : Prop where
  blk : ∃ T, w.heap[b]? = some (.cells #[.string s, .int .i64 a, .int .i64 r] T (0, 0))

variable {w w' : World} {b : Nat} {s : ByteArray} {a r : Nat}

theorem Lx.c0 (h : Lx w b s a r) : w.cell? ⟨b, 0, none⟩ = some (.string s) := by obtain ⟨T, h⟩ := h.blk; simp [World.cell?, h]
theorem Lx.c1 (h : Lx w b s a r) : w.cell? ⟨b, 1, none⟩ = some (.int .i64 a) := by obtain ⟨T, h⟩ := h.blk; simp [World.cell?, h]
theorem Lx.c2 (h : Lx w b s a r) : w.cell? ⟨b, 2, none⟩ = some (.int .i64 r) := by obtain ⟨T, h⟩ := h.blk; simp [World.cell?, h]
theorem Lx.f0 (h : Lx w b s a r) : w.frozen? ⟨b, 0, none⟩ = false := by obtain ⟨T, h⟩ := h.blk; simp [World.frozen?, h]
theorem Lx.f1 (h : Lx w b s a r) : w.frozen? ⟨b, 1, none⟩ = false := by obtain ⟨T, h⟩ := h.blk; simp [World.frozen?, h]
theorem Lx.f2 (h : Lx w b s a r) : w.frozen? ⟨b, 2, none⟩ = false := by obtain ⟨T, h⟩ := h.blk; simp [World.frozen?, h]
theorem Lx.lt (h : Lx w b s a r) : b < w.heap.size := by obtain ⟨T, h⟩ := h.blk; exact lt_of_block h
theorem Lx.drew (h : Lx w b s a r) : Lx w.drew b s a r := ⟨h.blk⟩

theorem heap_set {w : World} {b i : Nat} {cs : Array Value} {T : TypeId} {u : Value} (h : w.heap[b]? = some (.cells cs T (0, 0))) : (w.setCell ⟨b, i, none⟩ u).heap[b]? = some (.cells (cs.setIfInBounds i u) T (0, 0)) := by
  have hlt := lt_of_block h
  have h' : w.heap[b] = .cells cs T (0, 0) := by simpa [Array.getElem?_eq_getElem hlt] using h
  show (w.heap.modify b _)[b]? = _
  rw [Array.getElem?_eq_getElem (by simpa using hlt), Array.getElem_modify_self, h']
  rfl
theorem Lx.set1 (h : Lx w b s a r) (x : Nat) : Lx (w.setCell ⟨b, 1, none⟩ (.int .i64 x)) b s x r := by obtain ⟨T, h⟩ := h.blk; exact ⟨T, heap_set h⟩
theorem Lx.set2 (h : Lx w b s a r) (x : Nat) : Lx (w.setCell ⟨b, 2, none⟩ (.int .i64 x)) b s a x := by obtain ⟨T, h⟩ := h.blk; exact ⟨T, heap_set h⟩

theorem Lx.to1 (h : Lx w b s a r) {x : Int} {n : Nat} (e : x = n) : Lx (w.setCell ⟨b, 1, none⟩ (.int .i64 x)) b s n r := by subst e; exact h.set1 n
theorem Lx.to2 (h : Lx w b s a r) {x : Int} {n : Nat} (e : x = n) : Lx (w.setCell ⟨b, 2, none⟩ (.int .i64 x)) b s a n := by subst e; exact h.set2 n

/-- Only block b is written; new blocks may be. -/
def Wr (b : Nat) (w w' : World) : Prop := w.grownBy w' (some b)
theorem Wr.refl (b : Nat) (w : World) : Wr b w w := World.grownBy.refl _ _
theorem Wr.trans {b : Nat} {x y z : World} (h : Wr b x y) (k : Wr b y z) : Wr b x z := World.grownBy.trans h k
theorem Wr.drew {b : Nat} {x y : World} (h : Wr b x y) : Wr b x y.drew := ⟨h.os, h.tape, h.output, h.size, h.block⟩
theorem Wr.set {b i : Nat} {x y : World} (h : Wr b x y) (u : Value) : Wr b x (y.setCell ⟨b, i, none⟩ u) :=
  h.trans ⟨rfl, rfl, rfl, by simp [World.setCell], fun k _ hne => Below.heap_setCell _ _ _ _ (fun e => hne (by rw [e]))⟩

/-- Kinds of bytes. -/
def hasB (set c : Int) : Bool := bits .and .u64 (set / 2 ^ min c.toNat 64) 1 == 1
theorem has_is (set c : Int) (hc : 0 ≤ c) (w : World) :
    Calls Tryd.prog 52 #[.int .u64 set, .int .u8 c] w fun e w' => e = .returned (.bool (hasB set c)) ∧ w' = w := by
  go_enter Tryd.func52, Tryd.ntmps52
  go_wp2
  go_ret
  exact ⟨rfl, rfl⟩
theorem hasHigh_is (set c : Int) (w : World) :
    Calls Tryd.prog 61 #[.int .u64 set, .int .u8 c] w fun e w' => e = .returned (.bool (hasB set (IntKind.u8.wrap (c - 64)))) ∧ w' = w := by
  have h0 := wrap_u8_nonneg (c - 64)
  go_enter Tryd.func61, Tryd.ntmps61
  go_wp2_with (go_at_call 52; refine (has_is _ _ (by assumption) _).mono ?_; rintro e w' ⟨rfl, rfl⟩)
  go_ret
  exact ⟨rfl, rfl⟩

theorem dig_all : ∀ c : Fin 256, hasB 287948901175001088 (c.val : Int) = digN c.val := by decide +kernel
theorem let_all : ∀ c : Fin 256, hasB 576460743713488896 (IntKind.u8.wrap ((c.val : Int) - 64)) = letN c.val := by decide +kernel
theorem one_all : ∀ c : Fin 256, (hasB 4323504295665205248 (c.val : Int) || hasB 4035225267197706240 (IntKind.u8.wrap ((c.val : Int) - 64))) = oneN c.val := by decide +kernel
theorem bl_all : ∀ c : Fin 256, hasB 4294968832 (c.val : Int) = blN c.val := by decide +kernel

theorem isDigit_is (c : Nat) (hc : c ≤ 255) (w : World) :
    Calls Tryd.prog 55 #[.int .u8 c] w fun e w' => e = .returned (.bool (digN c)) ∧ w' = w := by
  have e : hasB 287948901175001088 (c : Int) = digN c := dig_all ⟨c, by omega⟩
  have hP := has_is 287948901175001088 (c : Int) (by omega) w
  rw [e] at hP
  clear e
  go_enter Tryd.func55, Tryd.ntmps55
  go_wp2_with (go_at_call 52; refine hP.mono ?_; rintro e w' ⟨rfl, rfl⟩)
  go_ret
  exact ⟨rfl, rfl⟩
theorem isLetter_is (c : Nat) (hc : c ≤ 255) (w : World) :
    Calls Tryd.prog 53 #[.int .u8 c] w fun e w' => e = .returned (.bool (letN c)) ∧ w' = w := by
  have e : hasB 576460743713488896 (IntKind.u8.wrap ((c : Int) - 64)) = letN c := let_all ⟨c, by omega⟩
  have hP := hasHigh_is 576460743713488896 (c : Int) w
  rw [e] at hP
  clear e
  go_enter Tryd.func53, Tryd.ntmps53
  go_wp2_with (go_at_call 61; refine hP.mono ?_; rintro e w' ⟨rfl, rfl⟩)
  go_ret
  exact ⟨rfl, rfl⟩
theorem hasBl_is (c : Nat) (hc : c ≤ 255) (w : World) :
    Calls Tryd.prog 52 #[.int .u64 4294968832, .int .u8 c] w fun e w' => e = .returned (.bool (blN c)) ∧ w' = w := by
  have e : hasB 4294968832 (c : Int) = blN c := bl_all ⟨c, by omega⟩
  have hP := has_is 4294968832 (c : Int) (by omega) w
  rw [e] at hP
  exact hP
theorem isSign_is (c : Nat) (hc : c ≤ 255) (w : World) :
    Calls Tryd.prog 57 #[.int .u8 c] w fun e w' => e = .returned (.bool (oneN c)) ∧ w' = w := by
  have e := one_all ⟨c, by omega⟩
  have hP := has_is 4323504295665205248 (c : Int) (by omega) w
  have hQ := hasHigh_is 4035225267197706240 (c : Int) w
  dsimp only at e
  rw [← e]
  clear e
  generalize hasB 4035225267197706240 (IntKind.u8.wrap ((c : Int) - 64)) = y at *
  generalize hasB 4323504295665205248 (c : Int) = x at *
  cases x
  all_goals
    go_enter Tryd.func57, Tryd.ntmps57
    go_wp2_with (first | (go_at_call 52; refine hP.mono ?_; rintro e w' ⟨rfl, rfl⟩) | (go_at_call 61; refine hQ.mono ?_; rintro e w' ⟨rfl, rfl⟩))
    go_ret
    exact ⟨rfl, rfl⟩

/-- How far it has read once place i was looked at. -/
def rd (s : ByteArray) (r i : Nat) : Nat := if i < s.size then max r (i + 1) else r

set_option maxHeartbeats 400000 in
theorem look_is (w : World) (b : Nat) (s : ByteArray) (a r k : Nat) (hs : s.size ≤ 140737488351232) (ha : a ≤ s.size) (hk : k ≤ s.size + 2) (hl : Lx w b s a r) :
    Calls Tryd.prog 50 #[.pointer (some ⟨b, 0, none⟩), .int .i64 k] w fun e w' => e = .returned (.int .u8 (bN s (a + k))) ∧ Lx w' b s a (rd s r (a + k)) ∧ Wr b w w' := by
  have c0 := hl.c0
  have c1 := hl.c1
  have c2 := hl.c2
  have f2 := hl.f2
  have HL : Hid (Lx w b s a r) := hl
  clear hl
  by_cases hik : a + k < s.size
  · go_enter Tryd.func50, Tryd.ntmps50
    go_wp2
    all_goals
      go_ret
      refine ⟨by rw [bN_lt hik]; rfl, ?_, (Wr.refl _ _).set _⟩
      exact HL.out.to2 (by unfold rd; rw [if_pos hik]; omega)
  · go_enter Tryd.func50, Tryd.ntmps50
    go_wp2
    go_ret
    refine ⟨?_, ?_, Wr.refl _ _⟩
    · rw [bN_ge (by omega)]; rfl
    · unfold rd; rw [if_neg hik]; exact HL.out

theorem nat_beq (x y : Nat) : ((x : Int) == (y : Int)) = decide (x = y) := by
  by_cases h : x = y
  · subst h; simp
  · rw [decide_eq_false h, beq_eq_false_iff_ne]; omega

set_option maxHeartbeats 400000 in
theorem atEnd_is (w : World) (b : Nat) (s : ByteArray) (a r : Nat) (hl : Lx w b s a r) :
    Calls Tryd.prog 49 #[.pointer (some ⟨b, 0, none⟩)] w fun e w' => e = .returned (.bool (decide (a = s.size))) ∧ Lx w' b s a r ∧ Wr b w w' := by
  have c0 := hl.c0
  have c1 := hl.c1
  have HL : Hid (Lx w b s a r) := hl
  clear hl
  go_enter Tryd.func49, Tryd.ntmps49
  go_wp2
  go_region
  all_goals (try go_wp2)
  all_goals go_ret
  refine ⟨?_, HL.out.drew, (Wr.refl _ _).drew⟩
  show Ending.returned (.bool ((a : Int) == (s.size : Int))) = _
  rw [nat_beq]
end Go.Proofs.YtnfmagafajpmpaaDoor
