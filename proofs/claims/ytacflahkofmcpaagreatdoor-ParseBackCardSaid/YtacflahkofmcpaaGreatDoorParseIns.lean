/- Initial values, atoms and instructions, as the parser takes them. -/
import Derived.Test.YtacflahkofmcpaaGreatDoorParseItems
namespace Go.Proofs.YtacflahkofmcpaaGreatDoor
open Go.RowKit

/-- Block N holds these cells. -/
def Bk (w : World) (N : Nat) (cs : Array Value) : Prop := ∃ T, w.heap[N]? = some (.cells cs T (0, 0))
section
variable {w w' : World} {N : Nat} {cs : Array Value}
theorem Bk.wp {p l : Nat} (h : Bk w N cs) (k : Wp p l w w') (hp : N ≠ p) (hl : N ≠ l) : Bk w' N cs := by
  obtain ⟨T, e⟩ := h
  exact ⟨T, (k.block N (lt_of_block e) hp hl).trans e⟩
theorem Bk.new (w : World) (cs : Array Value) (T : TypeId) : Bk (w.alloc (.cells cs T)) w.heap.size cs := ⟨T, heap_alloc_new w _⟩
theorem Bk.set (h : Bk w N cs) (i : Nat) (u : Value) : Bk (w.setCell ⟨N, i, none⟩ u) N (cs.setIfInBounds i u) := by
  obtain ⟨T, e⟩ := h
  exact ⟨T, heap_set e⟩
theorem Bk.setFar {M : Nat} (h : Bk w N cs) (hne : N ≠ M) (i : Nat) (u : Value) : Bk (w.setCell ⟨M, i, none⟩ u) N cs := by
  obtain ⟨T, e⟩ := h
  exact ⟨T, (Below.heap_setCell _ _ _ _ hne).trans e⟩
theorem Bk.alloc (h : Bk w N cs) (o : Obj) : Bk (w.alloc o) N cs := by
  obtain ⟨T, e⟩ := h
  exact ⟨T, (Below.heap_alloc _ _ _ (lt_of_block e)).trans e⟩
theorem Bk.lt (h : Bk w N cs) : N < w.heap.size := by obtain ⟨T, e⟩ := h; exact lt_of_block e
end

theorem ne_nil (c : UInt8) (cs : List UInt8) : (⟨(c :: cs).toArray⟩ : ByteArray).toList ≠ [] := by
  rw [ByteArray.toList_eq]; simp

/-! Words and signs. -/
abbrev xTest : ByteArray := ⟨#[116, 101, 115, 116]⟩
abbrev xInit : ByteArray := ⟨#[105, 110, 105, 116]⟩
abbrev xThread : ByteArray := ⟨#[116, 104, 114, 101, 97, 100]⟩
abbrev xExists : ByteArray := ⟨#[101, 120, 105, 115, 116, 115]⟩
abbrev xForall : ByteArray := ⟨#[102, 111, 114, 97, 108, 108]⟩
abbrev xStore : ByteArray := ⟨#[115, 116, 111, 114, 101]⟩
abbrev xFence : ByteArray := ⟨#[102, 101, 110, 99, 101]⟩
abbrev xSkip : ByteArray := ⟨#[115, 107, 105, 112]⟩
abbrev xLoad : ByteArray := ⟨#[108, 111, 97, 100]⟩
abbrev xCas : ByteArray := ⟨#[99, 97, 115]⟩
abbrev xIf : ByteArray := ⟨#[105, 102]⟩
abbrev xEq : ByteArray := ⟨#[61]⟩
abbrev xEqq : ByteArray := ⟨#[61, 61]⟩
abbrev xColon : ByteArray := ⟨#[58]⟩
abbrev xSemi : ByteArray := ⟨#[59]⟩
abbrev xOpen : ByteArray := ⟨#[123]⟩
abbrev xShut : ByteArray := ⟨#[125]⟩
abbrev xAnd : ByteArray := ⟨#[38]⟩
abbrev xOr : ByteArray := ⟨#[124]⟩

section
variable (s : ByteArray)
def iniP (S : St) : InitT × St := (⟨(locP s S).1, (numP s (expS s xEq (locP s S).2)).1⟩, (numP s (expS s xEq (locP s S).2)).2)
def subP (S : St) : AtomT × St :=
  if tokK s S = 2 then (⟨(uptoP s 9 7 S).1, (regP s (expS s xColon (uptoP s 9 7 S).2)).1, 0, 0⟩, (regP s (expS s xColon (uptoP s 9 7 S).2)).2)
  else (⟨-1, 0, (locP s S).1, 0⟩, (locP s S).2)
def atomP (S : St) : AtomT × St :=
  (⟨(subP s S).1.t, (subP s S).1.r, (subP s S).1.l, (numP s (expS s xEq (subP s S).2)).1⟩, (numP s (expS s xEq (subP s S).2)).2)
/-- Where a skip stands behind its number and `if`; behind `==`. -/
def skA (S : St) : St := expS s xIf (uptoP s 9223372036854775807 6 S).2
def skB (S : St) : St := expS s xEqq (opdP s (skA s S)).2
def skipP (S : St) : InsT × St := (⟨6, 0, 0, (opdP s (skA s S)).1, 0, (opdP s (skB s S)).1, (uptoP s 9223372036854775807 6 S).1⟩, (opdP s (skB s S)).2)
def setP (r : Int) (S : St) : InsT × St :=
  if opB (tokX s (opdP s S).2) then (⟨5, r, 0, (opdP s S).1, opV (tokX s (opdP s S).2), (opdP s (nx s (opdP s S).2)).1, 0⟩, (opdP s (nx s (opdP s S).2)).2)
  else (⟨5, r, 0, (opdP s S).1, 0, ⟨-1, 0⟩, 0⟩, (opdP s S).2)
def storeP (S : St) : InsT × St := (⟨1, 0, (locP s S).1, (opdP s (locP s S).2).1, 0, ⟨0, 0⟩, 0⟩, (opdP s (locP s S).2).2)
def loadP (r : Int) (S : St) : InsT × St := (⟨2, r, (locP s S).1, ⟨0, 0⟩, 0, ⟨0, 0⟩, 0⟩, (locP s S).2)
def casP (r : Int) (S : St) : InsT × St :=
  (⟨4, r, (locP s S).1, (opdP s (locP s S).2).1, 0, (opdP s (opdP s (locP s S).2).2).1, 0⟩, (opdP s (opdP s (locP s S).2).2).2)
def asgP (r : Int) (S : St) : InsT × St := if isX s xLoad S then loadP s r (nx s S) else if isX s xCas S then casP s r (nx s S) else setP s r S
def insP (S : St) : InsT × St :=
  if isX s xStore S then storeP s (nx s S) else if isX s xFence S then (⟨3, 0, 0, ⟨0, 0⟩, 0, ⟨0, 0⟩, 0⟩, nx s S) else if isX s xSkip S then skipP s (nx s S)
  else asgP s (regP s S).1 (expS s xEq (regP s S).2)
end

def iniA (x : InitT) : Value := .agg #[.int .i64 x.l, .int .i64 x.v]
def atomA (x : AtomT) : Value := .agg #[.int .i64 x.t, .int .i64 x.r, .int .i64 x.l, .int .i64 x.v]
def insA (x : InsT) : Value := .agg #[.int .i64 x.k, .int .i64 x.r, .int .i64 x.l, .int .i64 x.a.r, .int .i64 x.a.v, .int .i64 x.o, .int .i64 x.b.r, .int .i64 x.b.v, .int .i64 x.n]

section
variable (w : World) (p l : Nat) (s : ByteArray) (S : St)
set_option maxHeartbeats 1000000
set_option maxRecDepth 8000
theorem acc_no (x : ByteArray) (hx : x.toList ≠ []) (hi : isX s x S = false) (h : Px w p l s S) :
    Calls Tryz.prog 75 #[.pointer (some ⟨p, 0, none⟩), .string x] w fun e w' => e = .returned (.bool false) ∧ Px w' p l s S ∧ Wp p l w w' := by
  have hA := accept_is w p l s S x hx h
  unfold accS at hA
  rw [hi] at hA
  exact hA
theorem acc_yes (x : ByteArray) (hx : x.toList ≠ []) (hi : isX s x S = true) (h : Px w p l s S) :
    Calls Tryz.prog 75 #[.pointer (some ⟨p, 0, none⟩), .string x] w fun e w' => e = .returned (.bool true) ∧ Px w' p l s (nx s S) ∧ Wp p l w w' := by
  have hA := accept_is w p l s S x hx h
  unfold accS at hA
  rw [hi] at hA
  exact hA

theorem initial_is (h : Px w p l s S) :
    Calls Tryz.prog 77 #[.pointer (some ⟨p, 0, none⟩)] w fun e w' => e = .returned (iniA (iniP s S).1) ∧ Px w' p l s (iniP s S).2 ∧ Wp p l w w' := by
  have hx : ∀ o, Px (w.alloc o) p l s S := fun o => h.alloc o
  have hlp := h.lp
  have hll := h.ll
  unfold iniP
  clear h
  go_enter Tryz.func77, Tryz.ntmps77
  go_wp2_with fail
  refine (location_is _ p l s S (hx _)).mono ?_
  rintro e w1 ⟨rfl, h1, hw1⟩
  have B1 := (Bk.new w _ _).wp hw1 (by omega) (by omega)
  have W1 : Hid (Wp p l w w1) := ((Wp.refl p l w).alloc _).trans hw1
  clear hw1
  go_wp2_with fail
  refine (expect_is _ p l s _ xEq (ne_nil _ _) h1).mono ?_
  rintro e w2 ⟨rfl, h2, hw2⟩
  have B2 := B1.wp hw2 (by omega) (by omega)
  have W2 : Hid (Wp p l w w2) := W1.out.trans hw2
  clear hw2 B1 h1 W1
  go_wp2_with fail
  refine (number_is _ p l s _ h2).mono ?_
  rintro e w3 ⟨rfl, h3, hw3⟩
  have B3 := B2.wp hw3 (by omega) (by omega)
  have W3 : Hid (Wp p l w w3) := W2.out.trans hw3
  obtain ⟨T, hb⟩ := B3
  have dc0 : w3.cell? ⟨w.heap.size, 0, none⟩ = some (.int .i64 0) := by simp [World.cell?, hb]
  have dc1 : w3.cell? ⟨w.heap.size, 1, none⟩ = some (.int .i64 0) := by simp [World.cell?, hb]
  have df0 : w3.frozen? ⟨w.heap.size, 0, none⟩ = false := by simp [World.frozen?, hb]
  have df1 : w3.frozen? ⟨w.heap.size, 1, none⟩ = false := by simp [World.frozen?, hb]
  clear hw3 B2 h2 hb W2
  go_wp2
  (try simp only [Exit.inBlock, Exit.then])
  refine bodyPost_ret (v := iniA ⟨(locP s S).1, (numP s (expS s xEq (locP s S).2)).1⟩) ?_ rfl ⟨rfl, (h3.setFar hlp hll _).setFar hlp hll _, (W3.out.setNew (Nat.le_refl _) _).setNew (Nat.le_refl _) _⟩
  rw [results_cell rfl]
  unfold iniA
  go_simp

theorem subject_is (h : Px w p l s S) :
    Calls Tryz.prog 177 #[.pointer (some ⟨p, 0, none⟩)] w fun e w' => e = .returned (atomA (subP s S).1) ∧ Px w' p l s (subP s S).2 ∧ Wp p l w w' := by
  have hx : ∀ o, Px (w.alloc o) p l s S := fun o => h.alloc o
  have c1 := h.c1
  have hlp := h.lp
  have hll := h.ll
  unfold subP
  by_cases hk : tokK s S = 2
  · have hq : ((tokK s S : Int) != 2) = false := by rw [hk]; rfl
    rw [if_pos hk]
    clear h hk
    go_enter Tryz.func177, Tryz.ntmps177
    go_wp2_with fail
    refine (numberUpTo_is _ p l s S 9 7 (by decide) (hx _)).mono ?_
    rintro e w1 ⟨rfl, h1, hw1⟩
    have B1 := (Bk.new w _ _).wp hw1 (by omega) (by omega)
    have W1 : Hid (Wp p l w w1) := ((Wp.refl p l w).alloc _).trans hw1
    clear hw1
    go_wp2_with fail
    refine (expect_is _ p l s _ xColon (ne_nil _ _) h1).mono ?_
    rintro e w2 ⟨rfl, h2, hw2⟩
    have B2 := B1.wp hw2 (by omega) (by omega)
    have W2 : Hid (Wp p l w w2) := W1.out.trans hw2
    clear hw2 B1 h1 W1
    go_wp2_with fail
    refine (register_is _ p l s _ h2).mono ?_
    rintro e w3 ⟨rfl, h3, hw3⟩
    have B3 := B2.wp hw3 (by omega) (by omega)
    have W3 : Hid (Wp p l w w3) := W2.out.trans hw3
    obtain ⟨T, hb⟩ := B3
    have dc0 : w3.cell? ⟨w.heap.size, 0, none⟩ = some (.int .i64 0) := by simp [World.cell?, hb]
    have dc1 : w3.cell? ⟨w.heap.size, 1, none⟩ = some (.int .i64 0) := by simp [World.cell?, hb]
    have dc2 : w3.cell? ⟨w.heap.size, 2, none⟩ = some (.int .i64 0) := by simp [World.cell?, hb]
    have dc3 : w3.cell? ⟨w.heap.size, 3, none⟩ = some (.int .i64 0) := by simp [World.cell?, hb]
    have df0 : w3.frozen? ⟨w.heap.size, 0, none⟩ = false := by simp [World.frozen?, hb]
    have df1 : w3.frozen? ⟨w.heap.size, 1, none⟩ = false := by simp [World.frozen?, hb]
    have df2 : w3.frozen? ⟨w.heap.size, 2, none⟩ = false := by simp [World.frozen?, hb]
    have df3 : w3.frozen? ⟨w.heap.size, 3, none⟩ = false := by simp [World.frozen?, hb]
    clear hw3 B2 h2 hb W2
    go_wp2
    (try simp only [Exit.inBlock, Exit.then])
    refine bodyPost_ret (v := atomA ⟨(uptoP s 9 7 S).1, (regP s (expS s xColon (uptoP s 9 7 S).2)).1, 0, 0⟩) ?_ rfl ⟨rfl, (((h3.setFar hlp hll _).setFar hlp hll _).setFar hlp hll _).setFar hlp hll _, (((W3.out.setNew (Nat.le_refl _) _).setNew (Nat.le_refl _) _).setNew (Nat.le_refl _) _).setNew (Nat.le_refl _) _⟩
    rw [results_cell rfl]
    unfold atomA
    go_simp
  · have hq : ((tokK s S : Int) != 2) = true := by simp; omega
    rw [if_neg hk]
    clear h hk
    go_enter Tryz.func177, Tryz.ntmps177
    go_wp2_with fail
    refine (location_is _ p l s S (hx _)).mono ?_
    rintro e w1 ⟨rfl, h1, hw1⟩
    have B1 := (Bk.new w _ _).wp hw1 (by omega) (by omega)
    have W1 : Hid (Wp p l w w1) := ((Wp.refl p l w).alloc _).trans hw1
    obtain ⟨T, hb⟩ := B1
    have dc0 : w1.cell? ⟨w.heap.size, 0, none⟩ = some (.int .i64 0) := by simp [World.cell?, hb]
    have dc1 : w1.cell? ⟨w.heap.size, 1, none⟩ = some (.int .i64 0) := by simp [World.cell?, hb]
    have dc2 : w1.cell? ⟨w.heap.size, 2, none⟩ = some (.int .i64 0) := by simp [World.cell?, hb]
    have dc3 : w1.cell? ⟨w.heap.size, 3, none⟩ = some (.int .i64 0) := by simp [World.cell?, hb]
    have df0 : w1.frozen? ⟨w.heap.size, 0, none⟩ = false := by simp [World.frozen?, hb]
    have df1 : w1.frozen? ⟨w.heap.size, 1, none⟩ = false := by simp [World.frozen?, hb]
    have df2 : w1.frozen? ⟨w.heap.size, 2, none⟩ = false := by simp [World.frozen?, hb]
    have df3 : w1.frozen? ⟨w.heap.size, 3, none⟩ = false := by simp [World.frozen?, hb]
    clear hw1 hb
    go_wp2
    (try simp only [Exit.inBlock, Exit.then])
    refine bodyPost_ret (v := atomA ⟨-1, 0, (locP s S).1, 0⟩) ?_ rfl ⟨rfl, (((h1.setFar hlp hll _).setFar hlp hll _).setFar hlp hll _).setFar hlp hll _, (((W1.out.setNew (Nat.le_refl _) _).setNew (Nat.le_refl _) _).setNew (Nat.le_refl _) _).setNew (Nat.le_refl _) _⟩
    rw [results_cell rfl]
    unfold atomA
    go_simp

/-- An operand's value, parted. -/
theorem operand_at (h : Px w p l s S) :
    Calls Tryz.prog 119 #[.pointer (some ⟨p, 0, none⟩)] w fun e w' => e = .returned (.agg #[.int .i64 (opdP s S).1.r, .int .i64 (opdP s S).1.v]) ∧ Px w' p l s (opdP s S).2 ∧ Wp p l w w' := operand_is w p l s S h
theorem subject_at (h : Px w p l s S) :
    Calls Tryz.prog 177 #[.pointer (some ⟨p, 0, none⟩)] w fun e w' => e = .returned (.agg #[.int .i64 (subP s S).1.t, .int .i64 (subP s S).1.r, .int .i64 (subP s S).1.l, .int .i64 (subP s S).1.v]) ∧ Px w' p l s (subP s S).2 ∧ Wp p l w w' := subject_is w p l s S h

theorem atom_is (h : Px w p l s S) :
    Calls Tryz.prog 160 #[.pointer (some ⟨p, 0, none⟩)] w fun e w' => e = .returned (atomA (atomP s S).1) ∧ Px w' p l s (atomP s S).2 ∧ Wp p l w w' := by
  have hx : ∀ o, Px (w.alloc o) p l s S := fun o => h.alloc o
  have hlp := h.lp
  have hll := h.ll
  unfold atomP
  clear h
  go_enter Tryz.func160, Tryz.ntmps160
  go_wp2_with fail
  refine (subject_at _ p l s S (hx _)).mono ?_
  rintro e w1 ⟨rfl, h1, hw1⟩
  have B1 := (Bk.new w _ _).wp hw1 (by omega) (by omega)
  have W1 : Hid (Wp p l w w1) := ((Wp.refl p l w).alloc _).trans hw1
  have L1 := B1.lt
  clear hw1
  have hlp1 : p < w1.heap.size := Nat.lt_trans hlp L1
  have hll1 : l < w1.heap.size := Nat.lt_trans hll L1
  go_wp2_with fail
  refine (expect_is _ p l s _ xEq (ne_nil _ _) (h1.alloc _)).mono ?_
  rintro e w2 ⟨rfl, h2, hw2⟩
  have A2 := (Bk.new w1 _ _).wp hw2 (by omega) (by omega)
  have B2 := (B1.alloc _).wp hw2 (by omega) (by omega)
  have W2 : Hid (Wp p l w w2) := (W1.out.alloc _).trans hw2
  clear hw2 B1 h1 W1
  go_wp2_with fail
  refine (number_is _ p l s _ h2).mono ?_
  rintro e w3 ⟨rfl, h3, hw3⟩
  obtain ⟨T, hb⟩ := B2.wp hw3 (by omega) (by omega)
  obtain ⟨U, ha⟩ := A2.wp hw3 (by omega) (by omega)
  have W3 : Hid (Wp p l w w3) := W2.out.trans hw3
  have dc0 : w3.cell? ⟨w.heap.size, 0, none⟩ = some (.int .i64 0) := by simp [World.cell?, hb]
  have dc1 : w3.cell? ⟨w.heap.size, 1, none⟩ = some (.int .i64 0) := by simp [World.cell?, hb]
  have dc2 : w3.cell? ⟨w.heap.size, 2, none⟩ = some (.int .i64 0) := by simp [World.cell?, hb]
  have dc3 : w3.cell? ⟨w.heap.size, 3, none⟩ = some (.int .i64 0) := by simp [World.cell?, hb]
  have df0 : w3.frozen? ⟨w.heap.size, 0, none⟩ = false := by simp [World.frozen?, hb]
  have df1 : w3.frozen? ⟨w.heap.size, 1, none⟩ = false := by simp [World.frozen?, hb]
  have df2 : w3.frozen? ⟨w.heap.size, 2, none⟩ = false := by simp [World.frozen?, hb]
  have df3 : w3.frozen? ⟨w.heap.size, 3, none⟩ = false := by simp [World.frozen?, hb]
  have ac0 : w3.cell? ⟨w1.heap.size, 0, none⟩ = some (.int .i64 (subP s S).1.t) := by simp [World.cell?, ha]
  have ac1 : w3.cell? ⟨w1.heap.size, 1, none⟩ = some (.int .i64 (subP s S).1.r) := by simp [World.cell?, ha]
  have ac2 : w3.cell? ⟨w1.heap.size, 2, none⟩ = some (.int .i64 (subP s S).1.l) := by simp [World.cell?, ha]
  have ac3 : w3.cell? ⟨w1.heap.size, 3, none⟩ = some (.int .i64 (subP s S).1.v) := by simp [World.cell?, ha]
  have af0 : w3.frozen? ⟨w1.heap.size, 0, none⟩ = false := by simp [World.frozen?, ha]
  have af1 : w3.frozen? ⟨w1.heap.size, 1, none⟩ = false := by simp [World.frozen?, ha]
  have af2 : w3.frozen? ⟨w1.heap.size, 2, none⟩ = false := by simp [World.frozen?, ha]
  have af3 : w3.frozen? ⟨w1.heap.size, 3, none⟩ = false := by simp [World.frozen?, ha]
  clear hw3 B2 A2 h2 hb ha W2
  have N1 : w1.heap.size ≠ w.heap.size := by omega
  have N2 : w.heap.size ≠ w1.heap.size := by omega
  go_wp2
  (try simp only [Exit.inBlock, Exit.then])
  refine bodyPost_ret (v := atomA ⟨(subP s S).1.t, (subP s S).1.r, (subP s S).1.l, (numP s (expS s xEq (subP s S).2)).1⟩) ?_ rfl ⟨rfl, (((((h3.setFar hlp1 hll1 _).setFar hlp hll _).setFar hlp hll _).setFar hlp hll _).setFar hlp hll _), (((((W3.out.setNew (Nat.le_of_lt L1) _).setNew (Nat.le_refl _) _).setNew (Nat.le_refl _) _).setNew (Nat.le_refl _) _).setNew (Nat.le_refl _) _)⟩
  rw [results_cell rfl]
  unfold atomA
  go_simp

/-- A skip. -/
theorem skip_px (h : Px w p l s S) :
    Calls Tryz.prog 120 #[.pointer (some ⟨p, 0, none⟩)] w fun e w' => e = .returned (insA (skipP s S).1) ∧ Px w' p l s (skipP s S).2 ∧ Wp p l w w' := by
  have hx : ∀ o, Px (w.alloc o) p l s S := fun o => h.alloc o
  have hlp := h.lp
  have hll := h.ll
  unfold skipP skB skA
  clear h
  go_enter Tryz.func120, Tryz.ntmps120
  go_wp2_with fail
  refine (numberUpTo_is _ p l s S 9223372036854775807 6 (by decide) (hx _)).mono ?_
  rintro e w1 ⟨rfl, h1, hw1⟩
  have B1 := (Bk.new w _ _).wp hw1 (by omega) (by omega)
  have W1 : Hid (Wp p l w w1) := ((Wp.refl p l w).alloc _).trans hw1
  have L1 := B1.lt
  clear hw1
  have hlp1 : p < w1.heap.size := Nat.lt_trans hlp L1
  have hll1 : l < w1.heap.size := Nat.lt_trans hll L1
  go_wp2_with fail
  refine (expect_is _ p l s _ xIf (ne_nil _ _) (h1.alloc _)).mono ?_
  rintro e w2 ⟨rfl, h2, hw2⟩
  have A2 := (Bk.new w1 _ _).wp hw2 (by omega) (by omega)
  have B2 := (B1.alloc _).wp hw2 (by omega) (by omega)
  have W2 : Hid (Wp p l w w2) := (W1.out.alloc _).trans hw2
  clear hw2 B1 h1 W1
  go_wp2_with fail
  refine (operand_at _ p l s _ h2).mono ?_
  rintro e w3 ⟨rfl, h3, hw3⟩
  have B3 := B2.wp hw3 (by omega) (by omega)
  have A3 := A2.wp hw3 (by omega) (by omega)
  have W3 : Hid (Wp p l w w3) := W2.out.trans hw3
  obtain ⟨U, ha⟩ := A3
  have ac0 : w3.cell? ⟨w1.heap.size, 0, none⟩ = some (.int .i64 6) := by simp [World.cell?, ha]
  have ac1 : w3.cell? ⟨w1.heap.size, 1, none⟩ = some (.int .i64 0) := by simp [World.cell?, ha]
  have ac2 : w3.cell? ⟨w1.heap.size, 2, none⟩ = some (.int .i64 0) := by simp [World.cell?, ha]
  have ac3 : w3.cell? ⟨w1.heap.size, 3, none⟩ = some (.int .i64 0) := by simp [World.cell?, ha]
  have ac4 : w3.cell? ⟨w1.heap.size, 4, none⟩ = some (.int .i64 0) := by simp [World.cell?, ha]
  have ac5 : w3.cell? ⟨w1.heap.size, 5, none⟩ = some (.int .i64 0) := by simp [World.cell?, ha]
  have ac6 : w3.cell? ⟨w1.heap.size, 6, none⟩ = some (.int .i64 0) := by simp [World.cell?, ha]
  have ac7 : w3.cell? ⟨w1.heap.size, 7, none⟩ = some (.int .i64 0) := by simp [World.cell?, ha]
  have ac8 : w3.cell? ⟨w1.heap.size, 8, none⟩ = some (.int .i64 (uptoP s 9223372036854775807 6 S).1) := by simp [World.cell?, ha]
  have af0 : w3.frozen? ⟨w1.heap.size, 0, none⟩ = false := by simp [World.frozen?, ha]
  have af1 : w3.frozen? ⟨w1.heap.size, 1, none⟩ = false := by simp [World.frozen?, ha]
  have af2 : w3.frozen? ⟨w1.heap.size, 2, none⟩ = false := by simp [World.frozen?, ha]
  have af3 : w3.frozen? ⟨w1.heap.size, 3, none⟩ = false := by simp [World.frozen?, ha]
  have af4 : w3.frozen? ⟨w1.heap.size, 4, none⟩ = false := by simp [World.frozen?, ha]
  have af5 : w3.frozen? ⟨w1.heap.size, 5, none⟩ = false := by simp [World.frozen?, ha]
  have af6 : w3.frozen? ⟨w1.heap.size, 6, none⟩ = false := by simp [World.frozen?, ha]
  have af7 : w3.frozen? ⟨w1.heap.size, 7, none⟩ = false := by simp [World.frozen?, ha]
  have af8 : w3.frozen? ⟨w1.heap.size, 8, none⟩ = false := by simp [World.frozen?, ha]
  have A3' : Bk w3 w1.heap.size _ := ⟨U, ha⟩
  clear hw3 B2 A2 h2 W2 ha
  go_wp2_with fail
  refine (expect_is _ p l s _ xEqq (ne_nil _ _) ((h3.setFar hlp1 hll1 _).setFar hlp1 hll1 _)).mono ?_
  rintro e w4 ⟨rfl, h4, hw4⟩
  have B4 := ((B3.setFar (by omega) _ _).setFar (by omega) _ _).wp hw4 (by omega) (by omega)
  have A4 := ((A3'.set _ _).set _ _).wp hw4 (by omega) (by omega)
  have W4 : Hid (Wp p l w w4) := ((W3.out.setNew (Nat.le_of_lt L1) _).setNew (Nat.le_of_lt L1) _).trans hw4
  clear hw4 B3 A3' h3 W3 ac0 ac1 ac2 ac3 ac4 ac5 ac6 ac7 ac8 af0 af1 af2 af3 af4 af5 af6 af7 af8
  go_wp2_with fail
  refine (operand_at _ p l s _ h4).mono ?_
  rintro e w5 ⟨rfl, h5, hw5⟩
  obtain ⟨T, hb⟩ := B4.wp hw5 (by omega) (by omega)
  obtain ⟨U', ha⟩ := A4.wp hw5 (by omega) (by omega)
  have W5 : Hid (Wp p l w w5) := W4.out.trans hw5
  have dc0 : w5.cell? ⟨w.heap.size, 0, none⟩ = some (.int .i64 0) := by simp [World.cell?, hb]
  have dc1 : w5.cell? ⟨w.heap.size, 1, none⟩ = some (.int .i64 0) := by simp [World.cell?, hb]
  have dc2 : w5.cell? ⟨w.heap.size, 2, none⟩ = some (.int .i64 0) := by simp [World.cell?, hb]
  have dc3 : w5.cell? ⟨w.heap.size, 3, none⟩ = some (.int .i64 0) := by simp [World.cell?, hb]
  have dc4 : w5.cell? ⟨w.heap.size, 4, none⟩ = some (.int .i64 0) := by simp [World.cell?, hb]
  have dc5 : w5.cell? ⟨w.heap.size, 5, none⟩ = some (.int .i64 0) := by simp [World.cell?, hb]
  have dc6 : w5.cell? ⟨w.heap.size, 6, none⟩ = some (.int .i64 0) := by simp [World.cell?, hb]
  have dc7 : w5.cell? ⟨w.heap.size, 7, none⟩ = some (.int .i64 0) := by simp [World.cell?, hb]
  have dc8 : w5.cell? ⟨w.heap.size, 8, none⟩ = some (.int .i64 0) := by simp [World.cell?, hb]
  have df0 : w5.frozen? ⟨w.heap.size, 0, none⟩ = false := by simp [World.frozen?, hb]
  have df1 : w5.frozen? ⟨w.heap.size, 1, none⟩ = false := by simp [World.frozen?, hb]
  have df2 : w5.frozen? ⟨w.heap.size, 2, none⟩ = false := by simp [World.frozen?, hb]
  have df3 : w5.frozen? ⟨w.heap.size, 3, none⟩ = false := by simp [World.frozen?, hb]
  have df4 : w5.frozen? ⟨w.heap.size, 4, none⟩ = false := by simp [World.frozen?, hb]
  have df5 : w5.frozen? ⟨w.heap.size, 5, none⟩ = false := by simp [World.frozen?, hb]
  have df6 : w5.frozen? ⟨w.heap.size, 6, none⟩ = false := by simp [World.frozen?, hb]
  have df7 : w5.frozen? ⟨w.heap.size, 7, none⟩ = false := by simp [World.frozen?, hb]
  have df8 : w5.frozen? ⟨w.heap.size, 8, none⟩ = false := by simp [World.frozen?, hb]
  have ac0 : w5.cell? ⟨w1.heap.size, 0, none⟩ = some (.int .i64 6) := by simp [World.cell?, ha]
  have ac1 : w5.cell? ⟨w1.heap.size, 1, none⟩ = some (.int .i64 0) := by simp [World.cell?, ha]
  have ac2 : w5.cell? ⟨w1.heap.size, 2, none⟩ = some (.int .i64 0) := by simp [World.cell?, ha]
  have ac3 : w5.cell? ⟨w1.heap.size, 3, none⟩ = some (.int .i64 (opdP s (expS s xIf (uptoP s 9223372036854775807 6 S).2)).1.r) := by simp [World.cell?, ha]
  have ac4 : w5.cell? ⟨w1.heap.size, 4, none⟩ = some (.int .i64 (opdP s (expS s xIf (uptoP s 9223372036854775807 6 S).2)).1.v) := by simp [World.cell?, ha]
  have ac5 : w5.cell? ⟨w1.heap.size, 5, none⟩ = some (.int .i64 0) := by simp [World.cell?, ha]
  have ac6 : w5.cell? ⟨w1.heap.size, 6, none⟩ = some (.int .i64 0) := by simp [World.cell?, ha]
  have ac7 : w5.cell? ⟨w1.heap.size, 7, none⟩ = some (.int .i64 0) := by simp [World.cell?, ha]
  have ac8 : w5.cell? ⟨w1.heap.size, 8, none⟩ = some (.int .i64 (uptoP s 9223372036854775807 6 S).1) := by simp [World.cell?, ha]
  have af0 : w5.frozen? ⟨w1.heap.size, 0, none⟩ = false := by simp [World.frozen?, ha]
  have af1 : w5.frozen? ⟨w1.heap.size, 1, none⟩ = false := by simp [World.frozen?, ha]
  have af2 : w5.frozen? ⟨w1.heap.size, 2, none⟩ = false := by simp [World.frozen?, ha]
  have af3 : w5.frozen? ⟨w1.heap.size, 3, none⟩ = false := by simp [World.frozen?, ha]
  have af4 : w5.frozen? ⟨w1.heap.size, 4, none⟩ = false := by simp [World.frozen?, ha]
  have af5 : w5.frozen? ⟨w1.heap.size, 5, none⟩ = false := by simp [World.frozen?, ha]
  have af6 : w5.frozen? ⟨w1.heap.size, 6, none⟩ = false := by simp [World.frozen?, ha]
  have af7 : w5.frozen? ⟨w1.heap.size, 7, none⟩ = false := by simp [World.frozen?, ha]
  have af8 : w5.frozen? ⟨w1.heap.size, 8, none⟩ = false := by simp [World.frozen?, ha]
  clear hw5 B4 A4 h4 hb ha W4
  have N1 : w1.heap.size ≠ w.heap.size := by omega
  have N2 : w.heap.size ≠ w1.heap.size := by omega
  go_wp2
  (try simp only [Exit.inBlock, Exit.then])
  refine bodyPost_ret (v := insA ⟨6, 0, 0, (opdP s (expS s xIf (uptoP s 9223372036854775807 6 S).2)).1, 0, (opdP s (expS s xEqq (opdP s (expS s xIf (uptoP s 9223372036854775807 6 S).2)).2)).1, (uptoP s 9223372036854775807 6 S).1⟩) ?_ rfl ⟨rfl, (((((((((((h5.setFar hlp1 hll1 _).setFar hlp1 hll1 _).setFar hlp hll _).setFar hlp hll _).setFar hlp hll _).setFar hlp hll _).setFar hlp hll _).setFar hlp hll _).setFar hlp hll _).setFar hlp hll _).setFar hlp hll _), (((((((((((W5.out.setNew (Nat.le_of_lt L1) _).setNew (Nat.le_of_lt L1) _).setNew (Nat.le_refl _) _).setNew (Nat.le_refl _) _).setNew (Nat.le_refl _) _).setNew (Nat.le_refl _) _).setNew (Nat.le_refl _) _).setNew (Nat.le_refl _) _).setNew (Nat.le_refl _) _).setNew (Nat.le_refl _) _).setNew (Nat.le_refl _) _)⟩
  rw [results_cell rfl]
  unfold insA
  go_simp

theorem opB_ok {S : St} (h : opB (tokX s S) = true) : ∃ a, S = .ok a := by
  cases S with
  | ok a => exact ⟨a, rfl⟩
  | error e =>
    have : opB ⟨#[]⟩ = false := by unfold opB opR; simp [opFrom, sgn, signTexts, ByteArray.toList_eq]
    simp only [tokX, this] at h
    cases h

theorem set_is (r : Int) (h : Px w p l s S) :
    Calls Tryz.prog 122 #[.pointer (some ⟨p, 0, none⟩), .int .i64 r] w fun e w' => e = .returned (insA (setP s r S).1) ∧ Px w' p l s (setP s r S).2 ∧ Wp p l w w' := by
  have hx : ∀ o, Px (w.alloc o) p l s S := fun o => h.alloc o
  have hlp := h.lp
  have hll := h.ll
  unfold setP
  clear h
  generalize hR : opdP s S = R
  cases hb : opB (tokX s R.2) with
  | false =>
    simp only [Bool.false_eq_true, if_false]
    go_enter Tryz.func122, Tryz.ntmps122
    go_wp2_with fail
    refine (operand_at _ p l s S (hx _)).mono ?_
    rw [hR]
    rintro e w1 ⟨rfl, h1, hw1⟩
    have B1 := (Bk.new w _ _).wp hw1 (by omega) (by omega)
    have W1 : Hid (Wp p l w w1) := ((Wp.refl p l w).alloc _).trans hw1
    have L1 := B1.lt
    clear hw1
    have hlp1 : p < w1.heap.size := Nat.lt_trans hlp L1
    have hll1 : l < w1.heap.size := Nat.lt_trans hll L1
    have c2 := h1.c2
    have hO : ∀ W : World, Lw W → Calls Tryz.prog 158 #[.string (tokX s R.2)] W fun e w' => e = .returned (.tuple #[.int .i64 (opV (tokX s R.2)), .bool false]) ∧ On W w' := fun W k => (hb ▸ op_is (tokX s R.2) W k).mono fun e w' ⟨h1, h2⟩ => ⟨h1, h2 ▸ On.refl _⟩
    go_wp2_with fail
    refine (hO _ (h1.alloc _).lw).mono ?_
    rintro e w2 ⟨rfl, k2⟩
    have h2 := (h1.alloc _).on k2
    obtain ⟨U, ha⟩ := (Bk.new w1 _ _).wp (Wp.of_on (p := p) (l := l) k2) (by omega) (by omega)
    obtain ⟨T, hB⟩ := (B1.alloc _).wp (Wp.of_on (p := p) (l := l) k2) (by omega) (by omega)
    have W2 : Hid (Wp p l w w2) := (W1.out.alloc _).on k2
    have dc0 : w2.cell? ⟨w.heap.size, 0, none⟩ = some (.int .i64 0) := by simp [World.cell?, hB]
    have dc1 : w2.cell? ⟨w.heap.size, 1, none⟩ = some (.int .i64 0) := by simp [World.cell?, hB]
    have dc2 : w2.cell? ⟨w.heap.size, 2, none⟩ = some (.int .i64 0) := by simp [World.cell?, hB]
    have dc3 : w2.cell? ⟨w.heap.size, 3, none⟩ = some (.int .i64 0) := by simp [World.cell?, hB]
    have dc4 : w2.cell? ⟨w.heap.size, 4, none⟩ = some (.int .i64 0) := by simp [World.cell?, hB]
    have dc5 : w2.cell? ⟨w.heap.size, 5, none⟩ = some (.int .i64 0) := by simp [World.cell?, hB]
    have dc6 : w2.cell? ⟨w.heap.size, 6, none⟩ = some (.int .i64 0) := by simp [World.cell?, hB]
    have dc7 : w2.cell? ⟨w.heap.size, 7, none⟩ = some (.int .i64 0) := by simp [World.cell?, hB]
    have dc8 : w2.cell? ⟨w.heap.size, 8, none⟩ = some (.int .i64 0) := by simp [World.cell?, hB]
    have df0 : w2.frozen? ⟨w.heap.size, 0, none⟩ = false := by simp [World.frozen?, hB]
    have df1 : w2.frozen? ⟨w.heap.size, 1, none⟩ = false := by simp [World.frozen?, hB]
    have df2 : w2.frozen? ⟨w.heap.size, 2, none⟩ = false := by simp [World.frozen?, hB]
    have df3 : w2.frozen? ⟨w.heap.size, 3, none⟩ = false := by simp [World.frozen?, hB]
    have df4 : w2.frozen? ⟨w.heap.size, 4, none⟩ = false := by simp [World.frozen?, hB]
    have df5 : w2.frozen? ⟨w.heap.size, 5, none⟩ = false := by simp [World.frozen?, hB]
    have df6 : w2.frozen? ⟨w.heap.size, 6, none⟩ = false := by simp [World.frozen?, hB]
    have df7 : w2.frozen? ⟨w.heap.size, 7, none⟩ = false := by simp [World.frozen?, hB]
    have df8 : w2.frozen? ⟨w.heap.size, 8, none⟩ = false := by simp [World.frozen?, hB]
    have ac0 : w2.cell? ⟨w1.heap.size, 0, none⟩ = some (.int .i64 5) := by simp [World.cell?, ha]
    have ac1 : w2.cell? ⟨w1.heap.size, 1, none⟩ = some (.int .i64 r) := by simp [World.cell?, ha]
    have ac2 : w2.cell? ⟨w1.heap.size, 2, none⟩ = some (.int .i64 0) := by simp [World.cell?, ha]
    have ac3 : w2.cell? ⟨w1.heap.size, 3, none⟩ = some (.int .i64 R.1.r) := by simp [World.cell?, ha]
    have ac4 : w2.cell? ⟨w1.heap.size, 4, none⟩ = some (.int .i64 R.1.v) := by simp [World.cell?, ha]
    have ac5 : w2.cell? ⟨w1.heap.size, 5, none⟩ = some (.int .i64 0) := by simp [World.cell?, ha]
    have ac6 : w2.cell? ⟨w1.heap.size, 6, none⟩ = some (.int .i64 (-1)) := by simp [World.cell?, ha]
    have ac7 : w2.cell? ⟨w1.heap.size, 7, none⟩ = some (.int .i64 0) := by simp [World.cell?, ha]
    have ac8 : w2.cell? ⟨w1.heap.size, 8, none⟩ = some (.int .i64 0) := by simp [World.cell?, ha]
    have af0 : w2.frozen? ⟨w1.heap.size, 0, none⟩ = false := by simp [World.frozen?, ha]
    have af1 : w2.frozen? ⟨w1.heap.size, 1, none⟩ = false := by simp [World.frozen?, ha]
    have af2 : w2.frozen? ⟨w1.heap.size, 2, none⟩ = false := by simp [World.frozen?, ha]
    have af3 : w2.frozen? ⟨w1.heap.size, 3, none⟩ = false := by simp [World.frozen?, ha]
    have af4 : w2.frozen? ⟨w1.heap.size, 4, none⟩ = false := by simp [World.frozen?, ha]
    have af5 : w2.frozen? ⟨w1.heap.size, 5, none⟩ = false := by simp [World.frozen?, ha]
    have af6 : w2.frozen? ⟨w1.heap.size, 6, none⟩ = false := by simp [World.frozen?, ha]
    have af7 : w2.frozen? ⟨w1.heap.size, 7, none⟩ = false := by simp [World.frozen?, ha]
    have af8 : w2.frozen? ⟨w1.heap.size, 8, none⟩ = false := by simp [World.frozen?, ha]
    clear B1 hO c2 hx hB ha hb h1 W1 k2
    have N1 : w1.heap.size ≠ w.heap.size := by omega
    have N2 : w.heap.size ≠ w1.heap.size := by omega
    go_wp2
    (try simp only [Exit.inBlock, Exit.then])
    refine bodyPost_ret (v := insA ⟨5, r, 0, R.1, 0, ⟨-1, 0⟩, 0⟩) ?_ rfl ⟨rfl, (((((((((h2.setFar hlp hll _).setFar hlp hll _).setFar hlp hll _).setFar hlp hll _).setFar hlp hll _).setFar hlp hll _).setFar hlp hll _).setFar hlp hll _).setFar hlp hll _), (((((((((W2.out.setNew (Nat.le_refl _) _).setNew (Nat.le_refl _) _).setNew (Nat.le_refl _) _).setNew (Nat.le_refl _) _).setNew (Nat.le_refl _) _).setNew (Nat.le_refl _) _).setNew (Nat.le_refl _) _).setNew (Nat.le_refl _) _).setNew (Nat.le_refl _) _)⟩
    rw [results_cell rfl]
    unfold insA
    go_simp
  | true =>
    simp only [if_true]
    obtain ⟨a, hRa⟩ := opB_ok s hb
    go_enter Tryz.func122, Tryz.ntmps122
    go_wp2_with fail
    refine (operand_at _ p l s S (hx _)).mono ?_
    rw [hR]
    rintro e w1 ⟨rfl, h1, hw1⟩
    have B1 := (Bk.new w _ _).wp hw1 (by omega) (by omega)
    have W1 : Hid (Wp p l w w1) := ((Wp.refl p l w).alloc _).trans hw1
    have L1 := B1.lt
    clear hw1
    have hlp1 : p < w1.heap.size := Nat.lt_trans hlp L1
    have hll1 : l < w1.heap.size := Nat.lt_trans hll L1
    have c2 := h1.c2
    have hO : ∀ W : World, Lw W → Calls Tryz.prog 158 #[.string (tokX s R.2)] W fun e w' => e = .returned (.tuple #[.int .i64 (opV (tokX s R.2)), .bool true]) ∧ On W w' := fun W k => (hb ▸ op_is (tokX s R.2) W k).mono fun e w' ⟨h1, h2⟩ => ⟨h1, h2 ▸ On.refl _⟩
    have hN : ∀ W : World, Px W p l s R.2 → Calls Tryz.prog 30 #[.pointer (some ⟨p, 0, none⟩)] W fun e w' => e = .returned (.tuple #[]) ∧ Px w' p l s (nx s R.2) ∧ Wp p l W w' := by
      intro W k
      rw [hRa] at k ⊢
      exact next_px W p l s a k
    have HRa : Hid (R.2 = .ok a) := hRa
    clear hRa
    go_wp2_with fail
    refine (hO _ (h1.alloc _).lw).mono ?_
    rintro e w0 ⟨rfl, k2⟩
    have h0 := (h1.alloc _).on k2
    have A0 := (Bk.new w1 _ _).wp (Wp.of_on (p := p) (l := l) k2) (by omega) (by omega)
    have B0 := (B1.alloc _).wp (Wp.of_on (p := p) (l := l) k2) (by omega) (by omega)
    have W0 : Hid (Wp p l w w0) := (W1.out.alloc _).on k2
    clear k2 h1 W1 B1 c2 hO
    go_wp2_with fail
    refine (hN _ h0).mono ?_
    rintro e w2 ⟨rfl, h2, hw2⟩
    have A2 := A0.wp hw2 (by omega) (by omega)
    have B2 := B0.wp hw2 (by omega) (by omega)
    have W2 : Hid (Wp p l w w2) := W0.out.trans hw2
    clear hw2 hN hb hx A0 B0 W0 h0
    obtain ⟨U, ha⟩ := A2
    have ac0 : w2.cell? ⟨w1.heap.size, 0, none⟩ = some (.int .i64 5) := by simp [World.cell?, ha]
    have ac1 : w2.cell? ⟨w1.heap.size, 1, none⟩ = some (.int .i64 r) := by simp [World.cell?, ha]
    have ac2 : w2.cell? ⟨w1.heap.size, 2, none⟩ = some (.int .i64 0) := by simp [World.cell?, ha]
    have ac3 : w2.cell? ⟨w1.heap.size, 3, none⟩ = some (.int .i64 R.1.r) := by simp [World.cell?, ha]
    have ac4 : w2.cell? ⟨w1.heap.size, 4, none⟩ = some (.int .i64 R.1.v) := by simp [World.cell?, ha]
    have ac5 : w2.cell? ⟨w1.heap.size, 5, none⟩ = some (.int .i64 0) := by simp [World.cell?, ha]
    have ac6 : w2.cell? ⟨w1.heap.size, 6, none⟩ = some (.int .i64 (-1)) := by simp [World.cell?, ha]
    have ac7 : w2.cell? ⟨w1.heap.size, 7, none⟩ = some (.int .i64 0) := by simp [World.cell?, ha]
    have ac8 : w2.cell? ⟨w1.heap.size, 8, none⟩ = some (.int .i64 0) := by simp [World.cell?, ha]
    have af0 : w2.frozen? ⟨w1.heap.size, 0, none⟩ = false := by simp [World.frozen?, ha]
    have af1 : w2.frozen? ⟨w1.heap.size, 1, none⟩ = false := by simp [World.frozen?, ha]
    have af2 : w2.frozen? ⟨w1.heap.size, 2, none⟩ = false := by simp [World.frozen?, ha]
    have af3 : w2.frozen? ⟨w1.heap.size, 3, none⟩ = false := by simp [World.frozen?, ha]
    have af4 : w2.frozen? ⟨w1.heap.size, 4, none⟩ = false := by simp [World.frozen?, ha]
    have af5 : w2.frozen? ⟨w1.heap.size, 5, none⟩ = false := by simp [World.frozen?, ha]
    have af6 : w2.frozen? ⟨w1.heap.size, 6, none⟩ = false := by simp [World.frozen?, ha]
    have af7 : w2.frozen? ⟨w1.heap.size, 7, none⟩ = false := by simp [World.frozen?, ha]
    have af8 : w2.frozen? ⟨w1.heap.size, 8, none⟩ = false := by simp [World.frozen?, ha]
    have A2 : Bk w2 w1.heap.size _ := ⟨U, ha⟩
    clear ha
    go_wp2_with fail
    refine (operand_at _ p l s _ (h2.setFar hlp1 hll1 _)).mono ?_
    rintro e w3 ⟨rfl, h3, hw3⟩
    obtain ⟨T, hB⟩ := (B2.setFar (by omega) _ _).wp hw3 (by omega) (by omega)
    obtain ⟨U', ha⟩ := (A2.set _ _).wp hw3 (by omega) (by omega)
    have W3 : Hid (Wp p l w w3) := (W2.out.setNew (Nat.le_of_lt L1) _).trans hw3
    clear ac0 ac1 ac2 ac3 ac4 ac5 ac6 ac7 ac8 af0 af1 af2 af3 af4 af5 af6 af7 af8
    have dc0 : w3.cell? ⟨w.heap.size, 0, none⟩ = some (.int .i64 0) := by simp [World.cell?, hB]
    have dc1 : w3.cell? ⟨w.heap.size, 1, none⟩ = some (.int .i64 0) := by simp [World.cell?, hB]
    have dc2 : w3.cell? ⟨w.heap.size, 2, none⟩ = some (.int .i64 0) := by simp [World.cell?, hB]
    have dc3 : w3.cell? ⟨w.heap.size, 3, none⟩ = some (.int .i64 0) := by simp [World.cell?, hB]
    have dc4 : w3.cell? ⟨w.heap.size, 4, none⟩ = some (.int .i64 0) := by simp [World.cell?, hB]
    have dc5 : w3.cell? ⟨w.heap.size, 5, none⟩ = some (.int .i64 0) := by simp [World.cell?, hB]
    have dc6 : w3.cell? ⟨w.heap.size, 6, none⟩ = some (.int .i64 0) := by simp [World.cell?, hB]
    have dc7 : w3.cell? ⟨w.heap.size, 7, none⟩ = some (.int .i64 0) := by simp [World.cell?, hB]
    have dc8 : w3.cell? ⟨w.heap.size, 8, none⟩ = some (.int .i64 0) := by simp [World.cell?, hB]
    have df0 : w3.frozen? ⟨w.heap.size, 0, none⟩ = false := by simp [World.frozen?, hB]
    have df1 : w3.frozen? ⟨w.heap.size, 1, none⟩ = false := by simp [World.frozen?, hB]
    have df2 : w3.frozen? ⟨w.heap.size, 2, none⟩ = false := by simp [World.frozen?, hB]
    have df3 : w3.frozen? ⟨w.heap.size, 3, none⟩ = false := by simp [World.frozen?, hB]
    have df4 : w3.frozen? ⟨w.heap.size, 4, none⟩ = false := by simp [World.frozen?, hB]
    have df5 : w3.frozen? ⟨w.heap.size, 5, none⟩ = false := by simp [World.frozen?, hB]
    have df6 : w3.frozen? ⟨w.heap.size, 6, none⟩ = false := by simp [World.frozen?, hB]
    have df7 : w3.frozen? ⟨w.heap.size, 7, none⟩ = false := by simp [World.frozen?, hB]
    have df8 : w3.frozen? ⟨w.heap.size, 8, none⟩ = false := by simp [World.frozen?, hB]
    have ac0 : w3.cell? ⟨w1.heap.size, 0, none⟩ = some (.int .i64 5) := by simp [World.cell?, ha]
    have ac1 : w3.cell? ⟨w1.heap.size, 1, none⟩ = some (.int .i64 r) := by simp [World.cell?, ha]
    have ac2 : w3.cell? ⟨w1.heap.size, 2, none⟩ = some (.int .i64 0) := by simp [World.cell?, ha]
    have ac3 : w3.cell? ⟨w1.heap.size, 3, none⟩ = some (.int .i64 R.1.r) := by simp [World.cell?, ha]
    have ac4 : w3.cell? ⟨w1.heap.size, 4, none⟩ = some (.int .i64 R.1.v) := by simp [World.cell?, ha]
    have ac5 : w3.cell? ⟨w1.heap.size, 5, none⟩ = some (.int .i64 (opV (tokX s R.2))) := by simp [World.cell?, ha]
    have ac6 : w3.cell? ⟨w1.heap.size, 6, none⟩ = some (.int .i64 (-1)) := by simp [World.cell?, ha]
    have ac7 : w3.cell? ⟨w1.heap.size, 7, none⟩ = some (.int .i64 0) := by simp [World.cell?, ha]
    have ac8 : w3.cell? ⟨w1.heap.size, 8, none⟩ = some (.int .i64 0) := by simp [World.cell?, ha]
    have af0 : w3.frozen? ⟨w1.heap.size, 0, none⟩ = false := by simp [World.frozen?, ha]
    have af1 : w3.frozen? ⟨w1.heap.size, 1, none⟩ = false := by simp [World.frozen?, ha]
    have af2 : w3.frozen? ⟨w1.heap.size, 2, none⟩ = false := by simp [World.frozen?, ha]
    have af3 : w3.frozen? ⟨w1.heap.size, 3, none⟩ = false := by simp [World.frozen?, ha]
    have af4 : w3.frozen? ⟨w1.heap.size, 4, none⟩ = false := by simp [World.frozen?, ha]
    have af5 : w3.frozen? ⟨w1.heap.size, 5, none⟩ = false := by simp [World.frozen?, ha]
    have af6 : w3.frozen? ⟨w1.heap.size, 6, none⟩ = false := by simp [World.frozen?, ha]
    have af7 : w3.frozen? ⟨w1.heap.size, 7, none⟩ = false := by simp [World.frozen?, ha]
    have af8 : w3.frozen? ⟨w1.heap.size, 8, none⟩ = false := by simp [World.frozen?, ha]
    clear hw3 B2 A2 h2 hB ha W2
    have N1 : w1.heap.size ≠ w.heap.size := by omega
    have N2 : w.heap.size ≠ w1.heap.size := by omega
    go_wp2
    (try simp only [Exit.inBlock, Exit.then])
    refine bodyPost_ret (v := insA ⟨5, r, 0, R.1, opV (tokX s R.2), (opdP s (nx s R.2)).1, 0⟩) ?_ rfl ⟨rfl, (((((((((((h3.setFar hlp1 hll1 _).setFar hlp1 hll1 _).setFar hlp hll _).setFar hlp hll _).setFar hlp hll _).setFar hlp hll _).setFar hlp hll _).setFar hlp hll _).setFar hlp hll _).setFar hlp hll _).setFar hlp hll _), (((((((((((W3.out.setNew (Nat.le_of_lt L1) _).setNew (Nat.le_of_lt L1) _).setNew (Nat.le_refl _) _).setNew (Nat.le_refl _) _).setNew (Nat.le_refl _) _).setNew (Nat.le_refl _) _).setNew (Nat.le_refl _) _).setNew (Nat.le_refl _) _).setNew (Nat.le_refl _) _).setNew (Nat.le_refl _) _).setNew (Nat.le_refl _) _)⟩
    rw [results_cell rfl]
    unfold insA
    go_simp
end
end Go.Proofs.YtacflahkofmcpaaGreatDoor
