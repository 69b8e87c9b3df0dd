/- The numbers of a made test are numbers of 64 bits. In plain Lean. -/
import Derived.Test.YtplihlmejnohnaaGreatDoorJ14SmallP
import Derived.Test.YtplihlmejnohnaaGreatDoorJ24RVal
import Derived.Test.YtplihlmejnohnaaGreatDoorStepI
import Derived.OpenShut
namespace Go.Proofs.YtplihlmejnohnaaGreatDoor

/-- A number of 64 bits. -/
def B64 (v : Int) : Prop := -9223372036854775808 ≤ v ∧ v ≤ 9223372036854775807
theorem b64_nat (n : Nat) (h : n < 65536) : B64 (n : Int) := ⟨by omega, by omega⟩
theorem insOf_b (locs x : Nat) : ∀ y ∈ insOf locs x, B64 y.a.v ∧ B64 y.b.v ∧ B64 y.n := by
  have z0 : B64 0 := ⟨by omega, by omega⟩
  have z1 : B64 1 := ⟨by omega, by omega⟩
  have z2 : B64 2 := ⟨by omega, by omega⟩
  have ho : B64 (opdOf x).v := by
    unfold opdOf
    split
    · exact z0
    · exact b64_nat _ (by omega)
  intro y hy
  unfold insOf at hy
  repeat' split at hy
  all_goals
    simp only [List.mem_cons, List.not_mem_nil, or_false] at hy
    rcases hy with rfl | rfl <;> first | exact ⟨ho, z0, z0⟩ | exact ⟨z0, z0, z0⟩ | exact ⟨ho, z1, z0⟩ | exact ⟨ho, z0, z1⟩ | exact ⟨z2, z0, z0⟩
theorem rowFrom_b (l : List Int) (most locs : Nat) : ∀ k at' mem, ∀ y ∈ (rowFrom l most locs k at' mem).1, B64 y.a.v ∧ B64 y.b.v ∧ B64 y.n
  | 0, at', mem, y, hy => by simp [rowFrom] at hy
  | k + 1, at', mem, y, hy => by
    unfold rowFrom at hy
    split at hy
    · rcases List.mem_append.1 hy with hy | hy
      · exact insOf_b _ _ y hy
      · exact rowFrom_b l most locs k _ _ y hy
    · simp at hy
theorem thrFrom_b (l : List Int) (most locs : Nat) : ∀ n at' mem, ∀ L ∈ (thrFrom l most locs n at' mem).1, ∀ y ∈ L, B64 y.a.v ∧ B64 y.b.v ∧ B64 y.n
  | 0, at', mem, L, hL, y, hy => by simp [thrFrom] at hL
  | n + 1, at', mem, L, hL, y, hy => by
    unfold thrFrom at hL
    rcases List.mem_cons.1 hL with rfl | hL
    · exact rowFrom_b l most locs _ _ _ y hy
    · exact thrFrom_b l most locs n _ _ L hL y hy
theorem iniOf_b (l : List Int) : ∀ x ∈ iniOf l, B64 x.v := by
  intro x hx
  unfold iniOf at hx
  split at hx
  · simp only [List.mem_cons, List.not_mem_nil, or_false] at hx
    subst hx
    exact b64_nat _ (by omega)
  · simp at hx
end Go.Proofs.YtplihlmejnohnaaGreatDoor

namespace Go.Proofs.YtplihlmejnohnaaGreatDoor
open Go.RowKit

theorem bd_zero : B64 0 := ⟨by omega, by omega⟩
theorem b64_wf {n : Int} (h : (Lit.int .i64 n).wf = true) : B64 n := by
  have e1 : IntKind.i64.min = -9223372036854775808 := rfl
  have e2 : IntKind.i64.max = 9223372036854775807 := rfl
  simp [Lit.wf, e1, e2] at h
  exact h
theorem b64_b2i (b : Bool) : B64 (b2i b) := by
  unfold b2i
  split
  · exact ⟨by omega, by omega⟩
  · exact bd_zero
theorem b64_shift {a : Int} (h : B64 a) (k : Nat) : B64 (a / 2 ^ k) := by
  have hp : (1 : Int) ≤ 2 ^ k := by
    have : 0 < (2 : Int) ^ k := Int.pow_pos (by omega)
    omega
  obtain ⟨h0, h1⟩ := h
  constructor
  · rw [Int.le_ediv_iff_mul_le (by omega)]
    refine Int.le_trans ?_ h0
    have : (-9223372036854775808 : Int) * 2 ^ k ≤ -9223372036854775808 * 1 := Int.mul_le_mul_of_nonpos_left (by omega) hp
    omega
  · by_cases hn : 0 ≤ a
    · exact Int.le_trans (Int.ediv_le_self _ hn) h1
    · have : a / 2 ^ k < 0 := Int.ediv_neg_of_neg_of_pos (by omega) (by omega)
      omega
theorem b64_do (op : Int) {a : Int} (b : Int) (ha : B64 a) : B64 (doV op a b) := by
  have w : ∀ n : Int, B64 (wrap64 n) := fun n => b64_wf (wrap64_wf n)
  have q : ∀ o x y, B64 (bits o .i64 x y) := fun o x y => b64_wf (wf_bits o .i64 x y)
  unfold doV
  repeat' split
  all_goals first | exact w _ | exact q _ _ _ | exact b64_shift ha _ | exact b64_b2i _ | exact bd_zero
/-- A thread's registers are numbers of 64 bits. -/
def LB (l : LocT) : Prop := B64 l.r0 ∧ B64 l.r1 ∧ B64 l.r2 ∧ B64 l.r3
theorem lb_val {o : Opd} {l : LocT} (h : LB l) (ho : B64 o.v) : B64 (valOf o l) := by
  unfold valOf
  split
  · unfold regAt
    obtain ⟨h0, h1, h2, h3⟩ := h
    repeat' split
    · exact h0
    · exact h1
    · exact h2
    · exact h3
  · exact ho
theorem lb_with {l : LocT} (h : LB l) (r : Int) {v : Int} (hv : B64 v) : LB (withR l r v) := by
  obtain ⟨h0, h1, h2, h3⟩ := h
  unfold withR setR
  repeat' split
  · exact ⟨hv, h1, h2, h3⟩
  · exact ⟨h0, hv, h2, h3⟩
  · exact ⟨h0, h1, hv, h3⟩
  · exact ⟨h0, h1, h2, hv⟩
  · exact ⟨h0, h1, h2, h3⟩
def InsB (L : List InsT) : Prop := ∀ y ∈ L, B64 y.a.v ∧ B64 y.b.v
theorem lb_settle {L : List InsT} (hL : InsB L) : ∀ (n : Nat) (l : LocT), LB l → LB (settleN n L l)
  | 0, _, h => h
  | n + 1, l, h => by
    rw [settleN]
    cases hi : L[l.pc.toNat]? with
    | none => exact h
    | some x =>
      have hx := hL x (List.mem_of_getElem? hi)
      simp only
      split
      · refine lb_settle hL n _ ?_
        show LB (withR l x.r (resOf x l))
        refine lb_with h _ ?_
        unfold resOf
        split
        · exact lb_val h hx.1
        · exact b64_do _ _ (lb_val h hx.1)
      · split
        · exact lb_settle hL n (pcTo l _) h
        · exact h
theorem lb_start {L : List InsT} (hL : InsB L) : LB (startP L) := lb_settle hL _ _ ⟨bd_zero, bd_zero, bd_zero, bd_zero⟩
theorem lb_after {L : List InsT} (hL : InsB L) {l : LocT} (h : LB l) {v : Int} (hv : B64 v) : LB (afterP L l v) := by
  unfold afterP
  split
  · exact h
  · rename_i x _
    refine lb_settle hL _ _ ?_
    unfold stepTo
    split
    · exact lb_with h _ hv
    · exact h
theorem next_mem {L : List InsT} {l : LocT} {x : InsT} (h : nextP L l = some x) : x ∈ L := by
  unfold nextP at h
  split at h
  · split at h
    · rename_i y hy
      split at h
      · rw [← Option.some.inj h]; exact List.mem_of_getElem? hy
      · cases h
    · cases h
  · cases h
theorem done_w {x : InsT} {l : LocT} (v : Int) (h : LB l) (hx : B64 x.a.v ∧ B64 x.b.v) : B64 (doneP x l v).w := by
  unfold doneP swapP
  repeat' split
  all_goals first | exact bd_zero | exact lb_val h hx.1 | exact lb_val h hx.2
end Go.Proofs.YtplihlmejnohnaaGreatDoor
