/- An error's place is within the text. Of no memory. -/
import Derived.Test.YtacflahkofmcpaaGreatDoorJ16RefLoc
namespace Go.Proofs.YtacflahkofmcpaaGreatDoor

/-- Where a parser stands, or where it was refused, is within the text. -/
structure Inn (s : ByteArray) (S : St) : Prop where
  o : ∀ a, S = .ok a → a ≤ s.size
  e : ∀ x, S = .error x → x.2 ≤ s.size
theorem Inn.ok {s : ByteArray} {a : Nat} (h : a ≤ s.size) : Inn s (.ok a) := ⟨fun b e => (by cases e; exact h), fun x e => (by cases e)⟩
theorem Inn.er {s : ByteArray} {x : Nat × Nat} (h : x.2 ≤ s.size) : Inn s (.error x) := ⟨fun b e => (by cases e), fun y e => (by cases e; exact h)⟩
section
variable {s : ByteArray}
theorem inn_norm {a : Nat} (h : a ≤ s.size) : Inn s (norm s a) := by
  by_cases h0 : eC pB s a = 0
  · rw [norm_ok s h0]; exact .ok h
  · rw [norm_err s h0]; exact .er (pl_le h)
theorem inn_nx {S : St} (h : Inn s S) : Inn s (nx s S) := by
  cases S with
  | ok a => exact inn_norm (to_le (h.o a rfl))
  | error x => exact .er (h.e x rfl)
theorem inn_fl {S : St} (c : Nat) (h : Inn s S) : Inn s (flS s c S) := by
  cases S with
  | ok a => exact .er (pl_le (h.o a rfl))
  | error x => exact .er (h.e x rfl)
theorem inn_exp {S : St} (x : ByteArray) (h : Inn s S) : Inn s (expS s x S) := by
  unfold expS; split
  · exact inn_nx h
  · exact inn_fl 6 h
theorem inn_end {S : St} (h : Inn s S) : Inn s (endS s S) := by
  unfold endS; split
  · exact h
  · exact inn_fl 6 h
theorem inn_name {S : St} (h : Inn s S) : Inn s (nameP s S).2 := by
  unfold nameP; split
  · exact inn_nx h
  · exact inn_fl 6 h
theorem inn_num {S : St} (h : Inn s S) : Inn s (numP s S).2 := by
  unfold numP; split
  · exact inn_nx h
  · exact inn_fl 6 h
theorem inn_upto {S : St} (m : Int) (c : Nat) (h : Inn s S) : Inn s (uptoP s m c S).2 := by
  unfold uptoP; split
  · exact inn_fl c h
  · exact inn_num h
theorem inn_named {S : St} (v : Int) (ok : Bool) (h : Inn s S) : Inn s (namedP s v ok S).2 := by
  unfold namedP; split
  · exact inn_nx h
  · split
    · exact inn_fl 7 h
    · exact inn_fl 6 h
theorem inn_opd {S : St} (h : Inn s S) : Inn s (opdP s S).2 := by
  unfold opdP; split
  · exact inn_num h
  · exact inn_named _ _ h
theorem inn_ini {S : St} (h : Inn s S) : Inn s (iniP s S).2 := inn_num (inn_exp _ (inn_named _ _ h))
theorem inn_sub {S : St} (h : Inn s S) : Inn s (subP s S).2 := by
  unfold subP; split
  · exact inn_named _ _ (inn_exp _ (inn_upto _ _ h))
  · exact inn_named _ _ h
theorem inn_atom {S : St} (h : Inn s S) : Inn s (atomP s S).2 := inn_num (inn_exp _ (inn_sub h))
theorem inn_skip {S : St} (h : Inn s S) : Inn s (skipP s S).2 := inn_opd (inn_exp _ (inn_opd (inn_exp _ (inn_upto _ _ h))))
theorem inn_set {S : St} (r : Int) (h : Inn s S) : Inn s (setP s r S).2 := by
  unfold setP; split
  · exact inn_opd (inn_nx (inn_opd h))
  · exact inn_opd h
theorem inn_asg {S : St} (r : Int) (h : Inn s S) : Inn s (asgP s r S).2 := by
  unfold asgP; split
  · exact inn_named _ _ (inn_nx h)
  · split
    · exact inn_opd (inn_opd (inn_named _ _ (inn_nx h)))
    · exact inn_set r h
theorem inn_ins {S : St} (h : Inn s S) : Inn s (insP s S).2 := by
  unfold insP; split
  · exact inn_opd (inn_named _ _ (inn_nx h))
  · split
    · exact inn_nx h
    · split
      · exact inn_skip (inn_nx h)
      · exact inn_asg _ (inn_exp _ (inn_named _ _ h))
theorem inn_blk {α : Type} {f : St → α × St} (hf : ∀ S, Inn s S → Inn s (f S).2) : ∀ (n : Nat) (S : St), Inn s S → Inn s (blkL s f n S).2
  | 0, S, h => h
  | n + 1, S, h => by
    unfold blkL
    split
    · exact h
    · split
      · exact inn_nx h
      · exact inn_blk hf n _ (inn_exp _ (hf S h))
theorem inn_prt {α : Type} {f : St → α × St} (hf : ∀ S, Inn s S → Inn s (f S).2) (x : ByteArray) : ∀ (n : Nat) (S : St), Inn s S → Inn s (prtL s f x n S).2
  | 0, S, h => h
  | n + 1, S, h => by
    unfold prtL
    split
    · exact inn_prt hf x n _ (hf _ (inn_nx h))
    · exact h
theorem inn_row {S : St} (h : Inn s S) : Inn s (rowP s S).2 := inn_prt (fun _ => inn_atom) xAnd _ _ (inn_atom h)
theorem inn_rows {S : St} (h : Inn s S) : Inn s (rowsP s S).2 := inn_prt (fun _ => inn_row) xOr _ _ (inn_row h)
theorem inn_cond {S : St} (h : Inn s S) : Inn s (condP s S).2 := by
  unfold condP; split
  · exact inn_exp _ (inn_rows (inn_nx h))
  · split
    · exact inn_exp _ (inn_rows (inn_nx h))
    · exact h
theorem inn_insB {S : St} (h : Inn s S) : Inn s (insB s S).2 := inn_blk (fun _ => inn_ins) _ _ (inn_exp _ h)
theorem inn_thr {S : St} (h : Inn s S) : Inn s (thrP s S).2 := inn_prt (fun _ => inn_insB) xThread _ _ h
theorem inn_init {S : St} (h : Inn s S) : Inn s (initP s S).2 := by
  unfold initP; split
  · exact inn_blk (fun _ => inn_ini) _ _ (inn_exp _ (inn_nx h))
  · exact h
theorem inn_test {S : St} (h : Inn s S) : Inn s (testP s S).2 := inn_end (inn_exp _ (inn_cond (inn_thr (inn_init (inn_exp _ (inn_name (inn_exp _ h)))))))
end
/-- The place that Parse tells is there. -/
theorem parse_place (s : ByteArray) : (parseP s).2.2 ≤ s.size := by
  unfold parseP
  by_cases h : 4000 < s.size
  · rw [if_pos h]; show 4000 ≤ s.size; omega
  · rw [if_neg h]
    have hi : Inn s (testP s (startS s)).2 := inn_test (inn_norm (Nat.zero_le _))
    unfold endP
    cases hq : (testP s (startS s)).2 with
    | ok a => exact Nat.zero_le _
    | error e =>
      exact hi.e e hq
end Go.Proofs.YtacflahkofmcpaaGreatDoor
