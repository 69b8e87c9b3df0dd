/- The small parts of print.Ok. -/
import Derived.Test.YtacflahkofmcpaaGreatDoorJ13WlOwnR
namespace Go.Proofs.YtacflahkofmcpaaGreatDoor.Wl
open Go.RowKit

theorem isRegister_is (n : Int) (w : World) :
    Calls Tryz.prog 128 #[.int .i64 n] w fun e w' => e = .returned (.bool (regOk n)) ∧ w' = w := by
  unfold regOk
  go_enter Tryz.func128, Tryz.ntmps128
  by_cases h0 : 0 ≤ n
  · go_wp2
    all_goals (try go_ret)
    all_goals exact ⟨by simp [h0], rfl⟩
  · go_wp2
    all_goals (try go_ret)
    all_goals exact ⟨by simp; intro h; omega, rfl⟩
theorem isLocation_is (n : Int) (w : World) :
    Calls Tryz.prog 95 #[.int .i64 n] w fun e w' => e = .returned (.bool (locOk n)) ∧ w' = w := by
  unfold locOk
  go_enter Tryz.func95, Tryz.ntmps95
  by_cases h0 : 97 ≤ n
  · go_wp2
    all_goals (try go_ret)
    all_goals exact ⟨by simp [h0], rfl⟩
  · go_wp2
    all_goals (try go_ret)
    all_goals exact ⟨by simp; intro h; omega, rfl⟩
set_option maxHeartbeats 400000 in
theorem okOperand_is (o : Opd) (w : World) :
    Calls Tryz.prog 127 #[.agg #[.int .i64 o.r, .int .i64 o.v]] w fun e w' => e = .returned (.bool (opdOk o)) ∧ On w w' := by
  obtain ⟨r, v⟩ := o
  unfold opdOk
  simp only
  have hR := fun W => isRegister_is r W
  cases h1 : (r == -1) with
  | true =>
    go_enter Tryz.func127, Tryz.ntmps127
    go_wp2
    all_goals (try go_ret)
    all_goals exact ⟨by simp, (On.refl w).alloc _⟩
  | false =>
    have hrr : ((r : Int) == r) = true := by simp
    cases h2 : (v == 0) with
    | true =>
      go_enter Tryz.func127, Tryz.ntmps127
      go_wp2_with fail
      refine (hR _).mono ?_
      rintro e w1 ⟨rfl, rfl⟩
      go_wp2
      all_goals (try go_ret)
      all_goals exact ⟨by simp, (On.refl w).alloc _⟩
    | false =>
      go_enter Tryz.func127, Tryz.ntmps127
      go_wp2
      all_goals (try go_ret)
      all_goals exact ⟨by simp, (On.refl w).alloc _⟩
end Go.Proofs.YtacflahkofmcpaaGreatDoor.Wl

namespace Go.Proofs.YtacflahkofmcpaaGreatDoor.Wl
open Go.RowKit

/-- The signs' texts lie where num.Sign looks. -/
def signTexts : List ByteArray := [⟨#[]⟩, ⟨#[43]⟩, ⟨#[45]⟩, ⟨#[42]⟩, ⟨#[38]⟩, ⟨#[124]⟩, ⟨#[94]⟩, ⟨#[60, 60]⟩, ⟨#[62, 62]⟩, ⟨#[61, 61]⟩, ⟨#[33, 61]⟩, ⟨#[60]⟩]
structure Lw (w : World) : Prop where
  sgs : w.var? Tryz.prog "jacquard/num.signs" = some (signTexts.map Value.string).toArray
theorem gSgs : Tryz.prog.globalNamed "jacquard/num.signs" = some 0 := by kernel_rfl
theorem lt_of_var {w : World} {g : Nat} {n : String} {cs : Array Value} (hg : Tryz.prog.globalNamed n = some g) (h : w.var? Tryz.prog n = some cs) : g < w.heap.size := by
  unfold World.var? at h
  simp only [hg, Option.bind_some] at h
  rcases Nat.lt_or_ge g w.heap.size with h' | h'
  · exact h'
  · simp [Array.getElem?_eq_none h'] at h
theorem Lw.on {w w' : World} (h : Lw w) (k : On w w') : Lw w' := ⟨var?_below k gSgs (lt_of_var gSgs h.sgs) h.sgs⟩
def sgn (k : Nat) : ByteArray := signTexts.getD k ⟨#[]⟩
theorem cell_sign {w : World} (hw : Lw w) (i : Nat) (h : i < 12) : w.cell? ⟨0, i, none⟩ = some (.string (signTexts.getD i ⟨#[]⟩)) := by
  have h0 := World.var?_cell gSgs hw.sgs i
  rw [h0]
  match i, h with
  | 0, _ | 1, _ | 2, _ | 3, _ | 4, _ | 5, _ | 6, _ | 7, _ | 8, _ | 9, _ | 10, _ | 11, _ => rfl
  | n + 12, h => omega
set_option maxHeartbeats 400000 in
theorem sign_yes (n : Nat) (h1 : 1 ≤ n) (h2 : n ≤ 11) (w : World) (hw : Lw w) :
    Calls Tryz.prog 135 #[.int .i64 n] w fun e w' => e = .returned (.string (sgn n)) ∧ w' = w := by
  have hc := cell_sign hw n (by omega)
  have hl := lt_of_var gSgs hw.sgs
  clear hw
  go_enter Tryz.func135, Tryz.ntmps135
  go_wp2
  go_ret
  exact ⟨rfl, rfl⟩
set_option maxHeartbeats 400000 in
theorem sign_no (n : Int) (h : n < 1 ∨ 11 < n) (w : World) :
    Calls Tryz.prog 135 #[.int .i64 n] w fun e w' => e = .returned (.string ⟨#[]⟩) ∧ w' = w := by
  by_cases h1 : n < 1
  · go_enter Tryz.func135, Tryz.ntmps135
    go_wp2
    go_ret
    exact ⟨rfl, rfl⟩
  · have h2 : 11 < n := by omega
    go_enter Tryz.func135, Tryz.ntmps135
    go_wp2
    go_ret
    exact ⟨rfl, rfl⟩
theorem sgn_ne : ∀ k : Fin 11, ¬ (sgn (k.val + 1)).toList = [] := by decide +kernel
set_option maxHeartbeats 1000000 in
theorem okSecond_is (op : Int) (b : Opd) (w : World) (hw : Lw w) :
    Calls Tryz.prog 129 #[.int .i64 op, .agg #[.int .i64 b.r, .int .i64 b.v]] w fun e w' => e = .returned (.bool (secOk op b)) ∧ On w w' := by
  obtain ⟨r, v⟩ := b
  unfold secOk
  simp only
  have hlw : ∀ o, Lw (w.alloc o) := fun o => hw.on ((On.refl w).alloc o)
  cases h0 : (op == 0) with
  | true =>
    clear hlw hw
    go_enter Tryz.func129, Tryz.ntmps129
    go_wp2
    all_goals (try go_ret)
    all_goals exact ⟨by simp_all, (On.refl w).alloc _⟩
  | false =>
    by_cases hs : 1 ≤ op ∧ op ≤ 11
    · obtain ⟨n, rfl⟩ : ∃ n : Nat, op = n := ⟨op.toNat, by omega⟩
      have hS := fun o => sign_yes n (by omega) (by omega) (w.alloc o) (hlw o)
      have hne : ¬ (sgn n).toList = [] := by have := sgn_ne ⟨n - 1, by omega⟩; simp only [show n - 1 + 1 = n by omega] at this; exact this
      have hO := fun W => okOperand_is ⟨r, v⟩ W
      have hso : signOk (n : Int) = true := by unfold signOk; simp; omega
      rw [hso]
      generalize sgn n = X at hS hne
      clear hlw hw hso
      go_enter Tryz.func129, Tryz.ntmps129
      go_wp2_with (first | (go_at_call 135; refine (hS _).mono ?_; rintro e w1 ⟨rfl, rfl⟩) | (go_at_call 127; refine (hO _).mono ?_; rintro e w2 ⟨rfl, k2⟩))
      all_goals (try go_ret)
      all_goals exact ⟨by simp [hne], ((On.refl w).alloc _).trans k2⟩
    · have hS := fun W => sign_no op (by omega) W
      have hso : signOk op = false := by unfold signOk; simp; omega
      rw [hso]
      clear hlw hw hso
      go_enter Tryz.func129, Tryz.ntmps129
      go_wp2_with (go_at_call 135; refine (hS _).mono ?_; rintro e w1 ⟨rfl, rfl⟩)
      all_goals (try go_ret)
      all_goals exact ⟨by simp, (On.refl w).alloc _⟩

end Go.Proofs.YtacflahkofmcpaaGreatDoor.Wl
