/- What All answers of the document's own example; the law package's awake. -/
import Derived.Test.YtoipapbdepobjaaDoorLexAllW
import Derived.Test.YtoipapbdepobjaaDoorLexCut
namespace Go.Proofs.YtoipapbdepobjaaDoor
open Go.RowKit

def ex : ByteArray := ⟨#[120, 60, 60, 45, 51]⟩
theorem ex_tx (a p z : Nat) (l : List UInt8) (hp : pl ex a = p) (hz : sz ex a = z) (h : (suf ex p).take z = l) : tx ex a = ⟨l.toArray⟩ := by
  apply bytes_ext
  rw [tx_list, hp, hz, h]
theorem ex_num : pB ⟨#[45, 51]⟩ = true := by
  have h1 : Lib.parseIntB 64 [45, 51] = .ok (-3) := by decide
  have h2 : Lib.itoa (-3) = [45, 51] := by simp [Lib.itoa, Lib.decDigits]
  unfold pB parseV
  show (match Lib.parseIntB 64 [45, 51] with | .ok v => if Lib.itoa v = [45, 51] then some v else none | _ => none).isSome = true
  rw [h1]
  simp only [h2, if_true]
  rfl
theorem ex_al : al pB ex 0 = ([⟨1, ⟨#[120]⟩, 0⟩, ⟨3, ⟨#[60, 60]⟩, 1⟩, ⟨2, ⟨#[45, 51]⟩, 3⟩, ⟨4, ⟨#[]⟩, 5⟩], 0, 0) := by
  have k0 : kd ex 0 = 1 := by decide
  have p0 : pl ex 0 = 0 := by decide
  have z0 : sz ex 0 = 1 := by decide
  have x0 : tx ex 0 = ⟨#[120]⟩ := ex_tx 0 0 1 [120] p0 z0 (by decide)
  have k1 : kd ex 1 = 3 := by decide
  have p1 : pl ex 1 = 1 := by decide
  have z1 : sz ex 1 = 2 := by decide
  have x1 : tx ex 1 = ⟨#[60, 60]⟩ := ex_tx 1 1 2 [60, 60] p1 z1 (by decide)
  have k3 : kd ex 3 = 2 := by decide
  have p3 : pl ex 3 = 3 := by decide
  have z3 : sz ex 3 = 2 := by decide
  have x3 : tx ex 3 = ⟨#[45, 51]⟩ := ex_tx 3 3 2 [45, 51] p3 z3 (by decide)
  have k5 : kd ex 5 = 4 := by decide
  have p5 : pl ex 5 = 5 := by decide
  have z5 : sz ex 5 = 0 := by decide
  have x5 : tx ex 5 = ⟨#[]⟩ := ex_tx 5 5 0 [] p5 z5 (by decide)
  have e0 : eC pB ex 0 = 0 := by unfold eC; rw [k0]; simp
  have e1 : eC pB ex 1 = 0 := by unfold eC; rw [k1]; simp
  have e3 : eC pB ex 3 = 0 := by unfold eC; rw [k3, x3, ex_num]; simp
  have e5 : eC pB ex 5 = 0 := by unfold eC; rw [k5]; simp
  have t0 : to ex 0 = 1 := by unfold to; rw [p0, z0]
  have t1 : to ex 1 = 3 := by unfold to; rw [p1, z1]
  have t3 : to ex 3 = 5 := by unfold to; rw [p3, z3]
  have hs : ex.size = 5 := rfl
  rw [al_step (by omega) e0 (by omega), t0, al_step (by omega) e1 (by omega), t1, al_step (by omega) e3 (by omega), t3, al_end (by omega) e5 k5]
  unfold tk
  rw [k0, x0, p0, k1, x1, p1, k3, x3, p3, k5, x5, p5]
theorem ex_all : tsA ex = [⟨1, ⟨#[120]⟩, 0⟩, ⟨3, ⟨#[60, 60]⟩, 1⟩, ⟨2, ⟨#[45, 51]⟩, 3⟩, ⟨4, ⟨#[]⟩, 5⟩] ∧ ecA ex = 0 ∧ epA ex = 0 := by
  have hs : ¬ 4000 < ex.size := by decide
  unfold tsA ecA epA tsS ecS epS
  simp only [hs, if_false, ex_al, if_true, and_self]

/-- Tokens that are some: where they lie. -/
theorem Tks.some {w : World} {v : Value} {ts : List Tk} (h : Tks w v ts) (hne : ts ≠ []) : ∃ g cap, v = .slice (some ⟨g, 0, none⟩) ts.length cap ∧ ts.length ≤ cap ∧ g < w.heap.size ∧ ∀ i u, (tksC ts)[i]? = some u → w.cell? ⟨g, i, none⟩ = some u := by
  rcases h with ⟨_, h⟩ | h
  · exact absurd h hne
  · exact h

set_option maxHeartbeats 400000 in
theorem awake_any (w : World) (hw : Lw w) :
    Calls Tryd.prog 11 #[] w fun e w' => e = .returned (.bool true) ∧ On w w' := by
  have hA : Calls Tryd.prog 9 #[.string ⟨#[120, 60, 60, 45, 51]⟩] w fun e w' => ∃ g cap : Nat, e = .returned (.tuple #[.slice (some ⟨g, 0, none⟩) 4 cap, .agg #[.int .i64 0, .int .i64 0]]) ∧ 4 ≤ cap ∧ g < w'.heap.size ∧ w'.cell? ⟨g, 4, none⟩ = some (.string ⟨#[60, 60]⟩) ∧ w'.cell? ⟨g, 7, none⟩ = some (.string ⟨#[45, 51]⟩) ∧ w'.cell? ⟨g, 9, none⟩ = some (.int .i64 4) ∧ w'.cell? ⟨g, 11, none⟩ = some (.int .i64 5) ∧ On w w' := by
    refine (all_is ex (by decide) w hw).mono ?_
    rintro e w' ⟨v, rfl, hT, hO⟩
    obtain ⟨t1, t2, t3⟩ := ex_all
    rw [t1] at hT
    rw [t2, t3]
    obtain ⟨g, cap, rfl, h1, h2, h3⟩ := hT.some (by simp)
    exact ⟨g, cap, rfl, h1, h2, h3 4 _ rfl, h3 7 _ rfl, h3 9 _ rfl, h3 11 _ rfl, hO⟩
  clear hw
  go_enter Tryd.func11, Tryd.ntmps11
  go_wp2_with (go_at_call 9; refine hA.mono ?_; rintro e w1 ⟨g, cap, rfl, h1, h2, c1, c2, c3, c4, hO⟩)
  go_ret
  exact ⟨rfl, hO.alloc _⟩
end Go.Proofs.YtoipapbdepobjaaDoor
