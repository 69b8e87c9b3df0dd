/- What the law package's awake answers: true. -/
import Derived.Test.YtacflahkofmcpaaGreatDoorJ13WlOwnR
namespace Go.Proofs.YtacflahkofmcpaaGreatDoor
open Go.RowKit

theorem own_cells {w : World} {base k n : Nat} {e : TypeId} {v : Value} {xs : List Value} (h : w.ownsRow base e k v n xs) (hn : 0 < n) :
    ∃ g cap, v = .slice (some ⟨g, 0, none⟩) n cap ∧ n ≤ cap ∧ base ≤ g ∧ g < w.heap.size ∧ ∀ i u, xs[i]? = some u → w.cell? ⟨g, i, none⟩ = some u := by
  rcases h.2 with ⟨_, h0⟩ | ⟨g, cap, cur, hv, hb, hh, hc, _, _, ht⟩
  · omega
  · refine ⟨g, cap, hv, hc, hb, lt_of_block hh, fun i u hi => ?_⟩
    rw [← ht, List.getElem?_take] at hi
    split at hi
    · simp only [World.cell?, hh]
      simpa using hi
    · cases hi

abbrev awakeText : ByteArray := ⟨#[116, 101, 115, 116, 32, 97, 32, 123, 32, 116, 104, 114, 101, 97, 100, 32, 123, 32, 102, 101, 110, 99, 101, 32, 59, 32, 125, 32, 125]⟩
theorem awakeP : parseP awakeText = (⟨⟨#[97]⟩, [], [[⟨3, 0, 0, ⟨0, 0⟩, 0, ⟨0, 0⟩, 0⟩]], ⟨0, []⟩⟩, 0, 0) := by kernel_rfl

theorem bytes_self (x : ByteArray) : (x.toList == x.toList) = true := by simp

set_option maxHeartbeats 1000000 in
set_option maxRecDepth 8000 in
theorem awake_any (w : World) (hw : Lw w) :
    Calls Tryz.prog 8 #[] w fun e w' => e = .returned (.bool true) ∧ On w w' := by
  have hP := parseGo_is awakeText (by decide) w hw
  rw [awakeP] at hP
  have hb := bytes_self ⟨#[97]⟩
  go_enter Tryz.func8, Tryz.ntmps8
  go_wp2_with fail
  refine hP.mono ?_
  rintro e w1 ⟨v, rfl, ⟨a1, m1, c1, a2, m2, c2, a3, m3, c3, rfl, o1, ⟨vs, p1, p2, p3⟩, o3⟩, k1⟩
  obtain ⟨g, cap, hv, hc, _, hg, hcell⟩ := own_cells p2 (by decide)
  simp only [List.length_cons, List.length_nil] at p1 hv
  obtain ⟨u, rfl⟩ : ∃ u, vs = [u] := by
    match vs, p1 with
    | [u], _ => exact ⟨u, rfl⟩
  obtain ⟨g', cap', hv', hc', _, hg', hcell'⟩ := own_cells (p3 0 u _ rfl rfl) (by decide)
  subst hv'
  simp only [Value.slice.injEq] at hv
  obtain ⟨rfl, rfl, rfl⟩ := hv
  have q0 := hcell 0 _ rfl
  have r0 := hcell' 0 _ rfl
  have r1 := hcell' 1 _ rfl
  have r2 := hcell' 2 _ rfl
  have r3 := hcell' 3 _ rfl
  have r4 := hcell' 4 _ rfl
  have r5 := hcell' 5 _ rfl
  have r6 := hcell' 6 _ rfl
  have r7 := hcell' 7 _ rfl
  have r8 := hcell' 8 _ rfl
  simp only [List.length_cons, List.length_nil] at q0
  have HK : Hid (On w w1) := k1
  clear hcell hcell' p2 p3 o1 o3 hP k1 hw
  go_wp2
  all_goals (try go_ret)
  all_goals exact ⟨rfl, (HK.out.alloc _).alloc _⟩
end Go.Proofs.YtacflahkofmcpaaGreatDoor
