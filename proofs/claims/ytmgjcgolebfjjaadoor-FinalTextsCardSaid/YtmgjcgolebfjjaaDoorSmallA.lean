/- The numbers that a made test is read from, one by one: the closure of Small. -/
import Derived.Test.YtmgjcgolebfjjaaDoorGen0
import Derived.Test.YtmgjcgolebfjjaaDoorPuts
import Derived.Test.YtmgjcgolebfjjaaDoorWaC
import Derived.Test.YtmgjcgolebfjjaaDoorMathB
import Derived.Test.YtmgjcgolebfjjaaDoorSmallP
namespace Go.Proofs.YtmgjcgolebfjjaaDoor
open Go.RowKit

theorem nxt_in {zs : List Int} {i : Nat} (h : i < zs.length) : bits .and .i64 (zs[i]) 65535 = ((nxtV zs i : Nat) : Int) := by
  unfold nxtV
  rw [low16, List.getD_eq_getElem?_getD, List.getElem?_eq_getElem h]
  rfl
theorem nxt_out {zs : List Int} {i : Nat} (h : zs.length ≤ i) : nxtV zs i = 0 := by
  unfold nxtV
  rw [List.getD_eq_getElem?_getD, List.getElem?_eq_none h]
  rfl
set_option maxHeartbeats 2000000 in
theorem next_is (zs : List Int) (a : Option Addr) (cap i B Bl : Nat) (w0 w : World) (hi : i < 1000) (_hz : zs.length ≤ 9223372036854775807) (ba : Bk w B #[.int .i64 (i : Int)]) (bl : Bk w Bl #[.slice a zs.length cap]) (hne : B ≠ Bl) (hon : On w0 w) (hB : w0.heap.size ≤ B) (hr : Rd intC 1 w0 (.slice a zs.length cap) zs) :
    Calls Tryd.prog 28 #[.pointer (some ⟨B, 0, none⟩), .pointer (some ⟨Bl, 0, none⟩)] w fun e w' => e = .returned (.int .i64 (nxtV zs i : Nat)) ∧ w' = w.setCell ⟨B, 0, none⟩ (.int .i64 ((i + 1 : Nat) : Int)) := by
  have b0 := ba.at (i := 0) rfl
  have b1 := ba.fr 0
  have b2 := ba.lt
  have l0 := bl.at (i := 0) rfl
  have l2 := bl.lt
  have hne' : ¬ Bl = B := fun h => hne h.symm
  have ec : ((i + 1 : Nat) : Int) = (i : Int) + 1 := by omega
  rcases Nat.lt_or_ge i zs.length with hlt | hge
  · obtain ⟨g, off, rfl, hg, hcell⟩ := hr.at (List.getElem?_eq_getElem hlt)
    have hc0 : w.cell? ⟨g, off + i, none⟩ = some (.int .i64 zs[i]) := by
      refine (hon.cell (p := ⟨g, off + i, none⟩) hg).trans ?_
      have := hcell 0 _ rfl
      simpa using this
    have hgB : ¬ g = B := by omega
    have hgw := Nat.lt_of_lt_of_le hg hon.size
    have hv := nxt_in hlt
    clear hr hcell ba bl hon
    generalize nxtV zs i = V at *
    generalize zs[i] = z at *
    rw [ec]
    go_enter Tryd.func28, Tryd.ntmps28
    go_wp2
    go_ret
    exact ⟨rfl, rfl⟩
  · rw [nxt_out hge, ec]
    clear hr ba bl hon
    go_enter Tryd.func28, Tryd.ntmps28
    go_wp2
    go_ret
    exact ⟨rfl, rfl⟩
end Go.Proofs.YtmgjcgolebfjjaaDoor
