/- What the document's Tree answers of every text. -/
import Derived.Test.YtmnpcbcnjnklnaaGreatDoorRefTree
import Derived.Test.YtmnpcbcnjnklnaaGreatDoorRefLook
import Derived.Test.YtmnpcbcnjnklnaaGreatDoorRefSame
namespace Go.Proofs.YtmnpcbcnjnklnaaGreatDoor
open Go.RowKit

set_option maxHeartbeats 1000000 in
set_option maxRecDepth 8000 in
theorem rtree_long (w : World) (s : ByteArray) (hs : 4000 < s.size) (hz : s.size ≤ 140737488351232) :
    Calls Tryz.prog 10 #[.string s] w (ParsePost w (noTest, 2, 4000)) := by
  have hlen : (4000 : Int) < (s.size : Int) := by omega
  go_enter Tryz.func10, Tryz.ntmps10
  go_wp2
  (try simp only [Exit.inBlock, Exit.then])
  refine bodyPost_ret (v := .tuple #[.agg z5, .agg #[.int .i64 2, .int .i64 4000]]) ?_ rfl ⟨_, rfl, no_test _ _, ?_⟩
  · rw [results_cells2 rfl]
    go_simp
  · have ON := On.refl w
    repeat' (first | with_reducible exact ON | with_reducible refine On.drew ?_ | with_reducible refine On.setNew ?_ (by omega) _ | with_reducible refine On.alloc ?_ _)
theorem rtree_is (w : World) (s : ByteArray) (hz : s.size ≤ 140737488351232) :
    Calls Tryz.prog 10 #[.string s] w (ParsePost w (parseP s)) := by
  unfold parseP
  by_cases h : 4000 < s.size
  · rw [if_pos h]; exact rtree_long w s h hz
  · rw [if_neg h]; exact rtree_short w s look_ok (by omega)
end Go.Proofs.YtmnpcbcnjnklnaaGreatDoor
