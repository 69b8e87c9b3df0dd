/- What num.Text answers, where its table reads as it is laid (for seats whose frames are Heap's). -/
import Derived.Test.YtplihlmejnohnaaGreatDoorJ00Heap
import Derived.Test.YtplihlmejnohnaaGreatDoorShelfNum
import Derived.Lib.AtoiErrMem
import Derived.Lib.AppendIntMem
namespace Go.Proofs.YtplihlmejnohnaaGreatDoor
open Go.RowKit

/-- The table of powers reads as it is laid. -/
def Pw (w : World) : Prop := Lib.TabIs Tryz.prog w "internal/strconv.uint64pow10" .u64 Lib.pow10Tab
theorem gPw : Tryz.prog.globalNamed "internal/strconv.uint64pow10" = some 2 := by kernel_rfl
theorem lt_of_varT {w : World} {g : Nat} {n : String} {cs : Array Value} (hg : Tryz.prog.globalNamed n = some g) (h : w.var? Tryz.prog n = some cs) : g < w.heap.size := by
  unfold World.var? at h
  simp only [hg, Option.bind_some] at h
  rcases Nat.lt_or_ge g w.heap.size with h' | h'
  · exact h'
  · simp [Array.getElem?_eq_none h'] at h
theorem Pw.lt {w : World} (h : Pw w) : 2 < w.heap.size := lt_of_varT gPw h
theorem Pw.below {w w' : World} {B : Nat} (h : Pw w) (k : Below B w w') (hB : 2 < B) : Pw w' := var?_below k gPw hB h
theorem Pw.on {w w' : World} (h : Pw w) (k : On w w') : Pw w' := h.below k h.lt
theorem ntext_is (n : Int) (h0 : -9223372036854775808 ≤ n) (h1 : n ≤ 9223372036854775807) (w : World) (hw : Pw w) :
    Calls Tryz.prog 71 #[.int .i64 n] w fun e w' => e = .returned (.string ⟨(Lib.itoa n).toArray⟩) ∧ On w w' := by
  have htab : Lib.TabIs Tryz.prog w "internal/strconv.uint64pow10" .u64 Lib.pow10Tab := hw
  clear hw
  go_enter Tryz.func71, Tryz.ntmps71
  go_wp2_with (go_at_call 90; refine (Any.strconv_FormatInt_10 Tryz.laysM173 n h0 h1 _ htab).mono ?_; rintro e w' ⟨rfl, k, os, rfl⟩)
  go_ret
  exact ⟨rfl, Lib.below_grow _ _ (Nat.le_refl _) _ _⟩
end Go.Proofs.YtplihlmejnohnaaGreatDoor
