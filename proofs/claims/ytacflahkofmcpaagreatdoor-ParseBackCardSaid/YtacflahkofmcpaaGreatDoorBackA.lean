/- What parse.Parse makes of any text, as the printer's side reads it. -/
import Derived.Test.YtacflahkofmcpaaGreatDoorJ14LexCut
namespace Go.Proofs.YtacflahkofmcpaaGreatDoor.Wl
open Go.RowKit

/-- What is told of an answer of Parse: its value's shape, the test it reads as, its error. -/
def Parsed (w : World) (T : TestT) (c p : Nat) (e : Ending) (w' : World) : Prop :=
  ∃ a1 c1 a2 c2 a3 c3, e = .returned (.tuple #[.agg #[.string T.name, .slice a1 T.ini.length c1, .slice a2 T.thr.length c2, .int .i64 T.cond.k, .slice a3 T.cond.any.length c3], .agg #[.int .i64 c, .int .i64 p]]) ∧
    TestRd w' (.agg #[.string T.name, .slice a1 T.ini.length c1, .slice a2 T.thr.length c2, .int .i64 T.cond.k, .slice a3 T.cond.any.length c3]) T ∧ On w w'
theorem name_size' (s : ByteArray) : (parseP s).1.name.size ≤ s.size := by
  unfold parseP
  split
  · exact Nat.zero_le _
  · unfold endP
    split
    · exact Nat.zero_le _
    · show (nameP s (expS s xTest (startS s))).1.size ≤ s.size
      unfold nameP
      split
      · exact tok_size s _
      · exact Nat.zero_le _
theorem parse_any (s : ByteArray) (hs : s.size ≤ 140737488351232) (w : World) (hw : Go.Proofs.YtacflahkofmcpaaGreatDoor.Lw w) :
    Calls Tryz.prog 11 #[.string s] w (Parsed w (cT (parseP s).1) (parseP s).2.1 (parseP s).2.2) := by
  have hn := name_size' s
  refine (parseGo_is s hs w hw).mono ?_
  rintro e w' ⟨v, rfl, ht, k⟩
  have hR := rd_of_at ht (by omega)
  obtain ⟨a1, c1, a2, c2, a3, c3, rfl, _⟩ := id hR.ex
  exact ⟨a1, c1, a2, c2, a3, c3, rfl, hR, k⟩
end Go.Proofs.YtacflahkofmcpaaGreatDoor.Wl
