/- An empty text, held against others. -/
import Derived.Test.YtacflahkofmcpaaGreatDoorJ14LexCut
import Derived.Lib.Strings
namespace Go.Proofs.YtacflahkofmcpaaGreatDoor.Wl

theorem str_nil {P : ByteArray} (h : P.size = 0) : (P.toList == (⟨#[]⟩ : ByteArray).toList) = true := by
  have e : P.data.toList = [] := List.eq_nil_of_length_eq_zero (by rw [← Go.Proofs.YtacflahkofmcpaaGreatDoor.size_list]; exact h)
  rw [ByteArray.toList_eq, ByteArray.toList_eq, e]
  rfl
theorem str_some {P : ByteArray} (h : ¬ P.size = 0) : (P.toList == (⟨#[]⟩ : ByteArray).toList) = false := by
  rw [beq_eq_false_iff_ne, ByteArray.toList_eq, ByteArray.toList_eq]
  intro e
  apply h
  rw [Go.Proofs.YtacflahkofmcpaaGreatDoor.size_list, e]
  rfl
theorem str_nil1 {P : ByteArray} (h : P.size = 0) : P.toList = [] := by
  rw [ByteArray.toList_eq]
  exact List.eq_nil_of_length_eq_zero (by rw [← Go.Proofs.YtacflahkofmcpaaGreatDoor.size_list]; exact h)
theorem str_some1 {P : ByteArray} (h : ¬ P.size = 0) : ¬ P.toList = [] := by
  rw [ByteArray.toList_eq]
  intro e
  apply h
  rw [Go.Proofs.YtacflahkofmcpaaGreatDoor.size_list, e]
  rfl
theorem str_some2 {P : ByteArray} (h : ¬ P.size = 0) : (P.toList == []) = false := by
  rw [beq_eq_false_iff_ne]
  exact str_some1 h
end Go.Proofs.YtacflahkofmcpaaGreatDoor.Wl
