/- Texts as lists of bytes. -/
import Derived.IntWalk
namespace Go.Proofs.YtnfmagafajpmpaaDoor

theorem list_append (a b : ByteArray) : (a ++ b).data.toList = a.data.toList ++ b.data.toList := by
  obtain ⟨⟨x⟩⟩ := a
  obtain ⟨⟨y⟩⟩ := b
  rfl
theorem size_list (a : ByteArray) : a.size = a.data.toList.length := by
  obtain ⟨⟨x⟩⟩ := a
  rfl
theorem bytes_ext {a b : ByteArray} (h : a.data.toList = b.data.toList) : a = b := by
  obtain ⟨⟨x⟩⟩ := a
  obtain ⟨⟨y⟩⟩ := b
  simp only at h
  rw [h]
end Go.Proofs.YtnfmagafajpmpaaDoor
