/- A test's text by its parts, in plain Lean: every test that may be. -/
import Derived.Test.YtacflahkofmcpaaGreatDoorWlPartP
import Derived.Test.YtacflahkofmcpaaGreatDoorWlRPrD
namespace Go.Proofs.YtacflahkofmcpaaGreatDoor.Wl
open Go.RowKit

def iniL (x : InitT) : List UInt8 := (locT x.l).data.toList ++ [32, 61, 32] ++ (numT x.v).data.toList ++ [32, 59, 10]
theorem ini_line {x : InitT} (h : initOk x = true) : (iniTk x).flatMap chunk = iniL x := by
  have e : (iniTk x).flatMap chunk = chunk (locT x.l) ++ (chunk xEq ++ (chunk (numT x.v) ++ (chunk xEnd ++ []))) := rfl
  rw [e]
  unfold chunk iniL
  rw [gap_loc h, gap_num]
  have e1 : gapB xEq = 32 := by decide
  have e2 : gapB xEnd = 10 := by decide
  rw [e1, e2]
  simp [xEq, xEnd]
theorem ini_rows (L : List InitT) (h : ∀ x ∈ L, initOk x = true) : (L.flatMap iniTk).flatMap chunk = L.flatMap iniL := by
  induction L with
  | nil => rfl
  | cons x L ih => rw [List.flatMap_cons, List.flatMap_append, List.flatMap_cons, ih (fun y hy => h y (List.mem_cons_of_mem _ hy)), ini_line (h x (List.mem_cons_self ..))]
def iniB (L : List InitT) : List UInt8 := if 0 < L.length then [105, 110, 105, 116, 32, 123, 10] ++ (L.flatMap iniL ++ [125, 10]) else []
theorem ini_block (L : List InitT) (h : ∀ x ∈ L, initOk x = true) : (if 0 < L.length then blockTk xIni iniTk L else []).flatMap chunk = iniB L := by
  unfold iniB
  split
  · unfold blockTk
    rw [List.flatMap_append, List.flatMap_append, ini_rows L h, List.append_assoc]
    rfl
  · rfl
theorem name_gap {s : ByteArray} (h : wordOk s = true) : gapB s = 32 := by
  unfold wordOk at h
  rw [Bool.and_eq_true] at h
  exact gap_plain (plain_chs _ 0 h.1)
theorem test_parts {t : TestT} (h : testOk t = true) : textL t = ([116, 101, 115, 116, 32] ++ t.name.data.toList ++ [32, 123, 10]) ++ (iniB t.ini ++ (t.thr.flatMap thrX ++ (condX t.cond ++ [125, 10]))) := by
  have hok := h
  unfold testOk at hok
  simp only [Bool.and_eq_true, List.all_eq_true] at hok
  obtain ⟨⟨⟨o1, o2⟩, o3⟩, o4⟩ := hok
  have e3 := thr_rows t.thr (fun L hL x hx => by
    have := o3 L hL
    unfold threadOk at this
    rw [List.all_eq_true] at this
    exact this x hx)
  have e2 := ini_block t.ini o2
  have e4 : (condTk t.cond).flatMap chunk = condX t.cond := by
    unfold condX
    split
    · rename_i h0
      unfold condTk
      rw [h0]
      rfl
    · rename_i h0
      exact (line_cond o4 h0).text
  have e1 : [xTst, t.name, xOp].flatMap chunk = [116, 101, 115, 116, 32] ++ t.name.data.toList ++ [32, 123, 10] := by
    show chunk xTst ++ (chunk t.name ++ (chunk xOp ++ [])) = _
    unfold chunk
    rw [name_gap o1]
    have a1 : gapB xTst = 32 := by decide
    have a2 : gapB xOp = 10 := by decide
    rw [a1, a2]
    simp [xTst, xOp]
  unfold textL testTk
  rw [List.flatMap_append, List.flatMap_append, List.flatMap_append, List.flatMap_append, e1, e2, e3, e4, List.append_assoc, List.append_assoc, List.append_assoc]
  rfl
end Go.Proofs.YtacflahkofmcpaaGreatDoor.Wl
