/- What parse.Parse makes of a printed test, and of any text, as the printer's side reads it. -/
import Derived.Test.YtacflahkofmcpaaGreatDoorJ17WlSmallP
import Derived.Test.YtacflahkofmcpaaGreatDoorWlTokM
import Derived.Test.YtacflahkofmcpaaGreatDoorBackA
import Derived.Test.YtacflahkofmcpaaGreatDoorWlPsP
namespace Go.Proofs.YtacflahkofmcpaaGreatDoor.Wl
open Go.RowKit

/-- The way back from the printer's trees to the parser's. -/
def dO (o : Opd) : Go.Proofs.YtacflahkofmcpaaGreatDoor.Opd := ⟨o.r, o.v⟩
def dI (x : InsT) : Go.Proofs.YtacflahkofmcpaaGreatDoor.InsT := ⟨x.k, x.r, x.l, dO x.a, x.o, dO x.b, x.n⟩
def dA (x : AtomT) : Go.Proofs.YtacflahkofmcpaaGreatDoor.AtomT := ⟨x.t, x.r, x.l, x.v⟩
def dN (x : InitT) : Go.Proofs.YtacflahkofmcpaaGreatDoor.InitT := ⟨x.l, x.v⟩
def dT (t : TestT) : Go.Proofs.YtacflahkofmcpaaGreatDoor.TestT := ⟨t.name, t.ini.map dN, t.thr.map (fun L => L.map dI), ⟨t.cond.k, t.cond.any.map (fun L => L.map dA)⟩⟩
theorem map_back {α β : Type} (f : α → β) (g : β → α) (h : ∀ x, g (f x) = x) (L : List α) : (L.map f).map g = L := by
  rw [List.map_map]
  have : g ∘ f = id := funext h
  rw [this, List.map_id]
theorem map_back2 {α β : Type} (f : α → β) (g : β → α) (h : ∀ x, g (f x) = x) (M : List (List α)) : (M.map fun L => L.map f).map (fun L => L.map g) = M :=
  map_back (fun L => L.map f) (fun L => L.map g) (map_back f g h) M
theorem c_d (t : TestT) : cT (dT t) = t := by
  obtain ⟨nm, ini, thr, ⟨k, any⟩⟩ := t
  unfold cT dT
  simp only
  rw [map_back dN cN (fun _ => rfl), map_back2 dI cI (fun _ => rfl), map_back2 dA cA (fun _ => rfl)]
theorem mem2_map {α β : Type} {f : α → β} {M : List (List α)} {P : β → Prop} (h : ∀ L ∈ M, ∀ x ∈ L, P (f x)) : ∀ L ∈ M.map (fun L => L.map f), ∀ x ∈ L, P x := by
  intro L hL x hx
  obtain ⟨L0, h0, rfl⟩ := List.mem_map.1 hL
  obtain ⟨x0, h1, rfl⟩ := List.mem_map.1 hx
  exact h L0 h0 x0 h1
theorem g_of {t : TestT} (hok : testOk t = true) (hB : TestL t) : TestG (dT t) := by
  refine testG_of (by rw [c_d]; exact hok) ?_ ?_ ?_
  · intro x hx
    obtain ⟨y, hy, rfl⟩ := List.mem_map.1 hx
    exact hB.ini y hy
  · exact mem2_map fun L hL x hx => ⟨(hB.thr L hL x hx).1, (hB.thr L hL x hx).2.1, (hB.thr L hL x hx).2.2⟩
  · exact mem2_map fun L hL x hx => (hB.any L hL x hx).2
theorem parse_back {T : TestT} (hok : testOk T = true) (hB : TestL T) (s : ByteArray) (hs : Sp (testTk T) s.data.toList) (hz : s.size ≤ 4000) (w : World) (hw : Go.Proofs.YtacflahkofmcpaaGreatDoor.Lw w) :
    Calls Tryz.prog 11 #[.string s] w (Parsed w T 0 0) := by
  have h := back_parse (t := dT T) (g_of hok hB) (by rw [c_d]; exact hs) hz
  have := parse_any s (by omega) w hw
  rw [h] at this
  simp only [c_d] at this
  exact this
/-- What parses without an error may be, and is no greater than its text. -/
theorem may_be {s : ByteArray} (h : (parseP s).2.1 = 0) : testOk (cT (parseP s).1) = true ∧ TestB (cT (parseP s).1) ∧ (textL (cT (parseP s).1)).length ≤ 140737488355328 := by
  have hn := name_size' s
  obtain ⟨hH, hz⟩ := lv_parse h
  generalize (parseP s).1 = t at *
  obtain ⟨hG, l1, l2, l3, l4, l5⟩ := hH
  have hB : TestB (cT t) := by
    refine ⟨?_, ?_, ?_, ?_, ?_, ?_, ?_, ?_⟩
    · intro x hx
      obtain ⟨y, hy, rfl⟩ := List.mem_map.1 hx
      exact (hG.ini y hy).2
    · exact mem2_map fun L hL x hx => ⟨(hG.thr L hL x hx).2.a, (hG.thr L hL x hx).2.b, (hG.thr L hL x hx).2.n⟩
    · refine mem2_map fun L hL x hx => ?_
      rcases hG.cond with ⟨_, ha⟩ | ⟨_, _, _, _, hq⟩
      · rw [ha] at hL; simp at hL
      · obtain ⟨_, _, _, hy⟩ := hq L hL
        have hx' := hy x hx
        refine ⟨?_, hx'.2⟩
        have ha := hx'.1
        unfold atomOk at ha
        by_cases ht : (cA x).t = -1
        · have : (cA x).t = -1 := ht
          show B64 (cA x).t
          rw [this]
          exact ⟨by omega, by omega⟩
        · have e : ((cA x).t == -1) = false := by rw [beq_eq_false_iff_ne]; exact ht
          rw [e] at ha
          simp only [Bool.false_eq_true, if_false, Bool.and_eq_true, decide_eq_true_eq] at ha
          exact ⟨by omega, by omega⟩
    · show (t.ini.map cN).length ≤ _
      rw [List.length_map]; omega
    · show (t.thr.map _).length ≤ _
      rw [List.length_map]; omega
    · intro L hL
      obtain ⟨L0, h0, rfl⟩ := List.mem_map.1 hL
      rw [List.length_map]
      have := l3 L0 h0
      omega
    · show (t.cond.any.map _).length ≤ _
      rw [List.length_map]; omega
    · intro L hL
      obtain ⟨L0, h0, rfl⟩ := List.mem_map.1 hL
      rw [List.length_map]
      have := l5 L0 h0
      omega
  refine ⟨?_, hB, text_len hB ?_⟩
  · unfold testOk cT
    simp only [Bool.and_eq_true, List.all_map, List.all_eq_true, Function.comp_apply]
    refine ⟨⟨⟨hG.name, fun x hx => (hG.ini x hx).1⟩, fun L hL => ?_⟩, ?_⟩
    · unfold threadOk
      simp only [List.all_map, List.all_eq_true, Function.comp_apply]
      exact fun x hx => (hG.thr L hL x hx).1
    · unfold condOk
      simp only
      rcases hG.cond with ⟨h0, ha⟩ | ⟨hk, r, M, ha, hq⟩
      · rw [h0, ha]; rfl
      · have e0 : (t.cond.k == 0) = false := by rw [beq_eq_false_iff_ne]; rcases hk with h | h <;> omega
        have e1 : (t.cond.k == 1 || t.cond.k == 2) = true := by rcases hk with h | h <;> rw [h] <;> rfl
        rw [e0, e1]
        simp only [Bool.false_eq_true, if_false, if_true, Bool.and_eq_true, List.all_map, List.all_eq_true, Function.comp_apply, decide_eq_true_eq, List.length_map]
        refine ⟨by rw [ha]; simp, fun q hq' => ?_⟩
        obtain ⟨x, q', rfl, hy⟩ := hq q hq'
        unfold rowOk
        simp only [Bool.and_eq_true, List.all_map, List.all_eq_true, Function.comp_apply, decide_eq_true_eq, List.length_map]
        exact ⟨by simp, fun y hy' => (hy y hy').1⟩
  · show sz t.name ≤ 100000
    unfold sz
    have : t.name.size = t.name.data.toList.length := Go.Proofs.YtacflahkofmcpaaGreatDoor.size_list t.name
    omega
theorem text_sp (T : TestT) : Sp (testTk T) (⟨(textL T).toArray⟩ : ByteArray).data.toList := by
  show Sp (testTk T) (textL T)
  exact sp_flat (testTk T)
theorem text_pos (T : TestT) : 0 < (textL T).length := by
  obtain ⟨r, h⟩ := text_last T
  rw [h, List.length_append]
  simp
end Go.Proofs.YtacflahkofmcpaaGreatDoor.Wl
