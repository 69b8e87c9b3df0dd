/- jacquardlaw13.awake: what the document fixes holds of the program. -/
import Derived.Test.YtmgjcgolebfjjaaDoorFinM
import Derived.Test.YtmgjcgolebfjjaaDoorFinY
import Derived.Lib.SlBytesConst
namespace Go.Proofs.YtmgjcgolebfjjaaDoor
open Go.RowKit

def f1 : FinT := ⟨[0, 0, 0, 0, 0, 0, 0, 0, 0, 0, 0, 0, 0, 0, 0, 0, 1, 0, 0, 0], rfl, fun z hz => by
  simp only [List.mem_cons, List.not_mem_nil, or_false] at hz
  omega⟩
theorem text1 : finTx 1 [120] f1 = [48, 58, 114, 48, 61, 48, 32, 48, 58, 114, 49, 61, 48, 32, 48, 58, 114, 50, 61, 48, 32, 48, 58, 114, 51, 61, 48, 32, 120, 61, 49] := by decide +kernel
/-- A guarded row of one end, of two. -/
theorem wpList_fsliceG {ops : Array Oper} {rest : List Oper} {o : Oper} {a : Act} {w : World} {Q : Exit → Act → World → Prop} (hw : Region.wanted o (yielded ops a.tmps) = true) {x : Operand} (ho : o.op = .buildSlice 36 1 #[(0, x)]) {f : FinT} (hx : a.eval x = .agg (finA f))
    (h : wpList Tryd.prog ops Q rest (a.put o.dst (.slice (some ⟨w.heap.size, 0, none⟩) 1 1)) (w.alloc (.cells (finA f) 26))) : wpList Tryd.prog ops Q (o :: rest) a w := by
  unfold wpList
  rw [if_pos hw]
  exact Or.inl (wp_fslice ho hx h)
theorem fill_two : Instr.fill (fun i => some (i * 20, 20)) ((Array.range (2 * 20)).map ((Value.agg (finA finZ)).cells[· % (Value.agg (finA finZ)).cells.size]!)) [(0, .agg (finA f1)), (1, .agg (finA f1))] = some (finA f1 ++ finA f1) := by kernel_rfl
theorem wpList_ftwoG {ops : Array Oper} {rest : List Oper} {o : Oper} {a : Act} {w : World} {Q : Exit → Act → World → Prop} (hw : Region.wanted o (yielded ops a.tmps) = true) {x y : Operand} (ho : o.op = .buildSlice 36 2 #[(0, x), (1, y)]) (hx : a.eval x = .agg (finA f1)) (hy : a.eval y = .agg (finA f1))
    (h : wpList Tryd.prog ops Q rest (a.put o.dst (.slice (some ⟨w.heap.size, 0, none⟩) 2 2)) (w.alloc (.cells (finA f1 ++ finA f1) 26))) : wpList Tryd.prog ops Q (o :: rest) a w := by
  unfold wpList
  rw [if_pos hw]
  obtain ⟨i0, hi, hz0, hz1, hz2⟩ := info_parts fin_info3
  refine Or.inl (wp_buildSlice 36 26 2 _ ho (finA f1 ++ finA f1) i0 _ Tryd.underlying36 hi hz0 (by rw [hz1]; omega) (by rw [hz1]; omega) ?_ h)
  rw [hz1]
  simp only [List.map_toArray, List.map_cons, List.map_nil, hx, hy]
  exact fill_two
theorem rd_two {w : World} {N : Nat} (B : Bk w N (finA f1 ++ finA f1)) : Rd finC 20 w (.slice (some ⟨N, 0, none⟩) 2 2) [f1, f1] := by
  have e : (finA f1 ++ finA f1).toList = [f1, f1].flatMap finC := rfl
  refine ⟨_, 2, rfl, Nat.le_refl _, by simp, fun _ => ⟨N, 0, rfl, B.lt, fun i x j u hi hj => ?_⟩⟩
  have hj' := (List.getElem?_eq_some_iff.1 hj).1
  rw [finC_len] at hj'
  have := flat_at finC 20 finC_len [f1, f1] i j x hi hj'
  rw [← e, hj] at this
  rw [Nat.zero_add]
  exact B.at (by rw [← Array.getElem?_toList]; exact this)
theorem sort_two (W : World) (N : Nat) (B : Bk W N (finA f1 ++ finA f1)) : Calls Tryd.prog 11 #[.slice (some ⟨N, 0, none⟩) 2 2] W fun e w' => ∃ a c, e = .returned (.slice a 1 c) ∧ On W w' := by
  refine (fsort_is [f1, f1] (some ⟨N, 0, none⟩) 2 W (rd_two B) (by decide)).mono ?_
  rintro e w' ⟨v, M, rfl, h1, h2, h3, h4, h5⟩
  obtain rfl : M = [f1] := ris_ext h3 (List.pairwise_singleton _ _) (fun x => by rw [h5]; simp)
  obtain ⟨a, c, rfl, _⟩ := h2.slice
  exact ⟨a, c, rfl, h1⟩
theorem has_one (W : World) (N : Nat) (B : Bk W N (finA f1)) : Calls Tryd.prog 14 #[.slice (some ⟨N, 0, none⟩) 1 1, .agg (finA f1)] W fun e w' => e = .returned (.bool true) ∧ On W w' := by
  have := has_is [f1] f1 (some ⟨N, 0, none⟩) 1 W (rd_one B)
  have e : decide (f1 ∈ [f1]) = true := decide_eq_true (List.mem_singleton.2 rfl)
  rw [e] at this
  exact this
theorem text_one (W : World) (hP : Pw W) (al : Addr) (cl : Nat) (iv : Value) (at_ : Option Addr) (ct : Nat) (hL : Rd byteC 1 W (.slice (some al) 1 cl) [120]) : Calls Tryd.prog 8 #[.agg #[.slice (some al) 1 cl, iv, .slice at_ 1 ct], .agg (finA f1)] W fun e w' => e = .returned (.string ⟨#[48, 58, 114, 48, 61, 48, 32, 48, 58, 114, 49, 61, 48, 32, 48, 58, 114, 50, 61, 48, 32, 48, 58, 114, 51, 61, 48, 32, 120, 61, 49]⟩) ∧ On W w' := by
  have := ftext_is [120] (some al) cl iv at_ 1 ct f1 W hP hL
  rw [show min 1 4 = 1 from rfl, show ([120] : List UInt8).take 4 = [120] from rfl, text1] at this
  exact this
theorem Bk.newAtF {w : World} {N : Nat} (h : N = w.heap.size) (cs : Array Value) (T : TypeId) : Bk (w.alloc (.cells cs T)) N cs := h ▸ Bk.new w cs T
theorem wpList_fstAt {ops : Array Oper} {rest : List Oper} {o : Oper} {a : Act} {w : World} {Q : Exit → Act → World → Prop} (hgd : o.guard = none) {x y : Operand} (ho : o.op = .store 26 x y) {c : Array Value} (hc : c.size = 20) {N : Nat} (hN : N = w.heap.size)
    (hx : a.eval x = .pointer (some ⟨N, 0, none⟩)) (f : FinT) (hy : a.eval y = .agg (finA f)) (k : wpList Tryd.prog ops Q rest (a.put o.dst undef) (w.alloc (.cells (finA f) 26))) : wpList Tryd.prog ops Q (o :: rest) a (w.alloc (.cells c 26)) := by
  subst hN
  exact wpList_fst hgd ho hc hx hy k
set_option maxRecDepth 8000 in
set_option maxHeartbeats 4000000 in
theorem awake13_is (w : World) (hP : Pw w) : Calls Tryd.prog 10 #[] w fun e w' => e = .returned (.bool true) ∧ On w w' := by
  have HP : Hid (Pw w) := hP
  have kc := fun (w : World) (C : Array Value) (n c : Nat) => Lib.run_convert_bytes_const (P := Tryd.prog) w 27 5 C n c Tryd.underlying27 Tryd.underlying5
  clear hP
  obtain ⟨W5, hW5⟩ : ∃ W5, W5 = ((((w.alloc (.cells #[.int .u8 120] 5 (1, 2))).alloc (.cells #[.int .i64 0] 2)).alloc (.cells #[.int .i64 1, .int .i64 0, .int .i64 0, .int .i64 (-1), .int .i64 1, .int .i64 0, .int .i64 0, .int .i64 0, .int .i64 0] 57)).alloc (.cells #[.slice (some ⟨w.heap.size + 1 + 1, 0, none⟩) 1 1] 58)).alloc (.cells #[.slice (some ⟨w.heap.size, 0, none⟩) 1 1, .slice (some ⟨w.heap.size + 1, 0, none⟩) 1 1, .slice (some ⟨w.heap.size + 1 + 1 + 1, 0, none⟩) 1 1] 31) := ⟨_, rfl⟩
  have hz5 : W5.heap.size = w.heap.size + 1 + 1 + 1 + 1 + 1 := by rw [hW5]; simp only [World.size_alloc]
  have HZ5 : Hid (w.heap.size + 1 + 1 + 1 + 1 + 1 = W5.heap.size) := hz5.symm
  have HK5 : Hid (On w W5) := by show On _ _; rw [hW5]; exact (((((On.refl w).alloc _).alloc _).alloc _).alloc _).alloc _
  have HC5 : Hid (W5.cell? ⟨w.heap.size, 0, none⟩ = some (.int .u8 120)) := by
    show _ = _
    rw [hW5]
    have h : On (w.alloc (.cells #[.int .u8 120] 5 (1, 2))) (((((w.alloc (.cells #[.int .u8 120] 5 (1, 2))).alloc (.cells #[.int .i64 0] 2)).alloc (.cells #[.int .i64 1, .int .i64 0, .int .i64 0, .int .i64 (-1), .int .i64 1, .int .i64 0, .int .i64 0, .int .i64 0, .int .i64 0] 57)).alloc (.cells #[.slice (some ⟨w.heap.size + 1 + 1, 0, none⟩) 1 1] 58)).alloc (.cells #[.slice (some ⟨w.heap.size, 0, none⟩) 1 1, .slice (some ⟨w.heap.size + 1, 0, none⟩) 1 1, .slice (some ⟨w.heap.size + 1 + 1 + 1, 0, none⟩) 1 1] 31)) := ((((On.refl _).alloc _).alloc _).alloc _).alloc _
    exact (h.cell (p := ⟨w.heap.size, 0, none⟩) (by show w.heap.size < _; rw [World.size_alloc]; omega)).trans (World.cell?_alloc_mark w _ _ _ 0)
  have B5 : Hid (Bk W5 (w.heap.size + 1 + 1 + 1 + 1) #[.slice (some ⟨w.heap.size, 0, none⟩) 1 1, .slice (some ⟨w.heap.size + 1, 0, none⟩) 1 1, .slice (some ⟨w.heap.size + 1 + 1 + 1, 0, none⟩) 1 1]) := by show Bk _ _ _; rw [hW5]; exact Bk.newAtF (by simp only [World.size_alloc]) _ _
  have HW5 : Hid (W5 = _) := hW5
  have q0 := (B5.out.alloc (.cells (finA f1) 26)).at (i := 0) rfl
  have q1 := (B5.out.alloc (.cells (finA f1) 26)).at (i := 1) rfl
  have q2 := (B5.out.alloc (.cells (finA f1) 26)).at (i := 2) rfl
  have BF : Hid (Bk (W5.alloc (.cells (finA f1) 26)) (w.heap.size + 1 + 1 + 1 + 1 + 1) (finA f1)) := Bk.newAtF HZ5.out _ _
  have r1 := BF.out.range
  have HP6 : Hid (Pw (W5.alloc (.cells (finA f1) 26))) := HP.out.on (HK5.out.alloc _)
  have hTx := text_one (W5.alloc (.cells (finA f1) 26)) HP6.out ⟨w.heap.size, 0, none⟩ 1 (.slice (some ⟨w.heap.size + 1, 0, none⟩) 1 1) (some ⟨w.heap.size + 1 + 1 + 1, 0, none⟩) 1 ⟨_, 1, rfl, Nat.le_refl _, by simp, fun _ => ⟨_, 0, rfl, by rw [World.size_alloc]; have := HZ5.out; omega, fun i x j u hi hj => by
    have hi0 : i = 0 := by simpa using (List.getElem?_eq_some_iff.1 hi).1
    subst hi0
    simp only [List.getElem?_cons_zero, Option.some.injEq] at hi
    subst hi
    have hj0 : j = 0 := by simpa [byteC] using (List.getElem?_eq_some_iff.1 hj).1
    subst hj0
    simp only [byteC, List.getElem?_cons_zero, Option.some.injEq] at hj
    subst hj
    exact (((On.refl W5).alloc _).cell (p := ⟨w.heap.size, 0, none⟩) (by show w.heap.size < _; have := HZ5.out; omega)).trans HC5.out⟩⟩
  clear hW5 hz5
  go_enter Tryd.func10, Tryd.ntmps10
  go_wp2_with (first | (rw [← HW5.out]; refine wpList_fstAt rfl rfl rfl HZ5.out rfl f1 rfl ?_) | (refine wpList_fld rfl rfl rfl r1 ?_))
  refine hTx.mono ?_
  rintro _ w1 ⟨rfl, k1⟩
  have HF1 : Hid (Bk w1 (w.heap.size + 1 + 1 + 1 + 1 + 1) (finA f1)) := BF.out.on k1
  have r2 := HF1.out.range
  have K1 : Hid (On w w1) := (HK5.out.alloc _).trans k1
  clear hTx r1 q0 q1 q2 k1
  go_wp2_with (first | (refine wpList_fldG rfl rfl rfl r2 ?_) | (refine wpList_ftwoG rfl rfl rfl rfl ?_))
  refine (sort_two _ _ (Bk.new w1 _ _)).mono ?_
  rintro _ w2 ⟨a2, c2, rfl, k2⟩
  have HF2 : Hid (Bk w2 (w.heap.size + 1 + 1 + 1 + 1 + 1) (finA f1)) := (HF1.out.alloc _).on k2
  have r3 := HF2.out.range
  have r4 := (HF2.out.alloc (.cells (finA f1) 26)).range
  have K2 : Hid (On w w2) := (K1.out.alloc _).trans k2
  clear r2 k2
  go_wp2_with (first | (refine wpList_fldG rfl rfl rfl r3 ?_) | (refine wpList_fsliceG rfl rfl rfl ?_) | (refine wpList_fldG rfl rfl rfl r4 ?_))
  refine (has_one _ _ (Bk.new w2 _ _)).mono ?_
  rintro _ w3 ⟨rfl, k3⟩
  go_wp2
  go_ret
  exact ⟨rfl, (K2.out.alloc _).trans k3⟩
end Go.Proofs.YtmgjcgolebfjjaaDoor
