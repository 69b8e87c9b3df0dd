/- New, Next. -/
import Derived.Test.YtacflahkofmcpaaGreatDoorJ05LexTake
import Derived.Deep.LoopGhost
namespace Go.Proofs.YtacflahkofmcpaaGreatDoor
open Go.RowKit

theorem new_is (w : World) (s : ByteArray) :
    Calls Tryz.prog 29 #[.string s] w fun e w' => e = .returned (.pointer (some ⟨w.heap.size, 0, none⟩)) ∧ Lx w' w.heap.size s 0 0 ∧ On w w' := by
  go_enter Tryz.func29, Tryz.ntmps29
  go_wp2
  go_ret
  refine ⟨rfl, ⟨_, heap_alloc_new _ _⟩, (On.refl _).alloc _⟩

theorem Lx.set0 {w : World} {b : Nat} {s : ByteArray} {a r : Nat} (h : Lx w b s a r) : Lx (w.setCell ⟨b, 0, none⟩ (.string s)) b s a r := by obtain ⟨T, h⟩ := h.blk; exact ⟨T, heap_set h⟩

section
variable (w : World) (b : Nat) (s : ByteArray) (a r K p a2 C : Nat) (x : ByteArray)
set_option maxHeartbeats 1000000
theorem next_ok (hl : Lx w b s a r) (hb3 : 6 ≤ b) (hw : Lw w)
    (hT : ∀ w1 b1, Lx w1 b1 s a r → 6 ≤ b1 → Lw w1 → Calls Tryz.prog 114 #[.pointer (some ⟨b1, 0, none⟩)] w1 fun e w' => e = .returned (.tuple #[.agg #[.int .i64 K, .string x, .int .i64 p], .agg #[.int .i64 0, .int .i64 0]]) ∧ (∃ r', Inv s a2 r' ∧ Lx w' b1 s a2 r') ∧ Wr b1 w1 w') :
    Calls Tryz.prog 72 #[.pointer (some ⟨b, 0, none⟩)] w fun e w' => e = .returned (.tuple #[.agg #[.int .i64 K, .string x, .int .i64 p], .agg #[.int .i64 0, .int .i64 0]]) ∧ ∃ r', Inv s a2 r' ∧ Lx w' b s a2 r' ∧ Wr b w w' := by
  have hb := hl.lt
  obtain ⟨W0, hW0⟩ : ∃ W0, W0 = ((w.alloc (.cells #[.int .i64 0, .string ⟨#[]⟩, .int .i64 0] 71)).alloc (.cells #[.int .i64 0, .int .i64 0] 36)).alloc (.cells #[.string s, .int .i64 a, .int .i64 r] 116) := ⟨_, rfl⟩
  have hR0 : Rs W0 w.heap.size := by rw [hW0]; exact (Rs.new w).on ((On.refl _).alloc _)
  have hl0 : Lx W0 b s a r := by rw [hW0]; exact ((hl.alloc _).alloc _).alloc _
  have hl0' : Lx W0 (w.heap.size + 1 + 1) s a r := by
    rw [hW0]
    have := heap_alloc_new ((w.alloc (.cells #[.int .i64 0, .string ⟨#[]⟩, .int .i64 0] 71)).alloc (.cells #[.int .i64 0, .int .i64 0] 36)) (.cells #[.string s, .int .i64 a, .int .i64 r] 116)
    exact ⟨_, by simpa using this⟩
  have hw0 : On w W0 := by rw [hW0]; exact (((On.refl w).alloc _).alloc _).alloc _
  have HT := hT W0 (w.heap.size + 1 + 1) hl0' (by omega) (hw.on hw0)
  rw [hW0] at HT
  have HW0 : Hid (W0 = ((w.alloc (.cells #[.int .i64 0, .string ⟨#[]⟩, .int .i64 0] 71)).alloc (.cells #[.int .i64 0, .int .i64 0] 36)).alloc (.cells #[.string s, .int .i64 a, .int .i64 r] 116)) := hW0
  have c0 := hl.c0
  have c1 := hl.c1
  have c2 := hl.c2
  clear hT hl hw hW0
  go_enter Tryz.func72, Tryz.ntmps72
  go_wp2_with fail
  refine HT.mono ?_
  rintro e w1 ⟨rfl, ⟨r2, hi2, hl2⟩, hw1'⟩
  have hw1 : Wr (w.heap.size + 1 + 1) W0 w1 := by rw [HW0.out]; exact hw1'
  have hlb : Lx w1 b s a r := hl0.far hw1 (by omega)
  have hR1 : Rs w1 w.heap.size := ⟨(hw1.block _ (lt_of_block hR0.t) (by simp; omega)).trans hR0.t, (hw1.block _ (lt_of_block hR0.e) (by simp)).trans hR0.e⟩
  have HW : Hid (Wr b w w1) := Wr.of_on (b := b) (Below.trans hw0 ⟨hw1.os, hw1.tape, hw1.output, hw1.size, fun k hk => hw1.block k (by have := hw0.size; omega) (by simp; omega)⟩)
  clear HT c0 c1 c2 hw1' HW0 hl0 hl0' hR0 hw0 hw1
  have g0 := hlb.c0
  have g1 := hlb.c1
  have g2 := hlb.c2
  have gf0 := hlb.f0
  have gf1 := hlb.f1
  have gf2 := hlb.f2
  have x0 := hl2.c0
  have x1 := hl2.c1
  have x2 := hl2.c2
  have t0 := hR1.t0
  have t1 := hR1.t1
  have t2 := hR1.t2
  have e0 := hR1.e0
  have e1 := hR1.e1
  have ft0 := hR1.ft 0
  have ft1 := hR1.ft 1
  have ft2 := hR1.ft 2
  have fe0 := hR1.fe 0
  have fe1 := hR1.fe 1
  have s0 := hlb.lt
  have s1 := hl2.lt
  have s2 := hR1.lt
  have s3 := Nat.lt_of_succ_lt s2
  have s0' := Nat.lt_succ_of_lt s0
  have s1' := Nat.lt_succ_of_lt s1
  have s2' := Nat.lt_succ_of_lt s2
  have s3' := Nat.lt_succ_of_lt s3
  go_wp2
  go_region
  all_goals (try go_wp2)
  have hn0 : b ≠ w.heap.size := Nat.ne_of_lt hb
  have hn1 : b ≠ w.heap.size + 1 := Nat.ne_of_lt (Nat.lt_succ_of_lt hb)
  all_goals (try simp only [Exit.inBlock, Exit.then])
  refine bodyPost_ret (v := .tuple #[.agg #[.int .i64 K, .string x, .int .i64 p], .agg #[.int .i64 0, .int .i64 0]]) ?_ rfl ⟨rfl, r2, hi2, ?_, ?_⟩
  · rw [results_cells2 rfl]
    go_simp
  · exact ((((((((((hlb.set0).set1 a2).set2 r2).setFar hn0 _).setFar hn0 _).setFar hn0 _).setFar hn1 _).setFar hn1 _).alloc _).alloc _).drew
  · exact ((((((((((HW.out.set _).set _).set _).setNew (Nat.le_refl _) _).setNew (Nat.le_refl _) _).setNew (Nat.le_refl _) _).setNew (Nat.le_succ _) _).setNew (Nat.le_succ _) _).alloc _).alloc _).drew

theorem next_err (hl : Lx w b s a r) (hb3 : 6 ≤ b) (hw : Lw w) (hC : ((C : Int) == 0) = false)
    (hT : ∀ w1 b1, Lx w1 b1 s a r → 6 ≤ b1 → Lw w1 → Calls Tryz.prog 114 #[.pointer (some ⟨b1, 0, none⟩)] w1 fun e w' => e = .returned (.tuple #[.agg #[.int .i64 0, .string ⟨#[]⟩, .int .i64 0], .agg #[.int .i64 C, .int .i64 p]]) ∧ Wr b1 w1 w') :
    Calls Tryz.prog 72 #[.pointer (some ⟨b, 0, none⟩)] w fun e w' => e = .returned (.tuple #[.agg #[.int .i64 0, .string ⟨#[]⟩, .int .i64 0], .agg #[.int .i64 C, .int .i64 p]]) ∧ Lx w' b s a r ∧ Wr b w w' := by
  have hb := hl.lt
  obtain ⟨W0, hW0⟩ : ∃ W0, W0 = ((w.alloc (.cells #[.int .i64 0, .string ⟨#[]⟩, .int .i64 0] 71)).alloc (.cells #[.int .i64 0, .int .i64 0] 36)).alloc (.cells #[.string s, .int .i64 a, .int .i64 r] 116) := ⟨_, rfl⟩
  have hR0 : Rs W0 w.heap.size := by rw [hW0]; exact (Rs.new w).on ((On.refl _).alloc _)
  have hl0 : Lx W0 b s a r := by rw [hW0]; exact ((hl.alloc _).alloc _).alloc _
  have hl0' : Lx W0 (w.heap.size + 1 + 1) s a r := by
    rw [hW0]
    have := heap_alloc_new ((w.alloc (.cells #[.int .i64 0, .string ⟨#[]⟩, .int .i64 0] 71)).alloc (.cells #[.int .i64 0, .int .i64 0] 36)) (.cells #[.string s, .int .i64 a, .int .i64 r] 116)
    exact ⟨_, by simpa using this⟩
  have hw0 : On w W0 := by rw [hW0]; exact (((On.refl w).alloc _).alloc _).alloc _
  have HT := hT W0 (w.heap.size + 1 + 1) hl0' (by omega) (hw.on hw0)
  rw [hW0] at HT
  have HW0 : Hid (W0 = ((w.alloc (.cells #[.int .i64 0, .string ⟨#[]⟩, .int .i64 0] 71)).alloc (.cells #[.int .i64 0, .int .i64 0] 36)).alloc (.cells #[.string s, .int .i64 a, .int .i64 r] 116)) := hW0
  have c0 := hl.c0
  have c1 := hl.c1
  have c2 := hl.c2
  clear hT hl hw hW0
  go_enter Tryz.func72, Tryz.ntmps72
  go_wp2_with fail
  refine HT.mono ?_
  rintro e w1 ⟨rfl, hw1'⟩
  have hw1 : Wr (w.heap.size + 1 + 1) W0 w1 := by rw [HW0.out]; exact hw1'
  have hlb : Lx w1 b s a r := hl0.far hw1 (by omega)
  have hR1 : Rs w1 w.heap.size := ⟨(hw1.block _ (lt_of_block hR0.t) (by simp; omega)).trans hR0.t, (hw1.block _ (lt_of_block hR0.e) (by simp)).trans hR0.e⟩
  have HW : Hid (Wr b w w1) := Wr.of_on (b := b) (Below.trans hw0 ⟨hw1.os, hw1.tape, hw1.output, hw1.size, fun k hk => hw1.block k (by have := hw0.size; omega) (by simp; omega)⟩)
  clear HT c0 c1 c2 hw1' HW0 hl0 hl0' hR0 hw0 hw1
  have g0 := hlb.c0
  have g1 := hlb.c1
  have g2 := hlb.c2
  have gf0 := hlb.f0
  have gf1 := hlb.f1
  have gf2 := hlb.f2
  have t0 := hR1.t0
  have t1 := hR1.t1
  have t2 := hR1.t2
  have e0 := hR1.e0
  have e1 := hR1.e1
  have ft0 := hR1.ft 0
  have ft1 := hR1.ft 1
  have ft2 := hR1.ft 2
  have fe0 := hR1.fe 0
  have fe1 := hR1.fe 1
  have s0 := hlb.lt
  have s2 := hR1.lt
  have s3 := Nat.lt_of_succ_lt s2
  have s0' := Nat.lt_succ_of_lt s0
  have s2' := Nat.lt_succ_of_lt s2
  have s3' := Nat.lt_succ_of_lt s3
  go_wp2
  go_region
  all_goals (try go_wp2)
  have hn0 : b ≠ w.heap.size := Nat.ne_of_lt hb
  have hn1 : b ≠ w.heap.size + 1 := Nat.ne_of_lt (Nat.lt_succ_of_lt hb)
  all_goals (try simp only [Exit.inBlock, Exit.then])
  refine bodyPost_ret (v := .tuple #[.agg #[.int .i64 0, .string ⟨#[]⟩, .int .i64 0], .agg #[.int .i64 C, .int .i64 p]]) ?_ rfl ⟨rfl, ?_, ?_⟩
  · rw [results_cells2 rfl]
    go_simp
  · exact (((((((hlb.setFar hn0 _).setFar hn0 _).setFar hn0 _).setFar hn1 _).setFar hn1 _).alloc _).alloc _).drew
  · exact (((((((HW.out.setNew (Nat.le_refl _) _).setNew (Nat.le_refl _) _).setNew (Nat.le_refl _) _).setNew (Nat.le_succ _) _).setNew (Nat.le_succ _) _).alloc _).alloc _).drew
end

/-- NEXT: the token, or the error; behind an error the lexer is as it was. -/
theorem next_is (w : World) (b : Nat) (s : ByteArray) (a r : Nat) (hs : s.size ≤ 140737488351232) (hi : Inv s a r) (hl : Lx w b s a r) (hb3 : 6 ≤ b) (hw : Lw w) :
    Calls Tryz.prog 72 #[.pointer (some ⟨b, 0, none⟩)] w fun e w' => e = .returned (.tuple #[tkV s a, erV s a]) ∧ (eC pB s a = 0 → ∃ r', Inv s (to s a) r' ∧ Lx w' b s (to s a) r') ∧ (eC pB s a ≠ 0 → Lx w' b s a r) ∧ Wr b w w' := by
  have hT := fun w1 b1 (h1 : Lx w1 b1 s a r) (h2 : 6 ≤ b1) (h3 : Lw w1) => take_is w1 b1 s a r hs hi h1 h2 h3
  unfold tkV erV at hT ⊢
  by_cases h0 : eC pB s a = 0
  · simp only [h0, if_true] at hT ⊢
    refine (next_ok w b s a r (kd s a) (pl s a) (to s a) (tx s a) hl hb3 hw (fun w1 b1 h1 h2 h3 => (hT w1 b1 h1 h2 h3).mono fun e w' ⟨q1, q2, q3⟩ => ⟨q1, q2 trivial, q3⟩)).mono ?_
    rintro e w' ⟨rfl, r', q1, q2, q3⟩
    exact ⟨rfl, fun _ => ⟨r', q1, q2⟩, fun h => absurd rfl h, q3⟩
  · simp only [h0, if_false] at hT ⊢
    refine (next_err w b s a r (pl s a) (eC pB s a) hl hb3 hw (by rw [beq_eq_false_iff_ne]; omega) (fun w1 b1 h1 h2 h3 => (hT w1 b1 h1 h2 h3).mono fun e w' ⟨q1, _, q3⟩ => ⟨q1, q3⟩)).mono ?_
    rintro e w' ⟨rfl, q1, q2⟩
    exact ⟨rfl, fun h => absurd h (by simp), fun _ => q1, q2⟩
end Go.Proofs.YtacflahkofmcpaaGreatDoor

namespace Go.Proofs.YtacflahkofmcpaaGreatDoor
open Go.RowKit

/-- A token's cells; the cells of a row of tokens. -/
def tkC (t : Tk) : List Value := [.int .i64 t.k, .string t.x, .int .i64 t.p]
def tksC : List Tk → List Value
  | [] => []
  | t :: ts => tkC t ++ tksC ts
theorem tksC_append (l m : List Tk) : tksC (l ++ m) = tksC l ++ tksC m := by
  induction l with
  | nil => rfl
  | cons t l ih => simp only [List.cons_append, tksC, ih, List.append_assoc]
theorem tksC_length (l : List Tk) : (tksC l).length = l.length * 3 := by
  induction l with
  | nil => rfl
  | cons t l ih => simp only [tksC, List.length_append, ih, List.length_cons, tkC, List.length_nil]; omega
theorem tksC_one (t : Tk) : tksC [t] = tkC t := by simp [tksC]
theorem tksC_get (l : List Tk) : ∀ (i : Nat) (t : Tk), l[i]? = some t → (tksC l)[3 * i]? = some (.int .i64 t.k) ∧ (tksC l)[3 * i + 1]? = some (.string t.x) ∧ (tksC l)[3 * i + 2]? = some (.int .i64 t.p) := by
  induction l with
  | nil => intro i t h; simp at h
  | cons u l ih =>
    intro i t h
    cases i with
    | zero =>
      simp at h
      subst h
      exact ⟨rfl, rfl, rfl⟩
    | succ i =>
      obtain ⟨a, b, c⟩ := ih i t (by simpa using h)
      have e : ∀ j, (tksC (u :: l))[3 * (i + 1) + j]? = (tksC l)[3 * i + j]? := by
        intro j
        rw [show 3 * (i + 1) + j = (3 * i + j) + 3 by omega]
        rfl
      exact ⟨(e 0).trans a, (e 1).trans b, (e 2).trans c⟩

/-- The value v holds these tokens. -/
def Tks (w : World) (v : Value) (ts : List Tk) : Prop :=
  (v = .slice none 0 0 ∧ ts = []) ∨ ∃ g cap, v = .slice (some ⟨g, 0, none⟩) ts.length cap ∧ ts.length ≤ cap ∧ g < w.heap.size ∧ ∀ i u, (tksC ts)[i]? = some u → w.cell? ⟨g, i, none⟩ = some u
theorem Tks.on {w w' : World} {v : Value} {ts : List Tk} (h : Tks w v ts) (k : On w w') : Tks w' v ts := by
  rcases h with h | ⟨g, cap, hv, hc, hg, hu⟩
  · exact Or.inl h
  · exact Or.inr ⟨g, cap, hv, hc, Nat.lt_of_lt_of_le hg k.size, fun i u hi => (k.cell (p := ⟨g, i, none⟩) hg).trans (hu i u hi)⟩
theorem Tks.of_own {w : World} {base : Nat} {v : Value} {ts : List Tk} {e : TypeId} (h : w.ownsRow base e 3 v ts.length (tksC ts)) : Tks w v ts := by
  rcases h.2 with ⟨hv, hn⟩ | ⟨g, cap, cur, hv, hb, hh, hc, hm, hs, ht⟩
  · exact Or.inl ⟨hv, List.eq_nil_of_length_eq_zero hn⟩
  · refine Or.inr ⟨g, cap, hv, hc, lt_of_block hh, fun i u hi => ?_⟩
    rw [← ht, List.getElem?_take] at hi
    split at hi
    · simp only [World.cell?, hh]
      simpa using hi
    · cases hi

theorem results_tmp_cell {fn : Func} {p u : Tmp} {ty : TypeId} (h : fn.results = #[.tmp u, .cell p ty]) (tmps : Array Value) (P : Program) (w : World) :
    (results fn tmps).run P w =
      ((asAddr (tmps.getD p undef)).run P w).andThen fun a w₁ => ((loadVar ty a).run P w₁).andThen fun v w₂ => .ok (.tuple #[tmps.getD u undef, v]) w₂ := by
  simp only [results, h]
  simp [Sem.run_bind, Result.andThen]

/-- What All answers: the tokens, the error. -/
def tsS (s : ByteArray) : List Tk := if (al pB s 0).2.1 = 0 then (al pB s 0).1 else []
def ecS (s : ByteArray) : Nat := (al pB s 0).2.1
def epS (s : ByteArray) : Nat := (al pB s 0).2.2
def tsA (s : ByteArray) : List Tk := if 4000 < s.size then [] else tsS s
def ecA (s : ByteArray) : Nat := if 4000 < s.size then 2 else ecS s
def epA (s : ByteArray) : Nat := if 4000 < s.size then 4000 else epS s

theorem infoTk : (Tryz.prog.info? 71).map (fun i => (i.zero, i.size, i.bytes)) = some (some (.agg #[.int .i64 0, .string ⟨#[]⟩, .int .i64 0]), 3, 32) := by kernel_rfl

theorem On.trans' {w x y : World} {b : Nat} (h : On w x) (k : Wr b x y) (hb : w.heap.size ≤ b) : On w y :=
  Below.trans h ⟨k.os, k.tape, k.output, k.size, fun i hi => k.block i (by have := h.size; omega) (by simp; omega)⟩
theorem On.setNew {w x : World} {N i : Nat} (h : On w x) (hN : w.heap.size ≤ N) (u : Value) : On w (x.setCell ⟨N, i, none⟩ u) := Below.setCell h hN u
theorem On.drew {w x : World} (h : On w x) : On w x.drew := Below.drew h

/-- The error's block. -/
def Eb (w : World) (N : Nat) : Prop := w.heap[N]? = some (.cells #[.int .i64 0, .int .i64 0] 36 (0, 0))
theorem Eb.e0 {w : World} {N : Nat} (h : Eb w N) : w.cell? ⟨N, 0, none⟩ = some (.int .i64 0) := by unfold Eb at h; simp [World.cell?, h]
theorem Eb.e1 {w : World} {N : Nat} (h : Eb w N) : w.cell? ⟨N, 1, none⟩ = some (.int .i64 0) := by unfold Eb at h; simp [World.cell?, h]
theorem Eb.f {w : World} {N : Nat} (h : Eb w N) (i : Nat) : w.frozen? ⟨N, i, none⟩ = false := by unfold Eb at h; simp [World.frozen?, h]

theorem own_ne {w : World} {base : Nat} {e : TypeId} {n k : Nat} {v : Value} {xs : List Value} (h : w.ownsRow (base + 1) e n v k xs) : v.ownBlock = none ∨ v.ownBlock ≠ some base := by
  cases hv : v.ownBlock with
  | none => exact Or.inl rfl
  | some g =>
    refine Or.inr ?_
    have := (h.lt g hv).1
    simp; omega

theorem cell_new (w : World) (cs : Array Value) (T : TypeId) (n j : Nat) (hn : n = w.heap.size) : (w.alloc (.cells cs T)).cell? ⟨n, j, none⟩ = cs[j]? := by
  subst hn
  rw [World.cell?_alloc_at (hn := rfl)]
theorem news_at (w : World) (o1 o2 : Obj) {T : TypeId} (t : Tk) : ∀ (j : Nat) (u : Value), (tkC t)[j]? = some u → (((w.alloc o1).alloc o2).alloc (.cells #[.int .i64 t.k, .string t.x, .int .i64 t.p] T)).cell? ((⟨w.heap.size + 1 + 1, 0, none⟩ : Addr).add j) = some u := by
  intro j u h
  rw [Addr.add_lit, cell_new _ _ _ _ _ (by simp), Nat.zero_add]
  show (tkC t).toArray[j]? = some u
  rw [List.getElem?_toArray]
  exact h
theorem first_at (w : World) (cs : Array Value) (T : TypeId) (o2 o3 : Obj) (j : Nat) : (((w.alloc (.cells cs T)).alloc o2).alloc o3).cell? ⟨w.heap.size, j, none⟩ = cs[j]? := by
  have e := cell_new w cs T w.heap.size j rfl
  rw [← e]
  exact (World.cell?_of_block (Below.heap_alloc _ _ _ (by simp; omega))).trans (World.cell?_of_block (Below.heap_alloc _ _ _ (by simp)))

theorem all_long (s : ByteArray) (hl : 4000 < s.size) (hs : s.size ≤ 140737488351232) (w : World) :
    Calls Tryz.prog 28 #[.string s] w fun e w' => e = .returned (.tuple #[.slice none 0 0, .agg #[.int .i64 2, .int .i64 4000]]) ∧ On w w' := by
  have h1 : (4000 : Int) < s.size := by omega
  go_enter Tryz.func28, Tryz.ntmps28
  go_wp2
  (try simp only [Exit.inBlock, Exit.then])
  refine bodyPost_ret (v := .tuple #[.slice none 0 0, .agg #[.int .i64 2, .int .i64 4000]]) ?_ rfl ⟨rfl, ?_⟩
  · rw [results_tmp_cell rfl]
    go_simp
  · exact (On.refl _).alloc _

set_option maxHeartbeats 1000000 in
theorem all_short (s : ByteArray) (hs : s.size ≤ 4000) (w : World) (hw : Lw w) :
    Calls Tryz.prog 28 #[.string s] w fun e w' => ∃ v, e = .returned (.tuple #[v, .agg #[.int .i64 (ecS s), .int .i64 (epS s)]]) ∧ Tks w' v (tsS s) ∧ On w w' := by
  have hL0 : Lw (w.alloc (.cells #[.int .i64 0, .int .i64 0] 36)) := hw.on ((On.refl _).alloc _)
  obtain ⟨i0, hi, hz0, hz1, hz2⟩ := info_parts infoTk
  have hNn := new_is (w.alloc (.cells #[.int .i64 0, .int .i64 0] 36)) s
  have hsz : ¬ ((4000 : Int) < s.size) := by omega
  rw [World.size_alloc] at hNn
  go_enter Tryz.func28, Tryz.ntmps28
  go_wp2_with (go_at_call 29; refine hNn.mono ?_; rintro e w1 ⟨rfl, hl1, hw1⟩)
  have hsz3 : 6 ≤ w.heap.size := hw.lt
  have hB : w.heap.size + 1 ≤ w1.heap.size := by have := hw1.size; simpa using this
  have hE1 : Eb w1 w.heap.size := (hw1.block w.heap.size (by simp)).trans (heap_alloc_new w _)
  have hOn1 : On w w1 := ((On.refl w).alloc _).trans hw1
  clear hNn hw1 hL0
  go_loopg [4] (s.size + 1) (fun k v wr => ∃ (a r : Nat) (ts : List Tk), k = s.size + 1 - a ∧ Inv s a r ∧ Lx wr (w.heap.size + 1) s a r ∧ wr.ownsRow (w.heap.size + 1 + 1) 71 3 v ts.length (tksC ts) ∧ ts.length ≤ a ∧ (ts ++ (al pB s a).1, (al pB s a).2) = al pB s 0 ∧ Eb wr w.heap.size ∧ On w wr)
  case atStart => exact ⟨0, 0, [], rfl, ⟨Nat.le_refl _, by omega, Nat.zero_le _, Nat.zero_le _⟩, hl1, World.ownsRow_nil _ _ _ _, Nat.le_refl _, by simp, hE1, hOn1⟩
  case round =>
    obtain ⟨a, r, ts, hk, hinv, hlx, hown, hta, hal, heb, hon⟩ := hrel
    have hN := next_is wr (w.heap.size + 1) s a r (by omega) hinv hlx (by omega) (hw.on hon)
    have h4 := hinv.h4
    have HAL : Hid ((ts ++ (al pB s a).1, (al pB s a).2) = al pB s 0) := hal
    clear hal hE1 hOn1 hl1
    unfold tkV erV at hN
    by_cases h0 : eC pB s a = 0
    · simp only [h0, if_true] at hN
      have hbd : (ts.length + 1) * 32 ≤ 140737488355328 := by omega
      go_wp2_with (first | (go_at_call 72; refine hN.mono ?_; rintro e w2 ⟨rfl, hl2, _, hw2⟩; have hE2 : Eb w2 w.heap.size := (hw2.block w.heap.size (lt_of_block heb) (by simp)).trans heb; have hown2 := hown.kept hw2 (own_ne hown); have hlt : w.heap.size < w2.heap.size := lt_of_block hE2) | (at_builtin; refine wpList_append_own _ rfl _ _ 64 rfl (w.heap.size + 1 + 1) 71 i0 (.agg #[.int .i64 0, .string ⟨#[]⟩, .int .i64 0]) 3 32 Tryz.underlying64 hi hz0 hz1 hz2 rfl (by decide) _ _ _ rfl (((hown2.alloc _).alloc _).alloc _) ⟨w2.heap.size + 1 + 1, 0, none⟩ 1 1 (tkC (tk s a)) rfl rfl ?c1 ?c2 ?c3 ?c4 ?c5 ?_))
      case c1 => exact news_at w2 _ _ (tk s a)
      case c2 =>
        intro u hu
        simp only [tkC, List.mem_cons, List.not_mem_nil, or_false] at hu
        rcases hu with rfl | rfl | rfl <;> rfl
      case c3 => unfold maxLen; omega
      case c4 => exact hbd
      case c5 => simp; omega
      intro v' w3 hown3 hg3 _
      have own_lt : ∀ g, u4.ownBlock = some g → w.heap.size + 1 + 1 ≤ g ∧ g < w2.heap.size := fun g h => hown2.lt g h
      have hE3 : Eb w3 w.heap.size := by
        refine (hg3.block w.heap.size (by simp; omega) (fun h => by have := (own_lt _ h.symm).1; omega)).trans ?_
        rw [Below.heap_alloc _ _ _ (by simp; omega), Below.heap_alloc _ _ _ (by simp; omega), Below.heap_alloc _ _ _ hlt]
        exact hE2
      obtain ⟨r', hi', hl'⟩ := hl2 trivial
      have hl3 : Lx w3 (w.heap.size + 1) s (to s a) r' := by
        obtain ⟨T, e⟩ := (((hl'.alloc _).alloc _).alloc _).blk
        exact ⟨T, (hg3.block (w.heap.size + 1) (lt_of_block e) (fun h => by have := (own_lt _ h.symm).1; omega)).trans e⟩
      have hk0 : w3.cell? ⟨w2.heap.size, 0, none⟩ = some (.int .i64 (kd s a)) := by
        refine hg3.cell (a := ⟨w2.heap.size, 0, none⟩) (first_at w2 _ _ _ _ 0) (fun h => ?_)
        exact Nat.lt_irrefl _ (own_lt _ h.symm).2
      have hon3 : On w w3 := Below.grown ((((hon.trans' hw2 (Nat.le_succ _)).alloc _).alloc _).alloc _) hg3 (by simp; omega) (fun g h => by have := (own_lt _ h).1; omega)
      have hown3' : w3.ownsRow (w.heap.size + 1 + 1) 71 3 v' (ts ++ [tk s a]).length (tksC (ts ++ [tk s a])) := by
        rw [tksC_append, tksC_one]
        simpa using hown3
      have g0 := hE3.e0
      have g1 := hE3.e1
      have f0 := hE3.f 0
      have f1 := hE3.f 1
      have hE3' : Hid (Eb w3 w.heap.size) := hE3
      clear hown hown2 hown3 hg3 hN hw2 hl2 hE2 heb hlx hE3 own_lt hl'
      by_cases hk4 : kd s a = 4
      · have hkb : ((kd s a : Int) == 4) = true := by rw [hk4]; rfl
        have HK : Hid (kd s a = 4) := hk4
        clear hk4
        go_wp2
        (try simp only [Exit.inBlock, Exit.then])
        have hEnd := al_end h4 h0 HK.out
        refine bodyPost_ret (v := .tuple #[v', .agg #[.int .i64 0, .int .i64 0]]) ?_ rfl ⟨v', ?_, ?_, ?_⟩
        · rw [results_tmp_cell rfl]
          go_simp
        · unfold ecS epS; rw [← HAL.out, hEnd]; rfl
        · unfold tsS; rw [← HAL.out, hEnd, if_pos rfl]
          exact Tks.of_own (ownsRow_setCell_below (ownsRow_setCell_below hown3' (by simp; omega) _) (by simp; omega) _)
        · exact (hon3.setNew (Nat.le_refl _) _).setNew (Nat.le_refl _) _
      · have hkb : ((kd s a : Int) == 4) = false := by rw [beq_eq_false_iff_ne]; omega
        have hgt := to_gt (eC_kd h0) hk4
        have hst := al_step h4 h0 hk4
        have HST : Hid (al pB s a = (tk s a :: (al pB s (to s a)).1, (al pB s (to s a)).2)) := hst
        clear hst
        go_wp2
        go_roundg (s.size + 1 - to s a)
        case measure => have := hi'.h4; omega
        case rel =>
          refine ⟨to s a, r', ts ++ [tk s a], rfl, hi', hl3, hown3', by simp; omega, ?_, hE3'.out, hon3⟩
          rw [← HAL.out, HST.out]
          simp
    · simp only [h0, if_false] at hN
      have hC : ((eC pB s a : Int) != 0) = true := by simp; omega
      go_wp2_with (go_at_call 72; refine hN.mono ?_; rintro e w2 ⟨rfl, _, hl2, hw2⟩; have hE2 : Eb w2 w.heap.size := (hw2.block w.heap.size (lt_of_block heb) (by simp)).trans heb; have g0 := hE2.e0; have g1 := hE2.e1; have f0 := hE2.f 0; have f1 := hE2.f 1; have hlt : w.heap.size < w2.heap.size := lt_of_block hE2; have hlt' := Nat.lt_succ_of_lt hlt)
      go_region
      all_goals (try go_wp2)
      (try simp only [Exit.inBlock, Exit.then])
      refine bodyPost_ret (v := .tuple #[.slice none 0 0, .agg #[.int .i64 (eC pB s a), .int .i64 (pl s a)]]) ?_ rfl ⟨.slice none 0 0, ?_, ?_, ?_⟩
      · rw [results_tmp_cell rfl]
        go_simp
      · unfold ecS epS; rw [← HAL.out, al_err h4 h0]
      · unfold tsS; rw [← HAL.out, al_err h4 h0, if_neg h0]
        exact Or.inl ⟨rfl, rfl⟩
      · exact (((((hon.trans' hw2 (Nat.le_succ _)).setNew (Nat.le_refl _) _).setNew (Nat.le_refl _) _).alloc _).alloc _).drew

/-- ALL. -/
theorem all_is (s : ByteArray) (hs : s.size ≤ 140737488351232) (w : World) (hw : Lw w) :
    Calls Tryz.prog 28 #[.string s] w fun e w' => ∃ v, e = .returned (.tuple #[v, .agg #[.int .i64 (ecA s), .int .i64 (epA s)]]) ∧ Tks w' v (tsA s) ∧ On w w' := by
  unfold tsA ecA epA
  by_cases h : 4000 < s.size
  · simp only [h, if_true]
    refine (all_long s h hs w).mono ?_
    rintro e w' ⟨rfl, hW⟩
    exact ⟨_, rfl, Or.inl ⟨rfl, rfl⟩, hW⟩
  · simp only [h, if_false]
    exact all_short s (by omega) w hw
end Go.Proofs.YtacflahkofmcpaaGreatDoor
