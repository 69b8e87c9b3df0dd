/- isNumber, take: the token that stands here, or the error. -/
import Derived.Test.YtmnpcbcnjnklnaaGreatDoorJ05LexMeasure
import Derived.Test.YtmnpcbcnjnklnaaGreatDoorJ02Canon
import Derived.Laws.ResultCell
namespace Go.Proofs.YtmnpcbcnjnklnaaGreatDoor
open Go.RowKit

theorem isNumber_is (x : ByteArray) (hx : x.size ≤ 281474976710656) (w : World) (hw : Lw w) :
    Calls Tryz.prog 97 #[.string x] w fun e w' => e = .returned (.bool (pB x)) ∧ On w w' := by
  have hP := parse_is x hx w hw
  clear hw
  go_enter Tryz.func97, Tryz.ntmps97
  go_wp2_with (go_at_call 101; refine hP.mono ?_; rintro e w1 ⟨rfl, hW1⟩)
  go_ret
  exact ⟨rfl, hW1⟩

theorem Wr.alloc {b : Nat} {x y : World} (h : Wr b x y) (o : Obj) : Wr b x (y.alloc o) := h.trans (World.grownBy_alloc _ _ _)
theorem Wr.setNew {b i N : Nat} {x y : World} (h : Wr b x y) (hN : x.heap.size ≤ N) (u : Value) : Wr b x (y.setCell ⟨N, i, none⟩ u) :=
  ⟨h.os, h.tape, h.output, by simpa [World.setCell] using h.size, fun k hk hne => (Below.heap_setCell _ _ _ _ (fun e => by simp at e; omega)).trans (h.block k hk hne)⟩
theorem Wr.on {b : Nat} {x y z : World} (h : Wr b x y) (k : On y z) : Wr b x z :=
  h.trans ⟨k.os, k.tape, k.output, k.size, fun i hi _ => k.block i hi⟩
theorem Wr.of_on {b : Nat} {x y : World} (k : On x y) : Wr b x y := (Wr.refl _ _).on k
theorem Lx.alloc {w : World} {b : Nat} {s : ByteArray} {a r : Nat} (h : Lx w b s a r) (o : Obj) : Lx (w.alloc o) b s a r := by
  obtain ⟨T, e⟩ := h.blk
  exact ⟨T, (Below.heap_alloc _ _ _ h.lt).trans e⟩
theorem Lx.on {w w' : World} {b : Nat} {s : ByteArray} {a r : Nat} (h : Lx w b s a r) (k : On w w') : Lx w' b s a r := by
  obtain ⟨T, e⟩ := h.blk
  exact ⟨T, (k.block b h.lt).trans e⟩
theorem Lx.far {w w' : World} {b b' : Nat} {s : ByteArray} {a r : Nat} (h : Lx w b s a r) (k : Wr b' w w') (hne : b ≠ b') : Lx w' b s a r := by
  obtain ⟨T, e⟩ := h.blk
  exact ⟨T, (k.block b h.lt (by simpa using hne)).trans e⟩
theorem Lx.setFar {w : World} {b N i : Nat} {s : ByteArray} {a r : Nat} (h : Lx w b s a r) (hne : b ≠ N) (u : Value) : Lx (w.setCell ⟨N, i, none⟩ u) b s a r := by
  obtain ⟨T, e⟩ := h.blk
  exact ⟨T, (Below.heap_setCell _ _ _ _ hne).trans e⟩

theorem var_wr {w w' : World} {b g : Nat} {n : String} {cs : Array Value} (k : Wr b w w') (hg : Tryz.prog.globalNamed n = some g) (hne : g ≠ b) (h : w.var? Tryz.prog n = some cs) : w'.var? Tryz.prog n = some cs := by
  have hlt := lt_of_var hg h
  unfold World.var? at h ⊢
  simp only [hg, Option.bind_some] at h ⊢
  rw [k.block g hlt (by simpa using hne)]
  exact h
theorem Lw.wr {w w' : World} {b : Nat} (h : Lw w) (k : Wr b w w') (hb : 5 ≤ b) : Lw w' := by
  refine ⟨var_wr k gTab (by omega) h.tab, ?_, ?_, var_wr k gSgs (by omega) h.sgs⟩
  · obtain ⟨tp, p, e⟩ := h.syn
    exact ⟨tp, p, var_wr k gSyn (by omega) e⟩
  · obtain ⟨tp, p, e⟩ := h.rng
    exact ⟨tp, p, var_wr k gRng (by omega) e⟩
theorem On.alloc {w w' : World} (h : On w w') (o : Obj) : On w (w'.alloc o) := Below.alloc h h.size o

theorem results_cells2 {fn : Func} {p u : Tmp} {tp tu : TypeId} (h : fn.results = #[.cell p tp, .cell u tu]) (tmps : Array Value) (P : Program) (w : World) :
    (results fn tmps).run P w =
      ((asAddr (tmps.getD p undef)).run P w).andThen fun a w₁ => ((loadVar tp a).run P w₁).andThen fun v w₂ => ((asAddr (tmps.getD u undef)).run P w₂).andThen fun a' w₃ => ((loadVar tu a').run P w₃).andThen fun v' w₄ => .ok (.tuple #[v, v']) w₄ := by
  simp only [results, h]
  simp [Sem.run_bind, Result.andThen]

/-- Two blocks that the call has laid for its results: a token's and an error's. -/
structure Rs (w : World) (N : Nat) : Prop where
  t : w.heap[N]? = some (.cells #[.int .i64 0, .string ⟨#[]⟩, .int .i64 0] 55 (0, 0))
  e : w.heap[N + 1]? = some (.cells #[.int .i64 0, .int .i64 0] 31 (0, 0))
theorem Rs.new (w : World) : Rs ((w.alloc (.cells #[.int .i64 0, .string ⟨#[]⟩, .int .i64 0] 55)).alloc (.cells #[.int .i64 0, .int .i64 0] 31)) w.heap.size := by
  refine ⟨?_, ?_⟩
  · rw [Below.heap_alloc _ _ _ (by simp)]
    exact heap_alloc_new _ _
  · have := heap_alloc_new (w.alloc (.cells #[.int .i64 0, .string ⟨#[]⟩, .int .i64 0] 55)) (.cells #[.int .i64 0, .int .i64 0] 31)
    simpa using this
theorem Rs.wr {w w' : World} {N b : Nat} (h : Rs w N) (k : Wr b w w') (hb : b < N) : Rs w' N :=
  ⟨(k.block N (lt_of_block h.t) (by simp; omega)).trans h.t, (k.block (N + 1) (lt_of_block h.e) (by simp; omega)).trans h.e⟩
theorem Rs.on {w w' : World} {N : Nat} (h : Rs w N) (k : On w w') : Rs w' N :=
  ⟨(k.block N (lt_of_block h.t)).trans h.t, (k.block (N + 1) (lt_of_block h.e)).trans h.e⟩
section
variable {w : World} {N : Nat}
theorem Rs.t0 (h : Rs w N) : w.cell? ⟨N, 0, none⟩ = some (.int .i64 0) := by simp [World.cell?, h.t]
theorem Rs.t1 (h : Rs w N) : w.cell? ⟨N, 1, none⟩ = some (.string ⟨#[]⟩) := by simp [World.cell?, h.t]
theorem Rs.t2 (h : Rs w N) : w.cell? ⟨N, 2, none⟩ = some (.int .i64 0) := by simp [World.cell?, h.t]
theorem Rs.e0 (h : Rs w N) : w.cell? ⟨N + 1, 0, none⟩ = some (.int .i64 0) := by simp [World.cell?, h.e]
theorem Rs.e1 (h : Rs w N) : w.cell? ⟨N + 1, 1, none⟩ = some (.int .i64 0) := by simp [World.cell?, h.e]
theorem Rs.ft (h : Rs w N) (i : Nat) : w.frozen? ⟨N, i, none⟩ = false := by simp [World.frozen?, h.t]
theorem Rs.fe (h : Rs w N) (i : Nat) : w.frozen? ⟨N + 1, i, none⟩ = false := by simp [World.frozen?, h.e]
theorem Rs.lt (h : Rs w N) : N + 1 < w.heap.size := lt_of_block h.e
end

section
variable (w : World) (b : Nat) (s : ByteArray) (a r p K z : Nat)
set_option maxHeartbeats 1000000
theorem take_none (hs : s.size ≤ 140737488351232) (hl : Lx w b s a r) (hp : p ≤ s.size) (hz : p + z ≤ s.size)
    (hS : ∀ w1, Lx w1 b s a r → Calls Tryz.prog 95 #[.pointer (some ⟨b, 0, none⟩)] w1 fun e w' => e = .returned (.tuple #[]) ∧ ∃ r', Inv s p r' ∧ Lx w' b s p r' ∧ Wr b w1 w')
    (hM : ∀ w1 r1, Inv s p r1 → Lx w1 b s p r1 → Calls Tryz.prog 96 #[.pointer (some ⟨b, 0, none⟩)] w1 fun e w' => e = .returned (.tuple #[.int .i64 0, .int .i64 z]) ∧ ∃ r', Lx w' b s p r' ∧ Wr b w1 w') :
    Calls Tryz.prog 68 #[.pointer (some ⟨b, 0, none⟩)] w fun e w' => e = .returned (.tuple #[.agg #[.int .i64 0, .string ⟨#[]⟩, .int .i64 0], .agg #[.int .i64 4, .int .i64 p]]) ∧ Wr b w w' := by
  have hR0 := Rs.new w
  have hb := hl.lt
  have hl0 := (hl.alloc (.cells #[.int .i64 0, .string ⟨#[]⟩, .int .i64 0] 55)).alloc (.cells #[.int .i64 0, .int .i64 0] 31)
  have hw0 : Wr b w ((w.alloc (.cells #[.int .i64 0, .string ⟨#[]⟩, .int .i64 0] 55)).alloc (.cells #[.int .i64 0, .int .i64 0] 31)) := ((Wr.refl b w).alloc _).alloc _
  go_enter Tryz.func68, Tryz.ntmps68
  go_wp2_with (first | (go_at_call 95; refine (hS _ hl0).mono ?_; rintro e w1 ⟨rfl, r1, hi1, hl1, hw1⟩) | (go_at_call 96; refine (hM _ _ hi1 hl1).mono ?_; rintro e w2 ⟨rfl, r2, hl2, hw2⟩))
  have hR2 := (hR0.wr hw1 hb).wr hw2 hb
  have c0 := hl2.c0
  have c1 := hl2.c1
  have t0 := hR2.t0
  have t1 := hR2.t1
  have t2 := hR2.t2
  have e0 := hR2.e0
  have e1 := hR2.e1
  have ft0 := hR2.ft 0
  have ft1 := hR2.ft 1
  have ft2 := hR2.ft 2
  have fe0 := hR2.fe 0
  have fe1 := hR2.fe 1
  go_region
  all_goals (try go_wp2)
  go_region
  all_goals (try go_wp2)
  all_goals (try simp only [Exit.inBlock, Exit.then])
  all_goals refine bodyPost_ret (v := .tuple #[.agg #[.int .i64 0, .string ⟨#[]⟩, .int .i64 0], .agg #[.int .i64 4, .int .i64 p]]) ?_ rfl ⟨rfl, ?_⟩
  · rw [results_cells2 rfl]
    go_simp
  · exact (((((((hw0.trans hw1).trans hw2).setNew (Nat.le_refl _) _).setNew (Nat.le_refl _) _).setNew (Nat.le_refl _) _).setNew (Nat.le_succ _) _).setNew (Nat.le_succ _) _).drew.drew

theorem take_bad (hs : s.size ≤ 140737488351232) (hl : Lx w b s a r) (hp : p ≤ s.size) (hz : p + z ≤ s.size) (hb3 : 5 ≤ b) (hw : Lw w) (hx : pB (s.extract p (p + z)) = false)
    (hS : ∀ w1, Lx w1 b s a r → Calls Tryz.prog 95 #[.pointer (some ⟨b, 0, none⟩)] w1 fun e w' => e = .returned (.tuple #[]) ∧ ∃ r', Inv s p r' ∧ Lx w' b s p r' ∧ Wr b w1 w')
    (hM : ∀ w1 r1, Inv s p r1 → Lx w1 b s p r1 → Calls Tryz.prog 96 #[.pointer (some ⟨b, 0, none⟩)] w1 fun e w' => e = .returned (.tuple #[.int .i64 2, .int .i64 z]) ∧ ∃ r', Inv s (p + z) r' ∧ Lx w' b s p r' ∧ Wr b w1 w') :
    Calls Tryz.prog 68 #[.pointer (some ⟨b, 0, none⟩)] w fun e w' => e = .returned (.tuple #[.agg #[.int .i64 0, .string ⟨#[]⟩, .int .i64 0], .agg #[.int .i64 5, .int .i64 p]]) ∧ Wr b w w' := by
  have hR0 := Rs.new w
  have hb := hl.lt
  have hl0 := (hl.alloc (.cells #[.int .i64 0, .string ⟨#[]⟩, .int .i64 0] 55)).alloc (.cells #[.int .i64 0, .int .i64 0] 31)
  have hw0 : Wr b w ((w.alloc (.cells #[.int .i64 0, .string ⟨#[]⟩, .int .i64 0] 55)).alloc (.cells #[.int .i64 0, .int .i64 0] 31)) := ((Wr.refl b w).alloc _).alloc _
  have hI : ∀ w1, Lw w1 → Calls Tryz.prog 97 #[.string (s.extract p (p + z))] w1 fun e w' => e = .returned (.bool false) ∧ On w1 w' := by
    intro w1 h
    have := isNumber_is (s.extract p (p + z)) (by rw [ByteArray.size_extract]; omega) w1 h
    rw [hx] at this
    exact this
  clear hx
  go_enter Tryz.func68, Tryz.ntmps68
  go_wp2_with (first | (go_at_call 95; refine (hS _ hl0).mono ?_; rintro e w1 ⟨rfl, r1, hi1, hl1, hw1⟩) | (go_at_call 96; refine (hM _ _ hi1 hl1).mono ?_; rintro e w2 ⟨rfl, r2, hi2, hl2, hw2⟩))
  have hR2 := (hR0.wr hw1 hb).wr hw2 hb
  have hL2 : Lw w2.drew := hw.wr ((hw0.trans hw1).trans hw2).drew hb3
  have HW : Hid (Wr b w w2) := (hw0.trans hw1).trans hw2
  have d0 := hl2.c0
  have d1 := hl2.c1
  clear hw
  go_region
  all_goals (try go_wp2_with (go_at_call 97; refine (hI _ hL2).mono ?_; rintro e w3 ⟨rfl, hw3⟩))
  have hl3 : Lx w3 b s p r2 := hl2.drew.on hw3
  have hR3 : Rs w3 w.heap.size := Rs.on (w := w2.drew) ⟨hR2.t, hR2.e⟩ hw3
  have c0 := hl3.c0
  have c1 := hl3.c1
  have f1 := hl3.f1
  have t0 := hR3.t0
  have t1 := hR3.t1
  have t2 := hR3.t2
  have e0 := hR3.e0
  have e1 := hR3.e1
  have ft0 := hR3.ft 0
  have ft1 := hR3.ft 1
  have ft2 := hR3.ft 2
  have fe0 := hR3.fe 0
  have fe1 := hR3.fe 1
  have hN := hR3.lt
  go_region
  all_goals (try go_wp2)
  all_goals (try simp only [Exit.inBlock, Exit.then])
  refine bodyPost_ret (v := .tuple #[.agg #[.int .i64 0, .string ⟨#[]⟩, .int .i64 0], .agg #[.int .i64 5, .int .i64 p]]) ?_ rfl ⟨rfl, ?_⟩
  · rw [results_cells2 rfl]
    go_simp
  · exact ((((((HW.out.drew.on hw3).setNew (Nat.le_refl _) _).setNew (Nat.le_refl _) _).setNew (Nat.le_refl _) _).setNew (Nat.le_succ _) _).setNew (Nat.le_succ _) _).drew

theorem take_num (hs : s.size ≤ 140737488351232) (hl : Lx w b s a r) (hp : p ≤ s.size) (hz : p + z ≤ s.size) (hb3 : 5 ≤ b) (hw : Lw w) (hx : pB (s.extract p (p + z)) = true)
    (hS : ∀ w1, Lx w1 b s a r → Calls Tryz.prog 95 #[.pointer (some ⟨b, 0, none⟩)] w1 fun e w' => e = .returned (.tuple #[]) ∧ ∃ r', Inv s p r' ∧ Lx w' b s p r' ∧ Wr b w1 w')
    (hM : ∀ w1 r1, Inv s p r1 → Lx w1 b s p r1 → Calls Tryz.prog 96 #[.pointer (some ⟨b, 0, none⟩)] w1 fun e w' => e = .returned (.tuple #[.int .i64 2, .int .i64 z]) ∧ ∃ r', Inv s (p + z) r' ∧ Lx w' b s p r' ∧ Wr b w1 w') :
    Calls Tryz.prog 68 #[.pointer (some ⟨b, 0, none⟩)] w fun e w' => e = .returned (.tuple #[.agg #[.int .i64 2, .string (s.extract p (p + z)), .int .i64 p], .agg #[.int .i64 0, .int .i64 0]]) ∧ ∃ r', Inv s (p + z) r' ∧ Lx w' b s (p + z) r' ∧ Wr b w w' := by
  have hR0 := Rs.new w
  have hb := hl.lt
  have hl0 := (hl.alloc (.cells #[.int .i64 0, .string ⟨#[]⟩, .int .i64 0] 55)).alloc (.cells #[.int .i64 0, .int .i64 0] 31)
  have hw0 : Wr b w ((w.alloc (.cells #[.int .i64 0, .string ⟨#[]⟩, .int .i64 0] 55)).alloc (.cells #[.int .i64 0, .int .i64 0] 31)) := ((Wr.refl b w).alloc _).alloc _
  have hI : ∀ w1, Lw w1 → Calls Tryz.prog 97 #[.string (s.extract p (p + z))] w1 fun e w' => e = .returned (.bool true) ∧ On w1 w' := by
    intro w1 h
    have := isNumber_is (s.extract p (p + z)) (by rw [ByteArray.size_extract]; omega) w1 h
    rw [hx] at this
    exact this
  clear hx
  go_enter Tryz.func68, Tryz.ntmps68
  go_wp2_with (first | (go_at_call 95; refine (hS _ hl0).mono ?_; rintro e w1 ⟨rfl, r1, hi1, hl1, hw1⟩) | (go_at_call 96; refine (hM _ _ hi1 hl1).mono ?_; rintro e w2 ⟨rfl, r2, hi2, hl2, hw2⟩))
  have hR2 := (hR0.wr hw1 hb).wr hw2 hb
  have hL2 : Lw w2.drew := hw.wr ((hw0.trans hw1).trans hw2).drew hb3
  have HW : Hid (Wr b w w2) := (hw0.trans hw1).trans hw2
  have d0 := hl2.c0
  have d1 := hl2.c1
  clear hw
  go_region
  all_goals (try go_wp2_with (first | (go_at_call 97; refine (hI _ hL2).mono ?_; rintro e w3 ⟨rfl, hw3⟩; have hl3 : Lx w3 b s p r2 := hl2.drew.on hw3; have hR3 : Rs w3 w.heap.size := Rs.on (w := w2.drew) ⟨hR2.t, hR2.e⟩ hw3; have c1 := hl3.c1; have f1 := hl3.f1; have hlb := hl3.lt; have hN := hR3.lt; have hN0 := Nat.lt_of_succ_lt hN; have t0 := hR3.t0; have t1 := hR3.t1; have t2 := hR3.t2; have e0 := hR3.e0; have e1 := hR3.e1; have ft0 := hR3.ft 0; have ft1 := hR3.ft 1; have ft2 := hR3.ft 2; have fe0 := hR3.fe 0; have fe1 := hR3.fe 1)))
  have hn0 : b ≠ w.heap.size := Nat.ne_of_lt hb
  have hn1 : b ≠ w.heap.size + 1 := Nat.ne_of_lt (Nat.lt_succ_of_lt hb)
  all_goals (try simp only [Exit.inBlock, Exit.then])
  refine bodyPost_ret (v := .tuple #[.agg #[.int .i64 2, .string (s.extract p (p + z)), .int .i64 p], .agg #[.int .i64 0, .int .i64 0]]) ?_ rfl ⟨rfl, r2, hi2, ?_, ?_⟩
  · rw [results_cells2 rfl]
    go_simp
  · exact ((((((hl3.to1 (n := p + z) (by omega)).setFar hn0 _).setFar hn0 _).setFar hn0 _).setFar hn1 _).setFar hn1 _).alloc _
  · exact (((((((HW.out.drew.on hw3).set _).setNew (Nat.le_refl _) _).setNew (Nat.le_refl _) _).setNew (Nat.le_refl _) _).setNew (Nat.le_succ _) _).setNew (Nat.le_succ _) _).alloc _

theorem take_word (hs : s.size ≤ 140737488351232) (hl : Lx w b s a r) (hp : p ≤ s.size) (hz : p + z ≤ s.size) (h0 : ((K : Int) == 0) = false) (h2 : ((K : Int) == 2) = false)
    (hS : ∀ w1, Lx w1 b s a r → Calls Tryz.prog 95 #[.pointer (some ⟨b, 0, none⟩)] w1 fun e w' => e = .returned (.tuple #[]) ∧ ∃ r', Inv s p r' ∧ Lx w' b s p r' ∧ Wr b w1 w')
    (hM : ∀ w1 r1, Inv s p r1 → Lx w1 b s p r1 → Calls Tryz.prog 96 #[.pointer (some ⟨b, 0, none⟩)] w1 fun e w' => e = .returned (.tuple #[.int .i64 K, .int .i64 z]) ∧ ∃ r', Inv s (p + z) r' ∧ Lx w' b s p r' ∧ Wr b w1 w') :
    Calls Tryz.prog 68 #[.pointer (some ⟨b, 0, none⟩)] w fun e w' => e = .returned (.tuple #[.agg #[.int .i64 K, .string (s.extract p (p + z)), .int .i64 p], .agg #[.int .i64 0, .int .i64 0]]) ∧ ∃ r', Inv s (p + z) r' ∧ Lx w' b s (p + z) r' ∧ Wr b w w' := by
  have hR0 := Rs.new w
  have hb := hl.lt
  have hl0 := (hl.alloc (.cells #[.int .i64 0, .string ⟨#[]⟩, .int .i64 0] 55)).alloc (.cells #[.int .i64 0, .int .i64 0] 31)
  have hw0 : Wr b w ((w.alloc (.cells #[.int .i64 0, .string ⟨#[]⟩, .int .i64 0] 55)).alloc (.cells #[.int .i64 0, .int .i64 0] 31)) := ((Wr.refl b w).alloc _).alloc _
  go_enter Tryz.func68, Tryz.ntmps68
  go_wp2_with (first | (go_at_call 95; refine (hS _ hl0).mono ?_; rintro e w1 ⟨rfl, r1, hi1, hl1, hw1⟩) | (go_at_call 96; refine (hM _ _ hi1 hl1).mono ?_; rintro e w2 ⟨rfl, r2, hi2, hl2, hw2⟩))
  have hR2 := (hR0.wr hw1 hb).wr hw2 hb
  have HW : Hid (Wr b w w2) := (hw0.trans hw1).trans hw2
  have c0 := hl2.c0
  have c1 := hl2.c1
  have f1 := hl2.f1
  have hlb := hl2.lt
  have hN := hR2.lt
  have hN0 := Nat.lt_of_succ_lt hN
  have t0 := hR2.t0
  have t1 := hR2.t1
  have t2 := hR2.t2
  have e0 := hR2.e0
  have e1 := hR2.e1
  have ft0 := hR2.ft 0
  have ft1 := hR2.ft 1
  have ft2 := hR2.ft 2
  have fe0 := hR2.fe 0
  have fe1 := hR2.fe 1
  go_region
  all_goals (try go_wp2)
  have hn0 : b ≠ w.heap.size := Nat.ne_of_lt hb
  have hn1 : b ≠ w.heap.size + 1 := Nat.ne_of_lt (Nat.lt_succ_of_lt hb)
  all_goals (try simp only [Exit.inBlock, Exit.then])
  refine bodyPost_ret (v := .tuple #[.agg #[.int .i64 K, .string (s.extract p (p + z)), .int .i64 p], .agg #[.int .i64 0, .int .i64 0]]) ?_ rfl ⟨rfl, r2, hi2, ?_, ?_⟩
  · rw [results_cells2 rfl]
    go_simp
  · exact (((((((hl2.to1 (x := (p : Int) + (z : Int)) (n := p + z) (by omega)).setFar hn0 _).setFar hn0 _).setFar hn0 _).setFar hn1 _).setFar hn1 _).alloc _).drew
  · exact ((((((((HW.out).set _).setNew (Nat.le_refl _) _).setNew (Nat.le_refl _) _).setNew (Nat.le_refl _) _).setNew (Nat.le_succ _) _).setNew (Nat.le_succ _) _).alloc _).drew
end

/-- What take and Next answer. -/
def tkV (s : ByteArray) (a : Nat) : Value := if eC pB s a = 0 then .agg #[.int .i64 (kd s a), .string (tx s a), .int .i64 (pl s a)] else .agg #[.int .i64 0, .string ⟨#[]⟩, .int .i64 0]
def erV (s : ByteArray) (a : Nat) : Value := if eC pB s a = 0 then .agg #[.int .i64 0, .int .i64 0] else .agg #[.int .i64 (eC pB s a), .int .i64 (pl s a)]

theorem take_is (w : World) (b : Nat) (s : ByteArray) (a r : Nat) (hs : s.size ≤ 140737488351232) (hi : Inv s a r) (hl : Lx w b s a r) (hb3 : 5 ≤ b) (hw : Lw w) :
    Calls Tryz.prog 68 #[.pointer (some ⟨b, 0, none⟩)] w fun e w' => e = .returned (.tuple #[tkV s a, erV s a]) ∧ (eC pB s a = 0 → ∃ r', Inv s (to s a) r' ∧ Lx w' b s (to s a) r') ∧ Wr b w w' := by
  have hS : ∀ w1, Lx w1 b s a r → Calls Tryz.prog 95 #[.pointer (some ⟨b, 0, none⟩)] w1 fun e w' => e = .returned (.tuple #[]) ∧ ∃ r', Inv s (pl s a) r' ∧ Lx w' b s (pl s a) r' ∧ Wr b w1 w' :=
    fun w1 h => skip_is w1 b s a r hs hi h
  have hM := fun w1 r1 (hi1 : Inv s (pl s a) r1) (h1 : Lx w1 b s (pl s a) r1) => measure_is w1 b s (pl s a) r1 hs hi1 h1
  have hp := pl_le (s := s) hi.h4
  have hz := to_le (s := s) hi.h4
  have ek : kind (suf s (pl s a)) = kd s a := rfl
  have ez : tsize (suf s (pl s a)) = sz s a := rfl
  rw [ek, ez] at hM
  unfold to at hz
  by_cases h0 : kd s a = 0
  · have e4 : eC pB s a = 4 := by unfold eC; rw [if_pos h0]
    refine (take_none w b s a r (pl s a) (sz s a) hs hl hp hz hS (fun w1 r1 i1 l1 => (hM w1 r1 i1 l1).mono fun e w' ⟨q1, r', _, q2, q3⟩ => ⟨by rw [q1, h0]; rfl, r', q2, q3⟩)).mono ?_
    rintro e w' ⟨rfl, hW⟩
    refine ⟨?_, fun h => by omega, hW⟩
    unfold tkV erV
    rw [e4]
    rfl
  · have hM' : ∀ w1 r1, Inv s (pl s a) r1 → Lx w1 b s (pl s a) r1 → Calls Tryz.prog 96 #[.pointer (some ⟨b, 0, none⟩)] w1 fun e w' => e = .returned (.tuple #[.int .i64 (kd s a), .int .i64 (sz s a)]) ∧ ∃ r', Inv s (pl s a + sz s a) r' ∧ Lx w' b s (pl s a) r' ∧ Wr b w1 w' :=
      fun w1 r1 i1 l1 => (hM w1 r1 i1 l1).mono fun e w' ⟨q1, r', q0, q2, q3⟩ => ⟨q1, r', q0 h0, q2, q3⟩
    by_cases h2 : kd s a = 2
    · have hM2 := hM'
      rw [h2] at hM2
      by_cases hx : pB (tx s a) = true
      · have e0 : eC pB s a = 0 := by unfold eC; rw [if_neg h0, if_neg (by rw [hx]; simp)]
        refine (take_num w b s a r (pl s a) (sz s a) hs hl hp hz hb3 hw hx hS hM2).mono ?_
        rintro e w' ⟨rfl, r', hi', hl', hW⟩
        refine ⟨?_, fun _ => ⟨r', hi', hl'⟩, hW⟩
        unfold tkV erV
        rw [if_pos e0, if_pos e0, h2]
        rfl
      · have hx' : pB (tx s a) = false := by simpa using hx
        have e5 : eC pB s a = 5 := by unfold eC; rw [if_neg h0, if_pos ⟨h2, hx'⟩]
        refine (take_bad w b s a r (pl s a) (sz s a) hs hl hp hz hb3 hw hx' hS hM2).mono ?_
        rintro e w' ⟨rfl, hW⟩
        refine ⟨?_, fun h => by omega, hW⟩
        unfold tkV erV
        rw [e5]
        rfl
    · have e0 : eC pB s a = 0 := by unfold eC; rw [if_neg h0, if_neg (fun h => h2 h.1)]
      refine (take_word w b s a r (pl s a) (kd s a) (sz s a) hs hl hp hz (by rw [beq_eq_false_iff_ne]; omega) (by rw [beq_eq_false_iff_ne]; omega) hS hM').mono ?_
      rintro e w' ⟨rfl, r', hi', hl', hW⟩
      refine ⟨?_, fun _ => ⟨r', hi', hl'⟩, hW⟩
      unfold tkV erV
      rw [if_pos e0, if_pos e0]
      rfl
end Go.Proofs.YtmnpcbcnjnklnaaGreatDoor
