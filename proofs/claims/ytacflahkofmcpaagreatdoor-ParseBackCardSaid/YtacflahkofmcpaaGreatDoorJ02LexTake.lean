/- What num.Parse and num.Text answer, in every world in which the package-level variables read as their initialisers lay them. -/
import Derived.Test.YtacflahkofmcpaaGreatDoorShelf
import Derived.WalkKit
import Derived.WalkSpells
import Derived.WalkLawsBesides
import Derived.WalkSmall
import Derived.Lib.AtoiErrMem
import Derived.Lib.AppendIntMem
import Derived.Test.YtacflahkofmcpaaGreatDoorJ00LexMeasure
import Derived.Laws.ResultCell
namespace Go.Proofs.YtacflahkofmcpaaGreatDoor
open Go.RowKit

/-- The world has grown; nothing that was there has turned. -/
def On (w w' : World) : Prop := Below w.heap.size w w'
theorem On.refl (w : World) : On w w := Below.refl _ _
theorem On.trans {a b c : World} (h : On a b) (k : On b c) : On a c := Below.trans h (Below.mono k h.size)

def signTexts : List ByteArray := [⟨#[]⟩, ⟨#[43]⟩, ⟨#[45]⟩, ⟨#[42]⟩, ⟨#[38]⟩, ⟨#[124]⟩, ⟨#[94]⟩, ⟨#[60, 60]⟩, ⟨#[62, 62]⟩, ⟨#[61, 61]⟩, ⟨#[33, 61]⟩, ⟨#[60]⟩]

/-- The listed variables hold what their initialisers lay. -/
structure Lw (w : World) : Prop where
  tab : Lib.TabIs Tryz.prog w "internal/strconv.uint64pow10" .u64 Lib.pow10Tab
  syn : ∃ tp p, w.var? Tryz.prog "strconv.ErrSyntax" = some #[.iface tp p]
  rng : ∃ tp p, w.var? Tryz.prog "strconv.ErrRange" = some #[.iface tp p]
  sgs : w.var? Tryz.prog "jacquard/num.signs" = some (signTexts.map Value.string).toArray

theorem gTab : Tryz.prog.globalNamed "internal/strconv.uint64pow10" = some 5 := by kernel_rfl
theorem gSyn : Tryz.prog.globalNamed "strconv.ErrSyntax" = some 3 := by kernel_rfl
theorem gRng : Tryz.prog.globalNamed "strconv.ErrRange" = some 4 := by kernel_rfl
theorem gSgs : Tryz.prog.globalNamed "jacquard/num.signs" = some 0 := by kernel_rfl

theorem lt_of_var {w : World} {g : Nat} {n : String} {cs : Array Value} (hg : Tryz.prog.globalNamed n = some g) (h : w.var? Tryz.prog n = some cs) : g < w.heap.size := by
  unfold World.var? at h
  simp only [hg, Option.bind_some] at h
  rcases Nat.lt_or_ge g w.heap.size with h' | h'
  · exact h'
  · simp [Array.getElem?_eq_none h'] at h

theorem Lw.on {w w' : World} (h : Lw w) (k : On w w') : Lw w' := by
  refine ⟨var?_below k gTab (lt_of_var gTab h.tab) h.tab, ?_, ?_, var?_below k gSgs (lt_of_var gSgs h.sgs) h.sgs⟩
  · obtain ⟨tp, p, e⟩ := h.syn
    exact ⟨tp, p, var?_below k gSyn (lt_of_var gSyn e) e⟩
  · obtain ⟨tp, p, e⟩ := h.rng
    exact ⟨tp, p, var?_below k gRng (lt_of_var gRng e) e⟩

theorem Lw.lt {w : World} (h : Lw w) : 6 ≤ w.heap.size := by
  have h1 := lt_of_var gTab h.tab
  obtain ⟨_, _, e2⟩ := h.syn
  have h2 := lt_of_var gSyn e2
  obtain ⟨_, _, e3⟩ := h.rng
  have h3 := lt_of_var gRng e3
  have h4 := lt_of_var gSgs h.sgs
  omega

theorem text_any (n : Int) (h0 : -9223372036854775808 ≤ n) (h1 : n ≤ 9223372036854775807) (w : World) (hw : Lw w) :
    Calls Tryz.prog 176 #[.int .i64 n] w fun e w' => e = .returned (.string ⟨(Lib.itoa n).toArray⟩) ∧ On w w' := by
  have htab := hw.tab
  clear hw
  go_enter Tryz.func176, Tryz.ntmps176
  go_wp2_with (go_at_call 183; refine (Any.strconv_FormatInt_10 Tryz.laysM173 n h0 h1 _ htab).mono ?_; rintro e w' ⟨rfl, k, os, rfl⟩)
  go_ret
  exact ⟨rfl, Lib.below_grow _ _ (Nat.le_refl _) _ _⟩

/-- What Parse answers of these bytes. -/
def parseV (l : List UInt8) : Option Int :=
  match Lib.parseIntB 64 l with
  | .ok v => if Lib.itoa v = l then some v else none
  | _ => none

theorem parseIntB_bound {l : List UInt8} {v : Int} (h : Lib.parseIntB 64 l = .ok v) : -9223372036854775808 ≤ v ∧ v ≤ 9223372036854775807 := by
  unfold Lib.parseIntB at h
  cases l with
  | nil => simp at h
  | cons c r =>
    simp only at h
    split at h
    · cases h
    · cases h
    · rename_i u _
      split at h
      · cases h
      · split at h
        · cases h
        · simp only [Lib.NumEnd.ok.injEq] at h
          split at h <;> omega

theorem pint_ok (s : ByteArray) (hs : s.size ≤ 281474976710656) (v : Int) (h : Lib.parseIntB 64 s.data.toList = .ok v) (w : World) :
    Calls Tryz.prog 175 #[.string s, .int .i64 10, .int .i64 64] w fun e w' => e = .returned (.tuple #[.int .i64 v, .nilIface]) ∧ On w w' := by
  refine (Any.strconv_ParseInt_10_at64_ok Tryz.laysC174 s (by omega) v h w).mono ?_
  rintro e w' ⟨rfl, rfl | ⟨t, rfl⟩⟩
  · exact ⟨rfl, On.refl _⟩
  · exact ⟨rfl, Lib.bytesWorld_below _ _ _⟩

theorem pint_no (s : ByteArray) (hs : s.size ≤ 281474976710656) (h : ∀ v, Lib.parseIntB 64 s.data.toList ≠ .ok v) (w : World) (hw : Lw w) :
    Calls Tryz.prog 175 #[.string s, .int .i64 10, .int .i64 64] w fun e w' => ∃ v tp p, e = .returned (.tuple #[.int .i64 v, .iface tp p]) ∧ On w w' := by
  cases hc : Lib.parseIntB 64 s.data.toList
  case ok v => exact absurd hc (h v)
  case range =>
    obtain ⟨tp, p, hv⟩ := hw.rng
    refine (Any.strconv_ParseInt_10_at64_range_var Tryz.laysC174 s hs hc tp p w hv).mono ?_
    rintro e w' ⟨N, rfl, _, _, hb⟩
    exact ⟨_, _, _, rfl, hb⟩
  all_goals
    obtain ⟨tp, p, hv⟩ := hw.syn
    refine (Any.strconv_ParseInt_10_at64_syntax_var Tryz.laysC174 s hs hc tp p w hv).mono ?_
    rintro e w' ⟨N, rfl, _, _, hb⟩
    exact ⟨_, _, _, rfl, hb⟩

theorem text_at (n : Int) (s : ByteArray) (h0 : -9223372036854775808 ≤ n) (h1 : n ≤ 9223372036854775807) (he : Lib.itoa n = s.data.toList) (w : World) (hw : Lw w) :
    Calls Tryz.prog 176 #[.int .i64 n] w fun e w' => e = .returned (.string s) ∧ On w w' := by
  refine (text_any n h0 h1 w hw).mono ?_
  rintro e w' ⟨rfl, hb⟩
  rw [he]
  exact ⟨rfl, hb⟩

theorem text_off (n : Int) (s : ByteArray) (h0 : -9223372036854775808 ≤ n) (h1 : n ≤ 9223372036854775807) (he : Lib.itoa n ≠ s.data.toList) (w : World) (hw : Lw w) :
    Calls Tryz.prog 176 #[.int .i64 n] w fun e w' => ∃ t : ByteArray, e = .returned (.string t) ∧ (t.toList == s.toList) = false ∧ On w w' := by
  refine (text_any n h0 h1 w hw).mono ?_
  rintro e w' ⟨rfl, hb⟩
  refine ⟨_, rfl, ?_, hb⟩
  rw [ByteArray.toList_eq, ByteArray.toList_eq]
  simpa using he

set_option maxHeartbeats 400000 in
theorem parse_ok (s : ByteArray) (hs : s.size ≤ 281474976710656) (v : Int) (h : Lib.parseIntB 64 s.data.toList = .ok v) (he : Lib.itoa v = s.data.toList) (w : World) (hw : Lw w) :
    Calls Tryz.prog 155 #[.string s] w fun e w' => e = .returned (.tuple #[.int .i64 v, .bool true]) ∧ On w w' := by
  obtain ⟨h0, h1⟩ := parseIntB_bound h
  have hP := pint_ok s hs v h w
  have hT : ∀ w1, On w w1 → Calls Tryz.prog 176 #[.int .i64 v] w1 fun e w' => e = .returned (.string s) ∧ On w1 w' := fun w1 k => text_at v s h0 h1 he w1 (hw.on k)
  clear h he hs hw h0 h1
  go_enter Tryz.func155, Tryz.ntmps155
  go_wp2_with (first | (go_at_call 175; refine hP.mono ?_; rintro e w1 ⟨rfl, hW1⟩) | (go_at_call 176; refine (hT _ hW1).mono ?_; rintro e w2 ⟨rfl, hW2⟩))
  go_ret2
  exact ⟨rfl, hW1.trans hW2⟩

set_option maxHeartbeats 400000 in
theorem parse_off (s : ByteArray) (hs : s.size ≤ 281474976710656) (v : Int) (h : Lib.parseIntB 64 s.data.toList = .ok v) (he : Lib.itoa v ≠ s.data.toList) (w : World) (hw : Lw w) :
    Calls Tryz.prog 155 #[.string s] w fun e w' => e = .returned (.tuple #[.int .i64 0, .bool false]) ∧ On w w' := by
  obtain ⟨h0, h1⟩ := parseIntB_bound h
  have hP := pint_ok s hs v h w
  have hT : ∀ w1, On w w1 → Calls Tryz.prog 176 #[.int .i64 v] w1 fun e w' => ∃ t : ByteArray, e = .returned (.string t) ∧ (t.toList == s.toList) = false ∧ On w1 w' := fun w1 k => text_off v s h0 h1 he w1 (hw.on k)
  clear h he hs hw h0 h1
  go_enter Tryz.func155, Tryz.ntmps155
  go_wp2_with (first | (go_at_call 175; refine hP.mono ?_; rintro e w1 ⟨rfl, hW1⟩) | (go_at_call 176; refine (hT _ hW1).mono ?_; rintro e w2 ⟨t, rfl, hne, hW2⟩))
  go_ret2
  exact ⟨rfl, hW1.trans hW2⟩

set_option maxHeartbeats 400000 in
theorem parse_no (s : ByteArray) (hs : s.size ≤ 281474976710656) (h : ∀ v, Lib.parseIntB 64 s.data.toList ≠ .ok v) (w : World) (hw : Lw w) :
    Calls Tryz.prog 155 #[.string s] w fun e w' => e = .returned (.tuple #[.int .i64 0, .bool false]) ∧ On w w' := by
  have hP := pint_no s hs h w hw
  clear h hs hw
  go_enter Tryz.func155, Tryz.ntmps155
  go_wp2_with (go_at_call 175; refine hP.mono ?_; rintro e w1 ⟨v, tp, p, rfl, hW1⟩)
  go_ret2
  exact ⟨rfl, hW1⟩

/-- PARSE at every text that is not beyond any machine. -/
def pN (s : ByteArray) : Int := (parseV s.data.toList).getD 0
def pB (s : ByteArray) : Bool := (parseV s.data.toList).isSome
theorem parse_is (s : ByteArray) (hs : s.size ≤ 281474976710656) (w : World) (hw : Lw w) :
    Calls Tryz.prog 155 #[.string s] w fun e w' => e = .returned (.tuple #[.int .i64 (pN s), .bool (pB s)]) ∧ On w w' := by
  unfold pN pB parseV
  cases hc : Lib.parseIntB 64 s.data.toList
  case ok v =>
    by_cases he : Lib.itoa v = s.data.toList
    · simp only [he, if_true]
      exact parse_ok s hs v hc he w hw
    · simp only [he, if_false]
      exact parse_off s hs v hc he w hw
  all_goals exact parse_no s hs (fun v h => by rw [hc] at h; cases h) w hw

end Go.Proofs.YtacflahkofmcpaaGreatDoor

namespace Go.Proofs.YtacflahkofmcpaaGreatDoor
open Go.RowKit

theorem isNumber_is (x : ByteArray) (hx : x.size ≤ 281474976710656) (w : World) (hw : Lw w) :
    Calls Tryz.prog 151 #[.string x] w fun e w' => e = .returned (.bool (pB x)) ∧ On w w' := by
  have hP := parse_is x hx w hw
  clear hw
  go_enter Tryz.func151, Tryz.ntmps151
  go_wp2_with (go_at_call 155; refine hP.mono ?_; rintro e w1 ⟨rfl, hW1⟩)
  go_ret
  exact ⟨rfl, hW1⟩

theorem Wr.alloc {b : Nat} {x y : World} (h : Wr b x y) (o : Obj) : Wr b x (y.alloc o) := h.trans (World.grownBy_alloc _ _ _)
theorem Wr.setNew {b i N : Nat} {x y : World} (h : Wr b x y) (hN : x.heap.size ≤ N) (u : Value) : Wr b x (y.setCell ⟨N, i, none⟩ u) :=
  ⟨h.os, h.tape, h.output, by simpa [World.setCell] using h.size, fun k hk hne => (Below.heap_setCell _ _ _ _ (fun e => by simp at e; omega)).trans (h.block k hk hne)⟩
theorem Wr.on {b : Nat} {x y z : World} (h : Wr b x y) (k : On y z) : Wr b x z :=
  h.trans ⟨k.os, k.tape, k.output, k.size, fun i hi _ => k.block i hi⟩
theorem Wr.of_on {b : Nat} {x y : World} (k : On x y) : Wr b x y := (Wr.refl _ _).on k
theorem Lx.alloc {w : World} {b : Nat} {s : ByteArray} {a r : Nat} (h : Lx w b s a r) (o : Obj) : Lx (w.alloc o) b s a r := by
  obtain ⟨T, e⟩ := h.blk
  exact ⟨T, (Below.heap_alloc _ _ _ h.lt).trans e⟩
theorem Lx.on {w w' : World} {b : Nat} {s : ByteArray} {a r : Nat} (h : Lx w b s a r) (k : On w w') : Lx w' b s a r := by
  obtain ⟨T, e⟩ := h.blk
  exact ⟨T, (k.block b h.lt).trans e⟩
theorem Lx.far {w w' : World} {b b' : Nat} {s : ByteArray} {a r : Nat} (h : Lx w b s a r) (k : Wr b' w w') (hne : b ≠ b') : Lx w' b s a r := by
  obtain ⟨T, e⟩ := h.blk
  exact ⟨T, (k.block b h.lt (by simpa using hne)).trans e⟩
theorem Lx.setFar {w : World} {b N i : Nat} {s : ByteArray} {a r : Nat} (h : Lx w b s a r) (hne : b ≠ N) (u : Value) : Lx (w.setCell ⟨N, i, none⟩ u) b s a r := by
  obtain ⟨T, e⟩ := h.blk
  exact ⟨T, (Below.heap_setCell _ _ _ _ hne).trans e⟩

theorem var_wr {w w' : World} {b g : Nat} {n : String} {cs : Array Value} (k : Wr b w w') (hg : Tryz.prog.globalNamed n = some g) (hne : g ≠ b) (h : w.var? Tryz.prog n = some cs) : w'.var? Tryz.prog n = some cs := by
  have hlt := lt_of_var hg h
  unfold World.var? at h ⊢
  simp only [hg, Option.bind_some] at h ⊢
  rw [k.block g hlt (by simpa using hne)]
  exact h
theorem Lw.wr {w w' : World} {b : Nat} (h : Lw w) (k : Wr b w w') (hb : 6 ≤ b) : Lw w' := by
  refine ⟨var_wr k gTab (by omega) h.tab, ?_, ?_, var_wr k gSgs (by omega) h.sgs⟩
  · obtain ⟨tp, p, e⟩ := h.syn
    exact ⟨tp, p, var_wr k gSyn (by omega) e⟩
  · obtain ⟨tp, p, e⟩ := h.rng
    exact ⟨tp, p, var_wr k gRng (by omega) e⟩
theorem On.alloc {w w' : World} (h : On w w') (o : Obj) : On w (w'.alloc o) := Below.alloc h h.size o

theorem results_cells2 {fn : Func} {p u : Tmp} {tp tu : TypeId} (h : fn.results = #[.cell p tp, .cell u tu]) (tmps : Array Value) (P : Program) (w : World) :
    (results fn tmps).run P w =
      ((asAddr (tmps.getD p undef)).run P w).andThen fun a w₁ => ((loadVar tp a).run P w₁).andThen fun v w₂ => ((asAddr (tmps.getD u undef)).run P w₂).andThen fun a' w₃ => ((loadVar tu a').run P w₃).andThen fun v' w₄ => .ok (.tuple #[v, v']) w₄ := by
  simp only [results, h]
  simp [Sem.run_bind, Result.andThen]

/-- Two blocks that the call has laid for its results: a token's and an error's. -/
structure Rs (w : World) (N : Nat) : Prop where
  t : w.heap[N]? = some (.cells #[.int .i64 0, .string ⟨#[]⟩, .int .i64 0] 71 (0, 0))
  e : w.heap[N + 1]? = some (.cells #[.int .i64 0, .int .i64 0] 36 (0, 0))
theorem Rs.new (w : World) : Rs ((w.alloc (.cells #[.int .i64 0, .string ⟨#[]⟩, .int .i64 0] 71)).alloc (.cells #[.int .i64 0, .int .i64 0] 36)) w.heap.size := by
  refine ⟨?_, ?_⟩
  · rw [Below.heap_alloc _ _ _ (by simp)]
    exact heap_alloc_new _ _
  · have := heap_alloc_new (w.alloc (.cells #[.int .i64 0, .string ⟨#[]⟩, .int .i64 0] 71)) (.cells #[.int .i64 0, .int .i64 0] 36)
    simpa using this
theorem Rs.wr {w w' : World} {N b : Nat} (h : Rs w N) (k : Wr b w w') (hb : b < N) : Rs w' N :=
  ⟨(k.block N (lt_of_block h.t) (by simp; omega)).trans h.t, (k.block (N + 1) (lt_of_block h.e) (by simp; omega)).trans h.e⟩
theorem Rs.on {w w' : World} {N : Nat} (h : Rs w N) (k : On w w') : Rs w' N :=
  ⟨(k.block N (lt_of_block h.t)).trans h.t, (k.block (N + 1) (lt_of_block h.e)).trans h.e⟩
section
variable {w : World} {N : Nat}
theorem Rs.t0 (h : Rs w N) : w.cell? ⟨N, 0, none⟩ = some (.int .i64 0) := by simp [World.cell?, h.t]
theorem Rs.t1 (h : Rs w N) : w.cell? ⟨N, 1, none⟩ = some (.string ⟨#[]⟩) := by simp [World.cell?, h.t]
theorem Rs.t2 (h : Rs w N) : w.cell? ⟨N, 2, none⟩ = some (.int .i64 0) := by simp [World.cell?, h.t]
theorem Rs.e0 (h : Rs w N) : w.cell? ⟨N + 1, 0, none⟩ = some (.int .i64 0) := by simp [World.cell?, h.e]
theorem Rs.e1 (h : Rs w N) : w.cell? ⟨N + 1, 1, none⟩ = some (.int .i64 0) := by simp [World.cell?, h.e]
theorem Rs.ft (h : Rs w N) (i : Nat) : w.frozen? ⟨N, i, none⟩ = false := by simp [World.frozen?, h.t]
theorem Rs.fe (h : Rs w N) (i : Nat) : w.frozen? ⟨N + 1, i, none⟩ = false := by simp [World.frozen?, h.e]
theorem Rs.lt (h : Rs w N) : N + 1 < w.heap.size := lt_of_block h.e
end

section
variable (w : World) (b : Nat) (s : ByteArray) (a r p K z : Nat)
set_option maxHeartbeats 1000000
theorem take_none (hs : s.size ≤ 140737488351232) (hl : Lx w b s a r) (hp : p ≤ s.size) (hz : p + z ≤ s.size)
    (hS : ∀ w1, Lx w1 b s a r → Calls Tryz.prog 149 #[.pointer (some ⟨b, 0, none⟩)] w1 fun e w' => e = .returned (.tuple #[]) ∧ ∃ r', Inv s p r' ∧ Lx w' b s p r' ∧ Wr b w1 w')
    (hM : ∀ w1 r1, Inv s p r1 → Lx w1 b s p r1 → Calls Tryz.prog 150 #[.pointer (some ⟨b, 0, none⟩)] w1 fun e w' => e = .returned (.tuple #[.int .i64 0, .int .i64 z]) ∧ ∃ r', Lx w' b s p r' ∧ Wr b w1 w') :
    Calls Tryz.prog 114 #[.pointer (some ⟨b, 0, none⟩)] w fun e w' => e = .returned (.tuple #[.agg #[.int .i64 0, .string ⟨#[]⟩, .int .i64 0], .agg #[.int .i64 4, .int .i64 p]]) ∧ Wr b w w' := by
  have hR0 := Rs.new w
  have hb := hl.lt
  have hl0 := (hl.alloc (.cells #[.int .i64 0, .string ⟨#[]⟩, .int .i64 0] 71)).alloc (.cells #[.int .i64 0, .int .i64 0] 36)
  have hw0 : Wr b w ((w.alloc (.cells #[.int .i64 0, .string ⟨#[]⟩, .int .i64 0] 71)).alloc (.cells #[.int .i64 0, .int .i64 0] 36)) := ((Wr.refl b w).alloc _).alloc _
  go_enter Tryz.func114, Tryz.ntmps114
  go_wp2_with (first | (go_at_call 149; refine (hS _ hl0).mono ?_; rintro e w1 ⟨rfl, r1, hi1, hl1, hw1⟩) | (go_at_call 150; refine (hM _ _ hi1 hl1).mono ?_; rintro e w2 ⟨rfl, r2, hl2, hw2⟩))
  have hR2 := (hR0.wr hw1 hb).wr hw2 hb
  have c0 := hl2.c0
  have c1 := hl2.c1
  have t0 := hR2.t0
  have t1 := hR2.t1
  have t2 := hR2.t2
  have e0 := hR2.e0
  have e1 := hR2.e1
  have ft0 := hR2.ft 0
  have ft1 := hR2.ft 1
  have ft2 := hR2.ft 2
  have fe0 := hR2.fe 0
  have fe1 := hR2.fe 1
  go_region
  all_goals (try go_wp2)
  go_region
  all_goals (try go_wp2)
  all_goals (try simp only [Exit.inBlock, Exit.then])
  all_goals refine bodyPost_ret (v := .tuple #[.agg #[.int .i64 0, .string ⟨#[]⟩, .int .i64 0], .agg #[.int .i64 4, .int .i64 p]]) ?_ rfl ⟨rfl, ?_⟩
  · rw [results_cells2 rfl]
    go_simp
  · exact (((((((hw0.trans hw1).trans hw2).setNew (Nat.le_refl _) _).setNew (Nat.le_refl _) _).setNew (Nat.le_refl _) _).setNew (Nat.le_succ _) _).setNew (Nat.le_succ _) _).drew.drew

theorem take_bad (hs : s.size ≤ 140737488351232) (hl : Lx w b s a r) (hp : p ≤ s.size) (hz : p + z ≤ s.size) (hb3 : 6 ≤ b) (hw : Lw w) (hx : pB (s.extract p (p + z)) = false)
    (hS : ∀ w1, Lx w1 b s a r → Calls Tryz.prog 149 #[.pointer (some ⟨b, 0, none⟩)] w1 fun e w' => e = .returned (.tuple #[]) ∧ ∃ r', Inv s p r' ∧ Lx w' b s p r' ∧ Wr b w1 w')
    (hM : ∀ w1 r1, Inv s p r1 → Lx w1 b s p r1 → Calls Tryz.prog 150 #[.pointer (some ⟨b, 0, none⟩)] w1 fun e w' => e = .returned (.tuple #[.int .i64 2, .int .i64 z]) ∧ ∃ r', Inv s (p + z) r' ∧ Lx w' b s p r' ∧ Wr b w1 w') :
    Calls Tryz.prog 114 #[.pointer (some ⟨b, 0, none⟩)] w fun e w' => e = .returned (.tuple #[.agg #[.int .i64 0, .string ⟨#[]⟩, .int .i64 0], .agg #[.int .i64 5, .int .i64 p]]) ∧ Wr b w w' := by
  have hR0 := Rs.new w
  have hb := hl.lt
  have hl0 := (hl.alloc (.cells #[.int .i64 0, .string ⟨#[]⟩, .int .i64 0] 71)).alloc (.cells #[.int .i64 0, .int .i64 0] 36)
  have hw0 : Wr b w ((w.alloc (.cells #[.int .i64 0, .string ⟨#[]⟩, .int .i64 0] 71)).alloc (.cells #[.int .i64 0, .int .i64 0] 36)) := ((Wr.refl b w).alloc _).alloc _
  have hI : ∀ w1, Lw w1 → Calls Tryz.prog 151 #[.string (s.extract p (p + z))] w1 fun e w' => e = .returned (.bool false) ∧ On w1 w' := by
    intro w1 h
    have := isNumber_is (s.extract p (p + z)) (by rw [ByteArray.size_extract]; omega) w1 h
    rw [hx] at this
    exact this
  clear hx
  go_enter Tryz.func114, Tryz.ntmps114
  go_wp2_with (first | (go_at_call 149; refine (hS _ hl0).mono ?_; rintro e w1 ⟨rfl, r1, hi1, hl1, hw1⟩) | (go_at_call 150; refine (hM _ _ hi1 hl1).mono ?_; rintro e w2 ⟨rfl, r2, hi2, hl2, hw2⟩))
  have hR2 := (hR0.wr hw1 hb).wr hw2 hb
  have hL2 : Lw w2.drew := hw.wr ((hw0.trans hw1).trans hw2).drew hb3
  have HW : Hid (Wr b w w2) := (hw0.trans hw1).trans hw2
  have d0 := hl2.c0
  have d1 := hl2.c1
  clear hw
  go_region
  all_goals (try go_wp2_with (go_at_call 151; refine (hI _ hL2).mono ?_; rintro e w3 ⟨rfl, hw3⟩))
  have hl3 : Lx w3 b s p r2 := hl2.drew.on hw3
  have hR3 : Rs w3 w.heap.size := Rs.on (w := w2.drew) ⟨hR2.t, hR2.e⟩ hw3
  have c0 := hl3.c0
  have c1 := hl3.c1
  have f1 := hl3.f1
  have t0 := hR3.t0
  have t1 := hR3.t1
  have t2 := hR3.t2
  have e0 := hR3.e0
  have e1 := hR3.e1
  have ft0 := hR3.ft 0
  have ft1 := hR3.ft 1
  have ft2 := hR3.ft 2
  have fe0 := hR3.fe 0
  have fe1 := hR3.fe 1
  have hN := hR3.lt
  go_region
  all_goals (try go_wp2)
  all_goals (try simp only [Exit.inBlock, Exit.then])
  refine bodyPost_ret (v := .tuple #[.agg #[.int .i64 0, .string ⟨#[]⟩, .int .i64 0], .agg #[.int .i64 5, .int .i64 p]]) ?_ rfl ⟨rfl, ?_⟩
  · rw [results_cells2 rfl]
    go_simp
  · exact ((((((HW.out.drew.on hw3).setNew (Nat.le_refl _) _).setNew (Nat.le_refl _) _).setNew (Nat.le_refl _) _).setNew (Nat.le_succ _) _).setNew (Nat.le_succ _) _).drew

theorem take_num (hs : s.size ≤ 140737488351232) (hl : Lx w b s a r) (hp : p ≤ s.size) (hz : p + z ≤ s.size) (hb3 : 6 ≤ b) (hw : Lw w) (hx : pB (s.extract p (p + z)) = true)
    (hS : ∀ w1, Lx w1 b s a r → Calls Tryz.prog 149 #[.pointer (some ⟨b, 0, none⟩)] w1 fun e w' => e = .returned (.tuple #[]) ∧ ∃ r', Inv s p r' ∧ Lx w' b s p r' ∧ Wr b w1 w')
    (hM : ∀ w1 r1, Inv s p r1 → Lx w1 b s p r1 → Calls Tryz.prog 150 #[.pointer (some ⟨b, 0, none⟩)] w1 fun e w' => e = .returned (.tuple #[.int .i64 2, .int .i64 z]) ∧ ∃ r', Inv s (p + z) r' ∧ Lx w' b s p r' ∧ Wr b w1 w') :
    Calls Tryz.prog 114 #[.pointer (some ⟨b, 0, none⟩)] w fun e w' => e = .returned (.tuple #[.agg #[.int .i64 2, .string (s.extract p (p + z)), .int .i64 p], .agg #[.int .i64 0, .int .i64 0]]) ∧ ∃ r', Inv s (p + z) r' ∧ Lx w' b s (p + z) r' ∧ Wr b w w' := by
  have hR0 := Rs.new w
  have hb := hl.lt
  have hl0 := (hl.alloc (.cells #[.int .i64 0, .string ⟨#[]⟩, .int .i64 0] 71)).alloc (.cells #[.int .i64 0, .int .i64 0] 36)
  have hw0 : Wr b w ((w.alloc (.cells #[.int .i64 0, .string ⟨#[]⟩, .int .i64 0] 71)).alloc (.cells #[.int .i64 0, .int .i64 0] 36)) := ((Wr.refl b w).alloc _).alloc _
  have hI : ∀ w1, Lw w1 → Calls Tryz.prog 151 #[.string (s.extract p (p + z))] w1 fun e w' => e = .returned (.bool true) ∧ On w1 w' := by
    intro w1 h
    have := isNumber_is (s.extract p (p + z)) (by rw [ByteArray.size_extract]; omega) w1 h
    rw [hx] at this
    exact this
  clear hx
  go_enter Tryz.func114, Tryz.ntmps114
  go_wp2_with (first | (go_at_call 149; refine (hS _ hl0).mono ?_; rintro e w1 ⟨rfl, r1, hi1, hl1, hw1⟩) | (go_at_call 150; refine (hM _ _ hi1 hl1).mono ?_; rintro e w2 ⟨rfl, r2, hi2, hl2, hw2⟩))
  have hR2 := (hR0.wr hw1 hb).wr hw2 hb
  have hL2 : Lw w2.drew := hw.wr ((hw0.trans hw1).trans hw2).drew hb3
  have HW : Hid (Wr b w w2) := (hw0.trans hw1).trans hw2
  have d0 := hl2.c0
  have d1 := hl2.c1
  clear hw
  go_region
  all_goals (try go_wp2_with (first | (go_at_call 151; refine (hI _ hL2).mono ?_; rintro e w3 ⟨rfl, hw3⟩; have hl3 : Lx w3 b s p r2 := hl2.drew.on hw3; have hR3 : Rs w3 w.heap.size := Rs.on (w := w2.drew) ⟨hR2.t, hR2.e⟩ hw3; have c1 := hl3.c1; have f1 := hl3.f1; have hlb := hl3.lt; have hN := hR3.lt; have hN0 := Nat.lt_of_succ_lt hN; have t0 := hR3.t0; have t1 := hR3.t1; have t2 := hR3.t2; have e0 := hR3.e0; have e1 := hR3.e1; have ft0 := hR3.ft 0; have ft1 := hR3.ft 1; have ft2 := hR3.ft 2; have fe0 := hR3.fe 0; have fe1 := hR3.fe 1)))
  have hn0 : b ≠ w.heap.size := Nat.ne_of_lt hb
  have hn1 : b ≠ w.heap.size + 1 := Nat.ne_of_lt (Nat.lt_succ_of_lt hb)
  all_goals (try simp only [Exit.inBlock, Exit.then])
  refine bodyPost_ret (v := .tuple #[.agg #[.int .i64 2, .string (s.extract p (p + z)), .int .i64 p], .agg #[.int .i64 0, .int .i64 0]]) ?_ rfl ⟨rfl, r2, hi2, ?_, ?_⟩
  · rw [results_cells2 rfl]
    go_simp
  · exact ((((((hl3.to1 (n := p + z) (by omega)).setFar hn0 _).setFar hn0 _).setFar hn0 _).setFar hn1 _).setFar hn1 _).alloc _
  · exact (((((((HW.out.drew.on hw3).set _).setNew (Nat.le_refl _) _).setNew (Nat.le_refl _) _).setNew (Nat.le_refl _) _).setNew (Nat.le_succ _) _).setNew (Nat.le_succ _) _).alloc _

theorem take_word (hs : s.size ≤ 140737488351232) (hl : Lx w b s a r) (hp : p ≤ s.size) (hz : p + z ≤ s.size) (h0 : ((K : Int) == 0) = false) (h2 : ((K : Int) == 2) = false)
    (hS : ∀ w1, Lx w1 b s a r → Calls Tryz.prog 149 #[.pointer (some ⟨b, 0, none⟩)] w1 fun e w' => e = .returned (.tuple #[]) ∧ ∃ r', Inv s p r' ∧ Lx w' b s p r' ∧ Wr b w1 w')
    (hM : ∀ w1 r1, Inv s p r1 → Lx w1 b s p r1 → Calls Tryz.prog 150 #[.pointer (some ⟨b, 0, none⟩)] w1 fun e w' => e = .returned (.tuple #[.int .i64 K, .int .i64 z]) ∧ ∃ r', Inv s (p + z) r' ∧ Lx w' b s p r' ∧ Wr b w1 w') :
    Calls Tryz.prog 114 #[.pointer (some ⟨b, 0, none⟩)] w fun e w' => e = .returned (.tuple #[.agg #[.int .i64 K, .string (s.extract p (p + z)), .int .i64 p], .agg #[.int .i64 0, .int .i64 0]]) ∧ ∃ r', Inv s (p + z) r' ∧ Lx w' b s (p + z) r' ∧ Wr b w w' := by
  have hR0 := Rs.new w
  have hb := hl.lt
  have hl0 := (hl.alloc (.cells #[.int .i64 0, .string ⟨#[]⟩, .int .i64 0] 71)).alloc (.cells #[.int .i64 0, .int .i64 0] 36)
  have hw0 : Wr b w ((w.alloc (.cells #[.int .i64 0, .string ⟨#[]⟩, .int .i64 0] 71)).alloc (.cells #[.int .i64 0, .int .i64 0] 36)) := ((Wr.refl b w).alloc _).alloc _
  go_enter Tryz.func114, Tryz.ntmps114
  go_wp2_with (first | (go_at_call 149; refine (hS _ hl0).mono ?_; rintro e w1 ⟨rfl, r1, hi1, hl1, hw1⟩) | (go_at_call 150; refine (hM _ _ hi1 hl1).mono ?_; rintro e w2 ⟨rfl, r2, hi2, hl2, hw2⟩))
  have hR2 := (hR0.wr hw1 hb).wr hw2 hb
  have HW : Hid (Wr b w w2) := (hw0.trans hw1).trans hw2
  have c0 := hl2.c0
  have c1 := hl2.c1
  have f1 := hl2.f1
  have hlb := hl2.lt
  have hN := hR2.lt
  have hN0 := Nat.lt_of_succ_lt hN
  have t0 := hR2.t0
  have t1 := hR2.t1
  have t2 := hR2.t2
  have e0 := hR2.e0
  have e1 := hR2.e1
  have ft0 := hR2.ft 0
  have ft1 := hR2.ft 1
  have ft2 := hR2.ft 2
  have fe0 := hR2.fe 0
  have fe1 := hR2.fe 1
  go_region
  all_goals (try go_wp2)
  have hn0 : b ≠ w.heap.size := Nat.ne_of_lt hb
  have hn1 : b ≠ w.heap.size + 1 := Nat.ne_of_lt (Nat.lt_succ_of_lt hb)
  all_goals (try simp only [Exit.inBlock, Exit.then])
  refine bodyPost_ret (v := .tuple #[.agg #[.int .i64 K, .string (s.extract p (p + z)), .int .i64 p], .agg #[.int .i64 0, .int .i64 0]]) ?_ rfl ⟨rfl, r2, hi2, ?_, ?_⟩
  · rw [results_cells2 rfl]
    go_simp
  · exact (((((((hl2.to1 (x := (p : Int) + (z : Int)) (n := p + z) (by omega)).setFar hn0 _).setFar hn0 _).setFar hn0 _).setFar hn1 _).setFar hn1 _).alloc _).drew
  · exact ((((((((HW.out).set _).setNew (Nat.le_refl _) _).setNew (Nat.le_refl _) _).setNew (Nat.le_refl _) _).setNew (Nat.le_succ _) _).setNew (Nat.le_succ _) _).alloc _).drew
end

/-- What take and Next answer. -/
def tkV (s : ByteArray) (a : Nat) : Value := if eC pB s a = 0 then .agg #[.int .i64 (kd s a), .string (tx s a), .int .i64 (pl s a)] else .agg #[.int .i64 0, .string ⟨#[]⟩, .int .i64 0]
def erV (s : ByteArray) (a : Nat) : Value := if eC pB s a = 0 then .agg #[.int .i64 0, .int .i64 0] else .agg #[.int .i64 (eC pB s a), .int .i64 (pl s a)]

theorem take_is (w : World) (b : Nat) (s : ByteArray) (a r : Nat) (hs : s.size ≤ 140737488351232) (hi : Inv s a r) (hl : Lx w b s a r) (hb3 : 6 ≤ b) (hw : Lw w) :
    Calls Tryz.prog 114 #[.pointer (some ⟨b, 0, none⟩)] w fun e w' => e = .returned (.tuple #[tkV s a, erV s a]) ∧ (eC pB s a = 0 → ∃ r', Inv s (to s a) r' ∧ Lx w' b s (to s a) r') ∧ Wr b w w' := by
  have hS : ∀ w1, Lx w1 b s a r → Calls Tryz.prog 149 #[.pointer (some ⟨b, 0, none⟩)] w1 fun e w' => e = .returned (.tuple #[]) ∧ ∃ r', Inv s (pl s a) r' ∧ Lx w' b s (pl s a) r' ∧ Wr b w1 w' :=
    fun w1 h => skip_is w1 b s a r hs hi h
  have hM := fun w1 r1 (hi1 : Inv s (pl s a) r1) (h1 : Lx w1 b s (pl s a) r1) => measure_is w1 b s (pl s a) r1 hs hi1 h1
  have hp := pl_le (s := s) hi.h4
  have hz := to_le (s := s) hi.h4
  have ek : kind (suf s (pl s a)) = kd s a := rfl
  have ez : tsize (suf s (pl s a)) = sz s a := rfl
  rw [ek, ez] at hM
  unfold to at hz
  by_cases h0 : kd s a = 0
  · have e4 : eC pB s a = 4 := by unfold eC; rw [if_pos h0]
    refine (take_none w b s a r (pl s a) (sz s a) hs hl hp hz hS (fun w1 r1 i1 l1 => (hM w1 r1 i1 l1).mono fun e w' ⟨q1, r', _, q2, q3⟩ => ⟨by rw [q1, h0]; rfl, r', q2, q3⟩)).mono ?_
    rintro e w' ⟨rfl, hW⟩
    refine ⟨?_, fun h => by omega, hW⟩
    unfold tkV erV
    rw [e4]
    rfl
  · have hM' : ∀ w1 r1, Inv s (pl s a) r1 → Lx w1 b s (pl s a) r1 → Calls Tryz.prog 150 #[.pointer (some ⟨b, 0, none⟩)] w1 fun e w' => e = .returned (.tuple #[.int .i64 (kd s a), .int .i64 (sz s a)]) ∧ ∃ r', Inv s (pl s a + sz s a) r' ∧ Lx w' b s (pl s a) r' ∧ Wr b w1 w' :=
      fun w1 r1 i1 l1 => (hM w1 r1 i1 l1).mono fun e w' ⟨q1, r', q0, q2, q3⟩ => ⟨q1, r', q0 h0, q2, q3⟩
    by_cases h2 : kd s a = 2
    · have hM2 := hM'
      rw [h2] at hM2
      by_cases hx : pB (tx s a) = true
      · have e0 : eC pB s a = 0 := by unfold eC; rw [if_neg h0, if_neg (by rw [hx]; simp)]
        refine (take_num w b s a r (pl s a) (sz s a) hs hl hp hz hb3 hw hx hS hM2).mono ?_
        rintro e w' ⟨rfl, r', hi', hl', hW⟩
        refine ⟨?_, fun _ => ⟨r', hi', hl'⟩, hW⟩
        unfold tkV erV
        rw [if_pos e0, if_pos e0, h2]
        rfl
      · have hx' : pB (tx s a) = false := by simpa using hx
        have e5 : eC pB s a = 5 := by unfold eC; rw [if_neg h0, if_pos ⟨h2, hx'⟩]
        refine (take_bad w b s a r (pl s a) (sz s a) hs hl hp hz hb3 hw hx' hS hM2).mono ?_
        rintro e w' ⟨rfl, hW⟩
        refine ⟨?_, fun h => by omega, hW⟩
        unfold tkV erV
        rw [e5]
        rfl
    · have e0 : eC pB s a = 0 := by unfold eC; rw [if_neg h0, if_neg (fun h => h2 h.1)]
      refine (take_word w b s a r (pl s a) (kd s a) (sz s a) hs hl hp hz (by rw [beq_eq_false_iff_ne]; omega) (by rw [beq_eq_false_iff_ne]; omega) hS hM').mono ?_
      rintro e w' ⟨rfl, r', hi', hl', hW⟩
      refine ⟨?_, fun _ => ⟨r', hi', hl'⟩, hW⟩
      unfold tkV erV
      rw [if_pos e0, if_pos e0]
      rfl
end Go.Proofs.YtacflahkofmcpaaGreatDoor
