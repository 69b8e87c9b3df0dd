/- What many texts ask for: lists, rows, tests as they are read. -/
import Derived.Test.YtioiabfheeglgaaGreatDoorJ01Puts
import Derived.BigQuiet
import Derived.Shelf.SlSortCmp.WholeK
import Derived.OrdersHeld
import Derived.Deep.RegionHeld3
import Derived.WalkKit
namespace Go.Proofs.YtioiabfheeglgaaGreatDoor
open Go.RowKit

theorem any_here {α : Type} {p : α → Bool} {L : List α} {i : Nat} {x : α} (h : L[i]? = some x) (hp : p x = true) : L.any p = true :=
 List.any_eq_true.2 ⟨x, List.mem_of_getElem? h, hp⟩
theorem drop_at {α : Type} {L : List α} {i : Nat} {x : α} (h : L[i]? = some x) : L.drop i = x :: L.drop (i + 1) := by
 obtain ⟨hi, rfl⟩ := List.getElem?_eq_some_iff.1 h
 exact List.drop_eq_getElem_cons hi
theorem all_not {α : Type} (p : α → Bool) (L : List α) : (!L.any (fun x => !p x)) = L.all p := by
 induction L with
 | nil => rfl
 | cons x L ih => simp only [List.any_cons, List.all_cons, ← ih]; cases p x <;> simp
theorem ret_bool {a b : Bool} (h : a = b) : Ending.returned (.bool a) = .returned (.bool b) := by rw [h]
/-- v is this test, and can be read. -/
structure TestRd (w : World) (v : Value) (t : TestT) : Prop where
 ex : ∃ a1 c1 a2 c2 a3 c3, v = .agg #[.string t.name, .slice a1 t.ini.length c1, .slice a2 t.thr.length c2, .int .i64 t.cond.k, .slice a3 t.cond.any.length c3] ∧ t.name.size ≤ 9223372036854775807 ∧
  Rd iniC 2 w (.slice a1 t.ini.length c1) t.ini ∧ Rd2 insC 9 w (.slice a2 t.thr.length c2) t.thr ∧ Rd2 atomC 4 w (.slice a3 t.cond.any.length c3) t.cond.any
theorem TestRd.on {w w' : World} {v : Value} {t : TestT} (h : TestRd w v t) (k : On w w') : TestRd w' v t := by
 obtain ⟨a1, c1, a2, c2, a3, c3, hv, hn, h1, h2, h3⟩ := h.ex
 exact ⟨a1, c1, a2, c2, a3, c3, hv, hn, h1.on k, h2.on k, h3.on k⟩

def byteV (b : UInt8) : Value := .int .u8 b.toNat
theorem infoByte : (Tryz.prog.info? 5).map (fun i => (i.zero, i.size, i.bytes)) = some (some (.int .u8 0), 1, 1) := by kernel_rfl
def byteC (b : UInt8) : List Value := [.int .u8 b.toNat]
theorem infoI64 : (Tryz.prog.info? 2).map (fun i => (i.zero, i.size, i.bytes)) = some (some (.int .i64 0), 1, 8) := by kernel_rfl
theorem set_split {α : Type} (A B : List α) (z x : α) : (A ++ z :: B).set A.length x = A ++ x :: B := by
 rw [List.set_append_right _ _ (Nat.le_refl _), Nat.sub_self, List.set_cons_zero]
theorem rep_succ {α : Type} (n : Nat) (x : α) : List.replicate (n + 1) x = x :: List.replicate n x := rfl
theorem own_lt {w : World} {base k n c g : Nat} {e : TypeId} {xs : List Value} (h : w.ownsRow base e k (.slice (some ⟨g, 0, none⟩) n c) n xs) : g < w.heap.size := by
 rcases h.2 with ⟨h0, _⟩ | ⟨g', cap, cur, hv, hb, hh, _⟩
 ·
  cases h0
 ·
  have := lt_of_block hh
  simp only [Value.slice.injEq, Option.some.injEq, Addr.mk.injEq] at hv
  omega
theorem puts9 (w : World) (N o : Nat) (v0 v1 v2 v3 v4 v5 v6 v7 v8 : Value) : (((((((((w.setCell ⟨N, o, none⟩ v0).setCell ⟨N, o + 1, none⟩ v1).setCell ⟨N, o + 2, none⟩ v2).setCell ⟨N, o + 3, none⟩ v3).setCell ⟨N, o + 4, none⟩ v4).setCell ⟨N, o + 5, none⟩ v5).setCell ⟨N, o + 6, none⟩ v6).setCell ⟨N, o + 7, none⟩ v7).setCell ⟨N, o + 8, none⟩ v8) = putCells w N o [v0, v1, v2, v3, v4, v5, v6, v7, v8] := rfl
theorem put_lt {w : World} {m : Nat} (h : m < w.heap.size) (N o : Nat) (vs : List Value) (T : Obj) : m < ((putCells w N o vs).alloc T).heap.size := by
 rw [World.size_alloc, size_puts]
 omega
theorem rd_bytes {w : World} {base : Nat} {e : TypeId} {a : Option Addr} {c : Nat} {LT : List UInt8} (h : w.ownsRow base e 1 (.slice a LT.length c) LT.length (LT.map byteV)) : Rd byteC 1 w (.slice a LT.length c) LT := by
 refine Rd.own (C := byteC) (k := 1) (fun _ => rfl) (base := base) (e := e) ?_
 have e1 : LT.flatMap byteC = LT.map byteV := by
  clear h
  induction LT with
  | nil => rfl
  | cons b LT ih => rw [List.flatMap_cons, ih]; rfl
 rw [e1]
 exact h
theorem ne_thr : (68 : TypeId) ≠ 67 := by decide
end Go.Proofs.YtioiabfheeglgaaGreatDoor

namespace Go.Proofs.YtioiabfheeglgaaGreatDoor
open Go.RowKit

/-- The world has grown; of what was there, block B alone may have turned. -/
def Wa (B : Nat) (w w' : World) : Prop := w.grownBy w' (some B)
section
variable {B : Nat} {w w' w'' x : World}
theorem Wa.refl (B : Nat) (w : World) : Wa B w w := World.grownBy.refl _ _
theorem Wa.trans (h : Wa B w w') (k : Wa B w' w'') : Wa B w w'' := World.grownBy.trans h k
theorem Wa.alloc (h : Wa B w w') (o : Obj) : Wa B w (w'.alloc o) := h.trans (World.grownBy_alloc _ _ _)
theorem Wa.on (h : On w w') : Wa B w w' := ⟨h.os, h.tape, h.output, h.size, fun k hk _ => h.block k hk⟩
theorem Wa.setAt (h : Wa B w w') (i : Nat) (u : Value) : Wa B w (w'.setCell ⟨B, i, none⟩ u) := by
 refine ⟨h.os, h.tape, h.output, by rw [size_set]; exact h.size, fun k hk hne => ?_⟩
 exact (Below.heap_setCell _ _ _ _ (fun e => hne (by rw [e]))).trans (h.block k hk hne)
theorem Wa.setNew (h : Wa B w w') {N : Nat} (hN : w.heap.size ≤ N) (i : Nat) (u : Value) : Wa B w (w'.setCell ⟨N, i, none⟩ u) := by
 refine ⟨h.os, h.tape, h.output, by rw [size_set]; exact h.size, fun k hk hne => ?_⟩
 exact (Below.heap_setCell _ _ _ _ (fun e => by have e' : k = N := e; omega)).trans (h.block k hk hne)
theorem Wa.grown {v : Value} (h : Wa B w w') (hg : w'.grownBy w'' v.ownBlock) (hv : ∀ g, v.ownBlock = some g → w.heap.size ≤ g) : Wa B w w'' :=
 ⟨hg.os.trans h.os, hg.tape.trans h.tape, hg.output.trans h.output, Nat.le_trans h.size hg.size, fun k hk hne => (hg.block k (Nat.lt_of_lt_of_le hk h.size) (fun e => by have := hv k e.symm; omega)).trans (h.block k hk hne)⟩
theorem Wa.drew (h : Wa B w w') : Wa B w w'.drew := ⟨h.os, h.tape, h.output, h.size, h.block⟩
theorem Bk.wa {N : Nat} {cs : Array Value} (h : Bk w N cs) (k : Wa B w w') (hne : N ≠ B) : Bk w' N cs := by
 obtain ⟨T, e⟩ := h
 exact ⟨T, (k.block N (lt_of_block e) (fun h => hne (Option.some.inj h))).trans e⟩
theorem own_wa {base k n : Nat} {e : TypeId} {v : Value} {xs : List Value} (h : w.ownsRow base e k v n xs) (kk : Wa B w w') (hB : B < base) : w'.ownsRow base e k v n xs := by
 refine ⟨h.1, ?_⟩
 rcases h.2 with h2 | ⟨g, cap, cur, hv, hb, hh, r⟩
 ·
  exact Or.inl h2
 ·
  exact Or.inr ⟨g, cap, cur, hv, hb, (kk.block g (lt_of_block hh) (fun h => by have := Option.some.inj h; omega)).trans hh, r⟩
theorem Own2.wa {α : Type} {C : α → List Value} {k : Nat} {eo ei : TypeId} {base : Nat} {v : Value} {LL : List (List α)} (h : Own2 C k eo ei w base v LL) (kk : Wa B w w') (hB : B < base) : Own2 C k eo ei w' base v LL := by
 obtain ⟨vs, h1, h2, h3⟩ := h
 exact ⟨vs, h1, own_wa h2 kk hB, fun i u L a b => own_wa (h3 i u L a b) kk hB⟩
theorem On.wa (h : On x w) (k : Wa B w w') (hB : x.heap.size ≤ B) : On x w' :=
 ⟨k.os.trans h.os, k.tape.trans h.tape, k.output.trans h.output, Nat.le_trans h.size k.size, fun i hi => (k.block i (Nat.lt_of_lt_of_le hi h.size) (fun e => by have := Option.some.inj e; omega)).trans (h.block i hi)⟩
end
def intC (z : Int) : List Value := [.int .i64 z]
end Go.Proofs.YtioiabfheeglgaaGreatDoor

namespace Go.Proofs.YtioiabfheeglgaaGreatDoor
open Go.RowKit

theorem nan8_is (x : Int) (w : World) : Calls Tryz.prog 103 #[.int .i64 x] w fun e w' => e = .returned (.bool false) ∧ w' = w := by
 have h : ((x : Int) != x) = false := by simp
 go_enter Tryz.func103, Tryz.ntmps103
 go_wp2
 go_ret
 exact ⟨rfl, rfl⟩
set_option maxHeartbeats 1000000 in
theorem cmp8_is (x y : Int) (w : World) : Calls Tryz.prog 89 #[.int .i64 x, .int .i64 y] w fun e w' => e = .returned (.int .i64 (cmpI x y)) ∧ w' = w := by
 have h1 := nan8_is x
 have h2 := nan8_is y
 unfold cmpI
 by_cases a : x < y
 ·
  have da : decide (x < y) = true := decide_eq_true a
  rw [if_pos a]
  go_enter Tryz.func89, Tryz.ntmps89
  go_wp2_with fail
  refine (h1 _).mono ?_
  rintro _ _ ⟨rfl, rfl⟩
  go_wp2_with fail
  refine (h2 _).mono ?_
  rintro _ _ ⟨rfl, rfl⟩
  go_wp2
  go_ret
  exact ⟨rfl, rfl⟩
 ·
  have da : decide (x < y) = false := decide_eq_false a
  rw [if_neg a]
  by_cases b : y < x
  ·
   have db : decide (y < x) = true := decide_eq_true b
   rw [if_pos b]
   go_enter Tryz.func89, Tryz.ntmps89
   go_wp2_with fail
   refine (h1 _).mono ?_
   rintro _ _ ⟨rfl, rfl⟩
   go_wp2_with fail
   refine (h2 _).mono ?_
   rintro _ _ ⟨rfl, rfl⟩
   go_wp2
   go_ret
   exact ⟨rfl, rfl⟩
  ·
   have db : decide (y < x) = false := decide_eq_false b
   rw [if_neg b]
   go_enter Tryz.func89, Tryz.ntmps89
   go_wp2_with fail
   refine (h1 _).mono ?_
   rintro _ _ ⟨rfl, rfl⟩
   go_wp2_with fail
   refine (h2 _).mono ?_
   rintro _ _ ⟨rfl, rfl⟩
   go_wp2
   go_ret
   exact ⟨rfl, rfl⟩
set_option maxHeartbeats 2000000 in
theorem scmp8_is (L M : List Int) (a b : Option Addr) (c d : Nat) (w : World) (h : Rd intC 1 w (.slice a L.length c) L) (h' : Rd intC 1 w (.slice b M.length d) M) :
  Calls Tryz.prog 69 #[.slice a L.length c, .slice b M.length d] w fun e w' => e = .returned (.int .i64 (lexC cmpI L M)) ∧ w' = w := by
 obtain ⟨_, _, _, _, hm⟩ := h.slice
 obtain ⟨_, _, _, _, hm'⟩ := h'.slice
 have HA : Hid (Rd intC 1 w (.slice a L.length c) L) := h
 have HB : Hid (Rd intC 1 w (.slice b M.length d) M) := h'
 obtain ⟨R, hR⟩ : ∃ R, R = lexC cmpI L M := ⟨_, rfl⟩
 rw [← hR]
 have HR : Hid (R = lexC cmpI (L.drop 0) (M.drop 0)) := hR
 clear h h' hR
 go_enter Tryz.func69, Tryz.ntmps69
 go_wp2
 go_loopg [11] L.length (fun gg s11 wq => ∃ n : Nat, n ≤ L.length ∧ n ≤ M.length ∧ gg = L.length - n ∧ s11 = .int .i64 n ∧ Hid (wq = w) ∧ Hid (R = lexC cmpI (L.drop n) (M.drop n)))
 case atStart => exact ⟨0, Nat.zero_le _, Nat.zero_le _, rfl, rfl, rfl, HR⟩
 case round =>
  clear HR
  obtain ⟨n, hn, hnM, hk, rfl, HO, HR⟩ := hrel
  rcases Nat.lt_or_ge n L.length with hlt | hge
  ·
   obtain ⟨x, hx⟩ : ∃ x, L[n]? = some x := ⟨_, List.getElem?_eq_getElem hlt⟩
   obtain ⟨g1, o1, rfl, hg1, hc⟩ := (by rw [HO.out]; exact HA.out : Rd intC 1 wr (.slice a L.length c) L).at hx
   have hc0 := hc 0 _ rfl
   rw [Nat.mul_one, Nat.add_zero] at hc0
   have hr := HR.out
   have bn0 : (0 : Int) ≤ (n : Int) := by omega
   have bn1 : (n : Int) < (L.length : Int) := by omega
   rcases Nat.lt_or_ge n M.length with hltM | hgeM
   ·
    obtain ⟨y, hy⟩ : ∃ y, M[n]? = some y := ⟨_, List.getElem?_eq_getElem hltM⟩
    obtain ⟨g2, o2, rfl, hg2, hd⟩ := (by rw [HO.out]; exact HB.out : Rd intC 1 wr (.slice b M.length d) M).at hy
    have hd0 := hd 0 _ rfl
    rw [Nat.mul_one, Nat.add_zero] at hd0
    have bn2 : (n : Int) < (M.length : Int) := by omega
    have dm : decide (M.length ≤ n) = false := decide_eq_false (by omega)
    rw [drop_at hx, drop_at hy, lexC] at hr
    have hC := cmp8_is x y
    generalize cmpI x y = z at *
    by_cases h0 : z = 0
    ·
     rw [if_pos h0] at hr
     have hb : ((z : Int) != 0) = false := by rw [h0]; rfl
     have HR2 : Hid (R = lexC cmpI (L.drop (n + 1)) (M.drop (n + 1))) := hr
     clear hx hy hr HR hc hd h0
     go_wp2_with fail
     refine (hC _).mono ?_
     rintro _ _ ⟨rfl, rfl⟩
     go_wp2
     go_roundg (L.length - (n + 1))
     case measure => omega
     case rel => exact ⟨n + 1, by omega, by omega, rfl, by go_num, HO, HR2⟩
    ·
     rw [if_neg h0] at hr
     have hb : ((z : Int) != 0) = true := by simpa using h0
     subst hr
     clear hx hy HR hc hd h0
     go_wp2_with fail
     refine (hC _).mono ?_
     rintro _ _ ⟨rfl, rfl⟩
     go_wp2
     go_ret
     exact ⟨rfl, HO.out⟩
   ·
    have dm : decide (M.length ≤ n) = true := decide_eq_true hgeM
    rw [drop_at hx, List.drop_eq_nil_of_le hgeM, lexC] at hr
    subst hr
    clear hx hc HR
    go_wp2
    go_ret
    exact ⟨rfl, HO.out⟩
  ·
   obtain rfl : n = L.length := by omega
   rcases Nat.lt_or_ge L.length M.length with hltM | hgeM
   ·
    obtain ⟨y, hy⟩ : ∃ y, M[L.length]? = some y := ⟨_, List.getElem?_eq_getElem hltM⟩
    have hr := HR.out
    rw [List.drop_length, drop_at hy, lexC] at hr
    subst hr
    have dm : decide (L.length < M.length) = true := decide_eq_true hltM
    clear hy HR
    go_wp2
    go_ret
    exact ⟨rfl, HO.out⟩
   ·
    have hr := HR.out
    rw [List.drop_length, List.drop_eq_nil_of_le hgeM, lexC] at hr
    subst hr
    have dm : decide (L.length < M.length) = false := decide_eq_false (by omega)
    clear HR
    go_wp2
    go_ret
    exact ⟨rfl, HO.out⟩
/-- Some numbers of an end, as a slice into its block. -/
theorem rd_part {w : World} {N : Nat} {f : FinT} (B : Bk w N (finA f)) (o n : Nat) (h : o + n ≤ 20) : Rd intC 1 w (.slice (some ⟨N, o, none⟩) n n) ((f.l.drop o).take n) := by
 have hl : ((f.l.drop o).take n).length = n := by rw [List.length_take, List.length_drop, f.h]; omega
 refine ⟨some ⟨N, o, none⟩, n, by rw [hl], by omega, by omega, fun _ => ⟨N, o, rfl, B.lt, fun i x j u hi hj => ?_⟩⟩
 have hj0 : j = 0 := by
  have := (List.getElem?_eq_some_iff.1 hj).1
  simpa [intC] using this
 subst hj0
 simp only [intC, List.getElem?_cons_zero, Option.some.injEq] at hj
 subst hj
 rw [Nat.mul_one, Nat.add_zero]
 refine B.at (finA_at f ?_)
 rw [List.getElem?_take] at hi
 split at hi
 ·
  rw [List.getElem?_drop] at hi
  exact hi
 ·
  cases hi
theorem part_len (f : FinT) (o n : Nat) (h : o + n ≤ 20) : ((f.l.drop o).take n).length = n := by rw [List.length_take, List.length_drop, f.h]; omega
theorem scmp_part {w : World} {N M : Nat} {f g : FinT} (B : Bk w N (finA f)) (B' : Bk w M (finA g)) (o n : Nat) (h : o + n ≤ 20) :
  Calls Tryz.prog 69 #[.slice (some ⟨N, o, none⟩) n n, .slice (some ⟨M, o, none⟩) n n] w fun e w' => e = .returned (.int .i64 (lexC cmpI ((f.l.drop o).take n) ((g.l.drop o).take n))) ∧ w' = w := by
 have h1 := rd_part B o n h
 have h2 := rd_part B' o n h
 have e1 := part_len f o n h
 have e2 := part_len g o n h
 generalize (f.l.drop o).take n = L at *
 generalize (g.l.drop o).take n = M' at *
 have := scmp8_is L M' (some ⟨N, o, none⟩) (some ⟨M, o, none⟩) n n w (by rw [e1]; exact h1) (by rw [e2]; exact h2)
 rw [e1, e2] at this
 exact this
theorem fend_cut (f g : FinT) (k : Nat) (h : k < 4) : lexC cmpI (f.l.drop (k * 4)) (g.l.drop (k * 4)) = if lexC cmpI ((f.l.drop (k * 4)).take 4) ((g.l.drop (k * 4)).take 4) = 0 then lexC cmpI (f.l.drop ((k + 1) * 4)) (g.l.drop ((k + 1) * 4)) else lexC cmpI ((f.l.drop (k * 4)).take 4) ((g.l.drop (k * 4)).take 4) := by
 rw [lex_cut cmpI 4 (f.l.drop (k * 4)) (g.l.drop (k * 4)) (by rw [List.length_drop, List.length_drop, f.h, g.h]) (by rw [List.length_drop, f.h]; omega), List.drop_drop, List.drop_drop, show k * 4 + 4 = (k + 1) * 4 by omega]
theorem Bk.drewN {w : World} {N : Nat} {cs : Array Value} (h : Bk w N cs) (n : Nat) : Bk (w.drewN n) N cs := h
theorem more_drew {wr W0 : World} (h : ∃ q, wr = W0.drewN q) (n : Nat) : ∃ q, wr.drewN n = W0.drewN q := by
 obtain ⟨q, rfl⟩ := h
 exact ⟨q + n, by simp [World.drewN, Nat.add_assoc]⟩
set_option maxHeartbeats 2000000 in
theorem fcmp_is (f g : FinT) (w : World) : Calls Tryz.prog 52 #[.agg (finA f), .agg (finA g)] w fun e w' => e = .returned (.int .i64 (finCmp f g)) ∧ ∃ q, w' = ((w.alloc (.cells (finA f) 36)).alloc (.cells (finA g) 36)).drewN q := by
 obtain ⟨W0, hW0⟩ : ∃ W0, W0 = (w.alloc (.cells (finA f) 36)).alloc (.cells (finA g) 36) := ⟨_, rfl⟩
 have HW : Hid (W0 = (w.alloc (.cells (finA f) 36)).alloc (.cells (finA g) 36)) := hW0
 have HB1 : Hid (Bk W0 w.heap.size (finA f)) := by rw [hW0]; exact (Bk.new w (finA f) 36).alloc _
 have HB2 : Hid (Bk W0 (w.heap.size + 1) (finA g)) := by
  have := Bk.new (w.alloc (.cells (finA f) 36)) (finA g) 36
  rw [World.size_alloc] at this
  rw [hW0]
  exact this
 rw [← hW0]
 obtain ⟨R, hR⟩ : ∃ R, R = finCmp f g := ⟨_, rfl⟩
 rw [← hR]
 have HR : Hid (R = lexC cmpI (f.l.drop (0 * 4)) (g.l.drop (0 * 4))) := hR
 clear hR hW0
 go_enter Tryz.func52, Tryz.ntmps52
 go_wp2
 rw [← HW.out]
 go_loopg [7] 4 (fun gg s7 wq => ∃ n : Nat, n ≤ 4 ∧ gg = 4 - n ∧ s7 = .int .i64 n ∧ Hid (∃ q, wq = W0.drewN q) ∧ Hid (R = lexC cmpI (f.l.drop (n * 4)) (g.l.drop (n * 4))))
 case atStart => exact ⟨0, Nat.zero_le _, rfl, rfl, ⟨0, rfl⟩, HR⟩
 case round =>
  clear HR
  obtain ⟨n, hn, hk, rfl, HO, HR⟩ := hrel
  have HC : Hid (∀ m o k, o + k ≤ 20 → Calls Tryz.prog 69 #[.slice (some ⟨w.heap.size, o, none⟩) k k, .slice (some ⟨w.heap.size + 1, o, none⟩) k k] (wr.drewN m) fun e w' => e = .returned (.int .i64 (lexC cmpI ((f.l.drop o).take k) ((g.l.drop o).take k))) ∧ w' = wr.drewN m) := by
   intro m o k ho
   obtain ⟨q, rfl⟩ := HO.out
   exact scmp_part (w := (W0.drewN q).drewN m) (f := f) (g := g) (HB1.out.drewN q |>.drewN m) (HB2.out.drewN q |>.drewN m) o k ho
  rcases Nat.lt_or_ge n 4 with hlt | hge
  ·
   have bn0 : (0 : Int) ≤ (n : Int) := by omega
   have bn1 : (n : Int) < 4 := by omega
   have hr := HR.out
   rw [fend_cut f g n hlt] at hr
   have hC := fun m => HC.out m (n * 4) 4 (by omega)
   clear HC HR
   generalize lexC cmpI ((f.l.drop (n * 4)).take 4) ((g.l.drop (n * 4)).take 4) = z at *
   by_cases h0 : z = 0
   ·
    rw [if_pos h0] at hr
    have hb : ((z : Int) != 0) = false := by rw [h0]; rfl
    have HR2 : Hid (R = lexC cmpI (f.l.drop ((n + 1) * 4)) (g.l.drop ((n + 1) * 4))) := hr
    clear hr h0
    go_wp2
    go_quiet (exact Calls.quiet_of_same (hC _))
    go_wp2
    go_roundg (4 - (n + 1))
    case measure => omega
    case rel => exact ⟨n + 1, by omega, rfl, by go_num, more_drew HO.out nq, HR2⟩
   ·
    rw [if_neg h0] at hr
    have hb : ((z : Int) != 0) = true := by simpa using h0
    subst hr
    clear h0
    go_wp2
    go_quiet (exact Calls.quiet_of_same (hC _))
    go_wp2
    go_ret
    exact ⟨rfl, more_drew HO.out nq⟩
  ·
   obtain rfl : n = 4 := by omega
   have hC := fun m => HC.out m 16 4 (by omega)
   have hr := HR.out
   have e1 : (f.l.drop 16).take 4 = f.l.drop (4 * 4) := by rw [List.take_of_length_le (by rw [List.length_drop, f.h]; omega)]
   have e2 : (g.l.drop 16).take 4 = g.l.drop (4 * 4) := by rw [List.take_of_length_le (by rw [List.length_drop, g.h]; omega)]
   rw [e1, e2, ← hr] at hC
   clear HC HR hr e1 e2
   go_wp2
   go_quiet (exact Calls.quiet_of_same (hC _))
   go_wp2
   go_ret
   exact ⟨rfl, more_drew HO.out nq⟩
theorem On.drewN_of {w x : World} (h : On w x) {y : World} (e : ∃ q, y = x.drewN q) : On w y := by
 obtain ⟨q, rfl⟩ := e
 exact h.drewN q
theorem ltz (f g : FinT) : Hid (∀ w, Calls Tryz.prog 52 #[.agg (finA f), .agg (finA g)] w fun e w' => e = .returned (.int .i64 (finCmp f g)) ∧ On w w') := fun w => (fcmp_is f g w).mono fun _ _ ⟨he, hw⟩ => ⟨he, (((On.refl w).alloc _).alloc _).drewN_of hw⟩
/-- The next numbers, one by one. -/
theorem fend_one (f g : FinT) (k : Nat) (x y : Int) (hx : f.l[k]? = some x) (hy : g.l[k]? = some y) : lexC cmpI (f.l.drop k) (g.l.drop k) = if x = y then lexC cmpI (f.l.drop (k + 1)) (g.l.drop (k + 1)) else cmpI x y := by
 rw [drop_at hx, drop_at hy, lexC]
 by_cases e : x = y
 ·
  rw [if_pos e, if_pos ((ord_int.eq x y).2 e)]
 ·
  rw [if_neg e, if_neg (fun h => e ((ord_int.eq x y).1 h))]
theorem cmp_lt (x y : Int) (h : ¬ x = y) : decide (cmpI x y < 0) = decide (x < y) := by
 unfold cmpI
 by_cases a : x < y
 ·
  rw [if_pos a]; simp [a]
 ·
  rw [if_neg a, if_pos (by omega)]; simp [a]
end Go.Proofs.YtioiabfheeglgaaGreatDoor

namespace Go.Proofs.YtioiabfheeglgaaGreatDoor
open Go.RowKit

section
variable {P : Program} {ops : Array Oper} {Q : Exit → Act → World → Prop} {md : Region.Mode} {S : World → Prop} {z : Nat}

/-- Whatever order is picked from here on, and S holds behind every operation but number z. -/
def wpFin (P : Program) (md : Region.Mode) (ops : Array Oper) (Q : Exit → Act → World → Prop) (S : World → Prop) (z : Nat) : Nat → Array Bool → Act → World → Prop
 | 0, listed, a, w => Region.ready md ops listed = [] ∧ Q .normal a w
 | n + 1, listed, a, w =>
  (Region.ready md ops listed = [] → Q .normal a w) ∧
  ∀ i ∈ Region.ready md ops listed, wpOp P ops Q i (fun a' w' => (i ≠ z → S w') ∧ wpFin P md ops Q S z n (listed.setIfInBounds i true) a' w') a w
theorem any_of_fin : ∀ (n : Nat) (listed : Array Bool) (a : Act) (w : World), wpFin P md ops Q S z n listed a w → wpAny P md ops Q n listed a w
 | 0, _, _, _, h => h
 | n + 1, _, _, _, h => ⟨h.1, fun i hi => wpOp_mono (fun a' w' h' => any_of_fin n _ a' w' h'.2) (h.2 i hi)⟩
/-- Number z waits for number i; there may be no number z. -/
def waitsB (md : Region.Mode) (ops : Array Oper) (z i : Nat) : Bool :=
 match ops[z]? with
 | some o => o.after.any fun e => Region.binds md e && e.on == i
 | none => true
theorem waits_spec {i : Nat} (h : waitsB md ops z i = true) {o : Oper} (ho : ops[z]? = some o) : ∃ e ∈ o.after, Region.binds md e = true ∧ e.on = i := by
 unfold waitsB at h
 rw [ho] at h
 obtain ⟨e, he, hb⟩ := Array.any_eq_true'.1 h
 simp only [Bool.and_eq_true, beq_iff_eq] at hb
 exact ⟨e, he, hb.1, hb.2⟩
/-- Of two that may both come up now neither waits for the other. -/
theorem ready_apart {i j : Nat} {oj : Oper} {listed : Array Bool} (hi : i ∈ Region.ready md ops listed) (hj : j ∈ Region.ready md ops listed) (hoj : ops[j]? = some oj) {e : Edge} (he : e ∈ oj.after) (hb : Region.binds md e = true) : e.on ≠ i := by
 intro heq
 obtain ⟨_, o, ho, hall⟩ := mem_ready.1 hj
 obtain rfl := Option.some.inj (hoj.symm.trans ho)
 have h1 : listed.getD i false = true := heq ▸ hall e he hb
 have h0 : listed.getD i true = false := (mem_ready.1 hi).1
 unfold Array.getD at h0 h1
 split at h0
 ·
  rename_i hlt
  rw [dif_pos hlt] at h1
  exact absurd (h0.symm.trans h1) (by decide)
 ·
  cases h0
/-- What number i may be moved past. -/
def Free (md : Region.Mode) (ops : Array Oper) (i : Nat) (oi : Oper) (listed : Array Bool) : Prop :=
 ∀ j oj, ops[j]? = some oj → j ≠ i → listed.getD j true = false → (∀ e ∈ oj.after, Region.binds md e = true → e.on ≠ i) → oi.apart ops oj = true
theorem Free.set {i j : Nat} {oi : Oper} {listed : Array Bool} (h : Free md ops i oi listed) (hj : listed.getD j true = false) : Free md ops i oi (listed.setIfInBounds j true) := by
 intro k ok hk hki hun hno
 rcases Decidable.em (j = k) with rfl | hjk
 ·
  exact h j ok hk hki hj hno
 ·
  exact h k ok hk hki ((getD_set_ne true hjk).symm.trans hun) hno
theorem fin_first {i : Nat} {oi : Oper} {v : Value} (hi : ops[i]? = some oi) (hsel : ∀ (j : Nat) (o : Oper) cs b, ops[j]? = some o → o.op ≠ .select cs b)
  (hQ : ∀ c a w, Q (.panic c) (a.put oi.dst v) w → Q (.panic c) a w) (hz : waitsB md ops z i = true) :
  ∀ (n : Nat) (listed : Array Bool) (a : Act) (w : World), Free md ops i oi listed → i ∈ Region.ready md ops listed → YieldsIf P ops S oi v a → S w →
   wpFin P md ops Q S z n (listed.setIfInBounds i true) (a.put oi.dst v) w → wpFin P md ops Q S z (n + 1) listed a w
 | n, listed, a, w, hF, hr, hy, hS, H => by
  refine ⟨fun h => absurd (h ▸ hr) (by simp), fun j hj => ?_⟩
  rcases Decidable.em (j = i) with rfl | hji
  ·
   exact hy.wpOp hi hS ⟨fun _ => hS, H⟩
  obtain ⟨hun, oj, hoj, _⟩ := mem_ready.1 hj
  have hno : ∀ e ∈ oj.after, Region.binds md e = true → e.on ≠ i := fun e he hb => ready_apart hr hj hoj he hb
  have hjz : j ≠ z := by
   rintro rfl
   obtain ⟨e, he, hb, heq⟩ := waits_spec hz hoj
   exact hno e he hb heq
  match n, H with
  | 0, H => exact absurd (H.1 ▸ ready_mono hj hji) (by simp)
  | n + 1, H =>
   refine wpOp_mono (fun a' w' k => ⟨k.2.1, ?_⟩) (wpOp_putIf hoj (hF j oj hoj hji hun hno) (fun cs b => hsel i oi cs b hi) (fun cs b => hsel j oj cs b hoj) hQ hy (H.2 j (ready_mono hj hji)))
   exact fin_first hi hsel hQ hz n _ a' w' (hF.set hun) (ready_mono hr (Ne.symm hji)) k.1 (k.2.1 hjz) (Array.setIfInBounds_comm true true hji ▸ k.2.2)
theorem fin_take {l rest : List Oper} (i : Nat) {oi : Oper} {v : Value} {n : Nat} {listed : Array Bool} {a : Act} {w : World} (hi : l.drop i = oi :: rest)
  (hs : Region.noSelect l.toArray = true) (hf : Region.free md l.toArray listed i = true) (hr : (Region.ready md l.toArray listed).contains i = true) (hz : waitsB md l.toArray z i = true)
  (hQ : ∀ c a w, Q (.panic c) (a.put oi.dst v) w → Q (.panic c) a w) (hg : oi.guard = none) (hy : ∀ w, S w → (execOp a.eval oi).run P w = .ok (.value v) w) (hS : S w)
  (h : wpFin P md l.toArray Q S z n (listed.setIfInBounds i true) (a.put oi.dst v) w) : wpFin P md l.toArray Q S z (n + 1) listed a w := by
 have hi' : l.toArray[i]? = some oi := by
  rw [List.getElem?_toArray]
  have := congrArg (·[0]?) hi
  simpa using this
 exact fin_first hi' (Region.noSelect_spec hs) hQ hz n listed a w (Region.free_spec hi' hf) (by simpa using hr) (Or.inl ⟨by simp [Region.wanted, hg], hy⟩) hS h
theorem fin_one {l rest : List Oper} (i : Nat) {o : Oper} {n : Nat} {listed : Array Bool} {a : Act} {w : World} (hi : l.drop i = o :: rest) (hg : o.guard = none) (hr : Region.ready md l.toArray listed = [i])
  (h : ∀ K : Act → World → Prop, Hid (∀ a' w', (i ≠ z → S w') → wpFin P md l.toArray Q S z n (listed.setIfInBounds i true) a' w' → K a' w') → o.wp P a w K Q) : wpFin P md l.toArray Q S z (n + 1) listed a w := by
 have hi' : l.toArray[i]? = some o := by
  rw [List.getElem?_toArray]
  have := congrArg (·[0]?) hi
  simpa using this
 refine ⟨fun h0 => (by rw [hr] at h0; cases h0), fun j hj => ?_⟩
 rw [hr] at hj
 obtain rfl : j = i := by simpa using hj
 unfold wpOp
 simp only [hi']
 rw [if_pos (by simp [Region.wanted, hg])]
 exact Or.inl (h _ (fun a' w' h1 h2 => ⟨h1, h2⟩))
theorem fin_done {n : Nat} {listed : Array Bool} {a : Act} {w : World} (hr : Region.ready md ops listed = []) (h : Q .normal a w) : wpFin P md ops Q S z n listed a w := by
 cases n with
 | zero => exact ⟨hr, h⟩
 | succ n => exact ⟨fun _ => h, by rw [hr]; simp⟩
theorem region_fin (S : World → Prop) (z k : Nat) {l : List Oper} {id : Nat} {a : Act} {w : World} (hm : P.follows .mixedOrders = true) (hk : l.length = k)
  (h : wpFin P .any l.toArray (NoPanic Q) S z k (Array.replicate k false) a w.drew) : (Code.region id l.toArray true).wp P Q a w := by
 subst hk
 exact wp_region_noPanic (wp_region_any hm (any_of_fin _ _ _ _ h))
end
end Go.Proofs.YtioiabfheeglgaaGreatDoor
