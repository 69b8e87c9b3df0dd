/- Small: what lies in memory while a test is made. -/
import Derived.Test.YtcfohakgokiedaaGreatDoorJ23SmallA
namespace Go.Proofs.YtcfohakgokiedaaGreatDoor
open Go.RowKit

structure Sx (w : World) (zs : List Int) (a : Option Addr) (cap : Nat) (c1 c2 : Value) (i : Nat) (wr : World) : Prop where
 bl : Bk wr w.heap.size #[.slice a zs.length cap]
 br : Bk wr (w.heap.size + 1) #[.string ⟨#[]⟩, .slice none 0 0, .slice none 0 0, .int .i64 0, .slice none 0 0]
 bt : Bk wr (w.heap.size + 1 + 1) #[.string ⟨#[116]⟩, c1, c2, .int .i64 0, .slice none 0 0]
 ba : Bk wr (w.heap.size + 1 + 1 + 1) #[.int .i64 (i : Int)]
 on : On w wr
section
variable {w wr wr' : World} {zs : List Int} {a : Option Addr} {cap : Nat} {c1 c2 : Value} {i : Nat}
theorem Sx.wa (h : Sx w zs a cap c1 c2 i wr) (k : Wa (w.heap.size + 1 + 1 + 1) wr wr') {j : Nat} (ba : Bk wr' (w.heap.size + 1 + 1 + 1) #[.int .i64 (j : Int)]) : Sx w zs a cap c1 c2 j wr' :=
 ⟨h.bl.wa k (by omega), h.br.wa k (by omega), h.bt.wa k (by omega), ba, h.on.wa k (by omega)⟩
theorem Sx.alloc (h : Sx w zs a cap c1 c2 i wr) (o : Obj) : Sx w zs a cap c1 c2 i (wr.alloc o) := ⟨h.bl.alloc o, h.br.alloc o, h.bt.alloc o, h.ba.alloc o, h.on.alloc o⟩
theorem Sx.drew (h : Sx w zs a cap c1 c2 i wr) : Sx w zs a cap c1 c2 i wr.drew := ⟨h.bl, h.br, h.bt, h.ba, h.on.drew⟩
theorem Sx.grown (h : Sx w zs a cap c1 c2 i wr) {v : Value} {base : Nat} (hg : wr.grownBy wr' v.ownBlock) (hb : w.heap.size + 1 + 1 + 1 < base) (hv : ∀ g, v.ownBlock = some g → base ≤ g) : Sx w zs a cap c1 c2 i wr' :=
 ⟨h.bl.grown hg (base := base) (by omega) hv, h.br.grown hg (base := base) (by omega) hv, h.bt.grown hg (base := base) (by omega) hv, h.ba.grown hg (base := base) (by omega) hv, h.on.grown hg (fun g hg => by have := hv g hg; omega)⟩
theorem Sx.step (h : Sx w zs a cap c1 c2 i wr) : Sx w zs a cap c1 c2 (i + 1) (wr.setCell ⟨w.heap.size + 1 + 1 + 1, 0, none⟩ (.int .i64 ((i + 1 : Nat) : Int))) :=
 h.wa ((Wa.refl _ _).setAt 0 _) (Bk.put (cs := [.int .i64 (i : Int)]) h.ba 0 _)
theorem Sx.size (h : Sx w zs a cap c1 c2 i wr) : w.heap.size + 1 + 1 + 1 < wr.heap.size := h.ba.lt
theorem Sx.put1 (h : Sx w zs a cap c1 c2 i wr) (v : Value) : Sx w zs a cap v c2 i (wr.setCell ⟨w.heap.size + 1 + 1, 1, none⟩ v) :=
 ⟨h.bl.far (by omega) _ _, h.br.far (by omega) _ _, Bk.put (cs := [.string ⟨#[116]⟩, c1, c2, .int .i64 0, .slice none 0 0]) h.bt 1 v, h.ba.far (by omega) _ _, h.on.setNew (by omega) v⟩
theorem Sx.put2 (h : Sx w zs a cap c1 c2 i wr) (v : Value) : Sx w zs a cap c1 v i (wr.setCell ⟨w.heap.size + 1 + 1, 2, none⟩ v) :=
 ⟨h.bl.far (by omega) _ _, h.br.far (by omega) _ _, Bk.put (cs := [.string ⟨#[116]⟩, c1, c2, .int .i64 0, .slice none 0 0]) h.bt 2 v, h.ba.far (by omega) _ _, h.on.setNew (by omega) v⟩
theorem sx_start (w : World) (zs : List Int) (a : Option Addr) (cap : Nat) (T1 T2 T3 T4 : TypeId) : Sx w zs a cap (.slice none 0 0) (.slice none 0 0) 0 ((((w.alloc (.cells #[.slice a zs.length cap] T1)).alloc (.cells #[.string ⟨#[]⟩, .slice none 0 0, .slice none 0 0, .int .i64 0, .slice none 0 0] T2)).alloc (.cells #[.string ⟨#[116]⟩, .slice none 0 0, .slice none 0 0, .int .i64 0, .slice none 0 0] T3)).alloc (.cells #[.int .i64 0] T4)) := by
 refine ⟨(((Bk.new w _ _).alloc _).alloc _).alloc _, ?_, ?_, ?_, ((((On.refl w).alloc _).alloc _).alloc _).alloc _⟩
 ·
  have := Bk.new (w.alloc (.cells #[.slice a zs.length cap] T1)) #[.string ⟨#[]⟩, .slice none 0 0, .slice none 0 0, .int .i64 0, .slice none 0 0] T2
  rw [World.size_alloc] at this
  exact (this.alloc _).alloc _
 ·
  have := Bk.new ((w.alloc (.cells #[.slice a zs.length cap] T1)).alloc (.cells #[.string ⟨#[]⟩, .slice none 0 0, .slice none 0 0, .int .i64 0, .slice none 0 0] T2)) #[.string ⟨#[116]⟩, .slice none 0 0, .slice none 0 0, .int .i64 0, .slice none 0 0] T3
  rw [World.size_alloc, World.size_alloc] at this
  exact this.alloc _
 ·
  have := Bk.new (((w.alloc (.cells #[.slice a zs.length cap] T1)).alloc (.cells #[.string ⟨#[]⟩, .slice none 0 0, .slice none 0 0, .int .i64 0, .slice none 0 0] T2)).alloc (.cells #[.string ⟨#[116]⟩, .slice none 0 0, .slice none 0 0, .int .i64 0, .slice none 0 0] T3)) #[.int .i64 0] T4
  rw [World.size_alloc, World.size_alloc, World.size_alloc] at this
  exact this
end
abbrev thrO (w : World) (base : Nat) (v : Value) (LL : List (List InsT)) : Prop := Own2 insC 9 68 67 w base v LL
/-- The closure's next number, in such a world. -/
theorem Sx.next {w wr : World} {zs : List Int} {a : Option Addr} {cap : Nat} {c1 c2 : Value} {i : Nat} (h : Sx w zs a cap c1 c2 i wr) (hi : i < 1000) (hz : zs.length ≤ 9223372036854775807) (hr : Rd intC 1 w (.slice a zs.length cap) zs) :
  Calls Tryz.prog 31 #[.pointer (some ⟨w.heap.size + 1 + 1 + 1, 0, none⟩), .pointer (some ⟨w.heap.size, 0, none⟩)] wr fun e w' => e = .returned (.int .i64 (nxtV zs i : Nat)) ∧ Sx w zs a cap c1 c2 (i + 1) w' ∧ Wa (w.heap.size + 1 + 1 + 1) wr w' := by
 refine (next_is zs a cap i (w.heap.size + 1 + 1 + 1) w.heap.size w wr hi hz h.ba h.bl (by omega) h.on (by omega) hr).mono ?_
 rintro e w' ⟨rfl, rfl⟩
 exact ⟨rfl, h.step, (Wa.refl _ _).setAt 0 _⟩
end Go.Proofs.YtcfohakgokiedaaGreatDoor

namespace Go.Proofs.YtcfohakgokiedaaGreatDoor
open Go.RowKit

theorem infoIns : (Tryz.prog.info? 67).map (fun i => (i.zero, i.size, i.bytes)) = some (some (.agg #[.int .i64 0, .int .i64 0, .int .i64 0, .int .i64 0, .int .i64 0, .int .i64 0, .int .i64 0, .int .i64 0, .int .i64 0]), 9, 72) := by kernel_rfl
theorem infoThr : (Tryz.prog.info? 68).map (fun i => (i.zero, i.size, i.bytes)) = some (some (.slice none 0 0), 1, 24) := by kernel_rfl
theorem infoInit : (Tryz.prog.info? 82).map (fun i => (i.zero, i.size, i.bytes)) = some (some (.agg #[.int .i64 0, .int .i64 0]), 2, 16) := by kernel_rfl
abbrev iniO (w : World) (base : Nat) (v : Value) (L : List InitT) : Prop := w.ownsRow base 82 2 v L.length (L.flatMap iniC)
theorem news_at (w : World) (cs : Array Value) (e : TypeId) : ∀ (j : Nat) (u : Value), cs.toList[j]? = some u → (w.alloc (.cells cs e)).cell? ((⟨w.heap.size, 0, none⟩ : Addr).add j) = some u := by
 intro j u hu
 rw [new_cell]
 exact hu
theorem one_ini (x y : Int) : ∀ u ∈ iniC ⟨x, y⟩, u.oneCell' = true := by
 intro u hu
 simp only [iniC, List.mem_cons, List.not_mem_nil, or_false] at hu
 rcases hu with rfl | rfl <;> rfl
theorem one_max : 0 + 1 ≤ maxLen := by decide
theorem one_bytes : (0 + 1) * 16 ≤ 140737488355328 := by decide
theorem base_alloc {b : Nat} {w : World} (h : b ≤ w.heap.size) (o : Obj) : b ≤ (w.alloc o).heap.size := by simp; omega
theorem own_set {w : World} {base k n N : Nat} {e : TypeId} {v : Value} {xs : List Value} (h : w.ownsRow base e k v n xs) (hN : N < base) (i : Nat) (u : Value) : (w.setCell ⟨N, i, none⟩ u).ownsRow base e k v n xs :=
 ownsRow_setCell_other h (fun hg => by have := (h.lt N hg).1; omega) u
theorem Own2.set {α : Type} {C : α → List Value} {k : Nat} {eo ei : TypeId} {w : World} {base N : Nat} {v : Value} {LL : List (List α)} (h : Own2 C k eo ei w base v LL) (hN : N < base) (i : Nat) (u : Value) : Own2 C k eo ei (w.setCell ⟨N, i, none⟩ u) base v LL := by
 obtain ⟨vs, h1, h2, h3⟩ := h
 exact ⟨vs, h1, own_set h2 hN i u, fun j x L a b => own_set (h3 j x L a b) hN i u⟩
theorem own_puts {base k n N : Nat} {e : TypeId} {v : Value} {xs : List Value} : ∀ (vs : List Value) (w : World) (o : Nat), w.ownsRow base e k v n xs → N < base → (putCells w N o vs).ownsRow base e k v n xs
 | [], _, _, h, _ => h
 | u :: vs, _, o, h, hN => own_puts vs _ _ (own_set h hN o u) hN
theorem Own2.puts {α : Type} {C : α → List Value} {k : Nat} {eo ei : TypeId} {base N : Nat} {v : Value} {LL : List (List α)} : ∀ (vs : List Value) (w : World) (o : Nat), Own2 C k eo ei w base v LL → N < base → Own2 C k eo ei (putCells w N o vs) base v LL
 | [], _, _, h, _ => h
 | u :: vs, _, o, h, hN => Own2.puts vs _ _ (h.set hN o u) hN
theorem one_slice (a : Option Addr) (m c : Nat) : ∀ u ∈ [Value.slice a m c], u.oneCell' = true := by
 intro u hu
 simp only [List.mem_cons, List.not_mem_nil, or_false] at hu
 subst hu
 rfl
theorem none_own {b : Nat} : ∀ g, (Value.slice none 0 0).ownBlock = some g → b ≤ g := fun g h => by cases h
theorem news_two (w : World) (o : Obj) (cs : Array Value) (e : TypeId) : ∀ (j : Nat) (u : Value), cs.toList[j]? = some u → ((w.alloc o).alloc (.cells cs e)).cell? ((⟨w.heap.size + 1, 0, none⟩ : Addr).add j) = some u := by
 intro j u hu
 have := new_cell (w.alloc o) cs e j
 rw [World.size_alloc] at this
 rw [this]
 exact hu
theorem one_ins (x : InsT) : ∀ u ∈ insC x, u.oneCell' = true := by
 intro u hu
 simp only [insC, List.mem_cons, List.not_mem_nil, or_false] at hu
 rcases hu with rfl | rfl | rfl | rfl | rfl | rfl | rfl | rfl | rfl <;> rfl
theorem one_ins2 (x y : InsT) : ∀ u ∈ insC x ++ insC y, u.oneCell' = true := by
 intro u hu
 rcases List.mem_append.1 hu with h | h
 ·
  exact one_ins x u h
 ·
  exact one_ins y u h
abbrev zIns : Value := .agg #[.int .i64 0, .int .i64 0, .int .i64 0, .int .i64 0, .int .i64 0, .int .i64 0, .int .i64 0, .int .i64 0, .int .i64 0]
abbrev anyO (w : World) (base : Nat) (v : Value) (LL : List (List AtomT)) : Prop := Own2 atomC 4 88 87 w base v LL
/-- v is this test, in rows of its own. -/
def TOwn (w : World) (base : Nat) (v : Value) (t : TestT) : Prop :=
 ∃ a1 c1 a2 c2 a3 c3, v = .agg #[.string t.name, .slice a1 t.ini.length c1, .slice a2 t.thr.length c2, .int .i64 t.cond.k, .slice a3 t.cond.any.length c3] ∧ iniO w base (.slice a1 t.ini.length c1) t.ini ∧ thrO w base (.slice a2 t.thr.length c2) t.thr ∧ anyO w base (.slice a3 t.cond.any.length c3) t.cond.any
theorem Own2.mono {α : Type} {C : α → List Value} {k : Nat} {eo ei : TypeId} {w : World} {base base' : Nat} {v : Value} {LL : List (List α)} (h : Own2 C k eo ei w base v LL) (hb : base' ≤ base) : Own2 C k eo ei w base' v LL := by
 obtain ⟨vs, h1, h2, h3⟩ := h
 exact ⟨vs, h1, own_mono h2 hb, fun i u L a b => own_mono (h3 i u L a b) hb⟩
theorem flat_len {α : Type} {C : α → List Value} {k : Nat} (hC : ∀ x, (C x).length = k) : ∀ L : List α, (L.flatMap C).length = L.length * k
 | [] => by simp
 | x :: L => by rw [List.flatMap_cons, List.length_append, hC, flat_len hC L, List.length_cons, Nat.succ_mul, Nat.add_comm]
theorem own_bk {α : Type} {C : α → List Value} {k : Nat} (hC : ∀ x, (C x).length = k) {w : World} {N base : Nat} {e : TypeId} {L : List α} (h : w.heap[N]? = some (.cells (L.flatMap C).toArray e (0, 0))) (hb : base ≤ N) (hm : L.length ≤ maxLen) : w.ownsRow base e k (.slice (some ⟨N, 0, none⟩) L.length L.length) L.length (L.flatMap C) := by
 have hl := flat_len hC L
 refine ⟨hl, Or.inr ⟨N, L.length, _, rfl, hb, h, Nat.le_refl _, hm, by simpa using hl, ?_⟩⟩
 rw [List.take_of_length_le (by simp [hl])]
theorem any_new (W : World) (n base : Nat) (hn : W.heap.size = n) (hb : base ≤ n) (R1 R2 : List AtomT) (h1 : R1.length ≤ maxLen) (h2 : R2.length ≤ maxLen) (eo ei : TypeId) :
  Own2 atomC 4 eo ei (((W.alloc (.cells (R1.flatMap atomC).toArray ei)).alloc (.cells (R2.flatMap atomC).toArray ei)).alloc (.cells #[.slice (some ⟨n, 0, none⟩) R1.length R1.length, .slice (some ⟨n + 1, 0, none⟩) R2.length R2.length] eo)) base (.slice (some ⟨n + 1 + 1, 0, none⟩) 2 2) [R1, R2] := by
 subst hn
 have a1 := own_bk (C := atomC) (k := 4) (fun _ => rfl) (base := base) (L := R1) (heap_alloc_new W (.cells (R1.flatMap atomC).toArray ei)) hb h1
 have a2 := own_bk (C := atomC) (k := 4) (fun _ => rfl) (base := base) (L := R2) (heap_alloc_new (W.alloc (.cells (R1.flatMap atomC).toArray ei)) (.cells (R2.flatMap atomC).toArray ei)) (by rw [World.size_alloc]; omega) h2
 rw [World.size_alloc] at a2
 have a3 := own_bk (C := oneC) (k := 1) (fun _ => rfl) (base := base) (L := [.slice (some ⟨W.heap.size, 0, none⟩) R1.length R1.length, .slice (some ⟨W.heap.size + 1, 0, none⟩) R2.length R2.length]) (heap_alloc_new ((W.alloc (.cells (R1.flatMap atomC).toArray ei)).alloc (.cells (R2.flatMap atomC).toArray ei)) (.cells #[.slice (some ⟨W.heap.size, 0, none⟩) R1.length R1.length, .slice (some ⟨W.heap.size + 1, 0, none⟩) R2.length R2.length] eo)) (by rw [World.size_alloc, World.size_alloc]; omega) (by show 2 ≤ maxLen; decide)
 rw [World.size_alloc, World.size_alloc] at a3
 refine ⟨[.slice (some ⟨W.heap.size, 0, none⟩) R1.length R1.length, .slice (some ⟨W.heap.size + 1, 0, none⟩) R2.length R2.length], rfl, a3, fun i u L hi hL => ?_⟩
 match i, hi, hL with
 | 0, hi, hL =>
  simp only [List.getElem?_cons_zero, Option.some.injEq] at hi hL
  subst hi; subst hL
  exact (a1.alloc _).alloc _
 | 1, hi, hL =>
  simp only [List.getElem?_cons_succ, List.getElem?_cons_zero, Option.some.injEq] at hi hL
  subst hi; subst hL
  exact a2.alloc _
 | i + 2, hi, _ => simp at hi
end Go.Proofs.YtcfohakgokiedaaGreatDoor
