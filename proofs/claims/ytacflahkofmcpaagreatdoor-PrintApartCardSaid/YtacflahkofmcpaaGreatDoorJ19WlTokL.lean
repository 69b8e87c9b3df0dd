/- The numbers that a made test is read from, one by one: the closure of Small. -/
import Derived.Test.YtacflahkofmcpaaGreatDoorJ10LexCut
import Derived.Test.YtacflahkofmcpaaGreatDoorJ18WlSmallP
import Derived.Test.YtacflahkofmcpaaGreatDoorJ17WlTokT
import Derived.Lib.ItoaLen
namespace Go.Proofs.YtacflahkofmcpaaGreatDoor.Wl
open Go.RowKit

theorem nxt_in {zs : List Int} {i : Nat} (h : i < zs.length) : bits .and .i64 (zs[i]) 65535 = ((nxtV zs i : Nat) : Int) := by
  unfold nxtV
  rw [low16, List.getD_eq_getElem?_getD, List.getElem?_eq_getElem h]
  rfl
theorem nxt_out {zs : List Int} {i : Nat} (h : zs.length ≤ i) : nxtV zs i = 0 := by
  unfold nxtV
  rw [List.getD_eq_getElem?_getD, List.getElem?_eq_none h]
  rfl
set_option maxHeartbeats 2000000 in
theorem next_is (zs : List Int) (a : Option Addr) (cap i B Bl : Nat) (w0 w : World) (hi : i < 1000) (_hz : zs.length ≤ 9223372036854775807) (ba : Bk w B #[.int .i64 (i : Int)]) (bl : Bk w Bl #[.slice a zs.length cap]) (hne : B ≠ Bl) (hon : On w0 w) (hB : w0.heap.size ≤ B) (hr : Rd intC 1 w0 (.slice a zs.length cap) zs) :
    Calls Tryz.prog 22 #[.pointer (some ⟨B, 0, none⟩), .pointer (some ⟨Bl, 0, none⟩)] w fun e w' => e = .returned (.int .i64 (nxtV zs i : Nat)) ∧ w' = w.setCell ⟨B, 0, none⟩ (.int .i64 ((i + 1 : Nat) : Int)) := by
  have b0 := ba.at (i := 0) rfl
  have b1 := ba.fr 0
  have b2 := ba.lt
  have l0 := bl.at (i := 0) rfl
  have l2 := bl.lt
  have hne' : ¬ Bl = B := fun h => hne h.symm
  have ec : ((i + 1 : Nat) : Int) = (i : Int) + 1 := by omega
  rcases Nat.lt_or_ge i zs.length with hlt | hge
  · obtain ⟨g, off, rfl, hg, hcell⟩ := hr.at (List.getElem?_eq_getElem hlt)
    have hc0 : w.cell? ⟨g, off + i, none⟩ = some (.int .i64 zs[i]) := by
      refine (hon.cell (p := ⟨g, off + i, none⟩) hg).trans ?_
      have := hcell 0 _ rfl
      simpa using this
    have hgB : ¬ g = B := by omega
    have hgw := Nat.lt_of_lt_of_le hg hon.size
    have hv := nxt_in hlt
    clear hr hcell ba bl hon
    generalize nxtV zs i = V at *
    generalize zs[i] = z at *
    rw [ec]
    go_enter Tryz.func22, Tryz.ntmps22
    go_wp2
    go_ret
    exact ⟨rfl, rfl⟩
  · rw [nxt_out hge, ec]
    clear hr ba bl hon
    go_enter Tryz.func22, Tryz.ntmps22
    go_wp2
    go_ret
    exact ⟨rfl, rfl⟩
end Go.Proofs.YtacflahkofmcpaaGreatDoor.Wl

namespace Go.Proofs.YtacflahkofmcpaaGreatDoor.Wl
open Go.RowKit

structure Sx (w : World) (zs : List Int) (a : Option Addr) (cap : Nat) (c1 c2 : Value) (i : Nat) (wr : World) : Prop where
  bl : Bk wr w.heap.size #[.slice a zs.length cap]
  br : Bk wr (w.heap.size + 1) #[.string ⟨#[]⟩, .slice none 0 0, .slice none 0 0, .int .i64 0, .slice none 0 0]
  bt : Bk wr (w.heap.size + 1 + 1) #[.string ⟨#[116]⟩, c1, c2, .int .i64 0, .slice none 0 0]
  ba : Bk wr (w.heap.size + 1 + 1 + 1) #[.int .i64 (i : Int)]
  on : On w wr
section
variable {w wr wr' : World} {zs : List Int} {a : Option Addr} {cap : Nat} {c1 c2 : Value} {i : Nat}
theorem Sx.wa (h : Sx w zs a cap c1 c2 i wr) (k : Wa (w.heap.size + 1 + 1 + 1) wr wr') {j : Nat} (ba : Bk wr' (w.heap.size + 1 + 1 + 1) #[.int .i64 (j : Int)]) : Sx w zs a cap c1 c2 j wr' :=
  ⟨h.bl.wa k (by omega), h.br.wa k (by omega), h.bt.wa k (by omega), ba, h.on.wa k (by omega)⟩
theorem Sx.alloc (h : Sx w zs a cap c1 c2 i wr) (o : Obj) : Sx w zs a cap c1 c2 i (wr.alloc o) := ⟨h.bl.alloc o, h.br.alloc o, h.bt.alloc o, h.ba.alloc o, h.on.alloc o⟩
theorem Sx.drew (h : Sx w zs a cap c1 c2 i wr) : Sx w zs a cap c1 c2 i wr.drew := ⟨h.bl, h.br, h.bt, h.ba, h.on.drew⟩
theorem Sx.grown (h : Sx w zs a cap c1 c2 i wr) {v : Value} {base : Nat} (hg : wr.grownBy wr' v.ownBlock) (hb : w.heap.size + 1 + 1 + 1 < base) (hv : ∀ g, v.ownBlock = some g → base ≤ g) : Sx w zs a cap c1 c2 i wr' :=
  ⟨h.bl.grown hg (base := base) (by omega) hv, h.br.grown hg (base := base) (by omega) hv, h.bt.grown hg (base := base) (by omega) hv, h.ba.grown hg (base := base) (by omega) hv, h.on.grown hg (fun g hg => by have := hv g hg; omega)⟩
theorem Sx.step (h : Sx w zs a cap c1 c2 i wr) : Sx w zs a cap c1 c2 (i + 1) (wr.setCell ⟨w.heap.size + 1 + 1 + 1, 0, none⟩ (.int .i64 ((i + 1 : Nat) : Int))) :=
  h.wa ((Wa.refl _ _).setAt 0 _) (Bk.put (cs := [.int .i64 (i : Int)]) h.ba 0 _)
theorem Sx.size (h : Sx w zs a cap c1 c2 i wr) : w.heap.size + 1 + 1 + 1 < wr.heap.size := h.ba.lt
theorem Sx.put1 (h : Sx w zs a cap c1 c2 i wr) (v : Value) : Sx w zs a cap v c2 i (wr.setCell ⟨w.heap.size + 1 + 1, 1, none⟩ v) :=
  ⟨h.bl.far (by omega) _ _, h.br.far (by omega) _ _, Bk.put (cs := [.string ⟨#[116]⟩, c1, c2, .int .i64 0, .slice none 0 0]) h.bt 1 v, h.ba.far (by omega) _ _, h.on.setNew (by omega) v⟩
theorem Sx.put2 (h : Sx w zs a cap c1 c2 i wr) (v : Value) : Sx w zs a cap c1 v i (wr.setCell ⟨w.heap.size + 1 + 1, 2, none⟩ v) :=
  ⟨h.bl.far (by omega) _ _, h.br.far (by omega) _ _, Bk.put (cs := [.string ⟨#[116]⟩, c1, c2, .int .i64 0, .slice none 0 0]) h.bt 2 v, h.ba.far (by omega) _ _, h.on.setNew (by omega) v⟩
theorem sx_start (w : World) (zs : List Int) (a : Option Addr) (cap : Nat) (T1 T2 T3 T4 : TypeId) : Sx w zs a cap (.slice none 0 0) (.slice none 0 0) 0 ((((w.alloc (.cells #[.slice a zs.length cap] T1)).alloc (.cells #[.string ⟨#[]⟩, .slice none 0 0, .slice none 0 0, .int .i64 0, .slice none 0 0] T2)).alloc (.cells #[.string ⟨#[116]⟩, .slice none 0 0, .slice none 0 0, .int .i64 0, .slice none 0 0] T3)).alloc (.cells #[.int .i64 0] T4)) := by
  refine ⟨(((Bk.new w _ _).alloc _).alloc _).alloc _, ?_, ?_, ?_, ((((On.refl w).alloc _).alloc _).alloc _).alloc _⟩
  · have := Bk.new (w.alloc (.cells #[.slice a zs.length cap] T1)) #[.string ⟨#[]⟩, .slice none 0 0, .slice none 0 0, .int .i64 0, .slice none 0 0] T2
    rw [World.size_alloc] at this
    exact (this.alloc _).alloc _
  · have := Bk.new ((w.alloc (.cells #[.slice a zs.length cap] T1)).alloc (.cells #[.string ⟨#[]⟩, .slice none 0 0, .slice none 0 0, .int .i64 0, .slice none 0 0] T2)) #[.string ⟨#[116]⟩, .slice none 0 0, .slice none 0 0, .int .i64 0, .slice none 0 0] T3
    rw [World.size_alloc, World.size_alloc] at this
    exact this.alloc _
  · have := Bk.new (((w.alloc (.cells #[.slice a zs.length cap] T1)).alloc (.cells #[.string ⟨#[]⟩, .slice none 0 0, .slice none 0 0, .int .i64 0, .slice none 0 0] T2)).alloc (.cells #[.string ⟨#[116]⟩, .slice none 0 0, .slice none 0 0, .int .i64 0, .slice none 0 0] T3)) #[.int .i64 0] T4
    rw [World.size_alloc, World.size_alloc, World.size_alloc] at this
    exact this
end
abbrev thrO (w : World) (base : Nat) (v : Value) (LL : List (List InsT)) : Prop := Own2 insC 9 48 52 w base v LL
/-- The closure's next number, in such a world. -/
theorem Sx.next {w wr : World} {zs : List Int} {a : Option Addr} {cap : Nat} {c1 c2 : Value} {i : Nat} (h : Sx w zs a cap c1 c2 i wr) (hi : i < 1000) (hz : zs.length ≤ 9223372036854775807) (hr : Rd intC 1 w (.slice a zs.length cap) zs) :
    Calls Tryz.prog 22 #[.pointer (some ⟨w.heap.size + 1 + 1 + 1, 0, none⟩), .pointer (some ⟨w.heap.size, 0, none⟩)] wr fun e w' => e = .returned (.int .i64 (nxtV zs i : Nat)) ∧ Sx w zs a cap c1 c2 (i + 1) w' ∧ Wa (w.heap.size + 1 + 1 + 1) wr w' := by
  refine (next_is zs a cap i (w.heap.size + 1 + 1 + 1) w.heap.size w wr hi hz h.ba h.bl (by omega) h.on (by omega) hr).mono ?_
  rintro e w' ⟨rfl, rfl⟩
  exact ⟨rfl, h.step, (Wa.refl _ _).setAt 0 _⟩
end Go.Proofs.YtacflahkofmcpaaGreatDoor.Wl

namespace Go.Proofs.YtacflahkofmcpaaGreatDoor.Wl
open Go.RowKit

theorem infoIns : (Tryz.prog.info? 52).map (fun i => (i.zero, i.size, i.bytes)) = some (some (.agg #[.int .i64 0, .int .i64 0, .int .i64 0, .int .i64 0, .int .i64 0, .int .i64 0, .int .i64 0, .int .i64 0, .int .i64 0]), 9, 72) := by kernel_rfl
theorem infoThr : (Tryz.prog.info? 48).map (fun i => (i.zero, i.size, i.bytes)) = some (some (.slice none 0 0), 1, 24) := by kernel_rfl
theorem infoInit : (Tryz.prog.info? 55).map (fun i => (i.zero, i.size, i.bytes)) = some (some (.agg #[.int .i64 0, .int .i64 0]), 2, 16) := by kernel_rfl
abbrev iniO (w : World) (base : Nat) (v : Value) (L : List InitT) : Prop := w.ownsRow base 55 2 v L.length (L.flatMap iniC)
theorem news_at (w : World) (cs : Array Value) (e : TypeId) : ∀ (j : Nat) (u : Value), cs.toList[j]? = some u → (w.alloc (.cells cs e)).cell? ((⟨w.heap.size, 0, none⟩ : Addr).add j) = some u := by
  intro j u hu
  rw [new_cell]
  exact hu
theorem one_ini (x y : Int) : ∀ u ∈ iniC ⟨x, y⟩, u.oneCell' = true := by
  intro u hu
  simp only [iniC, List.mem_cons, List.not_mem_nil, or_false] at hu
  rcases hu with rfl | rfl <;> rfl
theorem one_max : 0 + 1 ≤ maxLen := by decide
theorem one_bytes : (0 + 1) * 16 ≤ 140737488355328 := by decide
theorem base_alloc {b : Nat} {w : World} (h : b ≤ w.heap.size) (o : Obj) : b ≤ (w.alloc o).heap.size := by simp; omega
theorem own_set {w : World} {base k n N : Nat} {e : TypeId} {v : Value} {xs : List Value} (h : w.ownsRow base e k v n xs) (hN : N < base) (i : Nat) (u : Value) : (w.setCell ⟨N, i, none⟩ u).ownsRow base e k v n xs :=
  ownsRow_setCell_other h (fun hg => by have := (h.lt N hg).1; omega) u
theorem Own2.set {α : Type} {C : α → List Value} {k : Nat} {eo ei : TypeId} {w : World} {base N : Nat} {v : Value} {LL : List (List α)} (h : Own2 C k eo ei w base v LL) (hN : N < base) (i : Nat) (u : Value) : Own2 C k eo ei (w.setCell ⟨N, i, none⟩ u) base v LL := by
  obtain ⟨vs, h1, h2, h3⟩ := h
  exact ⟨vs, h1, own_set h2 hN i u, fun j x L a b => own_set (h3 j x L a b) hN i u⟩
theorem own_puts {base k n N : Nat} {e : TypeId} {v : Value} {xs : List Value} : ∀ (vs : List Value) (w : World) (o : Nat), w.ownsRow base e k v n xs → N < base → (putCells w N o vs).ownsRow base e k v n xs
  | [], _, _, h, _ => h
  | u :: vs, _, o, h, hN => own_puts vs _ _ (own_set h hN o u) hN
theorem Own2.puts {α : Type} {C : α → List Value} {k : Nat} {eo ei : TypeId} {base N : Nat} {v : Value} {LL : List (List α)} : ∀ (vs : List Value) (w : World) (o : Nat), Own2 C k eo ei w base v LL → N < base → Own2 C k eo ei (putCells w N o vs) base v LL
  | [], _, _, h, _ => h
  | u :: vs, _, o, h, hN => Own2.puts vs _ _ (h.set hN o u) hN
theorem one_slice (a : Option Addr) (m c : Nat) : ∀ u ∈ [Value.slice a m c], u.oneCell' = true := by
  intro u hu
  simp only [List.mem_cons, List.not_mem_nil, or_false] at hu
  subst hu
  rfl
theorem none_own {b : Nat} : ∀ g, (Value.slice none 0 0).ownBlock = some g → b ≤ g := fun g h => by cases h
theorem news_two (w : World) (o : Obj) (cs : Array Value) (e : TypeId) : ∀ (j : Nat) (u : Value), cs.toList[j]? = some u → ((w.alloc o).alloc (.cells cs e)).cell? ((⟨w.heap.size + 1, 0, none⟩ : Addr).add j) = some u := by
  intro j u hu
  have := new_cell (w.alloc o) cs e j
  rw [World.size_alloc] at this
  rw [this]
  exact hu
theorem one_ins (x : InsT) : ∀ u ∈ insC x, u.oneCell' = true := by
  intro u hu
  simp only [insC, List.mem_cons, List.not_mem_nil, or_false] at hu
  rcases hu with rfl | rfl | rfl | rfl | rfl | rfl | rfl | rfl | rfl <;> rfl
theorem one_ins2 (x y : InsT) : ∀ u ∈ insC x ++ insC y, u.oneCell' = true := by
  intro u hu
  rcases List.mem_append.1 hu with h | h
  · exact one_ins x u h
  · exact one_ins y u h
abbrev zIns : Value := .agg #[.int .i64 0, .int .i64 0, .int .i64 0, .int .i64 0, .int .i64 0, .int .i64 0, .int .i64 0, .int .i64 0, .int .i64 0]
abbrev anyO (w : World) (base : Nat) (v : Value) (LL : List (List AtomT)) : Prop := Own2 atomC 4 59 58 w base v LL
/-- v is this test, in rows of its own. -/
def TOwn (w : World) (base : Nat) (v : Value) (t : TestT) : Prop :=
  ∃ a1 c1 a2 c2 a3 c3, v = .agg #[.string t.name, .slice a1 t.ini.length c1, .slice a2 t.thr.length c2, .int .i64 t.cond.k, .slice a3 t.cond.any.length c3] ∧ iniO w base (.slice a1 t.ini.length c1) t.ini ∧ thrO w base (.slice a2 t.thr.length c2) t.thr ∧ anyO w base (.slice a3 t.cond.any.length c3) t.cond.any
theorem Own2.mono {α : Type} {C : α → List Value} {k : Nat} {eo ei : TypeId} {w : World} {base base' : Nat} {v : Value} {LL : List (List α)} (h : Own2 C k eo ei w base v LL) (hb : base' ≤ base) : Own2 C k eo ei w base' v LL := by
  obtain ⟨vs, h1, h2, h3⟩ := h
  exact ⟨vs, h1, own_mono h2 hb, fun i u L a b => own_mono (h3 i u L a b) hb⟩
theorem flat_len {α : Type} {C : α → List Value} {k : Nat} (hC : ∀ x, (C x).length = k) : ∀ L : List α, (L.flatMap C).length = L.length * k
  | [] => by simp
  | x :: L => by rw [List.flatMap_cons, List.length_append, hC, flat_len hC L, List.length_cons, Nat.succ_mul, Nat.add_comm]
theorem own_bk {α : Type} {C : α → List Value} {k : Nat} (hC : ∀ x, (C x).length = k) {w : World} {N base : Nat} {e : TypeId} {L : List α} (h : w.heap[N]? = some (.cells (L.flatMap C).toArray e (0, 0))) (hb : base ≤ N) (hm : L.length ≤ maxLen) : w.ownsRow base e k (.slice (some ⟨N, 0, none⟩) L.length L.length) L.length (L.flatMap C) := by
  have hl := flat_len hC L
  refine ⟨hl, Or.inr ⟨N, L.length, _, rfl, hb, h, Nat.le_refl _, hm, by simpa using hl, ?_⟩⟩
  rw [List.take_of_length_le (by simp [hl])]
theorem any_new (W : World) (n base : Nat) (hn : W.heap.size = n) (hb : base ≤ n) (R1 R2 : List AtomT) (h1 : R1.length ≤ maxLen) (h2 : R2.length ≤ maxLen) (eo ei : TypeId) :
    Own2 atomC 4 eo ei (((W.alloc (.cells (R1.flatMap atomC).toArray ei)).alloc (.cells (R2.flatMap atomC).toArray ei)).alloc (.cells #[.slice (some ⟨n, 0, none⟩) R1.length R1.length, .slice (some ⟨n + 1, 0, none⟩) R2.length R2.length] eo)) base (.slice (some ⟨n + 1 + 1, 0, none⟩) 2 2) [R1, R2] := by
  subst hn
  have a1 := own_bk (C := atomC) (k := 4) (fun _ => rfl) (base := base) (L := R1) (heap_alloc_new W (.cells (R1.flatMap atomC).toArray ei)) hb h1
  have a2 := own_bk (C := atomC) (k := 4) (fun _ => rfl) (base := base) (L := R2) (heap_alloc_new (W.alloc (.cells (R1.flatMap atomC).toArray ei)) (.cells (R2.flatMap atomC).toArray ei)) (by rw [World.size_alloc]; omega) h2
  rw [World.size_alloc] at a2
  have a3 := own_bk (C := oneC) (k := 1) (fun _ => rfl) (base := base) (L := [.slice (some ⟨W.heap.size, 0, none⟩) R1.length R1.length, .slice (some ⟨W.heap.size + 1, 0, none⟩) R2.length R2.length]) (heap_alloc_new ((W.alloc (.cells (R1.flatMap atomC).toArray ei)).alloc (.cells (R2.flatMap atomC).toArray ei)) (.cells #[.slice (some ⟨W.heap.size, 0, none⟩) R1.length R1.length, .slice (some ⟨W.heap.size + 1, 0, none⟩) R2.length R2.length] eo)) (by rw [World.size_alloc, World.size_alloc]; omega) (by show 2 ≤ maxLen; decide)
  rw [World.size_alloc, World.size_alloc] at a3
  refine ⟨[.slice (some ⟨W.heap.size, 0, none⟩) R1.length R1.length, .slice (some ⟨W.heap.size + 1, 0, none⟩) R2.length R2.length], rfl, a3, fun i u L hi hL => ?_⟩
  match i, hi, hL with
  | 0, hi, hL =>
    simp only [List.getElem?_cons_zero, Option.some.injEq] at hi hL
    subst hi; subst hL
    exact (a1.alloc _).alloc _
  | 1, hi, hL =>
    simp only [List.getElem?_cons_succ, List.getElem?_cons_zero, Option.some.injEq] at hi hL
    subst hi; subst hL
    exact a2.alloc _
  | i + 2, hi, _ => simp at hi
end Go.Proofs.YtacflahkofmcpaaGreatDoor.Wl

namespace Go.Proofs.YtacflahkofmcpaaGreatDoor.Wl
open Go.RowKit

def sz (x : ByteArray) : Nat := x.data.toList.length
theorem sz_num {n : Int} (h : B64 n) : sz (numT n) ≤ 21 := by
  show (Lib.itoa n).length ≤ 21
  exact Lib.itoa_length_le n h.1 h.2
theorem sz_opd {o : Opd} (h : B64 o.v) : sz (opdT o) ≤ 21 := by
  unfold opdT
  split
  · exact sz_num h
  · show 2 ≤ 21
    decide
theorem sz_sgn (k : Int) : sz (sgnT k) ≤ 21 := by
  unfold sgnT
  generalize k.toNat = n
  match n with
  | 0 => decide
  | 1 => decide
  | 2 => decide
  | 3 => decide
  | 4 => decide
  | 5 => decide
  | 6 => decide
  | 7 => decide
  | 8 => decide
  | 9 => decide
  | 10 => decide
  | 11 => decide
  | n + 12 => simp [sz]
theorem sz_reg (r : Int) : sz (regT r) ≤ 21 := by show 2 ≤ 21; decide
theorem sz_loc (l : Int) : sz (locT l) ≤ 21 := by show 1 ≤ 21; decide
theorem sz_ini {x : InitT} (h : B64 x.v) : ∀ y ∈ iniTk x, sz y ≤ 21 := by
  intro y hy
  unfold iniTk at hy
  simp only [List.mem_cons, List.not_mem_nil, or_false] at hy
  rcases hy with rfl | rfl | rfl | rfl
  · exact sz_loc _
  · decide
  · exact sz_num h
  · decide
theorem sz_ins {x : InsT} (ha : B64 x.a.v) (hb : B64 x.b.v) (hn : B64 x.n) : ∀ y ∈ insTk x, sz y ≤ 21 := by
  intro y hy
  have h1 := sz_opd ha
  have h2 := sz_opd hb
  have h3 := sz_num hn
  have h4 := sz_reg x.r
  have h5 := sz_loc x.l
  have h6 := sz_sgn x.o
  unfold insTk at hy
  repeat' split at hy
  all_goals
    simp only [List.mem_cons, List.not_mem_nil, or_false] at hy
    rcases hy with rfl | rfl | rfl | rfl | rfl | rfl | rfl | rfl <;> first | assumption | decide
theorem sz_atom {x : AtomT} (ht : B64 x.t) (hv : B64 x.v) : ∀ y ∈ atomTk x, sz y ≤ 21 := by
  intro y hy
  have h1 := sz_num ht
  have h2 := sz_num hv
  have h4 := sz_reg x.r
  have h5 := sz_loc x.l
  unfold atomTk at hy
  split at hy
  all_goals
    simp only [List.mem_cons, List.not_mem_nil, or_false] at hy
    rcases hy with rfl | rfl | rfl | rfl | rfl <;> first | assumption | decide
theorem sz_row : ∀ (r : List AtomT) (h : ByteArray), sz h ≤ 21 → (∀ x ∈ r, B64 x.t ∧ B64 x.v) → ∀ y ∈ rowTk h r, sz y ≤ 21
  | [], _, _, _, y, hy => by simp [rowTk] at hy
  | x :: r, h, hh, hr, y, hy => by
    rw [rowTk] at hy
    rcases List.mem_cons.1 hy with rfl | hy
    · exact hh
    · rcases List.mem_append.1 hy with hy | hy
      · exact sz_atom (hr x (by simp)).1 (hr x (by simp)).2 y hy
      · exact sz_row r xAnd (by decide) (fun z hz => hr z (by simp [hz])) y hy
theorem sz_any : ∀ (L : List (List AtomT)) (h : ByteArray), sz h ≤ 21 → (∀ r ∈ L, ∀ x ∈ r, B64 x.t ∧ B64 x.v) → ∀ y ∈ anyTk h L, sz y ≤ 21
  | [], _, _, _, y, hy => by simp [anyTk] at hy
  | r :: L, h, hh, hr, y, hy => by
    rw [anyTk] at hy
    rcases List.mem_append.1 hy with hy | hy
    · exact sz_row r h hh (hr r (by simp)) y hy
    · exact sz_any L xOr (by decide) (fun z hz => hr z (by simp [hz])) y hy
theorem sz_block {α : Type} {hd : ByteArray} {f : α → List ByteArray} {L : List α} (h : sz hd ≤ 21) (hf : ∀ x ∈ L, ∀ y ∈ f x, sz y ≤ 21) : ∀ y ∈ blockTk hd f L, sz y ≤ 21 := by
  intro y hy
  unfold blockTk at hy
  simp only [List.mem_append, List.mem_cons, List.not_mem_nil, or_false, List.mem_flatMap] at hy
  rcases hy with ((rfl | rfl) | ⟨x, hx, hy⟩) | rfl
  · exact h
  · decide
  · exact hf x hx y hy
  · decide
theorem sz_test {t : TestT} (hB : TestB t) : ∀ y ∈ testTk t, sz y ≤ 21 + sz t.name := by
  intro y hy
  unfold testTk at hy
  simp only [List.mem_append, List.mem_cons, List.not_mem_nil, or_false, List.mem_flatMap] at hy
  rcases hy with ((((rfl | rfl | rfl) | hy) | ⟨L, hL, hy⟩) | hy) | rfl
  · have : sz xTst = 4 := rfl
    omega
  · omega
  · have : sz xOp = 1 := rfl
    omega
  · split at hy
    · have := sz_block (by decide) (fun x hx => sz_ini (hB.ini x hx)) y hy
      omega
    · simp at hy
  · have := sz_block (by decide) (fun x hx => sz_ins (hB.thr L hL x hx).1 (hB.thr L hL x hx).2.1 (hB.thr L hL x hx).2.2) y hy
    omega
  · unfold condTk at hy
    split at hy
    · simp at hy
    · rcases List.mem_append.1 hy with hy | hy
      · have : sz y ≤ 21 := by
          split at hy
          · exact sz_any _ _ (by decide) hB.any y hy
          · exact sz_any _ _ (by decide) hB.any y hy
        omega
      · simp only [List.mem_cons, List.not_mem_nil, or_false] at hy
        subst hy
        have : sz xEnd = 1 := rfl
        omega
  · have : sz xCl = 1 := rfl
    omega
theorem few_test {t : TestT} (hB : TestB t) : (testTk t).length ≤ 300000000 := by
  have n1 := hB.l1
  have n2 := hB.l2
  have n3 := thr_len t.thr hB.l3
  have n4 := any_len t.cond.any (if t.cond.k == 1 then xEx else xFa) hB.l5
  have n4' := hB.l4
  have n5 : (condTk t.cond).length ≤ 96096025 := by
    unfold condTk
    split
    · simp
    · rw [List.length_append, List.length_cons, List.length_nil]
      omega
  have n6 : (blockTk xIni iniTk t.ini).length ≤ 100000 := by
    have := blkIni_lens t.ini
    unfold blockTk
    simp only [List.length_append, List.length_cons, List.length_nil]
    omega
  unfold testTk
  simp only [List.length_append, List.length_cons, List.length_nil]
  split
  · omega
  · simp only [List.length_nil]
    omega
theorem chunks_le (L : List ByteArray) (c : Nat) (h : ∀ y ∈ L, sz y ≤ c) : (L.flatMap chunk).length ≤ L.length * (c + 1) := by
  induction L with
  | nil => simp
  | cons x L ih =>
    have h1 := ih (fun y hy => h y (by simp [hy]))
    have h2 := h x (by simp)
    have h3 : (chunk x).length = sz x + 1 := by unfold chunk sz; simp
    rw [List.flatMap_cons, List.length_append, List.length_cons, Nat.succ_mul, h3]
    omega
theorem text_len {t : TestT} (hB : TestB t) (hn : sz t.name ≤ 100000) : (textL t).length ≤ 140737488355328 := by
  have h1 := chunks_le (testTk t) (21 + sz t.name) (sz_test hB)
  have h2 := few_test hB
  unfold textL
  refine Nat.le_trans h1 ?_
  refine Nat.le_trans (Nat.mul_le_mul h2 (show 21 + sz t.name + 1 ≤ 100022 by omega)) (by decide)
/-! Tests made of numbers. -/
theorem b64_nat (n : Nat) (h : n < 65536) : B64 (n : Int) := ⟨by omega, by omega⟩
theorem insOf_b (locs x : Nat) : ∀ y ∈ insOf locs x, B64 y.a.v ∧ B64 y.b.v ∧ B64 y.n := by
  have z0 : B64 0 := ⟨by omega, by omega⟩
  have z1 : B64 1 := ⟨by omega, by omega⟩
  have z2 : B64 2 := ⟨by omega, by omega⟩
  have ho : B64 (opdOf x).v := by
    unfold opdOf
    split
    · exact z0
    · exact b64_nat _ (by omega)
  intro y hy
  unfold insOf at hy
  repeat' split at hy
  all_goals
    simp only [List.mem_cons, List.not_mem_nil, or_false] at hy
    rcases hy with rfl | rfl <;> first | exact ⟨ho, z0, z0⟩ | exact ⟨z0, z0, z0⟩ | exact ⟨ho, z1, z0⟩ | exact ⟨ho, z0, z1⟩ | exact ⟨z2, z0, z0⟩
theorem rowFrom_b (l : List Int) (most locs : Nat) : ∀ k at' mem, ∀ y ∈ (rowFrom l most locs k at' mem).1, B64 y.a.v ∧ B64 y.b.v ∧ B64 y.n
  | 0, at', mem, y, hy => by simp [rowFrom] at hy
  | k + 1, at', mem, y, hy => by
    unfold rowFrom at hy
    split at hy
    · rcases List.mem_append.1 hy with hy | hy
      · exact insOf_b _ _ y hy
      · exact rowFrom_b l most locs k _ _ y hy
    · simp at hy
theorem thrFrom_b (l : List Int) (most locs : Nat) : ∀ n at' mem, ∀ L ∈ (thrFrom l most locs n at' mem).1, ∀ y ∈ L, B64 y.a.v ∧ B64 y.b.v ∧ B64 y.n
  | 0, at', mem, L, hL, y, hy => by simp [thrFrom] at hL
  | n + 1, at', mem, L, hL, y, hy => by
    unfold thrFrom at hL
    rcases List.mem_cons.1 hL with rfl | hL
    · exact rowFrom_b l most locs _ _ _ y hy
    · exact thrFrom_b l most locs n _ _ L hL y hy
theorem small_B (l : List Int) (most : Nat) : TestB (smallP l most) := by
  obtain ⟨h1, h2⟩ := thrOf_ok l most
  have hi := iniOf_ok l
  have z0 : B64 0 := ⟨by omega, by omega⟩
  have z1 : B64 1 := ⟨by omega, by omega⟩
  have zm : B64 (-1) := ⟨by omega, by omega⟩
  refine ⟨?_, ?_, ?_, ?_, ?_, ?_, ?_, ?_⟩
  · intro x hx
    have hx' : x ∈ iniOf l := hx
    unfold iniOf at hx'
    split at hx'
    · simp only [List.mem_cons, List.not_mem_nil, or_false] at hx'
      subst hx'
      exact b64_nat _ (by omega)
    · simp at hx'
  · exact fun L hL y hy => thrFrom_b l most _ _ _ _ L hL y hy
  · intro r hr x hx
    have hr' : r ∈ (condOf (nxtV l (thrOf l most).2)).any := hr
    unfold condOf at hr'
    split at hr'
    · unfold anyOf at hr'
      simp only [List.mem_cons, List.not_mem_nil, or_false] at hr'
      rcases hr' with rfl | rfl
      · simp only [List.mem_cons, List.not_mem_nil, or_false] at hx
        subst hx
        exact ⟨z0, b64_nat _ (by omega)⟩
      · simp only [List.mem_cons, List.not_mem_nil, or_false] at hx
        rcases hx with rfl | rfl
        · exact ⟨zm, b64_nat _ (by omega)⟩
        · exact ⟨z1, b64_nat _ (by omega)⟩
    · simp at hr'
  · have : (smallP l most).ini = iniOf l := rfl
    rw [this]
    omega
  · have : (smallP l most).thr = (thrOf l most).1 := rfl
    rw [this]
    omega
  · intro L hL
    have := (h2 L hL).1.2.1
    omega
  · have : (smallP l most).cond = condOf (nxtV l (thrOf l most).2) := rfl
    rw [this]
    unfold condOf anyOf
    split <;> simp
  · intro r hr
    have hr' : r ∈ (condOf (nxtV l (thrOf l most).2)).any := hr
    unfold condOf at hr'
    split at hr'
    · unfold anyOf at hr'
      simp only [List.mem_cons, List.not_mem_nil, or_false] at hr'
      rcases hr' with rfl | rfl <;> simp
    · simp at hr'
theorem small_text (l : List Int) (most : Nat) : (textL (smallP l most)).length ≤ 140737488355328 := text_len (small_B l most) (by show 1 ≤ 100000; decide)
theorem TOwn.rd4 {w : World} {base : Nat} {v : Value} {t : TestT} (h : TOwn w base v t) : ∃ a1 c1 a2 c2 a3 c3, v = .agg #[.string t.name, .slice a1 t.ini.length c1, .slice a2 t.thr.length c2, .int .i64 t.cond.k, .slice a3 t.cond.any.length c3] ∧
    Rd iniC 2 w (.slice a1 t.ini.length c1) t.ini ∧ Rd2 insC 9 w (.slice a2 t.thr.length c2) t.thr ∧ Rd2 atomC 4 w (.slice a3 t.cond.any.length c3) t.cond.any := by
  obtain ⟨a1, c1, a2, c2, a3, c3, e, h1, h2, h3⟩ := h
  exact ⟨a1, c1, a2, c2, a3, c3, e, Rd.own (fun _ => rfl) h1, h2.rd (fun _ => rfl), h3.rd (fun _ => rfl)⟩
end Go.Proofs.YtacflahkofmcpaaGreatDoor.Wl
