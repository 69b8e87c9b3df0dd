/- The numbers that a made test is read from, one by one: the closure of Small. -/
import Derived.Test.YtioiabfheeglgaaGreatDoorJ02RegFin
import Derived.Test.YtioiabfheeglgaaGreatDoorJ01Puts
import Derived.Test.YtioiabfheeglgaaGreatDoorJ16SmallP
namespace Go.Proofs.YtioiabfheeglgaaGreatDoor
open Go.RowKit

theorem nxt_in {zs : List Int} {i : Nat} (h : i < zs.length) : bits .and .i64 (zs[i]) 65535 = ((nxtV zs i : Nat) : Int) := by
 unfold nxtV
 rw [low16, List.getD_eq_getElem?_getD, List.getElem?_eq_getElem h]
 rfl
theorem nxt_out {zs : List Int} {i : Nat} (h : zs.length ≤ i) : nxtV zs i = 0 := by
 unfold nxtV
 rw [List.getD_eq_getElem?_getD, List.getElem?_eq_none h]
 rfl
set_option maxHeartbeats 2000000 in
theorem next_is (zs : List Int) (a : Option Addr) (cap i B Bl : Nat) (w0 w : World) (hi : i < 1000) (_hz : zs.length ≤ 9223372036854775807) (ba : Bk w B #[.int .i64 (i : Int)]) (bl : Bk w Bl #[.slice a zs.length cap]) (hne : B ≠ Bl) (hon : On w0 w) (hB : w0.heap.size ≤ B) (hr : Rd intC 1 w0 (.slice a zs.length cap) zs) :
  Calls Tryz.prog 31 #[.pointer (some ⟨B, 0, none⟩), .pointer (some ⟨Bl, 0, none⟩)] w fun e w' => e = .returned (.int .i64 (nxtV zs i : Nat)) ∧ w' = w.setCell ⟨B, 0, none⟩ (.int .i64 ((i + 1 : Nat) : Int)) := by
 have b0 := ba.at (i := 0) rfl
 have b1 := ba.fr 0
 have b2 := ba.lt
 have l0 := bl.at (i := 0) rfl
 have l2 := bl.lt
 have hne' : ¬ Bl = B := fun h => hne h.symm
 have ec : ((i + 1 : Nat) : Int) = (i : Int) + 1 := by omega
 rcases Nat.lt_or_ge i zs.length with hlt | hge
 ·
  obtain ⟨g, off, rfl, hg, hcell⟩ := hr.at (List.getElem?_eq_getElem hlt)
  have hc0 : w.cell? ⟨g, off + i, none⟩ = some (.int .i64 zs[i]) := by
   refine (hon.cell (p := ⟨g, off + i, none⟩) hg).trans ?_
   have := hcell 0 _ rfl
   simpa using this
  have hgB : ¬ g = B := by omega
  have hgw := Nat.lt_of_lt_of_le hg hon.size
  have hv := nxt_in hlt
  clear hr hcell ba bl hon
  generalize nxtV zs i = V at *
  generalize zs[i] = z at *
  rw [ec]
  go_enter Tryz.func31, Tryz.ntmps31
  go_wp2
  go_ret
  exact ⟨rfl, rfl⟩
 ·
  rw [nxt_out hge, ec]
  clear hr ba bl hon
  go_enter Tryz.func31, Tryz.ntmps31
  go_wp2
  go_ret
  exact ⟨rfl, rfl⟩
end Go.Proofs.YtioiabfheeglgaaGreatDoor

namespace Go.Proofs.YtioiabfheeglgaaGreatDoor
open Go.RowKit

structure Sx (w : World) (zs : List Int) (a : Option Addr) (cap : Nat) (c1 c2 : Value) (i : Nat) (wr : World) : Prop where
 bl : Bk wr w.heap.size #[.slice a zs.length cap]
 br : Bk wr (w.heap.size + 1) #[.string ⟨#[]⟩, .slice none 0 0, .slice none 0 0, .int .i64 0, .slice none 0 0]
 bt : Bk wr (w.heap.size + 1 + 1) #[.string ⟨#[116]⟩, c1, c2, .int .i64 0, .slice none 0 0]
 ba : Bk wr (w.heap.size + 1 + 1 + 1) #[.int .i64 (i : Int)]
 on : On w wr
section
variable {w wr wr' : World} {zs : List Int} {a : Option Addr} {cap : Nat} {c1 c2 : Value} {i : Nat}
theorem Sx.wa (h : Sx w zs a cap c1 c2 i wr) (k : Wa (w.heap.size + 1 + 1 + 1) wr wr') {j : Nat} (ba : Bk wr' (w.heap.size + 1 + 1 + 1) #[.int .i64 (j : Int)]) : Sx w zs a cap c1 c2 j wr' :=
 ⟨h.bl.wa k (by omega), h.br.wa k (by omega), h.bt.wa k (by omega), ba, h.on.wa k (by omega)⟩
theorem Sx.alloc (h : Sx w zs a cap c1 c2 i wr) (o : Obj) : Sx w zs a cap c1 c2 i (wr.alloc o) := ⟨h.bl.alloc o, h.br.alloc o, h.bt.alloc o, h.ba.alloc o, h.on.alloc o⟩
theorem Sx.drew (h : Sx w zs a cap c1 c2 i wr) : Sx w zs a cap c1 c2 i wr.drew := ⟨h.bl, h.br, h.bt, h.ba, h.on.drew⟩
theorem Sx.grown (h : Sx w zs a cap c1 c2 i wr) {v : Value} {base : Nat} (hg : wr.grownBy wr' v.ownBlock) (hb : w.heap.size + 1 + 1 + 1 < base) (hv : ∀ g, v.ownBlock = some g → base ≤ g) : Sx w zs a cap c1 c2 i wr' :=
 ⟨h.bl.grown hg (base := base) (by omega) hv, h.br.grown hg (base := base) (by omega) hv, h.bt.grown hg (base := base) (by omega) hv, h.ba.grown hg (base := base) (by omega) hv, h.on.grown hg (fun g hg => by have := hv g hg; omega)⟩
theorem Sx.step (h : Sx w zs a cap c1 c2 i wr) : Sx w zs a cap c1 c2 (i + 1) (wr.setCell ⟨w.heap.size + 1 + 1 + 1, 0, none⟩ (.int .i64 ((i + 1 : Nat) : Int))) :=
 h.wa ((Wa.refl _ _).setAt 0 _) (Bk.put (cs := [.int .i64 (i : Int)]) h.ba 0 _)
theorem Sx.size (h : Sx w zs a cap c1 c2 i wr) : w.heap.size + 1 + 1 + 1 < wr.heap.size := h.ba.lt
theorem Sx.put1 (h : Sx w zs a cap c1 c2 i wr) (v : Value) : Sx w zs a cap v c2 i (wr.setCell ⟨w.heap.size + 1 + 1, 1, none⟩ v) :=
 ⟨h.bl.far (by omega) _ _, h.br.far (by omega) _ _, Bk.put (cs := [.string ⟨#[116]⟩, c1, c2, .int .i64 0, .slice none 0 0]) h.bt 1 v, h.ba.far (by omega) _ _, h.on.setNew (by omega) v⟩
theorem Sx.put2 (h : Sx w zs a cap c1 c2 i wr) (v : Value) : Sx w zs a cap c1 v i (wr.setCell ⟨w.heap.size + 1 + 1, 2, none⟩ v) :=
 ⟨h.bl.far (by omega) _ _, h.br.far (by omega) _ _, Bk.put (cs := [.string ⟨#[116]⟩, c1, c2, .int .i64 0, .slice none 0 0]) h.bt 2 v, h.ba.far (by omega) _ _, h.on.setNew (by omega) v⟩
theorem sx_start (w : World) (zs : List Int) (a : Option Addr) (cap : Nat) (T1 T2 T3 T4 : TypeId) : Sx w zs a cap (.slice none 0 0) (.slice none 0 0) 0 ((((w.alloc (.cells #[.slice a zs.length cap] T1)).alloc (.cells #[.string ⟨#[]⟩, .slice none 0 0, .slice none 0 0, .int .i64 0, .slice none 0 0] T2)).alloc (.cells #[.string ⟨#[116]⟩, .slice none 0 0, .slice none 0 0, .int .i64 0, .slice none 0 0] T3)).alloc (.cells #[.int .i64 0] T4)) := by
 refine ⟨(((Bk.new w _ _).alloc _).alloc _).alloc _, ?_, ?_, ?_, ((((On.refl w).alloc _).alloc _).alloc _).alloc _⟩
 ·
  have := Bk.new (w.alloc (.cells #[.slice a zs.length cap] T1)) #[.string ⟨#[]⟩, .slice none 0 0, .slice none 0 0, .int .i64 0, .slice none 0 0] T2
  rw [World.size_alloc] at this
  exact (this.alloc _).alloc _
 ·
  have := Bk.new ((w.alloc (.cells #[.slice a zs.length cap] T1)).alloc (.cells #[.string ⟨#[]⟩, .slice none 0 0, .slice none 0 0, .int .i64 0, .slice none 0 0] T2)) #[.string ⟨#[116]⟩, .slice none 0 0, .slice none 0 0, .int .i64 0, .slice none 0 0] T3
  rw [World.size_alloc, World.size_alloc] at this
  exact this.alloc _
 ·
  have := Bk.new (((w.alloc (.cells #[.slice a zs.length cap] T1)).alloc (.cells #[.string ⟨#[]⟩, .slice none 0 0, .slice none 0 0, .int .i64 0, .slice none 0 0] T2)).alloc (.cells #[.string ⟨#[116]⟩, .slice none 0 0, .slice none 0 0, .int .i64 0, .slice none 0 0] T3)) #[.int .i64 0] T4
  rw [World.size_alloc, World.size_alloc, World.size_alloc] at this
  exact this
end
abbrev thrO (w : World) (base : Nat) (v : Value) (LL : List (List InsT)) : Prop := Own2 insC 9 68 67 w base v LL
/-- The closure's next number, in such a world. -/
theorem Sx.next {w wr : World} {zs : List Int} {a : Option Addr} {cap : Nat} {c1 c2 : Value} {i : Nat} (h : Sx w zs a cap c1 c2 i wr) (hi : i < 1000) (hz : zs.length ≤ 9223372036854775807) (hr : Rd intC 1 w (.slice a zs.length cap) zs) :
  Calls Tryz.prog 31 #[.pointer (some ⟨w.heap.size + 1 + 1 + 1, 0, none⟩), .pointer (some ⟨w.heap.size, 0, none⟩)] wr fun e w' => e = .returned (.int .i64 (nxtV zs i : Nat)) ∧ Sx w zs a cap c1 c2 (i + 1) w' ∧ Wa (w.heap.size + 1 + 1 + 1) wr w' := by
 refine (next_is zs a cap i (w.heap.size + 1 + 1 + 1) w.heap.size w wr hi hz h.ba h.bl (by omega) h.on (by omega) hr).mono ?_
 rintro e w' ⟨rfl, rfl⟩
 exact ⟨rfl, h.step, (Wa.refl _ _).setAt 0 _⟩
end Go.Proofs.YtioiabfheeglgaaGreatDoor
