/- The numbers that a made test is read from, one by one: the closure of Small. -/
import Derived.Test.YtplihlmejnohnaaGreatDoorJ03Gen0
import Derived.Test.YtplihlmejnohnaaGreatDoorJ13Math
import Derived.Test.YtplihlmejnohnaaGreatDoorJ14SmallP
namespace Go.Proofs.YtplihlmejnohnaaGreatDoor
open Go.RowKit

theorem nxt_in {zs : List Int} {i : Nat} (h : i < zs.length) : bits .and .i64 (zs[i]) 65535 = ((nxtV zs i : Nat) : Int) := by
  unfold nxtV
  rw [low16, List.getD_eq_getElem?_getD, List.getElem?_eq_getElem h]
  rfl
theorem nxt_out {zs : List Int} {i : Nat} (h : zs.length ≤ i) : nxtV zs i = 0 := by
  unfold nxtV
  rw [List.getD_eq_getElem?_getD, List.getElem?_eq_none h]
  rfl
set_option maxHeartbeats 2000000 in
theorem next_is (zs : List Int) (a : Option Addr) (cap i B Bl : Nat) (w0 w : World) (hi : i < 1000) (_hz : zs.length ≤ 9223372036854775807) (ba : Bk w B #[.int .i64 (i : Int)]) (bl : Bk w Bl #[.slice a zs.length cap]) (hne : B ≠ Bl) (hon : On w0 w) (hB : w0.heap.size ≤ B) (hr : Rd intC 1 w0 (.slice a zs.length cap) zs) :
    Calls Tryz.prog 54 #[.pointer (some ⟨B, 0, none⟩), .pointer (some ⟨Bl, 0, none⟩)] w fun e w' => e = .returned (.int .i64 (nxtV zs i : Nat)) ∧ w' = w.setCell ⟨B, 0, none⟩ (.int .i64 ((i + 1 : Nat) : Int)) := by
  have b0 := ba.at (i := 0) rfl
  have b1 := ba.fr 0
  have b2 := ba.lt
  have l0 := bl.at (i := 0) rfl
  have l2 := bl.lt
  have hne' : ¬ Bl = B := fun h => hne h.symm
  have ec : ((i + 1 : Nat) : Int) = (i : Int) + 1 := by omega
  rcases Nat.lt_or_ge i zs.length with hlt | hge
  · obtain ⟨g, off, rfl, hg, hcell⟩ := hr.at (List.getElem?_eq_getElem hlt)
    have hc0 : w.cell? ⟨g, off + i, none⟩ = some (.int .i64 zs[i]) := by
      refine (hon.cell (p := ⟨g, off + i, none⟩) hg).trans ?_
      have := hcell 0 _ rfl
      simpa using this
    have hgB : ¬ g = B := by omega
    have hgw := Nat.lt_of_lt_of_le hg hon.size
    have hv := nxt_in hlt
    clear hr hcell ba bl hon
    generalize nxtV zs i = V at *
    generalize zs[i] = z at *
    rw [ec]
    go_enter Tryz.func54, Tryz.ntmps54
    go_wp2
    go_ret
    exact ⟨rfl, rfl⟩
  · rw [nxt_out hge, ec]
    clear hr ba bl hon
    go_enter Tryz.func54, Tryz.ntmps54
    go_wp2
    go_ret
    exact ⟨rfl, rfl⟩
end Go.Proofs.YtplihlmejnohnaaGreatDoor

namespace Go.Proofs.YtplihlmejnohnaaGreatDoor
open Go.RowKit

theorem putAt_left : ∀ (vs a s : List Value) (o : Nat), o + vs.length ≤ a.length → putAt (a ++ s) o vs = putAt a o vs ++ s
  | [], _, _, _, _ => rfl
  | v :: vs, a, s, o, h => by
    simp only [List.length_cons] at h
    rw [putAt, putAt, List.set_append_left _ _ (by omega)]
    exact putAt_left vs _ _ _ (by simp; omega)
theorem heap_put {w : World} {N : Nat} {cs : List Value} {T : TypeId} (h : w.heap[N]? = some (.cells cs.toArray T (0, 0))) (o : Nat) (v : Value) : (w.setCell ⟨N, o, none⟩ v).heap[N]? = some (.cells (cs.set o v).toArray T (0, 0)) := by
  have hs : (cs.set o v).toArray = cs.toArray.setIfInBounds o v := by simp
  rw [hs]
  simp [World.setCell, Array.getElem?_modify, h]
theorem heap_puts {N : Nat} {T : TypeId} : ∀ (vs : List Value) (w : World) (cs : List Value) (o : Nat), w.heap[N]? = some (.cells cs.toArray T (0, 0)) → (putCells w N o vs).heap[N]? = some (.cells (putAt cs o vs).toArray T (0, 0))
  | [], _, _, _, h => h
  | v :: vs, _, _, o, h => heap_puts vs _ _ _ (heap_put h o v)
theorem len_puts : ∀ (vs cs : List Value) (o : Nat), (putAt cs o vs).length = cs.length
  | [], _, _ => rfl
  | v :: vs, cs, o => (len_puts vs _ _).trans (by simp)
theorem Wa.puts {w x : World} {N : Nat} : ∀ (vs : List Value) (w : World) (o : Nat), Wa N x w → Wa N x (putCells w N o vs)
  | [], _, _, h => h
  | v :: vs, _, o, h => Wa.puts (w := w) vs _ _ (h.setAt o v)
theorem row_put {w : World} {base c g k : Nat} {e : TypeId} {L : List InsT} (h : w.ownsRow base e 9 (.slice (some ⟨g, 0, none⟩) L.length c) L.length (L.flatMap insC)) (hk : k < L.length) (x : InsT) :
    (putCells w g (k * 9) (insC x)).ownsRow base e 9 (.slice (some ⟨g, 0, none⟩) L.length c) L.length ((L.set k x).flatMap insC) := by
  rcases h.2 with ⟨_, h0⟩ | ⟨g', cap, cur, hv, hb, hh, hc, hm, hs, ht⟩
  · omega
  · simp only [Value.slice.injEq, Option.some.injEq, Addr.mk.injEq] at hv
    obtain ⟨⟨rfl, _, _⟩, _, rfl⟩ := hv
    have hl : (L.flatMap insC).length = L.length * 9 := h.1
    have e1 : cur.toList = L.flatMap insC ++ cur.toList.drop (L.length * 9) := by rw [← ht, List.take_append_drop]
    have hh' : w.heap[g]? = some (.cells cur.toList.toArray e (0, 0)) := by simpa using hh
    have hp := heap_puts (insC x) w _ (k * 9) hh'
    have h9 : (insC x).length = 9 := rfl
    have hkk : k * 9 + 9 ≤ L.length * 9 := by omega
    rw [e1, putAt_left _ _ _ _ (by rw [h9, hl]; exact hkk), putAt_flat insC 9 (fun _ => rfl) L k x hk] at hp
    have hl2 : ((L.set k x).flatMap insC).length = L.length * 9 := by
      rw [← putAt_flat insC 9 (fun _ => rfl) L k x hk, len_puts]; exact hl
    refine ⟨hl2, Or.inr ⟨g, c, _, rfl, hb, hp, hc, hm, ?_, ?_⟩⟩
    · have hz : cur.toList.length = c * 9 := by simpa using hs
      rw [e1, List.length_append, hl] at hz
      simp only [List.size_toArray, List.length_append, hl2]
      exact hz
    · simp only []
      rw [List.take_left' hl2]
end Go.Proofs.YtplihlmejnohnaaGreatDoor
