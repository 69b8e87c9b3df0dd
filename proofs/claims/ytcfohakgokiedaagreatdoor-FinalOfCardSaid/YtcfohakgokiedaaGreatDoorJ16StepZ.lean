/- prog.thread, Start, isSeen, Next, for every program that lies in memory. -/
import Derived.Test.YtcfohakgokiedaaGreatDoorJ15StepC
import Derived.Test.YtcfohakgokiedaaGreatDoorJ14StepA
namespace Go.Proofs.YtcfohakgokiedaaGreatDoor
open Go.RowKit

/-- The thread of a number, or none. -/
def threadP (LL : List (List InsT)) (t : Int) : List InsT := if 0 ≤ t then LL.getD t.toNat [] else []
set_option maxHeartbeats 1000000 in
theorem thread_is (LL : List (List InsT)) (t : Int) (v : Value) (w : World) (h : ProgRd w v LL) :
  Calls Tryz.prog 57 #[v, .int .i64 t] w fun e w' => ∃ a c, e = .returned (.slice a (threadP LL t).length c) ∧ Rd insC 9 w' (.slice a (threadP LL t).length c) (threadP LL t) ∧ On w w' := by
 obtain ⟨a1, m1, c1, a2, m2, c2, a, c, rfl, r⟩ := h
 have k0 : ∀ T, On w (w.alloc T) := fun T => (On.refl w).alloc T
 obtain ⟨_, _, _, _, hm⟩ := r.slice
 unfold threadP
 by_cases h0 : 0 ≤ t
 ·
  rw [if_pos h0]
  by_cases h1 : t < LL.length
  ·
   obtain ⟨n, rfl⟩ : ∃ n : Nat, t = (n : Int) := ⟨t.toNat, by omega⟩
   have hn : n < LL.length := by omega
   obtain ⟨L, hL⟩ : ∃ L, LL[n]? = some L := ⟨_, List.getElem?_eq_getElem hn⟩
   have e : LL.getD (n : Int).toNat [] = L := by rw [Int.toNat_natCast, List.getD_eq_getElem?_getD, hL]; rfl
   rw [e]
   obtain ⟨g, off, rfl, hg, ax, cx, hc, hxm, rx⟩ := r.row hL
   have RX : Hid (Rd insC 9 w (.slice ax L.length cx) L) := rx
   clear r rx e hL
   go_enter Tryz.func57, Tryz.ntmps57
   go_wp2
   go_ret
   exact ⟨ax, cx, rfl, RX.out.on (k0 _), k0 _⟩
  ·
   have e : LL.getD t.toNat [] = [] := by rw [List.getD_eq_getElem?_getD, List.getElem?_eq_none (by omega)]; rfl
   rw [e]
   have d : decide (t < 0) = false := by simp; omega
   clear r e
   go_enter Tryz.func57, Tryz.ntmps57
   go_wp2
   go_ret
   exact ⟨none, 0, rfl, Rd.nil _ _ _, k0 _⟩
 ·
  rw [if_neg h0]
  clear r
  go_enter Tryz.func57, Tryz.ntmps57
  go_wp2
  go_ret
  exact ⟨none, 0, rfl, Rd.nil _ _ _, k0 _⟩
def startP (L : List InsT) : LocT := settleP L ⟨0, 0, 0, 0, 0⟩
set_option maxHeartbeats 1000000 in
theorem start_is (LL : List (List InsT)) (t : Int) (v : Value) (w : World) (h : ProgRd w v LL) :
  Calls Tryz.prog 41 #[v, .int .i64 t] w fun e w' => e = .returned (locV (startP (threadP LL t))) ∧ On w w' := by
 have hT := fun W (k : On w W) => thread_is LL t v W (h.on k)
 obtain ⟨a1, m1, c1, a2, m2, c2, a, c, rfl, r⟩ := h
 unfold startP
 have hS := fun a c W h => settle_is (threadP LL t) ⟨0, 0, 0, 0, 0⟩ a c W h (by decide)
 generalize threadP LL t = L at *
 obtain ⟨⟨q0, q1, q2, q3, q4⟩, hR⟩ : ∃ R, settleP L ⟨0, 0, 0, 0, 0⟩ = R := ⟨_, rfl⟩
 rw [hR] at hS ⊢
 unfold locV at hS ⊢
 clear r hR
 have k0 : ∀ A B, On w ((w.alloc A).alloc B) := fun A B => ((On.refl w).alloc A).alloc B
 have bk : ∀ A cs T, Bk ((w.alloc A).alloc (.cells cs T)) (w.heap.size + 1) cs := fun A cs T => by have := Bk.new (w.alloc A) cs T; rwa [World.size_alloc] at this
 go_enter Tryz.func41, Tryz.ntmps41
 go_wp2_with fail
 refine (hT _ (k0 _ _)).mono ?_
 rintro e w1 ⟨ax, cx, rfl, rx, k1⟩
 have B1 := (bk _ _ _).on k1
 have K1 : Hid (On w w1) := (k0 _ _).trans k1
 have hS1 := hS ax cx w1 rx
 clear hS rx hT k1 bk k0
 go_wp2_with fail
 refine hS1.mono ?_
 rintro e w2 ⟨rfl, k2⟩
 have B2 := B1.on k2
 have K2 : Hid (On w w2) := K1.out.trans k2
 have x0 := B2.at (i := 0) rfl
 have x1 := B2.at (i := 1) rfl
 have x2 := B2.at (i := 2) rfl
 have x3 := B2.at (i := 3) rfl
 have x4 := B2.at (i := 4) rfl
 have fr := fun i => B2.fr i
 clear hS1 k2 B1 K1
 go_wp2
 refine bodyPost_ret (v := .agg #[.int .i64 q0, .int .i64 q1, .int .i64 q2, .int .i64 q3, .int .i64 q4]) ?_ rfl ⟨rfl, ?_⟩
 ·
  rw [results_cell rfl]
  go_simp
 ·
  repeat' (first | with_reducible refine On.setNew ?_ (by omega) _ | with_reducible exact K2.out)
end Go.Proofs.YtcfohakgokiedaaGreatDoor

