/- What may not be has no text: print.Test, Ins, Cond and the document's Cond. -/
import Derived.Test.YtacflahkofmcpaaGreatDoorJ28WlTestW
import Derived.Test.YtacflahkofmcpaaGreatDoorJ30WlPartW
import Derived.Test.YtacflahkofmcpaaGreatDoorWlRPrG
namespace Go.Proofs.YtacflahkofmcpaaGreatDoor.Wl
open Go.RowKit

theorem ptest_no (t : TestT) (v : Value) (w : World) (lw : Lw w) (h : TestRd w v t) (hx : testOk t = false) :
    Calls Tryz.prog 16 #[v] w fun e w' => e = .returned (.string ⟨#[]⟩) ∧ On w w' := by
  have hO := fun W (k : On w W) => ok_is t v W (lw.on k) (h.on k)
  rw [hx] at hO
  obtain ⟨a1, c1, a2, c2, a3, c3, rfl, _, _, _, _⟩ := h.ex
  generalize t.cond.any.length = m3 at *
  generalize t.cond.k = kk at *
  generalize t.thr.length = m2 at *
  generalize t.ini.length = m1 at *
  generalize t.name = nm at *
  clear h hx
  go_enter Tryz.func16, Tryz.ntmps16
  go_wp2_with fail
  refine (hO _ ((On.refl w).alloc _)).mono ?_
  rintro _ w1 ⟨rfl, k1⟩
  go_wp2
  go_ret
  exact ⟨rfl, ((On.refl w).alloc _).trans k1⟩
theorem pins_no (x : InsT) (hx : insOk x = false) (w : World) (lw : Lw w) :
    Calls Tryz.prog 44 #[.agg #[.int .i64 x.k, .int .i64 x.r, .int .i64 x.l, .int .i64 x.a.r, .int .i64 x.a.v, .int .i64 x.o, .int .i64 x.b.r, .int .i64 x.b.v, .int .i64 x.n]] w fun e w' => e = .returned (.string ⟨#[]⟩) ∧ On w w' := by
  have hO := fun T => okIns_is x (w.alloc T) (lw.on ((On.refl w).alloc T))
  rw [hx] at hO
  obtain ⟨k, r, l, ⟨ar, av⟩, o, ⟨br, bv⟩, n⟩ := x
  simp only at *
  clear hx lw
  go_enter Tryz.func44, Tryz.ntmps44
  go_wp2_with fail
  refine (hO _).mono ?_
  rintro e w1 ⟨rfl, k1⟩
  go_wp2
  go_ret
  exact ⟨rfl, ((On.refl w).alloc _).trans k1⟩
theorem rcond_no (c : CondT) (a : Option Addr) (cap : Nat) (w : World) (h : Rd2 atomC 4 w (.slice a c.any.length cap) c.any) (hc : condOk c = false) :
    Calls Tryz.prog 27 #[.agg #[.int .i64 c.k, .slice a c.any.length cap]] w fun e w' => e = .returned (.string ⟨#[]⟩) ∧ On w w' := by
  have hO := fun W (k : On w W) => rcondOk_is c a cap W (h.on k)
  rw [hc] at hO
  generalize c.any.length = m at *
  generalize c.k = k at *
  clear h hc
  go_enter Tryz.func27, Tryz.ntmps27
  go_wp2_with fail
  refine (hO _ ((On.refl w).alloc _)).mono ?_
  rintro e w1 ⟨rfl, k1⟩
  go_wp2
  go_ret
  exact ⟨rfl, ((On.refl w).alloc _).trans k1⟩
theorem rcond_zero (LL : List (List AtomT)) (a : Option Addr) (cap : Nat) (w : World) (h : Rd2 atomC 4 w (.slice a LL.length cap) LL) (hc : condOk ⟨0, LL⟩ = true) :
    Calls Tryz.prog 27 #[.agg #[.int .i64 0, .slice a LL.length cap]] w fun e w' => e = .returned (.string ⟨#[]⟩) ∧ On w w' := by
  have hO := fun W (k : On w W) => rcondOk_is ⟨0, LL⟩ a cap W (h.on k)
  rw [hc] at hO
  simp only at hO
  have bk : ∀ cs T, Bk (w.alloc (.cells cs T)) w.heap.size cs := fun cs T => Bk.new w cs T
  generalize LL.length = m at *
  clear h hc
  go_enter Tryz.func27, Tryz.ntmps27
  go_wp2_with fail
  refine (hO _ ((On.refl w).alloc _)).mono ?_
  rintro e w1 ⟨rfl, k1⟩
  have B1 := (bk _ _).on k1
  have x0 := B1.at (i := 0) rfl
  have xl := B1.lt
  go_wp2
  go_ret
  exact ⟨rfl, ((On.refl w).alloc _).trans k1⟩
theorem join0_is (a : Option Addr) (c : Nat) (s : ByteArray) (w : World) : Calls Tryz.prog 130 #[.slice a 0 c, .string s] w fun e w' => e = .returned (.string ⟨#[]⟩) ∧ On w w' := by
  go_enter Tryz.func130, Tryz.ntmps130
  go_wp2
  go_ret
  exact ⟨rfl, On.refl w⟩
theorem line0_is (a : Option Addr) (c : Nat) (w : World) : Calls Tryz.prog 88 #[.slice a 0 c] w fun e w' => e = .returned (.string ⟨#[]⟩) ∧ On w w' := by
  have hJ := fun s W => join0_is a c s W
  go_enter Tryz.func88, Tryz.ntmps88
  go_wp2_with fail
  refine (hJ _ _).mono ?_
  rintro e w1 ⟨rfl, k1⟩
  go_wp2
  go_ret
  exact ⟨rfl, k1⟩
end Go.Proofs.YtacflahkofmcpaaGreatDoor.Wl
