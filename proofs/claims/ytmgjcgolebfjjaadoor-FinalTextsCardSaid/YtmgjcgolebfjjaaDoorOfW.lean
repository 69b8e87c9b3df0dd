/- The program of a test made of numbers. -/
import Derived.Test.YtmgjcgolebfjjaaDoorSmallC
import Derived.Test.YtmgjcgolebfjjaaDoorRComp
namespace Go.Proofs.YtmgjcgolebfjjaaDoor
open Go.RowKit

theorem TOwn.rd {w : World} {base : Nat} {v : Value} {t : TestT} (h : TOwn w base v t) (hn : t.name.size ≤ 9223372036854775807) : TestRd w v t := by
  obtain ⟨a1, c1, a2, c2, a3, c3, e, h1, h2, h3⟩ := h
  exact ⟨a1, c1, a2, c2, a3, c3, e, hn, Rd.own (fun _ => rfl) h1, h2.rd (fun _ => rfl), h3.rd (fun _ => rfl)⟩
/-- The threads of the program of a test made of numbers. -/
def ofT (zs : List Int) (most : Nat) : List (List InsT) := (smallP zs most).thr.map (rplRow (locsR (smallP zs most)))
set_option maxHeartbeats 1000000 in
theorem of_is (zs : List Int) (a : Option Addr) (cap most : Nat) (w : World) (hz : zs.length ≤ 9223372036854775807) (hr : Rd intC 1 w (.slice a zs.length cap) zs) :
    Calls Tryd.prog 7 #[.slice a zs.length cap, .int .i64 (most : Int)] w fun e w' => ∃ pv, e = .returned pv ∧ ProgFl w' pv (locsR (smallP zs most)) (iniVals (locsR (smallP zs most)) (smallP zs most).ini) (ofT zs most) ∧ On w w' := by
  have hS := fun W (k : On w W) => small_is zs a cap most W hz (hr.on k)
  obtain ⟨h1, h2⟩ := thrOf_ok zs most
  have h24 : (smallP zs most).thr.length ≤ 1000000 ∧ ∀ L ∈ (smallP zs most).thr, L.length ≤ 1000000 := ⟨by have : (smallP zs most).thr = (thrOf zs most).1 := rfl; rw [this]; omega, fun L hL => by have := (h2 L hL).1.2.1; omega⟩
  have hC := fun v W h => rcompile_is (smallP zs most) v W h h24
  unfold ofT
  generalize (smallP zs most).thr.map (rplRow (locsR (smallP zs most))) = LL at *
  generalize iniVals (locsR (smallP zs most)) (smallP zs most).ini = IN at *
  generalize locsR (smallP zs most) = LT at *
  have hn : (smallP zs most).name.size ≤ 9223372036854775807 := by show (⟨#[116]⟩ : ByteArray).size ≤ _; decide
  generalize smallP zs most = T at *
  generalize zs.length = mm at *
  have k0 : ∀ A, On w (w.alloc A) := fun A => (On.refl w).alloc A
  have br : ∀ cs T, Bk (w.alloc (.cells cs T)) w.heap.size cs := fun cs T => Bk.new w cs T
  clear h1 h2 h24 hr hz
  go_enter Tryd.func7, Tryd.ntmps7
  go_wp2_with fail
  refine (hS _ (k0 _)).mono ?_
  rintro e w1 ⟨v, rfl, hT, k1⟩
  have Z1 := (br _ _).on k1
  have K1 : Hid (On w w1) := (k0 _).trans k1
  have hC1 := hC v w1 (hT.rd hn)
  clear hS hC k1 k0 br hT
  go_wp2_with fail
  refine hC1.mono ?_
  rintro e w2 ⟨pv, rfl, hP, k2⟩
  have Z2 := Z1.on k2
  have K2 : Hid (On w w2) := K1.out.trans k2
  obtain ⟨a1, c1, a2, c2, a3, c3, rfl, r1, r2, r3⟩ := (hP 0 [] 0 (Or.inr rfl)).ex
  have HP : Hid _ := hP
  have zl := Z1.lt
  clear r1 r2 r3 hP
  have z0 := Z2.at (i := 0) rfl
  have z1 := Z2.at (i := 1) rfl
  have z2 := Z2.at (i := 2) rfl
  have zf := fun i => Z2.fr i
  clear hC1 k2 K1
  go_wp2
  refine bodyPost_ret (v := .agg #[.slice a1 LT.length c1, .slice a2 IN.length c2, .slice a3 LL.length c3]) ?_ rfl ⟨_, rfl, ?_, ?_⟩
  · rw [results_cell rfl]
    go_simp
  · exact HP.out w.heap.size [.slice a1 LT.length c1, .slice a2 IN.length c2, .slice a3 LL.length c3] 0 (Or.inl zl)
  · repeat' (first | with_reducible refine On.setNew ?_ (by omega) _ | with_reducible exact K2.out)
end Go.Proofs.YtmgjcgolebfjjaaDoor
