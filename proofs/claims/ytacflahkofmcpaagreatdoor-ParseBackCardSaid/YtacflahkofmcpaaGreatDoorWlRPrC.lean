/- The document's Ins: an instruction's tokens joined by blanks. -/
import Derived.Test.YtacflahkofmcpaaGreatDoorJ33WlROkA
import Derived.Test.YtacflahkofmcpaaGreatDoorWlROkB
namespace Go.Proofs.YtacflahkofmcpaaGreatDoor.Wl
open Go.RowKit

theorem jn_one (x : ByteArray) : jn [x] = x.data.toList := by
  unfold jn
  rw [List.map_cons, List.map_nil, Lib.join_one]
theorem sz_le {y : ByteArray} (h : sz y ≤ 21) : y.size ≤ 1000 := by
  rw [size_list]
  unfold sz at h
  omega
/-- A text told by the bytes of its parts. -/
theorem str_of {s : ByteArray} {l : List UInt8} (h : s.data.toList = l) : (Value.string s) = .string ⟨l.toArray⟩ := by rw [← h]
set_option maxHeartbeats 1000000 in
theorem rins_no (x : InsT) (hx : insOk x = false) (w : World) :
    Calls Tryz.prog 26 #[.agg #[.int .i64 x.k, .int .i64 x.r, .int .i64 x.l, .int .i64 x.a.r, .int .i64 x.a.v, .int .i64 x.o, .int .i64 x.b.r, .int .i64 x.b.v, .int .i64 x.n]] w fun e w' => e = .returned (.string ⟨#[]⟩) ∧ On w w' := by
  have hO := fun W => rinsOk_is x W
  rw [hx] at hO
  go_enter Tryz.func26, Tryz.ntmps26
  go_wp2_with fail
  refine (hO _).mono ?_
  rintro _ w1 ⟨rfl, k1⟩
  go_wp2
  go_ret
  exact ⟨rfl, ((On.refl w).alloc _).trans k1⟩
theorem rpr_fence (r l ar av o br bv n : Int) (w : World) (hO : ∀ W, Calls Tryz.prog 68 #[.agg #[.int .i64 3, .int .i64 r, .int .i64 l, .int .i64 ar, .int .i64 av, .int .i64 o, .int .i64 br, .int .i64 bv, .int .i64 n]] W fun e w' => e = .returned (.bool true) ∧ On W w') :
    Calls Tryz.prog 26 #[.agg #[.int .i64 3, .int .i64 r, .int .i64 l, .int .i64 ar, .int .i64 av, .int .i64 o, .int .i64 br, .int .i64 bv, .int .i64 n]] w fun e w' => e = .returned (.string ⟨#[102, 101, 110, 99, 101, 32, 59]⟩) ∧ On w w' := by
  have k0 : ∀ T, On w (w.alloc T) := fun T => (On.refl w).alloc T
  have bk : ∀ cs T, Bk (w.alloc (.cells cs T)) w.heap.size cs := fun cs T => Bk.new w cs T
  go_enter Tryz.func26, Tryz.ntmps26
  go_wp2_with fail
  refine (hO _).mono ?_
  rintro _ w0 ⟨rfl, k1⟩
  have B0 := (bk _ _).on k1
  have HK0 : Hid (On w w0) := (k0 _).trans k1
  have x0 := B0.at (i := 0) rfl
  have xl := B0.lt
  clear k1 bk k0 hO
  go_wp2
  go_ret
  exact ⟨rfl, HK0.out⟩
theorem rins_yes (x : InsT) (hx : insOk x = true) (ha : B64 x.a.v) (hb : B64 x.b.v) (hn : B64 x.n) (w : World) :
    Calls Tryz.prog 26 #[.agg #[.int .i64 x.k, .int .i64 x.r, .int .i64 x.l, .int .i64 x.a.r, .int .i64 x.a.v, .int .i64 x.o, .int .i64 x.b.r, .int .i64 x.b.v, .int .i64 x.n]] w fun e w' => e = .returned (.string ⟨(jn (insTk x)).toArray⟩) ∧ On w w' := by
  have hO := fun W => rinsOk_is x W
  rw [hx] at hO
  have h := hx
  unfold insOk at h
  unfold insTk
  by_cases h1 : x.k = 1
  · rw [h1] at hO
    simp only [h1, Bool.and_eq_true, beq_self_eq_true, if_true] at h ⊢
    refine (rpr_store x.r x.l x.a.r x.a.v x.o x.b.r x.b.v x.n _ _ w hO (sz_le (sz_loc _)) (sz_le (sz_opd ha)) (fun W => rloc_is h.1.2 W) (fun W => ropd_is x.a h.2 ha W)).mono ?_
    rintro _ w' ⟨rfl, k⟩
    refine ⟨congrArg Ending.returned (str_of ?_), k⟩
    simp only [list_append, jn_cons, jn_one]
    simp [xStore, xEnd]
  by_cases h2 : x.k = 2
  · rw [h2] at hO
    simp [h2] at h ⊢
    refine (rpr_load x.r x.l x.a.r x.a.v x.o x.b.r x.b.v x.n _ _ w hO (sz_le (sz_reg _)) (sz_le (sz_loc _)) (fun W => rreg_is h.1.2 W) (fun W => rloc_is h.2 W)).mono ?_
    rintro _ w' ⟨rfl, k⟩
    refine ⟨congrArg Ending.returned (str_of ?_), k⟩
    simp only [list_append, jn_cons, jn_one]
    simp [xLoad, xEq, xEnd]
  by_cases h3 : x.k = 3
  · rw [h3] at hO
    simp only [h3] at h ⊢
    refine (rpr_fence x.r x.l x.a.r x.a.v x.o x.b.r x.b.v x.n w hO).mono ?_
    rintro _ w' ⟨rfl, k⟩
    refine ⟨congrArg Ending.returned (str_of ?_), k⟩
    show _ = jn [xFence, xEnd]
    simp only [jn_cons, jn_one]
    simp [xFence, xEnd]
  by_cases h4 : x.k = 4
  · rw [h4] at hO
    simp [h4] at h ⊢
    refine (rpr_cas x.r x.l x.a.r x.a.v x.o x.b.r x.b.v x.n _ _ _ _ w hO (sz_le (sz_reg _)) (sz_le (sz_loc _)) (sz_le (sz_opd ha)) (sz_le (sz_opd hb)) (fun W => rreg_is h.1.1.1.2 W) (fun W => rloc_is h.1.1.2 W) (fun W => ropd_is x.a h.1.2 ha W) (fun W => ropd_is x.b h.2 hb W)).mono ?_
    rintro _ w' ⟨rfl, k⟩
    refine ⟨congrArg Ending.returned (str_of ?_), k⟩
    simp only [list_append, jn_cons, jn_one]
    simp [xCas, xEq, xEnd]
  by_cases h5 : x.k = 5
  · rw [h5] at hO
    simp [h5] at h ⊢
    obtain ⟨⟨⟨_, hr⟩, hA⟩, hs⟩ := h
    unfold secOk at hs
    by_cases h0 : x.o = 0
    · simp [h0]
      have := rpr_set x.r x.l x.a.r x.a.v x.o x.b.r x.b.v x.n (regT x.r) (opdT x.a) (by omega) w hO (sz_le (sz_reg _)) (sz_le (sz_opd ha)) (fun W => rreg_is hr W) (fun W => ropd_is x.a hA ha W)
      rw [h0] at this
      refine this.mono ?_
      rintro _ w' ⟨rfl, k⟩
      refine ⟨congrArg Ending.returned (str_of ?_), k⟩
      simp only [list_append, jn_cons, jn_one]
      simp [xEq, xEnd]
    · simp [h0] at hs ⊢
      have ho : 0 < x.o := by
        have := hs.1
        unfold signOk at this
        rw [Bool.and_eq_true, decide_eq_true_eq, decide_eq_true_eq] at this
        omega
      refine (rpr_op x.r x.l x.a.r x.a.v x.o x.b.r x.b.v x.n (regT x.r) (opdT x.a) (sgnT x.o) (opdT x.b) ho w hO (sz_le (sz_reg _)) (sz_le (sz_opd ha)) (sz_le (sz_sgn _)) (sz_le (sz_opd hb)) (fun W => rreg_is hr W) (fun W => ropd_is x.a hA ha W) (fun W => rsgn_is hs.1 W) (fun W => ropd_is x.b hs.2 hb W)).mono ?_
      rintro _ w' ⟨rfl, k⟩
      refine ⟨congrArg Ending.returned (str_of ?_), k⟩
      simp only [list_append, jn_cons, jn_one]
      simp [xEq, xEnd]
  by_cases h6 : x.k = 6
  · rw [h6] at hO
    simp [h6] at h ⊢
    refine (rpr_skip x.r x.l x.a.r x.a.v x.o x.b.r x.b.v x.n _ _ _ w hO (sz_le (sz_num hn)) (sz_le (sz_opd ha)) (sz_le (sz_opd hb)) (fun W => rnum_is hn W) (fun W => ropd_is x.a h.1.2 ha W) (fun W => ropd_is x.b h.2 hb W)).mono ?_
    rintro _ w' ⟨rfl, k⟩
    refine ⟨congrArg Ending.returned (str_of ?_), k⟩
    simp only [list_append, jn_cons, jn_one]
    simp [xSkip, xIf, xEqs, xEnd]
  simp [h1, h2, h3, h4, h5, h6] at h
end Go.Proofs.YtacflahkofmcpaaGreatDoor.Wl
