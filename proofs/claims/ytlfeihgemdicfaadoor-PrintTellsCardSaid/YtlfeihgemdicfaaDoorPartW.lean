/- print.Ins, print.Cond: the tokens joined by blanks. -/
import Derived.Test.YtlfeihgemdicfaaDoorPartP
import Derived.Test.YtlfeihgemdicfaaDoorJ23SmallP
import Derived.Test.YtlfeihgemdicfaaDoorTokL
import Derived.Test.YtlfeihgemdicfaaDoorAwake4
namespace Go.Proofs.YtlfeihgemdicfaaDoor
open Go.RowKit

theorem jn_len (L : List ByteArray) (c : Nat) (h : ∀ y ∈ L, sz y ≤ c) : (jn L).length ≤ L.length * (c + 1) := by
  have h1 : ∀ r : List ByteArray, (∀ y ∈ r, sz y ≤ c) → (Lib.joinTail [32] (r.map (·.data.toList))).length ≤ r.length * (c + 1) := fun r => by
    induction r with
    | nil => intro _; simp [Lib.joinTail]
    | cons x r ih =>
      intro h
      have a := ih (fun y hy => h y (List.mem_cons_of_mem _ hy))
      have b : x.data.toList.length ≤ c := h x (List.mem_cons_self ..)
      unfold Lib.joinTail at a ⊢
      have e1 : (x :: r).length = r.length + 1 := rfl
      have e2 : ([32] : List UInt8).length = 1 := rfl
      rw [List.map_cons, List.map_cons, List.flatten_cons, List.length_append, List.length_append, e1, e2, Nat.succ_mul]
      omega
  cases L with
  | nil => simp [jn, Lib.join_nil]
  | cons x r =>
    have a := h1 r (fun y hy => h y (List.mem_cons_of_mem _ hy))
    have b : x.data.toList.length ≤ c := h x (List.mem_cons_self ..)
    unfold jn
    rw [List.map_cons, Lib.join_cons, List.length_append, List.length_cons, Nat.succ_mul]
    omega
theorem lineS_is (v : Value) (base : Nat) (xs : List ByteArray) (w : World) (h : Sr w base v xs) (h0 : 0 < xs.length) (hN : xs.length ≤ 10000000) (hlen : (jn xs).length ≤ 140737488355328) :
    Calls Tryd.prog 42 #[v] w fun e w' => e = .returned (.string ⟨(jn xs).toArray⟩) ∧ On w w' := by
  obtain ⟨g, cap, rfl, hcap, _, hg, hc⟩ := own_cells h h0
  have hJ : Calls Tryd.prog 67 #[.slice (some ⟨g, 0, none⟩) xs.length cap, .string ⟨#[32]⟩] w fun e w' => e = .returned (.string ⟨(jn xs).toArray⟩) ∧ On w w' :=
    Any.strings_Join Tryd.laysJoin Tryd.extraJoin g 0 cap xs ⟨#[32]⟩ w (fun j x hj => by
      have := hc j (.string x) (by rw [List.getElem?_map, hj]; rfl)
      rw [Nat.zero_add]
      exact this) hg (by omega) hcap hlen
  generalize (jn xs).toArray = R at *
  generalize xs.length = m at *
  clear hc h
  go_enter Tryd.func42, Tryd.ntmps42
  go_wp2_with fail
  refine hJ.mono ?_
  rintro e w1 ⟨rfl, k1⟩
  go_wp2
  go_ret
  exact ⟨rfl, k1⟩
set_option maxHeartbeats 2000000 in
theorem pins_is (x : InsT) (hx : insOk x = true) (ha : B64 x.a.v) (hb : B64 x.b.v) (hn : B64 x.n) (w : World) (lw : Lw w) :
    Calls Tryd.prog 13 #[.agg #[.int .i64 x.k, .int .i64 x.r, .int .i64 x.l, .int .i64 x.a.r, .int .i64 x.a.v, .int .i64 x.o, .int .i64 x.b.r, .int .i64 x.b.v, .int .i64 x.n]] w fun e w' => e = .returned (.string ⟨(jn (insTk x)).toArray⟩) ∧ On w w' := by
  have hO := fun T => okIns_is x (w.alloc T) (lw.on ((On.refl w).alloc T))
  rw [hx] at hO
  have hI := fun W (k : On w W) => insTokens_is x hx ha hb hn W (lw.on k)
  have hl1 : (insTk x).length ≤ 7 := blkIns_len x
  have hl2 : (jn (insTk x)).length ≤ 140737488355328 := Nat.le_trans (jn_len _ 21 (sz_ins ha hb hn)) (by omega)
  have k0 : ∀ T, On w (w.alloc T) := fun T => (On.refl w).alloc T
  have bk : ∀ cs T, Bk (w.alloc (.cells cs T)) w.heap.size cs := fun cs T => Bk.new w cs T
  generalize insTk x = L at *
  obtain ⟨R, hR⟩ : ∃ R, R = (jn L).toArray := ⟨_, rfl⟩
  rw [← hR]
  have HR : Hid (R = (jn L).toArray) := hR
  clear hR
  obtain ⟨k, r, l, ⟨ar, av⟩, o, ⟨br, bv⟩, n⟩ := x
  simp only at *
  clear hx ha hb hn lw
  go_enter Tryd.func13, Tryd.ntmps13
  go_wp2_with fail
  refine (hO _).mono ?_
  rintro e w1 ⟨rfl, k1⟩
  have B1 := (bk _ _).on k1
  have K1 : Hid (On w w1) := (k0 _).trans k1
  have x0 := B1.at (i := 0) rfl
  have x1 := B1.at (i := 1) rfl
  have x2 := B1.at (i := 2) rfl
  have x3 := B1.at (i := 3) rfl
  have x4 := B1.at (i := 4) rfl
  have x5 := B1.at (i := 5) rfl
  have x6 := B1.at (i := 6) rfl
  have x7 := B1.at (i := 7) rfl
  have x8 := B1.at (i := 8) rfl
  have xl := B1.lt
  clear k1 bk k0 hO
  go_wp2_with fail
  refine (hI _ K1.out).mono ?_
  rintro e w2 ⟨N, rfl, hB, _, k2⟩
  have hJ := line_is N L.length L w2 hB (by omega) (Nat.le_refl _) hl2
  have K2 : Hid (On w w2) := K1.out.trans k2
  change Calls Tryd.prog 42 _ _ (fun e w' => e = .returned (.string ⟨(jn L).toArray⟩) ∧ On w2 w') at hJ
  rw [← HR.out] at hJ
  clear x0 x1 x2 x3 x4 x5 x6 x7 x8 xl hI hB k2 K1 B1
  go_wp2_with fail
  refine hJ.mono ?_
  rintro e w3 ⟨rfl, k3⟩
  go_wp2
  go_ret
  exact ⟨rfl, K2.out.trans k3⟩
set_option maxHeartbeats 2000000 in
theorem pcond_is (c : CondT) (a : Option Addr) (cap : Nat) (w : World) (h : Rd2 atomC 4 w (.slice a c.any.length cap) c.any) (hc : condOk c = true) (h0 : ¬ c.k = 0) (hok : ∀ r ∈ c.any, ∀ x ∈ r, atomOk x = true ∧ B64 x.t ∧ B64 x.v) (hl : c.any.length ≤ 1000) (hl2 : ∀ r ∈ c.any, r.length ≤ 1000) :
    Calls Tryd.prog 15 #[.agg #[.int .i64 c.k, .slice a c.any.length cap]] w fun e w' => e = .returned (.string ⟨(jn (condTk c)).toArray⟩) ∧ On w w' := by
  have hO := fun W (k : On w W) => okCond_is c a cap W (h.on k)
  rw [hc] at hO
  have hI := fun W (k : On w W) => condTokens_is c a cap W (h.on k) hok hl hl2
  have e0 : (c.k == 0) = false := by rw [beq_eq_false_iff_ne]; exact h0
  have hl1 : 0 < (condTk c).length ∧ (condTk c).length ≤ 10000000 := by
    unfold condTk
    rw [e0]
    simp only [Bool.false_eq_true, if_false]
    rw [List.length_append]
    have := any_len c.any (if c.k == 1 then xEx else xFa) hl2
    have : [xEnd].length = 1 := rfl
    omega
  have hl3 : (jn (condTk c)).length ≤ 140737488355328 := by
    refine Nat.le_trans (jn_len _ 21 ?_) (by omega)
    unfold condTk
    rw [e0]
    simp only [Bool.false_eq_true, if_false]
    intro y hy
    rw [List.mem_append, List.mem_singleton] at hy
    rcases hy with hy | rfl
    · exact sz_any c.any _ (by split <;> decide) (fun r hr x hx => (hok r hr x hx).2) y hy
    · decide
  have k0 : ∀ T, On w (w.alloc T) := fun T => (On.refl w).alloc T
  have bk : ∀ cs T, Bk (w.alloc (.cells cs T)) w.heap.size cs := fun cs T => Bk.new w cs T
  generalize condTk c = L at *
  obtain ⟨R, hR⟩ : ∃ R, R = (jn L).toArray := ⟨_, rfl⟩
  rw [← hR]
  have HR : Hid (R = (jn L).toArray) := hR
  clear hR
  generalize c.any.length = m at *
  generalize c.k = k at *
  clear hok h hl2 h0 hc hl
  go_enter Tryd.func15, Tryd.ntmps15
  go_wp2_with fail
  refine (hO _ (k0 _)).mono ?_
  rintro e w1 ⟨rfl, k1⟩
  have B1 := (bk _ _).on k1
  have K1 : Hid (On w w1) := (k0 _).trans k1
  have x0 := B1.at (i := 0) rfl
  have x1 := B1.at (i := 1) rfl
  have xl := B1.lt
  clear k1 bk k0 hO
  go_wp2_with fail
  refine (hI _ K1.out).mono ?_
  rintro e w2 ⟨v, rfl, hB, k2⟩
  obtain ⟨la, lc, rfl⟩ := own_slice hB
  have hJ := lineS_is _ _ L w2 hB hl1.1 hl1.2 hl3
  have K2 : Hid (On w w2) := K1.out.trans k2
  rw [← HR.out] at hJ
  clear x0 x1 xl hI hB k2 K1 B1
  go_wp2_with fail
  refine hJ.mono ?_
  rintro e w3 ⟨rfl, k3⟩
  go_wp2
  go_ret
  exact ⟨rfl, K2.out.trans k3⟩
end Go.Proofs.YtlfeihgemdicfaaDoor
