/- What layer 4's laws ask at their end: awake. -/
import Derived.Test.YtacflahkofmcpaaGreatDoorShelfJoin
import Derived.Test.YtacflahkofmcpaaGreatDoorJ13WlOkLeaf
import Derived.Test.YtacflahkofmcpaaGreatDoorJ28WlTestW
import Derived.Test.YtacflahkofmcpaaGreatDoorWlPartP
import Derived.Test.YtacflahkofmcpaaGreatDoorJ19WlTokL
namespace Go.Proofs
open Go.Shelf Go.RowKit
theorem Tryz.extraJoin : Builder.Extra Tryz.prog Tryz.laysJoin_ren where
  sizeBuilder := by kernel_rfl
  liesBuilder := by kernel_rfl
  t5 := Tryz.underlying5
  a5 := Tryz.isAgg5
  z5 := Tryz.sizeOf5
  v5 := Tryz.zeroValue5
  infoByte := by kernel_rfl
  cellsByte := by kernel_rfl
  sizeByte := by kernel_rfl
  neB5 := by decide
end Go.Proofs
namespace Go.Proofs.YtacflahkofmcpaaGreatDoor.Wl
open Go.RowKit

theorem join_is (N c : Nat) (xs : List ByteArray) (w : World) (hB : Bk w N (xs.map Value.string).toArray) (hN : xs.length ≤ 1000) (hcap : xs.length ≤ c) (hlen : (Lib.join (xs.map (·.data.toList)) [32]).length ≤ 140737488355328) :
    Calls Tryz.prog 130 #[.slice (some ⟨N, 0, none⟩) xs.length c, .string ⟨#[32]⟩] w fun e w' => e = .returned (.string ⟨(Lib.join (xs.map (·.data.toList)) [32]).toArray⟩) ∧ On w w' :=
  Any.strings_Join Tryz.laysJoin Tryz.extraJoin N 0 c xs ⟨#[32]⟩ w (fun j x hj => hB.at (by rw [Nat.zero_add, List.getElem?_toArray, List.getElem?_map, hj]; rfl)) hB.lt (by omega) hcap hlen
theorem line_is (N c : Nat) (xs : List ByteArray) (w : World) (hB : Bk w N (xs.map Value.string).toArray) (hN : xs.length ≤ 1000) (hcap : xs.length ≤ c) (hlen : (Lib.join (xs.map (·.data.toList)) [32]).length ≤ 140737488355328) :
    Calls Tryz.prog 88 #[.slice (some ⟨N, 0, none⟩) xs.length c] w fun e w' => e = .returned (.string ⟨(Lib.join (xs.map (·.data.toList)) [32]).toArray⟩) ∧ On w w' := by
  have hJ := join_is N c xs w hB hN hcap hlen
  generalize (Lib.join (xs.map (·.data.toList)) [32]).toArray = R at *
  generalize xs.length = m at *
  clear hB
  go_enter Tryz.func88, Tryz.ntmps88
  go_wp2_with fail
  refine hJ.mono ?_
  rintro e w1 ⟨rfl, k1⟩
  go_wp2
  go_ret
  exact ⟨rfl, k1⟩
def loadToks : List ByteArray := [⟨#[114, 49]⟩, ⟨#[61]⟩, ⟨#[108, 111, 97, 100]⟩, ⟨#[120]⟩, ⟨#[59]⟩]
set_option maxHeartbeats 1000000 in
theorem insLoad_is (w : World) :
    Calls Tryz.prog 89 #[.agg #[.int .i64 2, .int .i64 1, .int .i64 120, .int .i64 0, .int .i64 0, .int .i64 0, .int .i64 0, .int .i64 0, .int .i64 0]] w fun e w' => ∃ N, e = .returned (.slice (some ⟨N, 0, none⟩) 5 5) ∧ Bk w' N (loadToks.map Value.string).toArray ∧ On w w' := by
  have hR := fun W => register_is 1 (by decide) W
  have hL := fun W => location_is 120 (by decide) W
  have e1 : UInt8.ofNat (48 + 1) = 49 := by decide
  have e2 : UInt8.ofNat 120 = 120 := by decide
  have e3 : ((1 : Nat) : Int) = 1 := rfl
  have e4 : ((120 : Nat) : Int) = 120 := rfl
  rw [e1, e3] at hR
  rw [e2, e4] at hL
  obtain ⟨W0, hW0⟩ : ∃ W0, W0 = w.alloc (.cells #[.int .i64 2, .int .i64 1, .int .i64 120, .int .i64 0, .int .i64 0, .int .i64 0, .int .i64 0, .int .i64 0, .int .i64 0] 52) := ⟨_, rfl⟩
  have K0 : Hid (On w W0.drew) := by show On w W0.drew; rw [hW0]; exact ((On.refl w).alloc _).drew
  have B0 : Bk W0.drew w.heap.size #[.int .i64 2, .int .i64 1, .int .i64 120, .int .i64 0, .int .i64 0, .int .i64 0, .int .i64 0, .int .i64 0, .int .i64 0] := by rw [hW0]; exact Bk.new w _ _
  have z1 : W0.cell? ⟨w.heap.size, 1, none⟩ = some (.int .i64 1) := B0.at (i := 1) rfl
  have z2 : W0.cell? ⟨w.heap.size, 2, none⟩ = some (.int .i64 120) := B0.at (i := 2) rfl
  have zl : w.heap.size < W0.heap.size := B0.lt
  clear e1 e2 e3 e4
  go_enter Tryz.func89, Tryz.ntmps89
  go_wp2
  rw [← hW0]
  clear hW0
  go_region_law (first | (go_simp; refine (hR _).mono ?_; rintro e w1 ⟨rfl, k1⟩; have B1 := Bk.on B0 k1; have x2 := Bk.at (i := 2) B1 rfl; have xl := Bk.lt B1; have K1 := On.trans K0.out k1) | (go_simp; refine (hL _).mono ?_; rintro e w2 ⟨rfl, k2⟩; have K2 := On.trans K1 k2))
  all_goals (try go_wp2)
  all_goals go_ret
  all_goals exact ⟨w2.heap.size, rfl, Bk.new w2 _ _, K2.alloc _⟩
def loadText : ByteArray := ⟨#[114, 49, 32, 61, 32, 108, 111, 97, 100, 32, 120, 32, 59]⟩
theorem load_join : (Lib.join (loadToks.map (·.data.toList)) [32]).toArray = loadText.data := by decide +kernel
theorem ins_no (x : InsT) (hx : insOk x = false) (w : World) (lw : Lw w) :
    Calls Tryz.prog 44 #[.agg #[.int .i64 x.k, .int .i64 x.r, .int .i64 x.l, .int .i64 x.a.r, .int .i64 x.a.v, .int .i64 x.o, .int .i64 x.b.r, .int .i64 x.b.v, .int .i64 x.n]] w fun e w' => e = .returned (.string ⟨#[]⟩) ∧ On w w' := by
  have hO := fun T => okIns_is x (w.alloc T) (lw.on ((On.refl w).alloc T))
  rw [hx] at hO
  go_enter Tryz.func44, Tryz.ntmps44
  go_wp2_with (go_at_call 87; refine (hO _).mono ?_; rintro e w1 ⟨rfl, k1⟩)
  go_ret
  exact ⟨rfl, ((On.refl w).alloc _).trans k1⟩
set_option maxHeartbeats 1000000 in
theorem ins_load (w : World) (lw : Lw w) :
    Calls Tryz.prog 44 #[.agg #[.int .i64 2, .int .i64 1, .int .i64 120, .int .i64 0, .int .i64 0, .int .i64 0, .int .i64 0, .int .i64 0, .int .i64 0]] w fun e w' => e = .returned (.string loadText) ∧ On w w' := by
  have hO := fun T => okIns_is ⟨2, 1, 120, ⟨0, 0⟩, 0, ⟨0, 0⟩, 0⟩ (w.alloc T) (lw.on ((On.refl w).alloc T))
  rw [show insOk ⟨2, 1, 120, ⟨0, 0⟩, 0, ⟨0, 0⟩, 0⟩ = true by decide] at hO
  have hI := fun W => insLoad_is W
  have k0 : ∀ T, On w (w.alloc T) := fun T => (On.refl w).alloc T
  have bk : ∀ cs T, Bk (w.alloc (.cells cs T)) w.heap.size cs := fun cs T => Bk.new w cs T
  go_enter Tryz.func44, Tryz.ntmps44
  go_wp2_with fail
  refine (hO _).mono ?_
  rintro e w1 ⟨rfl, k1⟩
  have B1 := (bk _ _).on k1
  have K1 : Hid (On w w1) := (k0 _).trans k1
  have x0 := B1.at (i := 0) rfl
  have x1 := B1.at (i := 1) rfl
  have x2 := B1.at (i := 2) rfl
  have x3 := B1.at (i := 3) rfl
  have x4 := B1.at (i := 4) rfl
  have x5 := B1.at (i := 5) rfl
  have x6 := B1.at (i := 6) rfl
  have x7 := B1.at (i := 7) rfl
  have x8 := B1.at (i := 8) rfl
  have xl := B1.lt
  clear k1 bk k0 hO
  go_wp2_with fail
  refine (hI _).mono ?_
  rintro e w2 ⟨N, rfl, hB, k2⟩
  have hJ := line_is N 5 loadToks w2 hB (by decide) (by decide) (by decide +kernel)
  rw [load_join] at hJ
  have K2 : Hid (On w w2) := K1.out.trans k2
  clear x0 x1 x2 x3 x4 x5 x6 x7 x8 xl hI hB k2 K1 B1
  go_wp2_with fail
  refine hJ.mono ?_
  rintro e w3 ⟨rfl, k3⟩
  go_wp2
  go_ret
  exact ⟨rfl, K2.out.trans k3⟩
theorem ok_a : testOk ⟨⟨#[97]⟩, [], [], ⟨0, []⟩⟩ = true := by decide +kernel
theorem ok_e : testOk ⟨⟨#[]⟩, [], [], ⟨0, []⟩⟩ = false := by decide +kernel
theorem rd_bare (w : World) (nm : ByteArray) (h : nm.size ≤ 9223372036854775807) : TestRd w (.agg #[.string nm, .slice none 0 0, .slice none 0 0, .int .i64 0, .slice none 0 0]) ⟨nm, [], [], ⟨0, []⟩⟩ :=
  ⟨none, 0, none, 0, none, 0, rfl, h, Rd.nil _ _ _, Rd2.nil _ _ _, Rd2.nil _ _ _⟩
set_option maxHeartbeats 2000000 in
theorem awake4_is (w : World) (lw : Lw w) :
    Calls Tryz.prog 15 #[] w fun e w' => e = .returned (.bool true) ∧ On w w' := by
  have hA := fun W (k : On w W) => ok_is _ _ W (lw.on k) (rd_bare W ⟨#[97]⟩ (by decide))
  have hE := fun W (k : On w W) => ok_is _ _ W (lw.on k) (rd_bare W ⟨#[]⟩ (by decide))
  have hL := fun W (k : On w W) => ins_load W (lw.on k)
  have hN := fun W (k : On w W) => ins_no ⟨0, 0, 0, ⟨0, 0⟩, 0, ⟨0, 0⟩, 0⟩ (by decide) W (lw.on k)
  rw [ok_a] at hA
  rw [ok_e] at hE
  clear lw
  go_enter Tryz.func15, Tryz.ntmps15
  go_wp2_with fail
  refine (hL _ (On.refl w)).mono ?_
  rintro e w1 ⟨rfl, k1⟩
  unfold loadText
  clear hL
  go_wp2_with fail
  refine (hN _ k1).mono ?_
  rintro e w2 ⟨rfl, k2⟩
  have K2 : Hid (On w w2) := k1.trans k2
  clear hN k1 k2
  go_wp2_with fail
  refine (hA _ K2.out).mono ?_
  rintro e w3 ⟨rfl, k3⟩
  have K3 : Hid (On w w3) := K2.out.trans k3
  clear hA K2 k3
  go_wp2_with fail
  refine (hE _ K3.out).mono ?_
  rintro e w4 ⟨rfl, k4⟩
  go_wp2
  go_ret
  exact ⟨rfl, K3.out.trans k4⟩
end Go.Proofs.YtacflahkofmcpaaGreatDoor.Wl

namespace Go.Proofs.YtacflahkofmcpaaGreatDoor.Wl
open Go.RowKit

theorem jn_len (L : List ByteArray) (c : Nat) (h : ∀ y ∈ L, sz y ≤ c) : (jn L).length ≤ L.length * (c + 1) := by
  have h1 : ∀ r : List ByteArray, (∀ y ∈ r, sz y ≤ c) → (Lib.joinTail [32] (r.map (·.data.toList))).length ≤ r.length * (c + 1) := fun r => by
    induction r with
    | nil => intro _; simp [Lib.joinTail]
    | cons x r ih =>
      intro h
      have a := ih (fun y hy => h y (List.mem_cons_of_mem _ hy))
      have b : x.data.toList.length ≤ c := h x (List.mem_cons_self ..)
      unfold Lib.joinTail at a ⊢
      have e1 : (x :: r).length = r.length + 1 := rfl
      have e2 : ([32] : List UInt8).length = 1 := rfl
      rw [List.map_cons, List.map_cons, List.flatten_cons, List.length_append, List.length_append, e1, e2, Nat.succ_mul]
      omega
  cases L with
  | nil => simp [jn, Lib.join_nil]
  | cons x r =>
    have a := h1 r (fun y hy => h y (List.mem_cons_of_mem _ hy))
    have b : x.data.toList.length ≤ c := h x (List.mem_cons_self ..)
    unfold jn
    rw [List.map_cons, Lib.join_cons, List.length_append, List.length_cons, Nat.succ_mul]
    omega
theorem lineS_is (v : Value) (base : Nat) (xs : List ByteArray) (w : World) (h : Sr w base v xs) (h0 : 0 < xs.length) (hN : xs.length ≤ 10000000) (hlen : (jn xs).length ≤ 140737488355328) :
    Calls Tryz.prog 88 #[v] w fun e w' => e = .returned (.string ⟨(jn xs).toArray⟩) ∧ On w w' := by
  obtain ⟨g, cap, rfl, hcap, _, hg, hc⟩ := own_cells h h0
  have hJ : Calls Tryz.prog 130 #[.slice (some ⟨g, 0, none⟩) xs.length cap, .string ⟨#[32]⟩] w fun e w' => e = .returned (.string ⟨(jn xs).toArray⟩) ∧ On w w' :=
    Any.strings_Join Tryz.laysJoin Tryz.extraJoin g 0 cap xs ⟨#[32]⟩ w (fun j x hj => by
      have := hc j (.string x) (by rw [List.getElem?_map, hj]; rfl)
      rw [Nat.zero_add]
      exact this) hg (by omega) hcap hlen
  generalize (jn xs).toArray = R at *
  generalize xs.length = m at *
  clear hc h
  go_enter Tryz.func88, Tryz.ntmps88
  go_wp2_with fail
  refine hJ.mono ?_
  rintro e w1 ⟨rfl, k1⟩
  go_wp2
  go_ret
  exact ⟨rfl, k1⟩
set_option maxHeartbeats 2000000 in
theorem pins_is (x : InsT) (hx : insOk x = true) (ha : B64 x.a.v) (hb : B64 x.b.v) (hn : B64 x.n) (w : World) (lw : Lw w) :
    Calls Tryz.prog 44 #[.agg #[.int .i64 x.k, .int .i64 x.r, .int .i64 x.l, .int .i64 x.a.r, .int .i64 x.a.v, .int .i64 x.o, .int .i64 x.b.r, .int .i64 x.b.v, .int .i64 x.n]] w fun e w' => e = .returned (.string ⟨(jn (insTk x)).toArray⟩) ∧ On w w' := by
  have hO := fun T => okIns_is x (w.alloc T) (lw.on ((On.refl w).alloc T))
  rw [hx] at hO
  have hI := fun W (k : On w W) => insTokens_is x hx ha hb hn W (lw.on k)
  have hl1 : (insTk x).length ≤ 7 := blkIns_len x
  have hl2 : (jn (insTk x)).length ≤ 140737488355328 := Nat.le_trans (jn_len _ 21 (sz_ins ha hb hn)) (by omega)
  have k0 : ∀ T, On w (w.alloc T) := fun T => (On.refl w).alloc T
  have bk : ∀ cs T, Bk (w.alloc (.cells cs T)) w.heap.size cs := fun cs T => Bk.new w cs T
  generalize insTk x = L at *
  obtain ⟨R, hR⟩ : ∃ R, R = (jn L).toArray := ⟨_, rfl⟩
  rw [← hR]
  have HR : Hid (R = (jn L).toArray) := hR
  clear hR
  obtain ⟨k, r, l, ⟨ar, av⟩, o, ⟨br, bv⟩, n⟩ := x
  simp only at *
  clear hx ha hb hn lw
  go_enter Tryz.func44, Tryz.ntmps44
  go_wp2_with fail
  refine (hO _).mono ?_
  rintro e w1 ⟨rfl, k1⟩
  have B1 := (bk _ _).on k1
  have K1 : Hid (On w w1) := (k0 _).trans k1
  have x0 := B1.at (i := 0) rfl
  have x1 := B1.at (i := 1) rfl
  have x2 := B1.at (i := 2) rfl
  have x3 := B1.at (i := 3) rfl
  have x4 := B1.at (i := 4) rfl
  have x5 := B1.at (i := 5) rfl
  have x6 := B1.at (i := 6) rfl
  have x7 := B1.at (i := 7) rfl
  have x8 := B1.at (i := 8) rfl
  have xl := B1.lt
  clear k1 bk k0 hO
  go_wp2_with fail
  refine (hI _ K1.out).mono ?_
  rintro e w2 ⟨N, rfl, hB, _, k2⟩
  have hJ := line_is N L.length L w2 hB (by omega) (Nat.le_refl _) hl2
  have K2 : Hid (On w w2) := K1.out.trans k2
  change Calls Tryz.prog 88 _ _ (fun e w' => e = .returned (.string ⟨(jn L).toArray⟩) ∧ On w2 w') at hJ
  rw [← HR.out] at hJ
  clear x0 x1 x2 x3 x4 x5 x6 x7 x8 xl hI hB k2 K1 B1
  go_wp2_with fail
  refine hJ.mono ?_
  rintro e w3 ⟨rfl, k3⟩
  go_wp2
  go_ret
  exact ⟨rfl, K2.out.trans k3⟩
end Go.Proofs.YtacflahkofmcpaaGreatDoor.Wl
