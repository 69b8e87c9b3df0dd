/- print.block: a block's tokens, in a row of the call's own. -/
import Derived.Test.YtacflahkofmcpaaGreatDoorJ16WlAllA
import Derived.OwnWalk
import Derived.Laws.OwnMore
namespace Go.Proofs.YtacflahkofmcpaaGreatDoor.Wl
open Go.RowKit

theorem infoStr : (Tryz.prog.info? 9).map (fun i => (i.zero, i.size, i.bytes)) = some (some (.string ⟨#[]⟩), 1, 16) := by kernel_rfl
theorem str_parts : ∃ i, Tryz.prog.info? 9 = some i ∧ i.zero = some (.string ⟨#[]⟩) ∧ i.size = 1 ∧ i.bytes = 16 := by
  have h := infoStr
  rw [Option.map_eq_some_iff] at h
  obtain ⟨i, hi, he⟩ := h
  simp only [Prod.mk.injEq] at he
  exact ⟨i, hi, he.1, he.2.1, he.2.2⟩
/-- A row of strings of the call's own. -/
def Sr (w : World) (base : Nat) (v : Value) (L : List ByteArray) : Prop := w.ownsRow base 9 1 v L.length (L.map Value.string)
theorem Sr.on {w w' : World} {base : Nat} {v : Value} {L : List ByteArray} (h : Sr w base v L) (k : On w w') : Sr w' base v L := own_on h k
theorem Sr.new (w : World) (L : List ByteArray) (base : Nat) (hb : base ≤ w.heap.size) (hl : L.length ≤ 9223372036854775807) : Sr (w.alloc (.cells (L.map Value.string).toArray 9)) base (.slice (some ⟨w.heap.size, 0, none⟩) L.length L.length) L := by
  refine ⟨by simp, Or.inr ⟨w.heap.size, L.length, (L.map Value.string).toArray, rfl, hb, heap_alloc_new w _, Nat.le_refl _, hl, by simp, ?_⟩⟩
  rw [List.take_of_length_le (by simp)]
theorem str_one (L : List ByteArray) : ∀ u ∈ L.map Value.string, u.oneCell' = true := by
  intro u hu
  rw [List.mem_map] at hu
  obtain ⟨x, _, rfl⟩ := hu
  rfl
theorem row_cells {w : World} {N : Nat} {L : List ByteArray} (h : Bk w N (L.map Value.string).toArray) : ∀ j u, (L.map Value.string)[j]? = some u → w.cell? ((⟨N, 0, none⟩ : Addr).add j) = some u := by
  intro j u hu
  rw [Addr.add_lit, Nat.zero_add]
  exact h.at (by rw [List.getElem?_toArray]; exact hu)
theorem take_next {α β : Type} {L : List α} {n : Nat} {x : α} (f : α → List β) (h : L[n]? = some x) : (L.take (n + 1)).flatMap f = (L.take n).flatMap f ++ f x := by
  rw [List.take_add_one, h]
  simp
theorem blkIni_len (x : InitT) : (iniTk x).length ≤ 4 := by
  unfold iniTk
  simp
theorem blkIni_lens : ∀ (L : List InitT), (L.flatMap iniTk).length ≤ 4 * L.length
  | [] => by simp
  | x :: L => by
    have h1 := blkIni_len x
    have h2 := blkIni_lens L
    rw [List.flatMap_cons, List.length_append, List.length_cons]
    omega
set_option maxHeartbeats 4000000 in
set_option maxRecDepth 8000 in
theorem blkIni_is (hd : ByteArray) (L : List InitT) (a : Option Addr) (c : Nat) (w : World) (h : Rd iniC 2 w (.slice a L.length c) L) (hok : ∀ x ∈ L, initOk x = true ∧ B64 x.v) (hlen : L.length ≤ 1000000) :
    Calls Tryz.prog 90 #[.string hd, .slice a L.length c, .func (.func 91) #[] #[]] w fun e w' => ∃ v, e = .returned v ∧ Sr w' w.heap.size v (blockTk hd iniTk L) ∧ On w w' := by
  obtain ⟨a', c', hv, hcc, hm, hr⟩ := h
  simp only [Value.slice.injEq] at hv
  obtain ⟨rfl, _, rfl⟩ := hv
  obtain ⟨i0, hi, hz0, hz1, hz2⟩ := str_parts
  have R0 : Sr (w.alloc (.cells #[.string hd, .string ⟨#[123]⟩] 9)) w.heap.size (.slice (some ⟨w.heap.size, 0, none⟩) 2 2) [hd, xOp] := Sr.new w [hd, xOp] w.heap.size (Nat.le_refl _) (by simp)
  go_enter Tryz.func90, Tryz.ntmps90
  go_wp2
  go_loopg [7, 14] L.length (fun gg s7 s14 wr => ∃ n : Nat, n ≤ L.length ∧ gg = L.length - n ∧ s14 = .int .i64 n ∧ Hid (On w wr) ∧ Sr wr w.heap.size s7 ([hd, xOp] ++ (L.take n).flatMap iniTk))
  case atStart => exact ⟨0, Nat.zero_le _, rfl, rfl, (On.refl w).alloc _, by simpa using R0⟩
  case round =>
    clear R0
    obtain ⟨n, hn, hk, rfl, hon, hrow⟩ := hrel
    have hsz := hon.out.size
    have hlens := blkIni_lens (L.take n)
    rw [List.length_take] at hlens
    obtain ⟨X, hX⟩ : ∃ X, X = [hd, xOp] ++ (L.take n).flatMap iniTk := ⟨_, rfl⟩
    rw [← hX] at hrow
    have HX : Hid (X = [hd, xOp] ++ (L.take n).flatMap iniTk) := hX
    have hXl : X.length ≤ 2 + 4 * min n L.length := by rw [hX]; simp only [List.length_append, List.length_cons, List.length_nil]; omega
    clear hX hlens
    rcases Nat.lt_or_ge n L.length with hlt | hge
    · obtain ⟨x, hx⟩ : ∃ x, L[n]? = some x := ⟨_, List.getElem?_eq_getElem hlt⟩
      obtain ⟨g, off, rfl, hg, hcell⟩ := hr (by omega)
      have y0 : wr.cell? ⟨g, off + n * 2, none⟩ = _ := (hon.out.cell (p := ⟨g, off + n * 2, none⟩) hg).trans (hcell n x 0 _ hx rfl)
      have y1 : wr.cell? ⟨g, off + n * 2 + 1, none⟩ = _ := (hon.out.cell (p := ⟨g, off + n * 2 + 1, none⟩) hg).trans (hcell n x 1 _ hx rfl)
      have hg' := Nat.lt_of_lt_of_le hg hon.out.size
      have hx1 := hok x (List.mem_of_getElem? hx)
      have hT := fun W (k : On w W) => initTokens_is x hx1.1 hx1.2 W
      have HN : Hid ((L.take (n + 1)).flatMap iniTk = (L.take n).flatMap iniTk ++ iniTk x) := take_next iniTk hx
      have hl1 := blkIni_len x
      clear hcell hr hx hok hx1
      go_wp2_with fail
      refine (hT _ (hon.out.alloc _)).mono ?_
      rintro e w1 ⟨N, rfl, hB, hN, k1⟩
      have hrow1 : Sr w1 w.heap.size u7 _ := (hrow.on ((On.refl wr).alloc _)).on k1
      have HO1 : Hid (On w w1) := (hon.out.alloc _).trans k1
      have hs1 := HO1.out.size
      have hown : ∀ g, u7.ownBlock = some g → w.heap.size ≤ g := fun g hg => (World.ownsRow.lt hrow1 g hg).1
      clear hT k1 hrow hon
      go_wp2_with (at_builtin; refine wpList_append_own _ rfl _ _ 33 rfl w.heap.size 9 i0 (.string ⟨#[]⟩) 1 16 Tryz.underlying33 hi hz0 hz1 hz2 rfl (by decide) _ _ _ rfl hrow1 ⟨N, 0, none⟩ (iniTk x).length (iniTk x).length ((iniTk x).map Value.string) rfl (by simp) (row_cells hB) (str_one _) ?c3 ?c4 hs1 ?_)
      case c3 => unfold maxLen; omega
      case c4 => omega
      intro v' w2 hown2 hg2 _
      have HO2 : Hid (On w w2) := HO1.out.grown hg2 hown
      clear hg2 hrow1 HO1 hB
      go_wp2
      go_roundg (L.length - (n + 1))
      case measure => omega
      case rel =>
        refine ⟨n + 1, by omega, rfl, by go_num, HO2, ?_⟩
        rw [HN.out, ← List.append_assoc, ← HX.out]
        unfold Sr
        rw [List.length_append, List.map_append]
        exact hown2
    · obtain rfl : n = L.length := by omega
      have hown : ∀ g, u7.ownBlock = some g → w.heap.size ≤ g := fun g hg => (World.ownsRow.lt hrow g hg).1
      have HO : Hid (On w wr) := hon
      clear hr hok hon
      go_wp2_with (at_builtin; refine wpList_append_own _ rfl _ _ 33 rfl w.heap.size 9 i0 (.string ⟨#[]⟩) 1 16 Tryz.underlying33 hi hz0 hz1 hz2 rfl (by decide) _ _ _ rfl (hrow.on ((On.refl wr).alloc _)) ⟨wr.heap.size, 0, none⟩ 1 1 [.string ⟨#[125]⟩] rfl rfl ?c1 (str_one [⟨#[125]⟩]) ?c3 ?c4 ?c5 ?_)
      case c1 =>
        intro j u hu
        rw [new_cell]
        exact hu
      case c3 => unfold maxLen; omega
      case c4 => omega
      case c5 => rw [World.size_alloc]; omega
      intro v' w2 hown2 hg2 _
      have HO2 : Hid (On w w2) := (HO.out.alloc _).grown hg2 hown
      clear hg2 hrow HO
      go_wp2
      go_ret
      refine ⟨v', rfl, ?_, HO2.out⟩
      have e := HX.out
      rw [List.take_length] at e
      unfold Sr blockTk
      rw [← e, List.length_append, List.map_append]
      exact hown2
theorem blkIns_len (x : InsT) : (insTk x).length ≤ 7 := by
  unfold insTk
  repeat' split
  all_goals simp
theorem blkIns_lens : ∀ (L : List InsT), (L.flatMap insTk).length ≤ 7 * L.length
  | [] => by simp
  | x :: L => by
    have h1 := blkIns_len x
    have h2 := blkIns_lens L
    rw [List.flatMap_cons, List.length_append, List.length_cons]
    omega
set_option maxHeartbeats 4000000 in
set_option maxRecDepth 8000 in
theorem blkIns_is (hd : ByteArray) (L : List InsT) (a : Option Addr) (c : Nat) (w : World) (lw : Lw w) (h : Rd insC 9 w (.slice a L.length c) L) (hok : ∀ x ∈ L, insOk x = true ∧ B64 x.a.v ∧ B64 x.b.v ∧ B64 x.n) (hlen : L.length ≤ 1000000) :
    Calls Tryz.prog 92 #[.string hd, .slice a L.length c, .func (.func 89) #[] #[]] w fun e w' => ∃ v, e = .returned v ∧ Sr w' w.heap.size v (blockTk hd insTk L) ∧ On w w' := by
  obtain ⟨a', c', hv, hcc, hm, hr⟩ := h
  simp only [Value.slice.injEq] at hv
  obtain ⟨rfl, _, rfl⟩ := hv
  obtain ⟨i0, hi, hz0, hz1, hz2⟩ := str_parts
  have R0 : Sr (w.alloc (.cells #[.string hd, .string ⟨#[123]⟩] 9)) w.heap.size (.slice (some ⟨w.heap.size, 0, none⟩) 2 2) [hd, xOp] := Sr.new w [hd, xOp] w.heap.size (Nat.le_refl _) (by simp)
  go_enter Tryz.func92, Tryz.ntmps92
  go_wp2
  go_loopg [7, 14] L.length (fun gg s7 s14 wr => ∃ n : Nat, n ≤ L.length ∧ gg = L.length - n ∧ s14 = .int .i64 n ∧ Hid (On w wr) ∧ Sr wr w.heap.size s7 ([hd, xOp] ++ (L.take n).flatMap insTk))
  case atStart => exact ⟨0, Nat.zero_le _, rfl, rfl, (On.refl w).alloc _, by simpa using R0⟩
  case round =>
    clear R0
    obtain ⟨n, hn, hk, rfl, hon, hrow⟩ := hrel
    have hsz := hon.out.size
    have hlens := blkIns_lens (L.take n)
    rw [List.length_take] at hlens
    obtain ⟨X, hX⟩ : ∃ X, X = [hd, xOp] ++ (L.take n).flatMap insTk := ⟨_, rfl⟩
    rw [← hX] at hrow
    have HX : Hid (X = [hd, xOp] ++ (L.take n).flatMap insTk) := hX
    have hXl : X.length ≤ 2 + 7 * min n L.length := by rw [hX]; simp only [List.length_append, List.length_cons, List.length_nil]; omega
    clear hX hlens
    rcases Nat.lt_or_ge n L.length with hlt | hge
    · obtain ⟨x, hx⟩ : ∃ x, L[n]? = some x := ⟨_, List.getElem?_eq_getElem hlt⟩
      obtain ⟨g, off, rfl, hg, hcell⟩ := hr (by omega)
      have y0 : wr.cell? ⟨g, off + n * 9, none⟩ = _ := (hon.out.cell (p := ⟨g, off + n * 9, none⟩) hg).trans (hcell n x 0 _ hx rfl)
      have y1 : wr.cell? ⟨g, off + n * 9 + 1, none⟩ = _ := (hon.out.cell (p := ⟨g, off + n * 9 + 1, none⟩) hg).trans (hcell n x 1 _ hx rfl)
      have y2 : wr.cell? ⟨g, off + n * 9 + 2, none⟩ = _ := (hon.out.cell (p := ⟨g, off + n * 9 + 2, none⟩) hg).trans (hcell n x 2 _ hx rfl)
      have y3 : wr.cell? ⟨g, off + n * 9 + 3, none⟩ = _ := (hon.out.cell (p := ⟨g, off + n * 9 + 3, none⟩) hg).trans (hcell n x 3 _ hx rfl)
      have y4 : wr.cell? ⟨g, off + n * 9 + 4, none⟩ = _ := (hon.out.cell (p := ⟨g, off + n * 9 + 4, none⟩) hg).trans (hcell n x 4 _ hx rfl)
      have y5 : wr.cell? ⟨g, off + n * 9 + 5, none⟩ = _ := (hon.out.cell (p := ⟨g, off + n * 9 + 5, none⟩) hg).trans (hcell n x 5 _ hx rfl)
      have y6 : wr.cell? ⟨g, off + n * 9 + 6, none⟩ = _ := (hon.out.cell (p := ⟨g, off + n * 9 + 6, none⟩) hg).trans (hcell n x 6 _ hx rfl)
      have y7 : wr.cell? ⟨g, off + n * 9 + 7, none⟩ = _ := (hon.out.cell (p := ⟨g, off + n * 9 + 7, none⟩) hg).trans (hcell n x 7 _ hx rfl)
      have y8 : wr.cell? ⟨g, off + n * 9 + 8, none⟩ = _ := (hon.out.cell (p := ⟨g, off + n * 9 + 8, none⟩) hg).trans (hcell n x 8 _ hx rfl)
      have hg' := Nat.lt_of_lt_of_le hg hon.out.size
      have hx1 := hok x (List.mem_of_getElem? hx)
      have hT := fun W (k : On w W) => insTokens_is x hx1.1 hx1.2.1 hx1.2.2.1 hx1.2.2.2 W (lw.on k)
      have HN : Hid ((L.take (n + 1)).flatMap insTk = (L.take n).flatMap insTk ++ insTk x) := take_next insTk hx
      have hl1 := blkIns_len x
      clear hcell hr hx hok hx1
      go_wp2_with fail
      refine (hT _ (hon.out.alloc _)).mono ?_
      rintro e w1 ⟨N, rfl, hB, hN, k1⟩
      have hrow1 : Sr w1 w.heap.size u7 _ := (hrow.on ((On.refl wr).alloc _)).on k1
      have HO1 : Hid (On w w1) := (hon.out.alloc _).trans k1
      have hs1 := HO1.out.size
      have hown : ∀ g, u7.ownBlock = some g → w.heap.size ≤ g := fun g hg => (World.ownsRow.lt hrow1 g hg).1
      clear hT k1 hrow hon
      go_wp2_with (at_builtin; refine wpList_append_own _ rfl _ _ 33 rfl w.heap.size 9 i0 (.string ⟨#[]⟩) 1 16 Tryz.underlying33 hi hz0 hz1 hz2 rfl (by decide) _ _ _ rfl hrow1 ⟨N, 0, none⟩ (insTk x).length (insTk x).length ((insTk x).map Value.string) rfl (by simp) (row_cells hB) (str_one _) ?c3 ?c4 hs1 ?_)
      case c3 => unfold maxLen; omega
      case c4 => omega
      intro v' w2 hown2 hg2 _
      have HO2 : Hid (On w w2) := HO1.out.grown hg2 hown
      clear hg2 hrow1 HO1 hB
      go_wp2
      go_roundg (L.length - (n + 1))
      case measure => omega
      case rel =>
        refine ⟨n + 1, by omega, rfl, by go_num, HO2, ?_⟩
        rw [HN.out, ← List.append_assoc, ← HX.out]
        unfold Sr
        rw [List.length_append, List.map_append]
        exact hown2
    · obtain rfl : n = L.length := by omega
      have hown : ∀ g, u7.ownBlock = some g → w.heap.size ≤ g := fun g hg => (World.ownsRow.lt hrow g hg).1
      have HO : Hid (On w wr) := hon
      clear hr hok hon
      go_wp2_with (at_builtin; refine wpList_append_own _ rfl _ _ 33 rfl w.heap.size 9 i0 (.string ⟨#[]⟩) 1 16 Tryz.underlying33 hi hz0 hz1 hz2 rfl (by decide) _ _ _ rfl (hrow.on ((On.refl wr).alloc _)) ⟨wr.heap.size, 0, none⟩ 1 1 [.string ⟨#[125]⟩] rfl rfl ?c1 (str_one [⟨#[125]⟩]) ?c3 ?c4 ?c5 ?_)
      case c1 =>
        intro j u hu
        rw [new_cell]
        exact hu
      case c3 => unfold maxLen; omega
      case c4 => omega
      case c5 => rw [World.size_alloc]; omega
      intro v' w2 hown2 hg2 _
      have HO2 : Hid (On w w2) := (HO.out.alloc _).grown hg2 hown
      clear hg2 hrow HO
      go_wp2
      go_ret
      refine ⟨v', rfl, ?_, HO2.out⟩
      have e := HX.out
      rw [List.take_length] at e
      unfold Sr blockTk
      rw [← e, List.length_append, List.map_append]
      exact hown2
end Go.Proofs.YtacflahkofmcpaaGreatDoor.Wl

namespace Go.Proofs.YtacflahkofmcpaaGreatDoor.Wl
open Go.RowKit

theorem row_next : ∀ {r : List AtomT} {m : Nat} {x : AtomT} (h : ByteArray), r[m]? = some x → rowTk h (r.take (m + 1)) = rowTk h (r.take m) ++ ((if m = 0 then h else xAnd) :: atomTk x)
  | [], m, x, h, hx => by simp at hx
  | y :: r, 0, x, h, hx => by
    simp only [List.getElem?_cons_zero, Option.some.injEq] at hx
    subst hx
    simp [rowTk]
  | y :: r, m + 1, x, h, hx => by
    rw [List.getElem?_cons_succ] at hx
    have ih := row_next xAnd hx
    rw [ite_self] at ih
    rw [List.take_succ_cons, rowTk, ih, List.take_succ_cons, rowTk, if_neg (Nat.succ_ne_zero m)]
    simp
theorem any_next : ∀ {L : List (List AtomT)} {n : Nat} {r : List AtomT} (h : ByteArray), L[n]? = some r → anyTk h (L.take (n + 1)) = anyTk h (L.take n) ++ rowTk (if n = 0 then h else xOr) r
  | [], n, r, h, hx => by simp at hx
  | y :: L, 0, r, h, hx => by
    simp only [List.getElem?_cons_zero, Option.some.injEq] at hx
    subst hx
    simp [anyTk]
  | y :: L, n + 1, r, h, hx => by
    rw [List.getElem?_cons_succ] at hx
    have ih := any_next xOr hx
    rw [ite_self] at ih
    rw [List.take_succ_cons, anyTk, ih, List.take_succ_cons, anyTk, if_neg (Nat.succ_ne_zero n)]
    simp
theorem atom_len (x : AtomT) : (atomTk x).length ≤ 5 := by
  unfold atomTk
  split <;> simp
theorem row_len : ∀ (r : List AtomT) (h : ByteArray), (rowTk h r).length ≤ 6 * r.length
  | [], _ => by simp [rowTk]
  | x :: r, h => by
    have h1 := atom_len x
    have h2 := row_len r xAnd
    rw [rowTk, List.length_cons, List.length_append, List.length_cons]
    omega
theorem any_len : ∀ (L : List (List AtomT)) (h : ByteArray), (∀ r ∈ L, r.length ≤ 4002) → (anyTk h L).length ≤ 24012 * L.length
  | [], _, _ => by simp [anyTk]
  | r :: L, h, hr => by
    have h1 := row_len r h
    have h2 := any_len L xOr fun r' h' => hr r' (by simp [h'])
    have h3 := hr r (by simp)
    rw [anyTk, List.length_append, List.length_cons]
    omega
set_option maxHeartbeats 8000000 in
set_option maxRecDepth 8000 in
theorem condTokens_is (c : CondT) (a : Option Addr) (cap : Nat) (w : World) (h : Rd2 atomC 4 w (.slice a c.any.length cap) c.any) (hok : ∀ r ∈ c.any, ∀ x ∈ r, atomOk x = true ∧ B64 x.t ∧ B64 x.v) (hl : c.any.length ≤ 4002) (hl2 : ∀ r ∈ c.any, r.length ≤ 4002) :
    Calls Tryz.prog 93 #[.agg #[.int .i64 c.k, .slice a c.any.length cap]] w fun e w' => ∃ v, e = .returned v ∧ Sr w' w.heap.size v (condTk c) ∧ On w w' := by
  obtain ⟨k, LL⟩ := c
  simp only at h hok hl hl2 ⊢
  unfold condTk
  simp only
  cases hk : (k == 0) with
  | true =>
    go_enter Tryz.func93, Tryz.ntmps93
    go_wp2
    go_ret
    exact ⟨_, rfl, World.ownsRow_nil _ _ _ _, (On.refl w).alloc _⟩
  | false =>
    simp only [Bool.false_eq_true, if_false]
    have hW := fun W => condWord_is k W
    obtain ⟨h0, hh0⟩ : ∃ h0, h0 = (if k == 1 then xEx else xFa) := ⟨_, rfl⟩
    rw [← hh0] at hW
    simp only [← hh0]
    clear hh0
    obtain ⟨i0, hi, hz0, hz1, hz2⟩ := str_parts
    go_enter Tryz.func93, Tryz.ntmps93
    go_wp2_with fail
    refine (hW _).mono ?_
    rintro e w1 ⟨rfl, rfl⟩
    clear hW
    go_wp2
    go_loopg [3, 4, 18] LL.length (fun gg s3 s4 s18 wr => ∃ n : Nat, n ≤ LL.length ∧ gg = LL.length - n ∧ s18 = .int .i64 n ∧ s4 = .string (if n = 0 then h0 else xOr) ∧ Hid (On w wr) ∧ Sr wr w.heap.size s3 (anyTk h0 (LL.take n)))
    case atStart => exact ⟨0, Nat.zero_le _, rfl, rfl, rfl, (On.refl w).alloc _, World.ownsRow_nil _ _ _ _⟩
    case round =>
      obtain ⟨n, hn, hgk, rfl, rfl, hon, hrow⟩ := hrel
      have hsz := hon.out.size
      have hlens := any_len (LL.take n) h0 fun r hr => hl2 r (List.mem_of_mem_take hr)
      rw [List.length_take] at hlens
      obtain ⟨X, hX⟩ : ∃ X, X = anyTk h0 (LL.take n) := ⟨_, rfl⟩
      rw [← hX] at hrow hlens
      have HX : Hid (X = anyTk h0 (LL.take n)) := hX
      clear hX
      rcases Nat.lt_or_ge n LL.length with hlt | hge
      · obtain ⟨r, hr⟩ : ∃ r, LL[n]? = some r := ⟨_, List.getElem?_eq_getElem hlt⟩
        obtain ⟨g, off, rfl, hg, ar, cr, hcell, hm9, hrr⟩ := h.row hr
        have hrk := hok r (List.mem_of_getElem? hr)
        have hrl := hl2 r (List.mem_of_getElem? hr)
        have HN : Hid (anyTk h0 (LL.take (n + 1)) = anyTk h0 (LL.take n) ++ rowTk (if n = 0 then h0 else xOr) r) := any_next h0 hr
        have q0 := (hon.out.cell (p := ⟨g, off + n, none⟩) hg).trans hcell
        have hg' := Nat.lt_of_lt_of_le hg hon.out.size
        obtain ⟨ah, hah⟩ : ∃ ah, ah = (if n = 0 then h0 else xOr) := ⟨_, rfl⟩
        rw [← hah] at HN ⊢
        clear hah hr hcell
        go_wp2
        go_loopg [3, 4, 24] r.length (fun gg s3 s4 s24 wq => ∃ m : Nat, m ≤ r.length ∧ gg = r.length - m ∧ s24 = .int .i64 m ∧ s4 = .string (if m = 0 then ah else xAnd) ∧ Hid (On w wq) ∧ Sr wq w.heap.size s3 (X ++ rowTk ah (r.take m)))
        case atStart => exact ⟨0, Nat.zero_le _, rfl, rfl, rfl, hon, by simpa [rowTk] using hrow⟩
        case round =>
          clear hrow hon hsz q0 hg'
          obtain ⟨m, hm, hmk, rfl, rfl, hon, hrow⟩ := hrel
          have hsz := hon.out.size
          have hl3 := row_len (r.take m) ah
          rw [List.length_take] at hl3
          obtain ⟨Y, hY⟩ : ∃ Y, Y = X ++ rowTk ah (r.take m) := ⟨_, rfl⟩
          have hYl : Y.length ≤ 24012 * min n LL.length + 6 * min m r.length := by rw [hY, List.length_append]; omega
          rw [← hY] at hrow
          have HY : Hid (Y = X ++ rowTk ah (r.take m)) := hY
          clear hY hl3
          rcases Nat.lt_or_ge m r.length with hmt | hmg
          · obtain ⟨x, hx⟩ : ∃ x, r[m]? = some x := ⟨_, List.getElem?_eq_getElem hmt⟩
            obtain ⟨g2, off2, rfl, hg2, hcell⟩ := hrr.at hx
            have y0 : wr.cell? ⟨g2, off2 + m * 4, none⟩ = _ := (hon.out.cell (p := ⟨g2, off2 + m * 4, none⟩) hg2).trans (hcell 0 _ rfl)
            have y1 : wr.cell? ⟨g2, off2 + m * 4 + 1, none⟩ = _ := (hon.out.cell (p := ⟨g2, off2 + m * 4 + 1, none⟩) hg2).trans (hcell 1 _ rfl)
            have y2 : wr.cell? ⟨g2, off2 + m * 4 + 2, none⟩ = _ := (hon.out.cell (p := ⟨g2, off2 + m * 4 + 2, none⟩) hg2).trans (hcell 2 _ rfl)
            have y3 : wr.cell? ⟨g2, off2 + m * 4 + 3, none⟩ = _ := (hon.out.cell (p := ⟨g2, off2 + m * 4 + 3, none⟩) hg2).trans (hcell 3 _ rfl)
            have hgq := Nat.lt_of_lt_of_le hg2 hon.out.size
            have hx1 := hrk x (List.mem_of_getElem? hx)
            have hT := fun W => atomTokens_is x hx1.1 hx1.2.1 hx1.2.2 W
            have HM : Hid (rowTk ah (r.take (m + 1)) = rowTk ah (r.take m) ++ ((if m = 0 then ah else xAnd) :: atomTk x)) := row_next ah hx
            have hal := atom_len x
            obtain ⟨am, ham⟩ : ∃ am, am = (if m = 0 then ah else xAnd) := ⟨_, rfl⟩
            rw [← ham] at HM ⊢
            clear ham hcell hx hx1
            have hlt2 : ∀ g, u3.ownBlock = some g → w.heap.size ≤ g ∧ g < wr.heap.size := fun g hg => World.ownsRow.lt hrow g hg
            have B8 := (Bk.new wr #[.int .i64 x.t, .int .i64 x.r, .int .i64 x.l, .int .i64 x.v] 58).alloc (.cells #[.string am] 9)
            have hrow1 := (hrow.on (((On.refl wr).alloc (.cells #[.int .i64 x.t, .int .i64 x.r, .int .i64 x.l, .int .i64 x.v] 58)).alloc (.cells #[.string am] 9)))
            go_wp2_with (at_builtin; refine wpList_append_own _ rfl _ _ 33 rfl w.heap.size 9 i0 (.string ⟨#[]⟩) 1 16 Tryz.underlying33 hi hz0 hz1 hz2 rfl (by decide) _ _ _ rfl hrow1 ⟨wr.heap.size + 1, 0, none⟩ 1 1 [.string am] rfl rfl ?c1 (str_one [am]) ?c3 ?c4 ?c5 ?_)
            case c1 =>
              intro j u hu
              have := new_cell (wr.alloc (.cells #[.int .i64 x.t, .int .i64 x.r, .int .i64 x.l, .int .i64 x.v] 58)) #[.string am] 9 j
              rw [World.size_alloc] at this
              rw [this]
              exact hu
            case c3 => unfold maxLen; omega
            case c4 => omega
            case c5 => rw [World.size_alloc, World.size_alloc]; omega
            intro v' w2 hown2 hgr2 _
            have HO2 : Hid (On w w2) := ((hon.out.alloc _).alloc _).grown hgr2 fun g hg => (hlt2 g hg).1
            have B9 : Bk w2 wr.heap.size #[.int .i64 x.t, .int .i64 x.r, .int .i64 x.l, .int .i64 x.v] := by
              obtain ⟨T, e⟩ := B8
              exact ⟨T, (hgr2.block _ (lt_of_block e) (fun h => by have := (hlt2 _ h.symm).2; omega)).trans e⟩
            have b0 : w2.cell? ⟨wr.heap.size, 0, none⟩ = _ := B9.at (i := 0) rfl
            have b1 : w2.cell? ⟨wr.heap.size, 1, none⟩ = _ := B9.at (i := 1) rfl
            have b2 : w2.cell? ⟨wr.heap.size, 2, none⟩ = _ := B9.at (i := 2) rfl
            have b3 : w2.cell? ⟨wr.heap.size, 3, none⟩ = _ := B9.at (i := 3) rfl
            have bl := B9.lt
            clear hgr2 hrow1 hrow B8 hon y0 y1 y2 y3 B9
            go_wp2_with fail
            refine (hT _).mono ?_
            rintro e w3 ⟨N, rfl, hB, hN, k3⟩
            have hown3 := own_on hown2 k3
            have HO3 : Hid (On w w3) := HO2.out.trans k3
            have hs3 := HO3.out.size
            have hlt3 : ∀ g, v'.ownBlock = some g → w.heap.size ≤ g := fun g hg => (World.ownsRow.lt hown3 g hg).1
            clear hT k3 hown2 HO2 b0 b1 b2 b3 bl
            go_wp2_with (at_builtin; refine wpList_append_own _ rfl _ _ 33 rfl w.heap.size 9 i0 (.string ⟨#[]⟩) 1 16 Tryz.underlying33 hi hz0 hz1 hz2 rfl (by decide) _ _ _ rfl hown3 ⟨N, 0, none⟩ (atomTk x).length (atomTk x).length ((atomTk x).map Value.string) rfl (by simp) (row_cells hB) (str_one _) ?c3 ?c4 hs3 ?_)
            case c3 => unfold maxLen; omega
            case c4 => omega
            intro v'' w4 hown4 hgr4 _
            have HO4 : Hid (On w w4) := HO3.out.grown hgr4 hlt3
            clear hgr4 hown3 HO3 hB
            go_wp2
            go_roundg (r.length - (m + 1))
            case measure => omega
            case rel =>
              refine ⟨m + 1, by omega, rfl, by go_num, by rw [if_neg (Nat.succ_ne_zero m)]; rfl, HO4, ?_⟩
              rw [HM.out, ← List.append_assoc, ← HY.out]
              unfold Sr
              rw [List.length_append, List.length_cons, List.map_append, List.map_cons, show Y.length + ((atomTk x).length + 1) = Y.length + 1 + (atomTk x).length by omega]
              simpa using hown4
          · go_wp2
            go_roundg (LL.length - (n + 1))
            case measure => omega
            case rel =>
              refine ⟨n + 1, by omega, rfl, by go_num, by rw [if_neg (Nat.succ_ne_zero n)]; rfl, hon, ?_⟩
              have e := HY.out
              rw [List.take_of_length_le hmg] at e
              rw [HN.out, ← HX.out, ← e]
              exact hrow
      · have hlt2 : ∀ g, u3.ownBlock = some g → w.heap.size ≤ g := fun g hg => (World.ownsRow.lt hrow g hg).1
        go_wp2_with (at_builtin; refine wpList_append_own _ rfl _ _ 33 rfl w.heap.size 9 i0 (.string ⟨#[]⟩) 1 16 Tryz.underlying33 hi hz0 hz1 hz2 rfl (by decide) _ _ _ rfl (hrow.on ((On.refl wr).alloc _)) ⟨wr.heap.size, 0, none⟩ 1 1 [.string ⟨#[59]⟩] rfl rfl ?c1 (str_one [⟨#[59]⟩]) ?c3 ?c4 ?c5 ?_)
        case c1 =>
          intro j u hu
          rw [new_cell]
          exact hu
        case c3 => unfold maxLen; omega
        case c4 => omega
        case c5 => rw [World.size_alloc]; omega
        all_goals
          intro v' w2 hown2 hgr2 _
          have HO2 : Hid (On w w2) := (hon.out.alloc _).grown hgr2 hlt2
          clear hgr2
          go_wp2
          go_ret
          refine ⟨v', rfl, ?_, HO2.out⟩
          have e := HX.out
          rw [List.take_of_length_le hge] at e
          unfold Sr
          rw [← e, List.length_append, List.map_append]
          exact hown2
end Go.Proofs.YtacflahkofmcpaaGreatDoor.Wl

namespace Go.Proofs.YtacflahkofmcpaaGreatDoor.Wl
open Go.RowKit

/-- Numbers of 64 bits, and few of everything. -/
structure TestB (t : TestT) : Prop where
  ini : ∀ x ∈ t.ini, B64 x.v
  thr : ∀ L ∈ t.thr, ∀ x ∈ L, B64 x.a.v ∧ B64 x.b.v ∧ B64 x.n
  any : ∀ r ∈ t.cond.any, ∀ x ∈ r, B64 x.t ∧ B64 x.v
  l1 : t.ini.length ≤ 4002
  l2 : t.thr.length ≤ 4002
  l3 : ∀ L ∈ t.thr, L.length ≤ 4002
  l4 : t.cond.any.length ≤ 4002
  l5 : ∀ r ∈ t.cond.any, r.length ≤ 4002
theorem srows_wp {o : Oper} {a : Act} {w : World} {K : Act → World → Prop} {Q : Exit → Act → World → Prop} (s x : Operand)
    (ho : o.op = .call { callee := .builtin .append, args := #[s, x], argTypes := #[33, 33] })
    {base b2 : Nat} {v u : Value} {X Y : List ByteArray} (hs : a.eval s = v) (hx : a.eval x = u) (hv : Sr w base v X) (hu : Sr w b2 u Y) (hl : X.length + Y.length ≤ 1000000000) (hb : base ≤ w.heap.size)
    (h : ∀ v' w', Sr w' base v' (X ++ Y) → w.grownBy w' v.ownBlock → K (a.put o.dst v') w') : o.wp Tryz.prog a w K Q := by
  obtain ⟨i0, hi, hz0, hz1, hz2⟩ := str_parts
  rcases hu.2 with ⟨hu0, hY⟩ | ⟨g, cap, cur, hu0, _⟩
  · have hY' : Y = [] := List.eq_nil_of_length_eq_zero hY
    subst hY'
    have hrun := run_append_owned_none (P := Tryz.prog) (w := w) base 33 o.type 9 i0 1 Tryz.underlying33 hi v X.length _ hv
    unfold Oper.wp
    simp [execOp, ho, resolve, invoke, builtin, hs, hx, hu0, hrun, Result.andThen]
    exact h v w (by simpa using hv) (World.grownBy.refl _ _)
  · rw [hu0] at hx
    refine wp_append_own w s x 33 ho base 9 i0 (.string ⟨#[]⟩) 1 16 Tryz.underlying33 hi hz0 hz1 hz2 rfl (by decide) v X.length _ hs hv ⟨g, 0, none⟩ Y.length cap (Y.map Value.string) hx (by simp) (fun j y hy => ?_) (str_one Y) (by unfold maxLen; omega) (by omega) hb fun v' w' h1 h2 _ => h v' w' (by unfold Sr; simpa using h1) h2
    exact World.ownsRow.cells hu (g := g) (by rw [hu0]; rfl) j y hy
theorem srows_list {ops : Array Oper} {rest : List Oper} {o : Oper} {a : Act} {w : World} {Q : Exit → Act → World → Prop} (hgd : o.guard = none) (s x : Operand)
    (ho : o.op = .call { callee := .builtin .append, args := #[s, x], argTypes := #[33, 33] })
    {base b2 : Nat} {v u : Value} {X Y : List ByteArray} (hs : a.eval s = v) (hx : a.eval x = u) (hv : Sr w base v X) (hu : Sr w b2 u Y) (hl : X.length + Y.length ≤ 1000000000) (hb : base ≤ w.heap.size)
    (h : ∀ v' w', Sr w' base v' (X ++ Y) → w.grownBy w' v.ownBlock → wpList Tryz.prog ops Q rest (a.put o.dst v') w') : wpList Tryz.prog ops Q (o :: rest) a w :=
  wpList_plain hgd fun _ hK => srows_wp s x ho hs hx hv hu hl hb fun v' w' h1 h2 => hK _ _ (h v' w' h1 h2)
theorem Sr.lt {w : World} {base g : Nat} {v : Value} {L : List ByteArray} (h : Sr w base v L) (hg : v.ownBlock = some g) : base ≤ g := (World.ownsRow.lt h g hg).1
theorem cond_atoms {t : TestT} (h : testOk t = true) (hB : TestB t) : ∀ r ∈ t.cond.any, ∀ x ∈ r, atomOk x = true ∧ B64 x.t ∧ B64 x.v := by
  intro r hr x hx
  unfold testOk at h
  simp only [Bool.and_eq_true] at h
  have h4 := h.2
  unfold condOk at h4
  split at h4
  · have : t.cond.any.length = 0 := by simpa using h4
    rw [List.eq_nil_of_length_eq_zero this] at hr
    simp at hr
  · split at h4
    · rw [Bool.and_eq_true, List.all_eq_true] at h4
      have h5 := h4.2 r hr
      unfold rowOk at h5
      rw [Bool.and_eq_true, List.all_eq_true] at h5
      exact ⟨h5.2 x hx, hB.any r hr x hx⟩
    · cases h4
theorem thr_len (T : List (List InsT)) (h : ∀ L ∈ T, L.length ≤ 4002) : (T.flatMap (blockTk xThr insTk)).length ≤ 40023 * T.length := by
  induction T with
  | nil => simp
  | cons L T ih =>
    have h1 := blkIns_lens L
    have h2 := h L (by simp)
    have h3 := ih (fun L' hL' => h L' (by simp [hL']))
    rw [List.flatMap_cons, List.length_append, List.length_cons]
    have h4 : (blockTk xThr insTk L).length = 3 + (L.flatMap insTk).length := by
      unfold blockTk
      simp
      omega
    omega
set_option maxHeartbeats 4000000 in
set_option maxRecDepth 8000 in
theorem testTokens_is (t : TestT) (a1 a2 a3 : Option Addr) (c1 c2 c3 : Nat) (w : World) (lw : Lw w) (r1 : Rd iniC 2 w (.slice a1 t.ini.length c1) t.ini) (r2 : Rd2 insC 9 w (.slice a2 t.thr.length c2) t.thr) (r3 : Rd2 atomC 4 w (.slice a3 t.cond.any.length c3) t.cond.any) (hok : testOk t = true) (hB : TestB t) :
    Calls Tryz.prog 45 #[.agg #[.string t.name, .slice a1 t.ini.length c1, .slice a2 t.thr.length c2, .int .i64 t.cond.k, .slice a3 t.cond.any.length c3]] w fun e w' => ∃ v, e = .returned v ∧ Sr w' w.heap.size v (testTk t) ∧ On w w' := by
  have hatoms := cond_atoms hok hB
  have hok2 := hok
  unfold testOk at hok2
  simp only [Bool.and_eq_true, List.all_eq_true] at hok2
  obtain ⟨⟨⟨_, o2⟩, o3⟩, _⟩ := hok2
  have hI := fun W (k : On w W) => blkIni_is xIni t.ini a1 c1 W (r1.on k) (fun x hx => ⟨o2 x hx, hB.ini x hx⟩) (by have := hB.l1; omega)
  have HT : Hid (∀ L ∈ t.thr, ∀ a c W, On w W → Rd insC 9 W (.slice a L.length c) L → Calls Tryz.prog 92 #[.string xThr, .slice a L.length c, .func (.func 89) #[] #[]] W fun e w' => ∃ v, e = .returned v ∧ Sr w' W.heap.size v (blockTk xThr insTk L) ∧ On W w') := fun L hL a c W k hR => by
    refine blkIns_is xThr L a c W (lw.on k) hR (fun x hx => ⟨?_, hB.thr L hL x hx⟩) (by have := hB.l3 L hL; omega)
    have := o3 L hL
    unfold threadOk at this
    rw [List.all_eq_true] at this
    exact this x hx
  have hC := fun W (k : On w W) => condTokens_is t.cond a3 c3 W (r3.on k) hatoms hB.l4 hB.l5
  have HR2 : Hid (Rd2 insC 9 w (.slice a2 t.thr.length c2) t.thr) := r2
  have n1 := hB.l1
  have n2 := hB.l2
  have HN3 : Hid (∀ L ∈ t.thr, L.length ≤ 4002) := hB.l3
  have n4 := any_len t.cond.any (if t.cond.k == 1 then xEx else xFa) hB.l5
  have n5 : (condTk t.cond).length ≤ 96096025 := by
    unfold condTk
    have := hB.l4
    split
    · simp
    · rw [List.length_append, List.length_cons, List.length_nil]
      omega
  have n6 : (blockTk xIni iniTk t.ini).length ≤ 100000 := by
    have := blkIni_lens t.ini
    unfold blockTk
    simp only [List.length_append, List.length_cons, List.length_nil]
    omega
  clear n4
  have bk : ∀ cs T, Bk (w.alloc (.cells cs T)) w.heap.size cs := fun cs T => Bk.new w cs T
  have hcap : t.thr.length ≤ 9223372036854775807 := by omega
  obtain ⟨RES, hRES⟩ : ∃ RES, RES = testTk t := ⟨_, rfl⟩
  rw [← hRES]
  have HRES : Hid (RES = ([xTst, t.name, xOp] ++ (if 0 < t.ini.length then blockTk xIni iniTk t.ini else [])) ++ t.thr.flatMap (blockTk xThr insTk) ++ condTk t.cond ++ [xCl]) := hRES
  clear hRES r1 r2 r3 hok hB lw hatoms o2 o3
  generalize t.cond.any.length = m3 at *
  generalize condTk t.cond = CT at *
  generalize t.cond.k = kk at *
  generalize t.thr = TH at *
  generalize blockTk xIni iniTk t.ini = BI at *
  generalize t.ini.length = m1 at *
  generalize t.name = nm at *
  have B0 := bk #[.string nm, .slice a1 m1 c1, .slice a2 TH.length c2, .int .i64 kk, .slice a3 m3 c3] 28
  obtain ⟨W0, hW0⟩ : ∃ W0, W0 = w.alloc (.cells #[.string nm, .slice a1 m1 c1, .slice a2 TH.length c2, .int .i64 kk, .slice a3 m3 c3] 28) := ⟨_, rfl⟩
  have k0 : On w W0 := by rw [hW0]; exact (On.refl w).alloc _
  rw [← hW0] at B0
  have hs0 : W0.heap.size = w.heap.size + 1 := by rw [hW0, World.size_alloc]
  have R0 : Sr (W0.alloc (.cells #[.string ⟨#[116, 101, 115, 116]⟩, .string nm, .string ⟨#[123]⟩] 9)) (w.heap.size + 1) (.slice (some ⟨W0.heap.size, 0, none⟩) 3 3) [xTst, nm, xOp] := Sr.new W0 [xTst, nm, xOp] (w.heap.size + 1) (by omega) (by simp)
  rw [hs0] at R0
  have HW0 : Hid (W0 = w.alloc (.cells #[.string nm, .slice a1 m1 c1, .slice a2 TH.length c2, .int .i64 kk, .slice a3 m3 c3] 28)) := hW0
  obtain ⟨W1, hW1⟩ : ∃ W1, W1 = W0.alloc (.cells #[.string ⟨#[116, 101, 115, 116]⟩, .string nm, .string ⟨#[123]⟩] 9) := ⟨_, rfl⟩
  have K1 : On w W1 := by rw [hW1]; exact k0.alloc _
  have B1 : Bk W1 w.heap.size #[.string nm, .slice a1 m1 c1, .slice a2 TH.length c2, .int .i64 kk, .slice a3 m3 c3] := by rw [hW1]; exact B0.alloc _
  rw [← hW1] at R0
  have HW1 : Hid (W1 = W0.alloc (.cells #[.string ⟨#[116, 101, 115, 116]⟩, .string nm, .string ⟨#[123]⟩] 9)) := hW1
  have x0 := B0.at (i := 0) rfl
  have s0 := B0.lt
  have x1 := B1.at (i := 1) rfl
  have s1 := B1.lt
  clear hW0 hW1 bk k0
  by_cases hm : 0 < m1
  · have hmd : decide (0 < m1) = true := decide_eq_true hm
    have HX0 : Hid (RES = [xTst, nm, xOp] ++ BI ++ TH.flatMap (blockTk xThr insTk) ++ CT ++ [xCl]) := by
      show RES = _
      rw [HRES.out, if_pos hm]
    clear HRES
    go_enter Tryz.func45, Tryz.ntmps45
    go_wp2_with (fail)
    rw [← HW0.out, ← HW1.out]
    clear HW0 HW1 x0 s0
    refine (hI _ K1).mono ?_
    rintro _ w2 ⟨v2, rfl, r2, k2⟩
    have R2 := R0.on k2
    have hs2 : w.heap.size + 1 ≤ w2.heap.size := by have := k2.size; have := B1.lt; omega
    have hlt2 : ∀ q, (Value.slice (some ⟨w.heap.size + 1, 0, none⟩) 3 3).ownBlock = some q → w.heap.size + 1 ≤ q := fun q hq => R2.lt hq
    go_wp2_with (at_builtin; refine srows_list rfl _ _ rfl rfl rfl R2 r2 (by simp only [List.length_cons, List.length_nil]; omega) hs2 ?_)
    intro v3 w3 r3 g3
    have KK : On w w3 := (K1.trans k2).grown g3 (fun q hq => by have := hlt2 q hq; omega)
    have BB : Bk w3 w.heap.size #[.string nm, .slice a1 m1 c1, .slice a2 TH.length c2, .int .i64 kk, .slice a3 m3 c3] := (B1.on k2).grown g3 (Nat.lt_succ_self _) hlt2
    obtain ⟨XX, hXX⟩ : ∃ XX, XX = [xTst, nm, xOp] ++ BI := ⟨_, rfl⟩
    have hxl : XX.length ≤ 200000 := by rw [hXX, List.length_append]; simp only [List.length_cons, List.length_nil]; omega
    have RR : Sr w3 (w.heap.size + 1) v3 XX := by rw [hXX]; exact r3
    rw [← hXX] at HX0
    have HX : Hid (RES = (XX ++ TH.flatMap (blockTk xThr insTk)) ++ CT ++ [xCl]) := HX0
    clear hXX HX0 r3 g3 R2 r2 hI R0 B1 K1 k2 x1 s1
    have x2 := BB.at (i := 2) rfl
    have s2 := BB.lt
    go_wp2
    clear x2 s2
    go_loopg [3, 21] TH.length (fun gg s3 s21 wr => ∃ n : Nat, n ≤ TH.length ∧ gg = TH.length - n ∧ s21 = .int .i64 n ∧ Hid (On w wr) ∧ Hid (Bk wr w.heap.size #[.string nm, .slice a1 m1 c1, .slice a2 TH.length c2, .int .i64 kk, .slice a3 m3 c3]) ∧ w.heap.size + 1 ≤ wr.heap.size ∧ Hid (Sr wr (w.heap.size + 1) s3 (XX ++ (TH.take n).flatMap (blockTk xThr insTk))))
    case atStart => exact ⟨0, Nat.zero_le _, rfl, rfl, KK, BB, BB.lt, (by show Sr _ _ _ _; simpa using RR)⟩
    case round =>
      clear KK BB RR
      obtain ⟨n, hn, hk, rfl, HO, HB, hs, HR⟩ := hrel
      rcases Nat.lt_or_ge n TH.length with hlt | hge
      · obtain ⟨L, hL⟩ : ∃ L, TH[n]? = some L := ⟨_, List.getElem?_eq_getElem hlt⟩
        have hLm := List.mem_of_getElem? hL
        obtain ⟨g, off, hga, hg, ax, cx, hcx, _, hrx⟩ := (HR2.out.on HO.out).row hL
        subst hga
        have hT := HT.out L hLm ax cx wr HO.out hrx
        have hlen := HN3.out L hLm
        have hl1 := blkIns_lens L
        have hl2 := thr_len (TH.take n) (fun L' hL' => HN3.out L' (List.mem_of_mem_take hL'))
        have hl3 : (blockTk xThr insTk L).length ≤ 90000 := by unfold blockTk; simp only [List.length_append, List.length_cons, List.length_nil]; omega
        have hl4 : (TH.take n).length ≤ 4002 := by rw [List.length_take]; omega
        have HNX : Hid ((TH.take (n + 1)).flatMap (blockTk xThr insTk) = (TH.take n).flatMap (blockTk xThr insTk) ++ blockTk xThr insTk L) := take_next (blockTk xThr insTk) hL
        clear hrx hL hLm hl1
        generalize blockTk xThr insTk L = BT at *
        obtain ⟨PX, hPX⟩ : ∃ PX, PX = XX ++ (TH.take n).flatMap (blockTk xThr insTk) := ⟨_, rfl⟩
        have hpl : PX.length ≤ 290000000 := by rw [hPX, List.length_append]; omega
        rw [← hPX] at HR
        have HPX : Hid (PX = XX ++ (TH.take n).flatMap (blockTk xThr insTk)) := hPX
        clear hPX hl2 hl4
        generalize L.length = ll at *
        go_wp2_with fail
        refine hT.mono ?_
        rintro _ w3 ⟨v3, rfl, r3, k3⟩
        have R3 := HR.out.on k3
        have hs3 : w.heap.size + 1 ≤ w3.heap.size := Nat.le_trans hs k3.size
        have hlt3 : ∀ q, u3.ownBlock = some q → w.heap.size + 1 ≤ q := fun q hq => R3.lt hq
        clear hT hcx
        go_wp2_with (at_builtin; refine srows_list rfl _ _ rfl rfl rfl R3 r3 (by omega) hs3 ?_)
        intro v4 w4 r4 g4
        have HO4 : Hid (On w w4) := (HO.out.trans k3).grown g4 (fun q hq => by have := hlt3 q hq; omega)
        have HB4 : Hid (Bk w4 w.heap.size _) := (HB.out.on k3).grown g4 (Nat.lt_succ_self _) hlt3
        have hs4 : w.heap.size + 1 ≤ w4.heap.size := Nat.le_trans hs3 g4.size
        have HR4 : Hid (Sr w4 (w.heap.size + 1) v4 (XX ++ (TH.take (n + 1)).flatMap (blockTk xThr insTk))) := by rw [HNX.out, ← List.append_assoc, ← HPX.out]; exact r4
        clear r4 g4 R3 r3 HO HB HR k3
        go_wp2
        go_roundg (TH.length - (n + 1))
        case measure => omega
        case rel => exact ⟨n + 1, hlt, rfl, by congr 1, HO4, HB4, hs4, HR4⟩
      · have hl2 := thr_len TH HN3.out
        have hcc := hC wr HO.out
        have x3 := HB.out.at (i := 3) rfl
        have x4 := HB.out.at (i := 4) rfl
        have s3 := HB.out.lt
        rw [List.take_of_length_le hge] at HR
        obtain ⟨PX, hPX⟩ : ∃ PX, PX = XX ++ TH.flatMap (blockTk xThr insTk) := ⟨_, rfl⟩
        have hpl : PX.length ≤ 290000000 := by rw [hPX, List.length_append]; omega
        rw [← hPX] at HR HX
        clear hPX hl2 HB
        go_wp2_with fail
        refine hcc.mono ?_
        rintro _ w3 ⟨v3, rfl, r3, k3⟩
        have R3 := HR.out.on k3
        have hs3 : w.heap.size + 1 ≤ w3.heap.size := Nat.le_trans hs k3.size
        have hlt3 : ∀ q, u3.ownBlock = some q → w.heap.size + 1 ≤ q := fun q hq => R3.lt hq
        clear hcc x3 x4 s3
        go_wp2_with (at_builtin; refine srows_list rfl _ _ rfl rfl rfl R3 r3 (by omega) hs3 ?_)
        intro v4 w4 r4 g4
        have K4 : On w w4 := (HO.out.trans k3).grown g4 (fun q hq => by have := hlt3 q hq; omega)
        have hs4 : w.heap.size + 1 ≤ w4.heap.size := Nat.le_trans hs3 g4.size
        have R4 := r4.on ((On.refl w4).alloc (.cells #[.string ⟨#[125]⟩] 9))
        have rc : Sr (w4.alloc (.cells #[.string ⟨#[125]⟩] 9)) 0 (.slice (some ⟨w4.heap.size, 0, none⟩) 1 1) [xCl] := Sr.new w4 [xCl] 0 (Nat.zero_le _) (by simp)
        have hlt4 : ∀ q, v4.ownBlock = some q → w.heap.size + 1 ≤ q := fun q hq => r4.lt hq
        have hl5 : (PX ++ CT).length ≤ 400000000 := by rw [List.length_append]; omega
        have hs5 : w.heap.size + 1 ≤ (w4.alloc (.cells #[.string ⟨#[125]⟩] 9)).heap.size := by rw [World.size_alloc]; omega
        clear r4 g4 R3 r3 HR k3 hpl
        generalize PX ++ CT = PC at *
        go_wp2_with (at_builtin; refine srows_list rfl _ _ rfl rfl rfl R4 rc (by rw [List.length_cons, List.length_nil]; omega) hs5 ?_)
        intro v5 w5 r5 g5
        have K5 : On w w5 := (K4.alloc _).grown g5 (fun q hq => by have := hlt4 q hq; omega)
        have HR5 : Hid (Sr w5 w.heap.size v5 RES) := by
          show Sr w5 w.heap.size v5 RES
          rw [HX.out]
          exact own_mono r5 (Nat.le_succ _)
        clear r5 g5 R4 rc
        go_wp2
        go_ret
        exact ⟨v5, rfl, HR5.out, K5⟩
  · have hmd : decide (0 < m1) = false := decide_eq_false hm
    have HX0 : Hid (RES = [xTst, nm, xOp] ++ TH.flatMap (blockTk xThr insTk) ++ CT ++ [xCl]) := by
      show RES = _
      rw [HRES.out, if_neg hm, List.append_nil]
    clear HRES
    obtain ⟨XX, hXX⟩ : ∃ XX, XX = [xTst, nm, xOp] := ⟨_, rfl⟩
    have hxl : XX.length ≤ 200000 := by rw [hXX]; simp only [List.length_cons, List.length_nil]; omega
    rw [← hXX] at HX0 R0
    have HX : Hid (RES = (XX ++ TH.flatMap (blockTk xThr insTk)) ++ CT ++ [xCl]) := HX0
    have KK := K1
    have BB := B1
    have RR := R0
    have x2' := B1.at (i := 2) rfl
    clear hXX HX0 hI R0 B1 K1
    go_enter Tryz.func45, Tryz.ntmps45
    have x2 := BB.at (i := 2) rfl
    have s2 := BB.lt
    go_wp2
    rw [← HW0.out, ← HW1.out]
    clear x2 s2 x0 s0 x1 s1 HW0 HW1
    go_loopg [3, 21] TH.length (fun gg s3 s21 wr => ∃ n : Nat, n ≤ TH.length ∧ gg = TH.length - n ∧ s21 = .int .i64 n ∧ Hid (On w wr) ∧ Hid (Bk wr w.heap.size #[.string nm, .slice a1 m1 c1, .slice a2 TH.length c2, .int .i64 kk, .slice a3 m3 c3]) ∧ w.heap.size + 1 ≤ wr.heap.size ∧ Hid (Sr wr (w.heap.size + 1) s3 (XX ++ (TH.take n).flatMap (blockTk xThr insTk))))
    case atStart => exact ⟨0, Nat.zero_le _, rfl, rfl, KK, BB, BB.lt, (by show Sr _ _ _ _; simpa using RR)⟩
    case round =>
      clear KK BB RR
      obtain ⟨n, hn, hk, rfl, HO, HB, hs, HR⟩ := hrel
      rcases Nat.lt_or_ge n TH.length with hlt | hge
      · obtain ⟨L, hL⟩ : ∃ L, TH[n]? = some L := ⟨_, List.getElem?_eq_getElem hlt⟩
        have hLm := List.mem_of_getElem? hL
        obtain ⟨g, off, hga, hg, ax, cx, hcx, _, hrx⟩ := (HR2.out.on HO.out).row hL
        subst hga
        have hT := HT.out L hLm ax cx wr HO.out hrx
        have hlen := HN3.out L hLm
        have hl1 := blkIns_lens L
        have hl2 := thr_len (TH.take n) (fun L' hL' => HN3.out L' (List.mem_of_mem_take hL'))
        have hl3 : (blockTk xThr insTk L).length ≤ 90000 := by unfold blockTk; simp only [List.length_append, List.length_cons, List.length_nil]; omega
        have hl4 : (TH.take n).length ≤ 4002 := by rw [List.length_take]; omega
        have HNX : Hid ((TH.take (n + 1)).flatMap (blockTk xThr insTk) = (TH.take n).flatMap (blockTk xThr insTk) ++ blockTk xThr insTk L) := take_next (blockTk xThr insTk) hL
        clear hrx hL hLm hl1
        generalize blockTk xThr insTk L = BT at *
        obtain ⟨PX, hPX⟩ : ∃ PX, PX = XX ++ (TH.take n).flatMap (blockTk xThr insTk) := ⟨_, rfl⟩
        have hpl : PX.length ≤ 290000000 := by rw [hPX, List.length_append]; omega
        rw [← hPX] at HR
        have HPX : Hid (PX = XX ++ (TH.take n).flatMap (blockTk xThr insTk)) := hPX
        clear hPX hl2 hl4
        generalize L.length = ll at *
        go_wp2_with fail
        refine hT.mono ?_
        rintro _ w3 ⟨v3, rfl, r3, k3⟩
        have R3 := HR.out.on k3
        have hs3 : w.heap.size + 1 ≤ w3.heap.size := Nat.le_trans hs k3.size
        have hlt3 : ∀ q, u3.ownBlock = some q → w.heap.size + 1 ≤ q := fun q hq => R3.lt hq
        clear hT hcx
        go_wp2_with (at_builtin; refine srows_list rfl _ _ rfl rfl rfl R3 r3 (by omega) hs3 ?_)
        intro v4 w4 r4 g4
        have HO4 : Hid (On w w4) := (HO.out.trans k3).grown g4 (fun q hq => by have := hlt3 q hq; omega)
        have HB4 : Hid (Bk w4 w.heap.size _) := (HB.out.on k3).grown g4 (Nat.lt_succ_self _) hlt3
        have hs4 : w.heap.size + 1 ≤ w4.heap.size := Nat.le_trans hs3 g4.size
        have HR4 : Hid (Sr w4 (w.heap.size + 1) v4 (XX ++ (TH.take (n + 1)).flatMap (blockTk xThr insTk))) := by rw [HNX.out, ← List.append_assoc, ← HPX.out]; exact r4
        clear r4 g4 R3 r3 HO HB HR k3
        go_wp2
        go_roundg (TH.length - (n + 1))
        case measure => omega
        case rel => exact ⟨n + 1, hlt, rfl, by congr 1, HO4, HB4, hs4, HR4⟩
      · have hl2 := thr_len TH HN3.out
        have hcc := hC wr HO.out
        have x3 := HB.out.at (i := 3) rfl
        have x4 := HB.out.at (i := 4) rfl
        have s3 := HB.out.lt
        rw [List.take_of_length_le hge] at HR
        obtain ⟨PX, hPX⟩ : ∃ PX, PX = XX ++ TH.flatMap (blockTk xThr insTk) := ⟨_, rfl⟩
        have hpl : PX.length ≤ 290000000 := by rw [hPX, List.length_append]; omega
        rw [← hPX] at HR HX
        clear hPX hl2 HB
        go_wp2_with fail
        refine hcc.mono ?_
        rintro _ w3 ⟨v3, rfl, r3, k3⟩
        have R3 := HR.out.on k3
        have hs3 : w.heap.size + 1 ≤ w3.heap.size := Nat.le_trans hs k3.size
        have hlt3 : ∀ q, u3.ownBlock = some q → w.heap.size + 1 ≤ q := fun q hq => R3.lt hq
        clear hcc x3 x4 s3
        go_wp2_with (at_builtin; refine srows_list rfl _ _ rfl rfl rfl R3 r3 (by omega) hs3 ?_)
        intro v4 w4 r4 g4
        have K4 : On w w4 := (HO.out.trans k3).grown g4 (fun q hq => by have := hlt3 q hq; omega)
        have hs4 : w.heap.size + 1 ≤ w4.heap.size := Nat.le_trans hs3 g4.size
        have R4 := r4.on ((On.refl w4).alloc (.cells #[.string ⟨#[125]⟩] 9))
        have rc : Sr (w4.alloc (.cells #[.string ⟨#[125]⟩] 9)) 0 (.slice (some ⟨w4.heap.size, 0, none⟩) 1 1) [xCl] := Sr.new w4 [xCl] 0 (Nat.zero_le _) (by simp)
        have hlt4 : ∀ q, v4.ownBlock = some q → w.heap.size + 1 ≤ q := fun q hq => r4.lt hq
        have hl5 : (PX ++ CT).length ≤ 400000000 := by rw [List.length_append]; omega
        have hs5 : w.heap.size + 1 ≤ (w4.alloc (.cells #[.string ⟨#[125]⟩] 9)).heap.size := by rw [World.size_alloc]; omega
        clear r4 g4 R3 r3 HR k3 hpl
        generalize PX ++ CT = PC at *
        go_wp2_with (at_builtin; refine srows_list rfl _ _ rfl rfl rfl R4 rc (by rw [List.length_cons, List.length_nil]; omega) hs5 ?_)
        intro v5 w5 r5 g5
        have K5 : On w w5 := (K4.alloc _).grown g5 (fun q hq => by have := hlt4 q hq; omega)
        have HR5 : Hid (Sr w5 w.heap.size v5 RES) := by
          show Sr w5 w.heap.size v5 RES
          rw [HX.out]
          exact own_mono r5 (Nat.le_succ _)
        clear r5 g5 R4 rc
        go_wp2
        go_ret
        exact ⟨v5, rfl, HR5.out, K5⟩
theorem gap_is (s : ByteArray) (w : World) : Calls Tryz.prog 48 #[.string s] w fun e w' => e = .returned (.int .u8 (gapB s).toNat) ∧ w' = w := by
  have e0 : s.toList = s.data.toList := ByteArray.toList_eq s
  have eg : gapB s = if endTk s then 10 else 32 := rfl
  have ee : endTk s = (s.toList == [123] || s.toList == [59] || s.toList == [125]) := by rw [e0]; rfl
  rw [eg, ee]
  clear e0 eg ee
  cases b1 : s.toList == [123] with
  | true =>
    go_enter Tryz.func48, Tryz.ntmps48
    go_wp2
    go_ret
    exact ⟨rfl, rfl⟩
  | false =>
    cases b2 : s.toList == [59] with
    | true =>
      go_enter Tryz.func48, Tryz.ntmps48
      go_wp2
      go_ret
      exact ⟨rfl, rfl⟩
    | false =>
      cases b3 : s.toList == [125] with
      | true =>
        go_enter Tryz.func48, Tryz.ntmps48
        go_wp2
        go_ret
        exact ⟨rfl, rfl⟩
      | false =>
        go_enter Tryz.func48, Tryz.ntmps48
        go_wp2
        go_ret
        exact ⟨rfl, rfl⟩
end Go.Proofs.YtacflahkofmcpaaGreatDoor.Wl
