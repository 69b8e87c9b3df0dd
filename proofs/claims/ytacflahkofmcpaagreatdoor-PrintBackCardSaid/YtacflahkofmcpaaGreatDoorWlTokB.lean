/- print.block: a block's tokens, in a row of the call's own. -/
import Derived.Test.YtacflahkofmcpaaGreatDoorJ16WlAllA
import Derived.OwnWalk
namespace Go.Proofs.YtacflahkofmcpaaGreatDoor.Wl
open Go.RowKit

theorem infoStr : (Tryz.prog.info? 9).map (fun i => (i.zero, i.size, i.bytes)) = some (some (.string ⟨#[]⟩), 1, 16) := by kernel_rfl
theorem str_parts : ∃ i, Tryz.prog.info? 9 = some i ∧ i.zero = some (.string ⟨#[]⟩) ∧ i.size = 1 ∧ i.bytes = 16 := by
  have h := infoStr
  rw [Option.map_eq_some_iff] at h
  obtain ⟨i, hi, he⟩ := h
  simp only [Prod.mk.injEq] at he
  exact ⟨i, hi, he.1, he.2.1, he.2.2⟩
/-- A row of strings of the call's own. -/
def Sr (w : World) (base : Nat) (v : Value) (L : List ByteArray) : Prop := w.ownsRow base 9 1 v L.length (L.map Value.string)
theorem Sr.on {w w' : World} {base : Nat} {v : Value} {L : List ByteArray} (h : Sr w base v L) (k : On w w') : Sr w' base v L := own_on h k
theorem Sr.new (w : World) (L : List ByteArray) (base : Nat) (hb : base ≤ w.heap.size) (hl : L.length ≤ 9223372036854775807) : Sr (w.alloc (.cells (L.map Value.string).toArray 9)) base (.slice (some ⟨w.heap.size, 0, none⟩) L.length L.length) L := by
  refine ⟨by simp, Or.inr ⟨w.heap.size, L.length, (L.map Value.string).toArray, rfl, hb, heap_alloc_new w _, Nat.le_refl _, hl, by simp, ?_⟩⟩
  rw [List.take_of_length_le (by simp)]
theorem str_one (L : List ByteArray) : ∀ u ∈ L.map Value.string, u.oneCell' = true := by
  intro u hu
  rw [List.mem_map] at hu
  obtain ⟨x, _, rfl⟩ := hu
  rfl
theorem row_cells {w : World} {N : Nat} {L : List ByteArray} (h : Bk w N (L.map Value.string).toArray) : ∀ j u, (L.map Value.string)[j]? = some u → w.cell? ((⟨N, 0, none⟩ : Addr).add j) = some u := by
  intro j u hu
  rw [Addr.add_lit, Nat.zero_add]
  exact h.at (by rw [List.getElem?_toArray]; exact hu)
theorem take_next {α β : Type} {L : List α} {n : Nat} {x : α} (f : α → List β) (h : L[n]? = some x) : (L.take (n + 1)).flatMap f = (L.take n).flatMap f ++ f x := by
  rw [List.take_add_one, h]
  simp
theorem blkIni_len (x : InitT) : (iniTk x).length ≤ 4 := by
  unfold iniTk
  simp
theorem blkIni_lens : ∀ (L : List InitT), (L.flatMap iniTk).length ≤ 4 * L.length
  | [] => by simp
  | x :: L => by
    have h1 := blkIni_len x
    have h2 := blkIni_lens L
    rw [List.flatMap_cons, List.length_append, List.length_cons]
    omega
set_option maxHeartbeats 4000000 in
set_option maxRecDepth 8000 in
theorem blkIni_is (hd : ByteArray) (L : List InitT) (a : Option Addr) (c : Nat) (w : World) (h : Rd iniC 2 w (.slice a L.length c) L) (hok : ∀ x ∈ L, initOk x = true ∧ B64 x.v) (hlen : L.length ≤ 1000000) :
    Calls Tryz.prog 90 #[.string hd, .slice a L.length c, .func (.func 91) #[] #[]] w fun e w' => ∃ v, e = .returned v ∧ Sr w' w.heap.size v (blockTk hd iniTk L) ∧ On w w' := by
  obtain ⟨a', c', hv, hcc, hm, hr⟩ := h
  simp only [Value.slice.injEq] at hv
  obtain ⟨rfl, _, rfl⟩ := hv
  obtain ⟨i0, hi, hz0, hz1, hz2⟩ := str_parts
  have R0 : Sr (w.alloc (.cells #[.string hd, .string ⟨#[123]⟩] 9)) w.heap.size (.slice (some ⟨w.heap.size, 0, none⟩) 2 2) [hd, xOp] := Sr.new w [hd, xOp] w.heap.size (Nat.le_refl _) (by simp)
  go_enter Tryz.func90, Tryz.ntmps90
  go_wp2
  go_loopg [7, 14] L.length (fun gg s7 s14 wr => ∃ n : Nat, n ≤ L.length ∧ gg = L.length - n ∧ s14 = .int .i64 n ∧ Hid (On w wr) ∧ Sr wr w.heap.size s7 ([hd, xOp] ++ (L.take n).flatMap iniTk))
  case atStart => exact ⟨0, Nat.zero_le _, rfl, rfl, (On.refl w).alloc _, by simpa using R0⟩
  case round =>
    clear R0
    obtain ⟨n, hn, hk, rfl, hon, hrow⟩ := hrel
    have hsz := hon.out.size
    have hlens := blkIni_lens (L.take n)
    rw [List.length_take] at hlens
    obtain ⟨X, hX⟩ : ∃ X, X = [hd, xOp] ++ (L.take n).flatMap iniTk := ⟨_, rfl⟩
    rw [← hX] at hrow
    have HX : Hid (X = [hd, xOp] ++ (L.take n).flatMap iniTk) := hX
    have hXl : X.length ≤ 2 + 4 * min n L.length := by rw [hX]; simp only [List.length_append, List.length_cons, List.length_nil]; omega
    clear hX hlens
    rcases Nat.lt_or_ge n L.length with hlt | hge
    · obtain ⟨x, hx⟩ : ∃ x, L[n]? = some x := ⟨_, List.getElem?_eq_getElem hlt⟩
      obtain ⟨g, off, rfl, hg, hcell⟩ := hr (by omega)
      have y0 : wr.cell? ⟨g, off + n * 2, none⟩ = _ := (hon.out.cell (p := ⟨g, off + n * 2, none⟩) hg).trans (hcell n x 0 _ hx rfl)
      have y1 : wr.cell? ⟨g, off + n * 2 + 1, none⟩ = _ := (hon.out.cell (p := ⟨g, off + n * 2 + 1, none⟩) hg).trans (hcell n x 1 _ hx rfl)
      have hg' := Nat.lt_of_lt_of_le hg hon.out.size
      have hx1 := hok x (List.mem_of_getElem? hx)
      have hT := fun W (k : On w W) => initTokens_is x hx1.1 hx1.2 W
      have HN : Hid ((L.take (n + 1)).flatMap iniTk = (L.take n).flatMap iniTk ++ iniTk x) := take_next iniTk hx
      have hl1 := blkIni_len x
      clear hcell hr hx hok hx1
      go_wp2_with fail
      refine (hT _ (hon.out.alloc _)).mono ?_
      rintro e w1 ⟨N, rfl, hB, hN, k1⟩
      have hrow1 : Sr w1 w.heap.size u7 _ := (hrow.on ((On.refl wr).alloc _)).on k1
      have HO1 : Hid (On w w1) := (hon.out.alloc _).trans k1
      have hs1 := HO1.out.size
      have hown : ∀ g, u7.ownBlock = some g → w.heap.size ≤ g := fun g hg => (World.ownsRow.lt hrow1 g hg).1
      clear hT k1 hrow hon
      go_wp2_with (at_builtin; refine wpList_append_own _ rfl _ _ 33 rfl w.heap.size 9 i0 (.string ⟨#[]⟩) 1 16 Tryz.underlying33 hi hz0 hz1 hz2 rfl (by decide) _ _ _ rfl hrow1 ⟨N, 0, none⟩ (iniTk x).length (iniTk x).length ((iniTk x).map Value.string) rfl (by simp) (row_cells hB) (str_one _) ?c3 ?c4 hs1 ?_)
      case c3 => unfold maxLen; omega
      case c4 => omega
      intro v' w2 hown2 hg2 _
      have HO2 : Hid (On w w2) := HO1.out.grown hg2 hown
      clear hg2 hrow1 HO1 hB
      go_wp2
      go_roundg (L.length - (n + 1))
      case measure => omega
      case rel =>
        refine ⟨n + 1, by omega, rfl, by go_num, HO2, ?_⟩
        rw [HN.out, ← List.append_assoc, ← HX.out]
        unfold Sr
        rw [List.length_append, List.map_append]
        exact hown2
    · obtain rfl : n = L.length := by omega
      have hown : ∀ g, u7.ownBlock = some g → w.heap.size ≤ g := fun g hg => (World.ownsRow.lt hrow g hg).1
      have HO : Hid (On w wr) := hon
      clear hr hok hon
      go_wp2_with (at_builtin; refine wpList_append_own _ rfl _ _ 33 rfl w.heap.size 9 i0 (.string ⟨#[]⟩) 1 16 Tryz.underlying33 hi hz0 hz1 hz2 rfl (by decide) _ _ _ rfl (hrow.on ((On.refl wr).alloc _)) ⟨wr.heap.size, 0, none⟩ 1 1 [.string ⟨#[125]⟩] rfl rfl ?c1 (str_one [⟨#[125]⟩]) ?c3 ?c4 ?c5 ?_)
      case c1 =>
        intro j u hu
        rw [new_cell]
        exact hu
      case c3 => unfold maxLen; omega
      case c4 => omega
      case c5 => rw [World.size_alloc]; omega
      intro v' w2 hown2 hg2 _
      have HO2 : Hid (On w w2) := (HO.out.alloc _).grown hg2 hown
      clear hg2 hrow HO
      go_wp2
      go_ret
      refine ⟨v', rfl, ?_, HO2.out⟩
      have e := HX.out
      rw [List.take_length] at e
      unfold Sr blockTk
      rw [← e, List.length_append, List.map_append]
      exact hown2
theorem blkIns_len (x : InsT) : (insTk x).length ≤ 7 := by
  unfold insTk
  repeat' split
  all_goals simp
theorem blkIns_lens : ∀ (L : List InsT), (L.flatMap insTk).length ≤ 7 * L.length
  | [] => by simp
  | x :: L => by
    have h1 := blkIns_len x
    have h2 := blkIns_lens L
    rw [List.flatMap_cons, List.length_append, List.length_cons]
    omega
set_option maxHeartbeats 4000000 in
set_option maxRecDepth 8000 in
theorem blkIns_is (hd : ByteArray) (L : List InsT) (a : Option Addr) (c : Nat) (w : World) (lw : Lw w) (h : Rd insC 9 w (.slice a L.length c) L) (hok : ∀ x ∈ L, insOk x = true ∧ B64 x.a.v ∧ B64 x.b.v ∧ B64 x.n) (hlen : L.length ≤ 1000000) :
    Calls Tryz.prog 92 #[.string hd, .slice a L.length c, .func (.func 89) #[] #[]] w fun e w' => ∃ v, e = .returned v ∧ Sr w' w.heap.size v (blockTk hd insTk L) ∧ On w w' := by
  obtain ⟨a', c', hv, hcc, hm, hr⟩ := h
  simp only [Value.slice.injEq] at hv
  obtain ⟨rfl, _, rfl⟩ := hv
  obtain ⟨i0, hi, hz0, hz1, hz2⟩ := str_parts
  have R0 : Sr (w.alloc (.cells #[.string hd, .string ⟨#[123]⟩] 9)) w.heap.size (.slice (some ⟨w.heap.size, 0, none⟩) 2 2) [hd, xOp] := Sr.new w [hd, xOp] w.heap.size (Nat.le_refl _) (by simp)
  go_enter Tryz.func92, Tryz.ntmps92
  go_wp2
  go_loopg [7, 14] L.length (fun gg s7 s14 wr => ∃ n : Nat, n ≤ L.length ∧ gg = L.length - n ∧ s14 = .int .i64 n ∧ Hid (On w wr) ∧ Sr wr w.heap.size s7 ([hd, xOp] ++ (L.take n).flatMap insTk))
  case atStart => exact ⟨0, Nat.zero_le _, rfl, rfl, (On.refl w).alloc _, by simpa using R0⟩
  case round =>
    clear R0
    obtain ⟨n, hn, hk, rfl, hon, hrow⟩ := hrel
    have hsz := hon.out.size
    have hlens := blkIns_lens (L.take n)
    rw [List.length_take] at hlens
    obtain ⟨X, hX⟩ : ∃ X, X = [hd, xOp] ++ (L.take n).flatMap insTk := ⟨_, rfl⟩
    rw [← hX] at hrow
    have HX : Hid (X = [hd, xOp] ++ (L.take n).flatMap insTk) := hX
    have hXl : X.length ≤ 2 + 7 * min n L.length := by rw [hX]; simp only [List.length_append, List.length_cons, List.length_nil]; omega
    clear hX hlens
    rcases Nat.lt_or_ge n L.length with hlt | hge
    · obtain ⟨x, hx⟩ : ∃ x, L[n]? = some x := ⟨_, List.getElem?_eq_getElem hlt⟩
      obtain ⟨g, off, rfl, hg, hcell⟩ := hr (by omega)
      have y0 : wr.cell? ⟨g, off + n * 9, none⟩ = _ := (hon.out.cell (p := ⟨g, off + n * 9, none⟩) hg).trans (hcell n x 0 _ hx rfl)
      have y1 : wr.cell? ⟨g, off + n * 9 + 1, none⟩ = _ := (hon.out.cell (p := ⟨g, off + n * 9 + 1, none⟩) hg).trans (hcell n x 1 _ hx rfl)
      have y2 : wr.cell? ⟨g, off + n * 9 + 2, none⟩ = _ := (hon.out.cell (p := ⟨g, off + n * 9 + 2, none⟩) hg).trans (hcell n x 2 _ hx rfl)
      have y3 : wr.cell? ⟨g, off + n * 9 + 3, none⟩ = _ := (hon.out.cell (p := ⟨g, off + n * 9 + 3, none⟩) hg).trans (hcell n x 3 _ hx rfl)
      have y4 : wr.cell? ⟨g, off + n * 9 + 4, none⟩ = _ := (hon.out.cell (p := ⟨g, off + n * 9 + 4, none⟩) hg).trans (hcell n x 4 _ hx rfl)
      have y5 : wr.cell? ⟨g, off + n * 9 + 5, none⟩ = _ := (hon.out.cell (p := ⟨g, off + n * 9 + 5, none⟩) hg).trans (hcell n x 5 _ hx rfl)
      have y6 : wr.cell? ⟨g, off + n * 9 + 6, none⟩ = _ := (hon.out.cell (p := ⟨g, off + n * 9 + 6, none⟩) hg).trans (hcell n x 6 _ hx rfl)
      have y7 : wr.cell? ⟨g, off + n * 9 + 7, none⟩ = _ := (hon.out.cell (p := ⟨g, off + n * 9 + 7, none⟩) hg).trans (hcell n x 7 _ hx rfl)
      have y8 : wr.cell? ⟨g, off + n * 9 + 8, none⟩ = _ := (hon.out.cell (p := ⟨g, off + n * 9 + 8, none⟩) hg).trans (hcell n x 8 _ hx rfl)
      have hg' := Nat.lt_of_lt_of_le hg hon.out.size
      have hx1 := hok x (List.mem_of_getElem? hx)
      have hT := fun W (k : On w W) => insTokens_is x hx1.1 hx1.2.1 hx1.2.2.1 hx1.2.2.2 W (lw.on k)
      have HN : Hid ((L.take (n + 1)).flatMap insTk = (L.take n).flatMap insTk ++ insTk x) := take_next insTk hx
      have hl1 := blkIns_len x
      clear hcell hr hx hok hx1
      go_wp2_with fail
      refine (hT _ (hon.out.alloc _)).mono ?_
      rintro e w1 ⟨N, rfl, hB, hN, k1⟩
      have hrow1 : Sr w1 w.heap.size u7 _ := (hrow.on ((On.refl wr).alloc _)).on k1
      have HO1 : Hid (On w w1) := (hon.out.alloc _).trans k1
      have hs1 := HO1.out.size
      have hown : ∀ g, u7.ownBlock = some g → w.heap.size ≤ g := fun g hg => (World.ownsRow.lt hrow1 g hg).1
      clear hT k1 hrow hon
      go_wp2_with (at_builtin; refine wpList_append_own _ rfl _ _ 33 rfl w.heap.size 9 i0 (.string ⟨#[]⟩) 1 16 Tryz.underlying33 hi hz0 hz1 hz2 rfl (by decide) _ _ _ rfl hrow1 ⟨N, 0, none⟩ (insTk x).length (insTk x).length ((insTk x).map Value.string) rfl (by simp) (row_cells hB) (str_one _) ?c3 ?c4 hs1 ?_)
      case c3 => unfold maxLen; omega
      case c4 => omega
      intro v' w2 hown2 hg2 _
      have HO2 : Hid (On w w2) := HO1.out.grown hg2 hown
      clear hg2 hrow1 HO1 hB
      go_wp2
      go_roundg (L.length - (n + 1))
      case measure => omega
      case rel =>
        refine ⟨n + 1, by omega, rfl, by go_num, HO2, ?_⟩
        rw [HN.out, ← List.append_assoc, ← HX.out]
        unfold Sr
        rw [List.length_append, List.map_append]
        exact hown2
    · obtain rfl : n = L.length := by omega
      have hown : ∀ g, u7.ownBlock = some g → w.heap.size ≤ g := fun g hg => (World.ownsRow.lt hrow g hg).1
      have HO : Hid (On w wr) := hon
      clear hr hok hon
      go_wp2_with (at_builtin; refine wpList_append_own _ rfl _ _ 33 rfl w.heap.size 9 i0 (.string ⟨#[]⟩) 1 16 Tryz.underlying33 hi hz0 hz1 hz2 rfl (by decide) _ _ _ rfl (hrow.on ((On.refl wr).alloc _)) ⟨wr.heap.size, 0, none⟩ 1 1 [.string ⟨#[125]⟩] rfl rfl ?c1 (str_one [⟨#[125]⟩]) ?c3 ?c4 ?c5 ?_)
      case c1 =>
        intro j u hu
        rw [new_cell]
        exact hu
      case c3 => unfold maxLen; omega
      case c4 => omega
      case c5 => rw [World.size_alloc]; omega
      intro v' w2 hown2 hg2 _
      have HO2 : Hid (On w w2) := (HO.out.alloc _).grown hg2 hown
      clear hg2 hrow HO
      go_wp2
      go_ret
      refine ⟨v', rfl, ?_, HO2.out⟩
      have e := HX.out
      rw [List.take_length] at e
      unfold Sr blockTk
      rw [← e, List.length_append, List.map_append]
      exact hown2
end Go.Proofs.YtacflahkofmcpaaGreatDoor.Wl
