/- print.condTokens: a condition's tokens, in a row of the call's own. -/
import Derived.Test.YtlfeihgemdicfaaDoorTokB
namespace Go.Proofs.YtlfeihgemdicfaaDoor
open Go.RowKit

theorem row_next : ∀ {r : List AtomT} {m : Nat} {x : AtomT} (h : ByteArray), r[m]? = some x → rowTk h (r.take (m + 1)) = rowTk h (r.take m) ++ ((if m = 0 then h else xAnd) :: atomTk x)
  | [], m, x, h, hx => by simp at hx
  | y :: r, 0, x, h, hx => by
    simp only [List.getElem?_cons_zero, Option.some.injEq] at hx
    subst hx
    simp [rowTk]
  | y :: r, m + 1, x, h, hx => by
    rw [List.getElem?_cons_succ] at hx
    have ih := row_next xAnd hx
    rw [ite_self] at ih
    rw [List.take_succ_cons, rowTk, ih, List.take_succ_cons, rowTk, if_neg (Nat.succ_ne_zero m)]
    simp
theorem any_next : ∀ {L : List (List AtomT)} {n : Nat} {r : List AtomT} (h : ByteArray), L[n]? = some r → anyTk h (L.take (n + 1)) = anyTk h (L.take n) ++ rowTk (if n = 0 then h else xOr) r
  | [], n, r, h, hx => by simp at hx
  | y :: L, 0, r, h, hx => by
    simp only [List.getElem?_cons_zero, Option.some.injEq] at hx
    subst hx
    simp [anyTk]
  | y :: L, n + 1, r, h, hx => by
    rw [List.getElem?_cons_succ] at hx
    have ih := any_next xOr hx
    rw [ite_self] at ih
    rw [List.take_succ_cons, anyTk, ih, List.take_succ_cons, anyTk, if_neg (Nat.succ_ne_zero n)]
    simp
theorem atom_len (x : AtomT) : (atomTk x).length ≤ 5 := by
  unfold atomTk
  split <;> simp
theorem row_len : ∀ (r : List AtomT) (h : ByteArray), (rowTk h r).length ≤ 6 * r.length
  | [], _ => by simp [rowTk]
  | x :: r, h => by
    have h1 := atom_len x
    have h2 := row_len r xAnd
    rw [rowTk, List.length_cons, List.length_append, List.length_cons]
    omega
theorem any_len : ∀ (L : List (List AtomT)) (h : ByteArray), (∀ r ∈ L, r.length ≤ 1000) → (anyTk h L).length ≤ 6000 * L.length
  | [], _, _ => by simp [anyTk]
  | r :: L, h, hr => by
    have h1 := row_len r h
    have h2 := any_len L xOr fun r' h' => hr r' (by simp [h'])
    have h3 := hr r (by simp)
    rw [anyTk, List.length_append, List.length_cons]
    omega
set_option maxHeartbeats 8000000 in
set_option maxRecDepth 8000 in
theorem condTokens_is (c : CondT) (a : Option Addr) (cap : Nat) (w : World) (h : Rd2 atomC 4 w (.slice a c.any.length cap) c.any) (hok : ∀ r ∈ c.any, ∀ x ∈ r, atomOk x = true ∧ B64 x.t ∧ B64 x.v) (hl : c.any.length ≤ 1000) (hl2 : ∀ r ∈ c.any, r.length ≤ 1000) :
    Calls Tryd.prog 47 #[.agg #[.int .i64 c.k, .slice a c.any.length cap]] w fun e w' => ∃ v, e = .returned v ∧ Sr w' w.heap.size v (condTk c) ∧ On w w' := by
  obtain ⟨k, LL⟩ := c
  simp only at h hok hl hl2 ⊢
  unfold condTk
  simp only
  cases hk : (k == 0) with
  | true =>
    go_enter Tryd.func47, Tryd.ntmps47
    go_wp2
    go_ret
    exact ⟨_, rfl, World.ownsRow_nil _ _ _ _, (On.refl w).alloc _⟩
  | false =>
    simp only [Bool.false_eq_true, if_false]
    have hW := fun W => condWord_is k W
    obtain ⟨h0, hh0⟩ : ∃ h0, h0 = (if k == 1 then xEx else xFa) := ⟨_, rfl⟩
    rw [← hh0] at hW
    simp only [← hh0]
    clear hh0
    obtain ⟨i0, hi, hz0, hz1, hz2⟩ := str_parts
    go_enter Tryd.func47, Tryd.ntmps47
    go_wp2_with fail
    refine (hW _).mono ?_
    rintro e w1 ⟨rfl, rfl⟩
    clear hW
    go_wp2
    go_loopg [3, 4, 18] LL.length (fun gg s3 s4 s18 wr => ∃ n : Nat, n ≤ LL.length ∧ gg = LL.length - n ∧ s18 = .int .i64 n ∧ s4 = .string (if n = 0 then h0 else xOr) ∧ Hid (On w wr) ∧ Sr wr w.heap.size s3 (anyTk h0 (LL.take n)))
    case atStart => exact ⟨0, Nat.zero_le _, rfl, rfl, rfl, (On.refl w).alloc _, World.ownsRow_nil _ _ _ _⟩
    case round =>
      obtain ⟨n, hn, hgk, rfl, rfl, hon, hrow⟩ := hrel
      have hsz := hon.out.size
      have hlens := any_len (LL.take n) h0 fun r hr => hl2 r (List.mem_of_mem_take hr)
      rw [List.length_take] at hlens
      obtain ⟨X, hX⟩ : ∃ X, X = anyTk h0 (LL.take n) := ⟨_, rfl⟩
      rw [← hX] at hrow hlens
      have HX : Hid (X = anyTk h0 (LL.take n)) := hX
      clear hX
      rcases Nat.lt_or_ge n LL.length with hlt | hge
      · obtain ⟨r, hr⟩ : ∃ r, LL[n]? = some r := ⟨_, List.getElem?_eq_getElem hlt⟩
        obtain ⟨g, off, rfl, hg, ar, cr, hcell, hm9, hrr⟩ := h.row hr
        have hrk := hok r (List.mem_of_getElem? hr)
        have hrl := hl2 r (List.mem_of_getElem? hr)
        have HN : Hid (anyTk h0 (LL.take (n + 1)) = anyTk h0 (LL.take n) ++ rowTk (if n = 0 then h0 else xOr) r) := any_next h0 hr
        have q0 := (hon.out.cell (p := ⟨g, off + n, none⟩) hg).trans hcell
        have hg' := Nat.lt_of_lt_of_le hg hon.out.size
        obtain ⟨ah, hah⟩ : ∃ ah, ah = (if n = 0 then h0 else xOr) := ⟨_, rfl⟩
        rw [← hah] at HN ⊢
        clear hah hr hcell
        go_wp2
        go_loopg [3, 4, 24] r.length (fun gg s3 s4 s24 wq => ∃ m : Nat, m ≤ r.length ∧ gg = r.length - m ∧ s24 = .int .i64 m ∧ s4 = .string (if m = 0 then ah else xAnd) ∧ Hid (On w wq) ∧ Sr wq w.heap.size s3 (X ++ rowTk ah (r.take m)))
        case atStart => exact ⟨0, Nat.zero_le _, rfl, rfl, rfl, hon, by simpa [rowTk] using hrow⟩
        case round =>
          clear hrow hon hsz q0 hg'
          obtain ⟨m, hm, hmk, rfl, rfl, hon, hrow⟩ := hrel
          have hsz := hon.out.size
          have hl3 := row_len (r.take m) ah
          rw [List.length_take] at hl3
          obtain ⟨Y, hY⟩ : ∃ Y, Y = X ++ rowTk ah (r.take m) := ⟨_, rfl⟩
          have hYl : Y.length ≤ 6000 * min n LL.length + 6 * min m r.length := by rw [hY, List.length_append]; omega
          rw [← hY] at hrow
          have HY : Hid (Y = X ++ rowTk ah (r.take m)) := hY
          clear hY hl3
          rcases Nat.lt_or_ge m r.length with hmt | hmg
          · obtain ⟨x, hx⟩ : ∃ x, r[m]? = some x := ⟨_, List.getElem?_eq_getElem hmt⟩
            obtain ⟨g2, off2, rfl, hg2, hcell⟩ := hrr.at hx
            have y0 : wr.cell? ⟨g2, off2 + m * 4, none⟩ = _ := (hon.out.cell (p := ⟨g2, off2 + m * 4, none⟩) hg2).trans (hcell 0 _ rfl)
            have y1 : wr.cell? ⟨g2, off2 + m * 4 + 1, none⟩ = _ := (hon.out.cell (p := ⟨g2, off2 + m * 4 + 1, none⟩) hg2).trans (hcell 1 _ rfl)
            have y2 : wr.cell? ⟨g2, off2 + m * 4 + 2, none⟩ = _ := (hon.out.cell (p := ⟨g2, off2 + m * 4 + 2, none⟩) hg2).trans (hcell 2 _ rfl)
            have y3 : wr.cell? ⟨g2, off2 + m * 4 + 3, none⟩ = _ := (hon.out.cell (p := ⟨g2, off2 + m * 4 + 3, none⟩) hg2).trans (hcell 3 _ rfl)
            have hgq := Nat.lt_of_lt_of_le hg2 hon.out.size
            have hx1 := hrk x (List.mem_of_getElem? hx)
            have hT := fun W => atomTokens_is x hx1.1 hx1.2.1 hx1.2.2 W
            have HM : Hid (rowTk ah (r.take (m + 1)) = rowTk ah (r.take m) ++ ((if m = 0 then ah else xAnd) :: atomTk x)) := row_next ah hx
            have hal := atom_len x
            obtain ⟨am, ham⟩ : ∃ am, am = (if m = 0 then ah else xAnd) := ⟨_, rfl⟩
            rw [← ham] at HM ⊢
            clear ham hcell hx hx1
            have hlt2 : ∀ g, u3.ownBlock = some g → w.heap.size ≤ g ∧ g < wr.heap.size := fun g hg => World.ownsRow.lt hrow g hg
            have B8 := (Bk.new wr #[.int .i64 x.t, .int .i64 x.r, .int .i64 x.l, .int .i64 x.v] 35).alloc (.cells #[.string am] 9)
            have hrow1 := (hrow.on (((On.refl wr).alloc (.cells #[.int .i64 x.t, .int .i64 x.r, .int .i64 x.l, .int .i64 x.v] 35)).alloc (.cells #[.string am] 9)))
            go_wp2_with (at_builtin; refine wpList_append_own _ rfl _ _ 60 rfl w.heap.size 9 i0 (.string ⟨#[]⟩) 1 16 Tryd.underlying60 hi hz0 hz1 hz2 rfl (by decide) _ _ _ rfl hrow1 ⟨wr.heap.size + 1, 0, none⟩ 1 1 [.string am] rfl rfl ?c1 (str_one [am]) ?c3 ?c4 ?c5 ?_)
            case c1 =>
              intro j u hu
              have := new_cell (wr.alloc (.cells #[.int .i64 x.t, .int .i64 x.r, .int .i64 x.l, .int .i64 x.v] 35)) #[.string am] 9 j
              rw [World.size_alloc] at this
              rw [this]
              exact hu
            case c3 => unfold maxLen; omega
            case c4 => omega
            case c5 => rw [World.size_alloc, World.size_alloc]; omega
            intro v' w2 hown2 hgr2 _
            have HO2 : Hid (On w w2) := ((hon.out.alloc _).alloc _).grown hgr2 fun g hg => (hlt2 g hg).1
            have B9 : Bk w2 wr.heap.size #[.int .i64 x.t, .int .i64 x.r, .int .i64 x.l, .int .i64 x.v] := by
              obtain ⟨T, e⟩ := B8
              exact ⟨T, (hgr2.block _ (lt_of_block e) (fun h => by have := (hlt2 _ h.symm).2; omega)).trans e⟩
            have b0 : w2.cell? ⟨wr.heap.size, 0, none⟩ = _ := B9.at (i := 0) rfl
            have b1 : w2.cell? ⟨wr.heap.size, 1, none⟩ = _ := B9.at (i := 1) rfl
            have b2 : w2.cell? ⟨wr.heap.size, 2, none⟩ = _ := B9.at (i := 2) rfl
            have b3 : w2.cell? ⟨wr.heap.size, 3, none⟩ = _ := B9.at (i := 3) rfl
            have bl := B9.lt
            clear hgr2 hrow1 hrow B8 hon y0 y1 y2 y3 B9
            go_wp2_with fail
            refine (hT _).mono ?_
            rintro e w3 ⟨N, rfl, hB, hN, k3⟩
            have hown3 := own_on hown2 k3
            have HO3 : Hid (On w w3) := HO2.out.trans k3
            have hs3 := HO3.out.size
            have hlt3 : ∀ g, v'.ownBlock = some g → w.heap.size ≤ g := fun g hg => (World.ownsRow.lt hown3 g hg).1
            clear hT k3 hown2 HO2 b0 b1 b2 b3 bl
            go_wp2_with (at_builtin; refine wpList_append_own _ rfl _ _ 60 rfl w.heap.size 9 i0 (.string ⟨#[]⟩) 1 16 Tryd.underlying60 hi hz0 hz1 hz2 rfl (by decide) _ _ _ rfl hown3 ⟨N, 0, none⟩ (atomTk x).length (atomTk x).length ((atomTk x).map Value.string) rfl (by simp) (row_cells hB) (str_one _) ?c3 ?c4 hs3 ?_)
            case c3 => unfold maxLen; omega
            case c4 => omega
            intro v'' w4 hown4 hgr4 _
            have HO4 : Hid (On w w4) := HO3.out.grown hgr4 hlt3
            clear hgr4 hown3 HO3 hB
            go_wp2
            go_roundg (r.length - (m + 1))
            case measure => omega
            case rel =>
              refine ⟨m + 1, by omega, rfl, by go_num, by rw [if_neg (Nat.succ_ne_zero m)]; rfl, HO4, ?_⟩
              rw [HM.out, ← List.append_assoc, ← HY.out]
              unfold Sr
              rw [List.length_append, List.length_cons, List.map_append, List.map_cons, show Y.length + ((atomTk x).length + 1) = Y.length + 1 + (atomTk x).length by omega]
              simpa using hown4
          · go_wp2
            go_roundg (LL.length - (n + 1))
            case measure => omega
            case rel =>
              refine ⟨n + 1, by omega, rfl, by go_num, by rw [if_neg (Nat.succ_ne_zero n)]; rfl, hon, ?_⟩
              have e := HY.out
              rw [List.take_of_length_le hmg] at e
              rw [HN.out, ← HX.out, ← e]
              exact hrow
      · have hlt2 : ∀ g, u3.ownBlock = some g → w.heap.size ≤ g := fun g hg => (World.ownsRow.lt hrow g hg).1
        go_wp2_with (at_builtin; refine wpList_append_own _ rfl _ _ 60 rfl w.heap.size 9 i0 (.string ⟨#[]⟩) 1 16 Tryd.underlying60 hi hz0 hz1 hz2 rfl (by decide) _ _ _ rfl (hrow.on ((On.refl wr).alloc _)) ⟨wr.heap.size, 0, none⟩ 1 1 [.string ⟨#[59]⟩] rfl rfl ?c1 (str_one [⟨#[59]⟩]) ?c3 ?c4 ?c5 ?_)
        case c1 =>
          intro j u hu
          rw [new_cell]
          exact hu
        case c3 => unfold maxLen; omega
        case c4 => omega
        case c5 => rw [World.size_alloc]; omega
        all_goals
          intro v' w2 hown2 hgr2 _
          have HO2 : Hid (On w w2) := (hon.out.alloc _).grown hgr2 hlt2
          clear hgr2
          go_wp2
          go_ret
          refine ⟨v', rfl, ?_, HO2.out⟩
          have e := HX.out
          rw [List.take_of_length_le hge] at e
          unfold Sr
          rw [← e, List.length_append, List.map_append]
          exact hown2
end Go.Proofs.YtlfeihgemdicfaaDoor
