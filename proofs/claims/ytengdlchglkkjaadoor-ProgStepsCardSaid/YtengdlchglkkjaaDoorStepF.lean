/- prog.placed for every row, prog.isSeen, Next, Size. -/
import Derived.Test.YtengdlchglkkjaaDoorStepE
namespace Go.Proofs.YtengdlchglkkjaaDoor
open Go.RowKit

theorem set_split {α : Type} (A B : List α) (z x : α) : (A ++ z :: B).set A.length x = A ++ x :: B := by
  rw [List.set_append_right _ _ (Nat.le_refl _), Nat.sub_self, List.set_cons_zero]
theorem rep_succ {α : Type} (n : Nat) (x : α) : List.replicate (n + 1) x = x :: List.replicate n x := rfl
/-- The row as far as it is filled. -/
def rowTo (LT : List UInt8) (L : List InsT) (n : Nat) : List InsT := placedP LT (L.take n) ++ List.replicate (L.length - n) insZ
theorem rowTo_len (LT : List UInt8) (L : List InsT) {n : Nat} (h : n ≤ L.length) : (rowTo LT L n).length = L.length := by
  unfold rowTo placedP
  simp
  omega
theorem rowTo_step (LT : List UInt8) (L : List InsT) {n : Nat} {x : InsT} (hx : L[n]? = some x) : (rowTo LT L n).set n (placeIns LT x) = rowTo LT L (n + 1) := by
  have hlt : n < L.length := (List.getElem?_eq_some_iff.1 hx).1
  unfold rowTo
  have e : (placedP LT (L.take n)).length = n := by unfold placedP; simp; omega
  rw [show L.length - n = (L.length - (n + 1)) + 1 by omega, rep_succ]
  have := set_split (placedP LT (L.take n)) (List.replicate (L.length - (n + 1)) insZ) insZ (placeIns LT x)
  rw [e] at this
  rw [this, List.take_add_one, hx]
  unfold placedP
  simp
theorem rowTo_all (LT : List UInt8) (L : List InsT) : rowTo LT L L.length = placedP LT L := by
  unfold rowTo
  simp
theorem rowTo_zero (LT : List UInt8) (L : List InsT) : rowTo LT L 0 = List.replicate L.length insZ := by
  unfold rowTo placedP
  simp
theorem rowTo_at (LT : List UInt8) (L : List InsT) {n : Nat} (h : n < L.length) : (rowTo LT L n)[n]? = some insZ := by
  unfold rowTo
  have e : (placedP LT (L.take n)).length = n := by unfold placedP; simp; omega
  rw [List.getElem?_append_right (by omega), e, Nat.sub_self, List.getElem?_replicate, if_pos (by omega)]
theorem own_lt {w : World} {base k n c g : Nat} {e : TypeId} {xs : List Value} (h : w.ownsRow base e k (.slice (some ⟨g, 0, none⟩) n c) n xs) : g < w.heap.size := by
  rcases h.2 with ⟨h0, _⟩ | ⟨g', cap, cur, hv, hb, hh, _⟩
  · cases h0
  · have := lt_of_block hh
    simp only [Value.slice.injEq, Option.some.injEq, Addr.mk.injEq] at hv
    omega
theorem puts9 (w : World) (N o : Nat) (v0 v1 v2 v3 v4 v5 v6 v7 v8 : Value) : (((((((((w.setCell ⟨N, o, none⟩ v0).setCell ⟨N, o + 1, none⟩ v1).setCell ⟨N, o + 2, none⟩ v2).setCell ⟨N, o + 3, none⟩ v3).setCell ⟨N, o + 4, none⟩ v4).setCell ⟨N, o + 5, none⟩ v5).setCell ⟨N, o + 6, none⟩ v6).setCell ⟨N, o + 7, none⟩ v7).setCell ⟨N, o + 8, none⟩ v8) = putCells w N o [v0, v1, v2, v3, v4, v5, v6, v7, v8] := rfl
theorem put_lt {w : World} {m : Nat} (h : m < w.heap.size) (N o : Nat) (vs : List Value) (T : Obj) : m < ((putCells w N o vs).alloc T).heap.size := by
  rw [World.size_alloc, size_puts]
  omega
set_option maxHeartbeats 4000000 in
set_option maxRecDepth 8000 in
theorem placed_is (LT : List UInt8) (L : List InsT) (a : Option Addr) (c : Nat) (al : Option Addr) (cl : Nat) (w : World) (h : Rd insC 9 w (.slice a L.length c) L) (hl : Rd byteC 1 w (.slice al LT.length cl) LT)
    (h10 : L.length ≤ 1000000) (hT : ∀ x ∈ L, hasLocB x.k = true → 0 < LT.length) :
    Calls Tryd.prog 39 #[.slice a L.length c, .slice al LT.length cl] w fun e w' => ∃ a2 c2, e = .returned (.slice a2 L.length c2) ∧ w'.ownsRow w.heap.size 53 9 (.slice a2 L.length c2) L.length ((placedP LT L).flatMap insC) ∧ On w w' := by
  obtain ⟨i0, hi, hz0, hz1, hz2⟩ := info_parts infoInsE
  obtain ⟨w2, hmk, hown, hgr⟩ := run_make_full (P := Tryd.prog) w w.heap.size 59 53 i0 (insV insZ) 9 Tryd.underlying59 hi hz0 hz1 .i64 .i64 L.length (by rw [hz2]; omega) (by unfold maxLen; omega) (Nat.le_refl _)
  rw [made_ins, ← rowTo_zero LT L] at hown
  have K2 : Hid (On w w2) := (On.refl w).grownNone hgr
  have HR : Hid (Rd insC 9 w (.slice a L.length c) L) := h
  have HL : Hid (Rd byteC 1 w (.slice al LT.length cl) LT) := hl
  have HT : Hid (∀ x ∈ L, hasLocB x.k = true → 0 < LT.length) := hT
  have HW : Hid (w2.ownsRow w.heap.size 53 9 (.slice (some ⟨w.heap.size, 0, none⟩) L.length L.length) L.length ((rowTo LT L 0).flatMap insC)) := hown
  have hsz2 : w.heap.size < w2.heap.size := own_lt hown
  clear hown hgr h hl hT
  go_enter Tryd.func39, Tryd.ntmps39
  go_wp2
  clear hmk
  go_loopg [13] L.length (fun gg s13 wq => ∃ n : Nat, n ≤ L.length ∧ gg = L.length - n ∧ s13 = .int .i64 n ∧ w.heap.size < wq.heap.size ∧ Hid (On w wq) ∧ Hid (wq.ownsRow w.heap.size 53 9 (.slice (some ⟨w.heap.size, 0, none⟩) L.length L.length) L.length ((rowTo LT L n).flatMap insC)))
  case atStart => exact ⟨0, Nat.zero_le _, rfl, rfl, hsz2, K2, HW⟩
  case round =>
    clear HW K2 hsz2
    obtain ⟨n, hn, hk, rfl, hsz, HO, HW⟩ := hrel
    rcases Nat.lt_or_ge n L.length with hlt | hge
    · obtain ⟨x, hx⟩ : ∃ x, L[n]? = some x := ⟨_, List.getElem?_eq_getElem hlt⟩
      obtain ⟨g, off, rfl, hg, hcell⟩ := (HR.out.on HO.out).at hx
      have q0 : wr.cell? ⟨g, off + n * 9, none⟩ = _ := hcell 0 _ rfl
      have q1 : wr.cell? ⟨g, off + n * 9 + 1, none⟩ = _ := hcell 1 _ rfl
      have q2 : wr.cell? ⟨g, off + n * 9 + 2, none⟩ = _ := hcell 2 _ rfl
      have q3 : wr.cell? ⟨g, off + n * 9 + 3, none⟩ = _ := hcell 3 _ rfl
      have q4 : wr.cell? ⟨g, off + n * 9 + 4, none⟩ = _ := hcell 4 _ rfl
      have q5 : wr.cell? ⟨g, off + n * 9 + 5, none⟩ = _ := hcell 5 _ rfl
      have q6 : wr.cell? ⟨g, off + n * 9 + 6, none⟩ = _ := hcell 6 _ rfl
      have q7 : wr.cell? ⟨g, off + n * 9 + 7, none⟩ = _ := hcell 7 _ rfl
      have q8 : wr.cell? ⟨g, off + n * 9 + 8, none⟩ = _ := hcell 8 _ rfl
      clear hcell
      have hH := fun W => hasLoc_is x.k W
      have hP := fun W (k : On w W) (h0 : 0 < LT.length) => place_is LT x.l al cl W (HL.out.on k) h0
      have HX : Hid ((rowTo LT L n).set n (placeIns LT x) = rowTo LT L (n + 1)) := rowTo_step LT L hx
      have hLT := HT.out x (List.mem_of_getElem? hx)
      have OW : ∀ T, (wr.alloc T).ownsRow w.heap.size 53 9 (.slice (some ⟨w.heap.size, 0, none⟩) L.length L.length) L.length ((rowTo LT L n).flatMap insC) := fun T => own_on HW.out ((On.refl wr).alloc T)
      have kO : ∀ T, On w (wr.alloc T) := fun T => HO.out.alloc T
      have zc : ∀ j, j < 9 → wr.cell? ⟨w.heap.size, n * 9 + j, none⟩ = some (.int .i64 0) := fun j hj => by
        rw [HW.out.cellAt _ (by omega), flat_at insC 9 (fun _ => rfl) _ _ _ _ (rowTo_at LT L hlt) hj]
        match j, hj with
        | 0, _ => rfl
        | 1, _ => rfl
        | 2, _ => rfl
        | 3, _ => rfl
        | 4, _ => rfl
        | 5, _ => rfl
        | 6, _ => rfl
        | 7, _ => rfl
        | 8, _ => rfl
      have zf := fun j => HW.out.frozenAt j
      have z0 : wr.cell? ⟨w.heap.size, n * 9, none⟩ = _ := zc 0 (by decide)
      have z1 := zc 1 (by decide)
      have z2 := zc 2 (by decide)
      have z3 := zc 3 (by decide)
      have z4 := zc 4 (by decide)
      have z5 := zc 5 (by decide)
      have z6 := zc 6 (by decide)
      have z7 := zc 7 (by decide)
      have z8 := zc 8 (by decide)
      have rl : (rowTo LT L n).length = L.length := rowTo_len LT L (by omega)
      have hcl : (n * 9 + 9 ≤ L.length * 9) := by omega
      clear hx
      cases hb : hasLocB x.k with
      | false =>
        have e1 : placeIns LT x = x := by unfold placeIns; rw [hb]; rfl
        rw [e1] at HX
        rw [hb] at hH
        go_wp2_with (go_at_call 64; refine (hH _).mono ?_; rintro e w' ⟨rfl, rfl⟩)
        have hp := row_put (L := rowTo LT L n) (c := L.length) (k := n) (by rw [rl]; exact HW.out) (by omega) x
        rw [rl, HX.out] at hp
        go_roundg (L.length - (n + 1))
        case measure => omega
        case rel =>
          rw [puts9]
          exact ⟨n + 1, by omega, rfl, by go_num, put_lt hsz _ _ _ _, (On.puts (Nat.le_refl _) (insC x) wr (n * 9) HO.out).alloc (.cells #[.int .i64 x.k, .int .i64 x.r, .int .i64 x.l, .int .i64 x.a.r, .int .i64 x.a.v, .int .i64 x.o, .int .i64 x.b.r, .int .i64 x.b.v, .int .i64 x.n] 53), hp.alloc (.cells #[.int .i64 x.k, .int .i64 x.r, .int .i64 x.l, .int .i64 x.a.r, .int .i64 x.a.v, .int .i64 x.o, .int .i64 x.b.r, .int .i64 x.b.v, .int .i64 x.n] 53)⟩
      | true =>
        have e1 : placeIns LT x = ⟨x.k, x.r, plc LT x.l, x.a, x.o, x.b, x.n⟩ := by unfold placeIns; rw [hb]; rfl
        rw [e1] at HX
        rw [hb] at hH
        have hP1 := fun W k => hP W k (hLT hb)
        clear hP hLT
        generalize plc LT x.l = pl at *
        go_wp2_with (first | (go_at_call 64; refine (hH _).mono ?_; rintro e w' ⟨rfl, rfl⟩) | (go_at_call 63; refine (hP1 _ (kO _)).mono ?_; rintro e w' ⟨rfl, rfl⟩))
        have hp := row_put (L := rowTo LT L n) (c := L.length) (k := n) (by rw [rl]; exact HW.out) (by omega) ⟨x.k, x.r, pl, x.a, x.o, x.b, x.n⟩
        rw [rl, HX.out] at hp
        go_roundg (L.length - (n + 1))
        case measure => omega
        case rel =>
          rw [puts9]
          exact ⟨n + 1, by omega, rfl, by go_num, put_lt hsz _ _ _ _, (On.puts (Nat.le_refl _) (insC ⟨x.k, x.r, pl, x.a, x.o, x.b, x.n⟩) wr (n * 9) HO.out).alloc (.cells #[.int .i64 x.k, .int .i64 x.r, .int .i64 pl, .int .i64 x.a.r, .int .i64 x.a.v, .int .i64 x.o, .int .i64 x.b.r, .int .i64 x.b.v, .int .i64 x.n] 53), hp.alloc (.cells #[.int .i64 x.k, .int .i64 x.r, .int .i64 pl, .int .i64 x.a.r, .int .i64 x.a.v, .int .i64 x.o, .int .i64 x.b.r, .int .i64 x.b.v, .int .i64 x.n] 53)⟩
    · obtain rfl : n = L.length := by omega
      have HW2 := HW.out
      rw [rowTo_all] at HW2
      have H2 : Hid _ := HW2
      clear HW HW2
      go_wp2
      go_ret
      exact ⟨_, _, rfl, H2.out, HO.out⟩
end Go.Proofs.YtengdlchglkkjaaDoor
