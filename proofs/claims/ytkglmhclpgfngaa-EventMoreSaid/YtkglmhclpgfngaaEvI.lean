/- event.Inits and the document's Inits. -/
import Derived.Test.YtkglmhclpgfngaaEvB
import Derived.Test.YtkglmhclpgfngaaRComp
import Derived.Laws.OwnMore
namespace Go.Proofs.Ytkglmhclpgfngaa
open Go.RowKit

def iniE (IN : List Int) (i : Nat) : EvT := ⟨-1, i, 2, i, 0, IN.getD i 0⟩
def initsP (m : Nat) (IN : List Int) : List EvT := (List.range m).map (iniE IN)
/-- The row as far as it is filled. -/
def iTo (IN : List Int) (m n : Nat) : List EvT := initsP n IN ++ List.replicate (m - n) evZ
theorem inits_len (m : Nat) (IN : List Int) : (initsP m IN).length = m := by unfold initsP; simp
theorem inits_succ (m : Nat) (IN : List Int) : initsP (m + 1) IN = initsP m IN ++ [iniE IN m] := by unfold initsP; rw [List.range_succ, List.map_append]; rfl
theorem iTo_len (IN : List Int) {m n : Nat} (h : n ≤ m) : (iTo IN m n).length = m := by unfold iTo; rw [List.length_append, inits_len, List.length_replicate]; omega
theorem iTo_step (IN : List Int) {m n : Nat} (h : n < m) : (iTo IN m n).set n (iniE IN n) = iTo IN m (n + 1) := by
  unfold iTo
  rw [show m - n = (m - (n + 1)) + 1 by omega, rep_succ, inits_succ]
  have := set_split (initsP n IN) (List.replicate (m - (n + 1)) evZ) evZ (iniE IN n)
  rw [inits_len] at this
  rw [this, List.append_assoc]
  rfl
theorem iTo_all (IN : List Int) (m : Nat) : iTo IN m m = initsP m IN := by unfold iTo; simp
theorem iTo_zero (IN : List Int) (m : Nat) : iTo IN m 0 = List.replicate m evZ := by unfold iTo initsP; simp
theorem iTo_at (IN : List Int) {m n : Nat} (h : n < m) : (iTo IN m n)[n]? = some evZ := by
  unfold iTo
  rw [List.getElem?_append_right (by rw [inits_len]; omega), inits_len, Nat.sub_self, List.getElem?_replicate, if_pos (by omega)]
theorem infoEvE : (Try.prog.info? 23).map (fun i => (i.zero, i.size, i.bytes)) = some (some (evV evZ), 6, 48) := by kernel_rfl
theorem made_ev (n : Nat) : (madeCells (evV evZ).cells (n * 6)).toList = (List.replicate n evZ).flatMap evC := by
  apply List.ext_getElem?
  intro j
  have hl : ((List.replicate n evZ).flatMap evC).length = n * 6 := by simp [List.length_flatMap, evC]
  by_cases hj : j < n * 6
  · have h1 : (List.replicate n evZ)[j / 6]? = some evZ := by rw [List.getElem?_replicate]; simp; omega
    have h2 := flat_at evC 6 (fun _ => rfl) (List.replicate n evZ) (j / 6) (j % 6) evZ h1 (Nat.mod_lt _ (by decide))
    rw [show j / 6 * 6 + j % 6 = j by omega] at h2
    rw [h2]
    have h3 : (madeCells (evV evZ).cells (n * 6)).toList[j]? = some ((evV evZ).cells[j % (evV evZ).cells.size]!) := by simp [madeCells, hj]
    rw [h3]
    have h4 : ∀ k, k < 6 → some ((evV evZ).cells[k]!) = (evC evZ)[k]? := fun k hk => by
      match k, hk with
      | 0, _ => rfl
      | 1, _ => rfl
      | 2, _ => rfl
      | 3, _ => rfl
      | 4, _ => rfl
      | 5, _ => rfl
    exact h4 (j % 6) (Nat.mod_lt _ (by decide))
  · have h5 : (madeCells (evV evZ).cells (n * 6)).toList[j]? = none := List.getElem?_eq_none (by simp [madeCells]; omega)
    rw [h5, List.getElem?_eq_none (by rw [hl]; omega)]
/-- An event written anew, its last cell twice. -/
theorem put_twice (IN : List Int) {m n : Nat} (h : n < m) (v0 : Value) :
    (((((((((iTo IN m n).flatMap evC).set (n * 6) (.int .i64 (-1))).set (n * 6 + 1) (.int .i64 n)).set (n * 6 + 2) (.int .i64 2)).set (n * 6 + 3) (.int .i64 n)).set (n * 6 + 4) (.int .i64 0)).set (n * 6 + 5) v0).set (n * 6 + 5) (.int .i64 (IN.getD n 0))) = (iTo IN m (n + 1)).flatMap evC := by
  rw [List.set_set, ← iTo_step IN h]
  exact putAt_flat evC 6 (fun _ => rfl) (iTo IN m n) n (iniE IN n) (by rw [iTo_len IN (by omega)]; exact h)
set_option maxHeartbeats 4000000 in
set_option maxRecDepth 8000 in
theorem inits_is (LT : List UInt8) (IN : List Int) (LL : List (List InsT)) (v : Value) (w : World) (h : ProgFl w v LT IN LL) (hn : LT.length ≤ 1000) (he : IN.length = LT.length) :
    Calls Try.prog 20 #[v] w fun e w' => ∃ a c, e = .returned (.slice a LT.length c) ∧ w'.ownsRow w.heap.size 23 6 (.slice a LT.length c) LT.length ((initsP LT.length IN).flatMap evC) ∧ On w w' := by
  obtain ⟨i0, hi, hz0, hz1, hz2⟩ := info_parts infoEvE
  obtain ⟨a1, c1, a2, c2, a3, c3, rfl, _, r2, _⟩ := h.ex
  have HR : Hid (Rd intC 1 w (.slice a2 IN.length c2) IN) := r2
  clear h r2
  obtain ⟨m, hm⟩ : ∃ m, m = LT.length := ⟨_, rfl⟩
  rw [← hm] at hn he ⊢
  rw [he] at HR ⊢
  have HE : Hid (IN.length = m) := he
  clear hm he
  obtain ⟨W1, hW1⟩ : ∃ W1, W1 = w.alloc (.cells #[.slice a1 m c1, .slice a2 m c2, .slice a3 LL.length c3] 32) := ⟨_, rfl⟩
  have P1 : Bk W1 w.heap.size #[.slice a1 m c1, .slice a2 m c2, .slice a3 LL.length c3] := by rw [hW1]; exact Bk.new w _ _
  have K1 : On w W1 := by rw [hW1]; exact (On.refl w).alloc _
  obtain ⟨w2, hmk, hown, hgr⟩ := run_make_full (P := Try.prog) W1 W1.heap.size 34 23 i0 (evV evZ) 6 Try.underlying34 hi hz0 hz1 .i64 .i64 m (by rw [hz2]; omega) (by unfold maxLen; omega) (Nat.le_refl _)
  rw [made_ev, ← iTo_zero IN m] at hown
  have K2 : Hid (On w w2) := K1.grownNone hgr
  have P2 : Bk w2 w.heap.size #[.slice a1 m c1, .slice a2 m c2, .slice a3 LL.length c3] := P1.on ((On.refl W1).grownNone hgr)
  have HW : Hid (w2.ownsRow W1.heap.size 23 6 (.slice (some ⟨W1.heap.size, 0, none⟩) m m) m ((iTo IN m 0).flatMap evC)) := hown
  have hsz2 : W1.heap.size < w2.heap.size := own_lt hown
  have hl1 := P1.lt
  have p0 := P1.at (i := 0) rfl
  clear hown hgr
  go_enter Try.func20, Try.ntmps20
  go_upto_region 1 with fail
  rw [← hW1]
  clear hW1
  go_wp2
  clear hmk p0
  obtain ⟨B, hB⟩ : ∃ B, B = W1.heap.size := ⟨_, rfl⟩
  rw [← hB] at HW hsz2 hl1 ⊢
  have hle := K1.size
  rw [← hB] at hle
  clear hB P1 K1
  go_loopg [11] m (fun gg s11 wq => ∃ n : Nat, n ≤ m ∧ gg = m - n ∧ s11 = .int .i64 n ∧ B < wq.heap.size ∧ Hid (On w wq) ∧ Bk wq w.heap.size #[.slice a1 m c1, .slice a2 m c2, .slice a3 LL.length c3] ∧ Hid (wq.ownsRow B 23 6 (.slice (some ⟨B, 0, none⟩) m m) m ((iTo IN m n).flatMap evC)))
  case atStart => exact ⟨0, Nat.zero_le _, rfl, rfl, hsz2, K2, P2, HW⟩
  case round =>
    clear HW K2 hsz2 P2
    obtain ⟨n, hnm, hk, rfl, hsz, HO, PB, HW⟩ := hrel
    rcases Nat.lt_or_ge n m with hlt | hge
    · obtain ⟨x, hx⟩ : ∃ x, IN[n]? = some x := ⟨_, List.getElem?_eq_getElem (by rw [HE.out]; exact hlt)⟩
      have hRx : Rd intC 1 wr (.slice a2 IN.length c2) IN := by rw [HE.out]; exact HR.out.on HO.out
      obtain ⟨g, off, rfl, hg, hcell⟩ := hRx.at hx
      have q0 : wr.cell? ⟨g, off + n, none⟩ = some (.int .i64 x) := by have := hcell 0 _ rfl; simpa using this
      have hgw : g < w.heap.size ∨ True := Or.inr trivial
      have hxd : IN.getD n 0 = x := by rw [List.getD_eq_getElem?_getD, hx]; rfl
      have p0 := PB.at (i := 0) rfl
      have p1 := PB.at (i := 1) rfl
      have pl := PB.lt
      have zc : ∀ j, j < 6 → wr.cell? ⟨B, n * 6 + j, none⟩ = some (.int .i64 0) := fun j hj => by
        rw [HW.out.cellAt _ (by omega), flat_at evC 6 (fun _ => rfl) _ _ _ _ (iTo_at IN hlt) hj]
        match j, hj with
        | 0, _ => rfl
        | 1, _ => rfl
        | 2, _ => rfl
        | 3, _ => rfl
        | 4, _ => rfl
        | 5, _ => rfl
      have zf := fun j => HW.out.frozenAt j
      have z0 : wr.cell? ⟨B, n * 6, none⟩ = _ := zc 0 (by decide)
      have z1 := zc 1 (by decide)
      have z2 := zc 2 (by decide)
      have z3 := zc 3 (by decide)
      have z4 := zc 4 (by decide)
      have z5 := zc 5 (by decide)
      have hgB : ¬ g = B := by
        obtain ⟨g', off', ha, hg', _⟩ := (show Rd intC 1 w (.slice (some ⟨g, off, none⟩) IN.length c2) IN by rw [HE.out]; exact HR.out).at hx
        simp only [Option.some.injEq, Addr.mk.injEq] at ha
        omega
      have hPB : ¬ w.heap.size = B := by omega
      clear hcell hx hRx zc hgw
      go_wp2
      go_roundg (m - (n + 1))
      case measure => omega
      case rel =>
        refine ⟨n + 1, by omega, rfl, by go_num, by simp only [size_set]; exact hsz, ?_, ?_, ?_⟩
        · show On w _
          repeat' (first | with_reducible refine On.setNew ?_ (by omega) _ | with_reducible exact HO.out)
        · repeat' (first | with_reducible refine Bk.far ?_ (by omega) _ _ | with_reducible exact PB)
        · have o7 := (((((((HW.out.stored (n * 6) (.int .i64 (-1))).1.stored (n * 6 + 1) (.int .i64 n)).1.stored (n * 6 + 2) (.int .i64 2)).1.stored (n * 6 + 3) (.int .i64 n)).1.stored (n * 6 + 4) (.int .i64 0)).1.stored (n * 6 + 5) (.int .i64 0)).1.stored (n * 6 + 5) (.int .i64 x)).1
          rw [← hxd, put_twice IN hlt] at o7
          rw [← hxd]
          exact o7
    · obtain rfl : n = m := by omega
      have HW2 := HW.out
      rw [iTo_all] at HW2
      have H2 : Hid _ := HW2
      clear HW HW2
      go_wp2
      go_ret
      exact ⟨_, _, rfl, own_mono H2.out (by omega), HO.out⟩
set_option maxHeartbeats 4000000 in
set_option maxRecDepth 8000 in
theorem rinits_is (LT : List UInt8) (IN : List Int) (LL : List (List InsT)) (v : Value) (w : World) (h : ProgFl w v LT IN LL) (hn : LT.length ≤ 1000) (he : IN.length = LT.length) :
    Calls Try.prog 21 #[v] w fun e w' => ∃ a c, e = .returned (.slice a LT.length c) ∧ w'.ownsRow w.heap.size 23 6 (.slice a LT.length c) LT.length ((initsP LT.length IN).flatMap evC) ∧ On w w' := by
  obtain ⟨i0, hi0, hz0, hz1, hz2⟩ := info_parts infoEv
  obtain ⟨a1, c1, a2, c2, a3, c3, rfl, _, r2, _⟩ := h.ex
  have HR : Hid (Rd intC 1 w (.slice a2 IN.length c2) IN) := r2
  clear h r2
  obtain ⟨m, hm⟩ : ∃ m, m = LT.length := ⟨_, rfl⟩
  rw [← hm] at hn he ⊢
  rw [he] at HR ⊢
  have HE : Hid (IN.length = m) := he
  clear hm he
  have bt : ∀ cs T, Bk (w.alloc (.cells cs T)) w.heap.size cs := fun cs T => Bk.new w cs T
  go_enter Try.func21, Try.ntmps21
  go_wp2
  go_loopg [3, 4] m (fun gg s3 s4 wq => ∃ (n : Nat) (b : Option Addr) (d : Nat), n ≤ m ∧ gg = m - n ∧ s3 = .slice b n d ∧ s4 = .int .i64 n ∧ Hid (On w wq) ∧ Bk wq w.heap.size #[.slice a1 m c1, .slice a2 m c2, .slice a3 LL.length c3] ∧ wq.ownsRow (w.heap.size + 1) 23 6 (.slice b n d) n ((initsP n IN).flatMap evC))
  case atStart => exact ⟨0, none, 0, Nat.zero_le _, rfl, rfl, rfl, (On.refl w).alloc _, bt _ _, World.ownsRow_nil _ _ _ _⟩
  case round =>
    clear bt
    obtain ⟨n, b, d, hnm, hk, rfl, rfl, HO, PB, hown⟩ := hrel
    have p0 := PB.at (i := 0) rfl
    have p1 := PB.at (i := 1) rfl
    have pl := PB.lt
    rcases Nat.lt_or_ge n m with hlt | hge
    · obtain ⟨x, hx⟩ : ∃ x, IN[n]? = some x := ⟨_, List.getElem?_eq_getElem (by rw [HE.out]; exact hlt)⟩
      have hRx : Rd intC 1 wr (.slice a2 IN.length c2) IN := by rw [HE.out]; exact HR.out.on HO.out
      obtain ⟨g, off, rfl, hg, hcell⟩ := hRx.at hx
      have q0 : wr.cell? ⟨g, off + n, none⟩ = some (.int .i64 x) := by have := hcell 0 _ rfl; simpa using this
      have hxd : iniE IN n = ⟨-1, n, 2, n, 0, x⟩ := by unfold iniE; rw [List.getD_eq_getElem?_getD, hx]; rfl
      have HX : Hid (initsP (n + 1) IN = initsP n IN ++ [⟨-1, n, 2, n, 0, x⟩]) := by
        show _ = _
        rw [inits_succ, hxd]
      have hblk : ∀ g, (Value.slice b n d).ownBlock = some g → w.heap.size + 1 ≤ g := fun g hg => (hown.lt g hg).1
      clear hcell hx hRx hxd
      go_wp2_with (at_builtin; refine wpList_append_own _ rfl _ _ 34 rfl (w.heap.size + 1) 23 i0 (.agg #[.int .i64 0, .int .i64 0, .int .i64 0, .int .i64 0, .int .i64 0, .int .i64 0]) 6 48 Try.underlying34 hi0 hz0 hz1 hz2 rfl (by decide) _ _ _ rfl (hown.alloc _) ⟨wr.heap.size, 0, none⟩ 1 1 (evC ⟨-1, n, 2, n, 0, x⟩) rfl rfl ?c1 ?c2 ?c3 ?c4 ?c5 ?_)
      case c1 => exact news_eq rfl _ _
      case c2 => exact one_ev _
      case c3 => unfold maxLen; omega
      case c4 => omega
      case c5 => simp only [World.size_alloc]; omega
      intro v6 w5 own5 hg5 _
      obtain ⟨b7, d7, rfl⟩ := own_slice own5
      have P5 := Bk.grown (PB.alloc _) hg5 (by omega : w.heap.size < w.heap.size + 1) hblk
      have K5 : On w w5 := On.grown (HO.out.alloc _) hg5 (fun g hg => by have := hblk g hg; omega)
      have O5 : Hid (w5.ownsRow (w.heap.size + 1) 23 6 (.slice b7 (n + 1) d7) (n + 1) ((initsP (n + 1) IN).flatMap evC)) := by
        show World.ownsRow _ _ _ _ _ _ _
        rw [HX.out, List.flatMap_append]
        exact own5
      clear own5 hg5 hown
      go_wp2
      go_roundg (m - (n + 1))
      case measure => omega
      case rel => exact ⟨n + 1, b7, d7, by omega, rfl, rfl, by go_num, K5, P5, O5.out⟩
    · obtain rfl : n = m := by omega
      have HW : Hid _ := hown
      clear hown
      go_wp2
      go_ret
      exact ⟨_, _, rfl, own_mono HW.out (by omega), HO.out⟩
end Go.Proofs.Ytkglmhclpgfngaa
