/- The document's reads and with; rows of numbers that grow beside each other. -/
import Derived.Test.YtioiabfheeglgaaGreatDoorJ38RaV
import Derived.Test.YtioiabfheeglgaaGreatDoorJ19EvB
import Derived.Test.YtioiabfheeglgaaGreatDoorJ37RComp
import Derived.Test.YtioiabfheeglgaaGreatDoorJ10StepG
import Derived.Laws.OwnMore
namespace Go.Proofs.YtioiabfheeglgaaGreatDoor
open Go.RowKit

/-- All blocks stand but those of cells of one type. -/
structure Kt (S : TypeId) (w w' : World) : Prop where
 size : w.heap.size ≤ w'.heap.size
 block : ∀ (g : Nat) cs T fr, w.heap[g]? = some (.cells cs T fr) → T ≠ S → w'.heap[g]? = w.heap[g]?
theorem Kt.refl (S : TypeId) (w : World) : Kt S w w := ⟨Nat.le_refl _, fun _ _ _ _ _ _ => rfl⟩
theorem Kt.on {S : TypeId} {w w' : World} (h : On w w') : Kt S w w' := ⟨h.size, fun g _ _ _ e _ => h.block g (lt_of_block e)⟩
theorem Kt.trans {S : TypeId} {a b c : World} (h : Kt S a b) (k : Kt S b c) : Kt S a c :=
 ⟨Nat.le_trans h.size k.size, fun g cs T fr e h1 => (k.block g cs T fr ((h.block g cs T fr e h1).trans e) h1).trans (h.block g cs T fr e h1)⟩
theorem Kt.grown {S : TypeId} {w w' : World} {base k n : Nat} {v : Value} {xs : List Value} (ho : w.ownsRow base S k v n xs) (hg : w.grownBy w' v.ownBlock) : Kt S w w' := by
 refine ⟨hg.size, fun g cs T fr e h1 => hg.block g (lt_of_block e) (fun eq => ?_)⟩
 rcases ho.2 with ⟨hv, _⟩ | ⟨g2, cap, cur, hv, hb, hh, _⟩
 ·
  rw [hv] at eq; cases eq
 ·
  rw [hv] at eq
  simp only [Value.ownBlock, Option.some.injEq] at eq
  subst eq
  rw [e] at hh
  simp only [Option.some.injEq, Obj.cells.injEq] at hh
  exact h1 hh.2.1
theorem Kt.set {S : TypeId} {w : World} {N i : Nat} {cs : Array Value} {fr : Nat × Nat} (h : w.heap[N]? = some (.cells cs S fr)) (u : Value) : Kt S w (w.setCell ⟨N, i, none⟩ u) := by
 refine ⟨by rw [World.size_setCell]; exact Nat.le_refl _, fun g cs' T' fr' e h1 => Below.heap_setCell _ _ _ _ ?_⟩
 show g ≠ N
 rintro rfl
 rw [h] at e
 simp only [Option.some.injEq, Obj.cells.injEq] at e
 exact h1 e.2.1.symm
theorem RdT.kt {S : TypeId} {α : Type} {T : TypeId} {C : α → List Value} {k : Nat} {w w' : World} {v : Value} {L : List α} (h : RdT T C k w v L) (o : Kt S w w') (h1 : T ≠ S) : RdT T C k w' v L := by
 obtain ⟨⟨a, c, hv, hc, hm, hr⟩, ht⟩ := h
 have key : ∀ (g off n c : Nat), v = .slice (some ⟨g, off, none⟩) n c → 0 < L.length → w'.heap[g]? = w.heap[g]? := fun g off n c e h0 => by
  obtain ⟨cs, fr, e2⟩ := ht g off n c e h0
  exact o.block g cs T fr e2 h1
 refine ⟨⟨a, c, hv, hc, hm, fun hl => ?_⟩, fun g off n c e h0 => ?_⟩
 ·
  obtain ⟨g, off, ha, hg, hcell⟩ := hr hl
  refine ⟨g, off, ha, Nat.lt_of_lt_of_le hg o.size, fun i x j u hi hj => ?_⟩
  rw [← hcell i x j u hi hj]
  exact World.cell?_of_block (key g off _ c (by rw [hv, ha]) hl)
 ·
  obtain ⟨cs, fr, e2⟩ := ht g off n c e h0
  exact ⟨cs, fr, (key g off n c e h0).trans e2⟩
theorem RdE2.kt {S : TypeId} {w w' : World} {v : Value} {LL : List (List EvT)} (h : RdE2 w v LL) (o : Kt S w w') (h1 : TV ≠ S) (h2 : (58 : TypeId) ≠ S) : RdE2 w' v LL := by
 obtain ⟨vs, e1, e2, e3⟩ := h
 exact ⟨vs, e1, e2.kt o h1, fun i u L a b => (e3 i u L a b).kt o h2⟩
/-- A row with a number, once. -/
def withP (L : List Int) (y : Int) : List Int := if L.any (fun x => x == y) then L else L ++ [y]
theorem with_len (L : List Int) (y : Int) : L.length ≤ (withP L y).length ∧ (withP L y).length ≤ L.length + 1 := by
 unfold withP
 split
 ·
  omega
 ·
  simp
theorem any_take_not {L : List Int} {y : Int} {n : Nat} {x : Int} (h : (L.take n).any (fun x => x == y) = false) (hx : L[n]? = some x) (hy : (x == y) = false) : (L.take (n + 1)).any (fun x => x == y) = false := by
 rw [List.take_add_one, hx, List.any_append, h]
 simp [hy]
theorem infoI : (Tryz.prog.info? 2).map (fun i => (i.zero, i.size, i.bytes)) = some (some (.int .i64 0), 1, 8) := by kernel_rfl
set_option maxHeartbeats 2000000 in
set_option maxRecDepth 8000 in
theorem rwith_is (L : List Int) (y : Int) (v : Value) (b : Nat) (w : World) (hb : b ≤ w.heap.size) (ho : w.ownsRow b 2 1 v L.length (L.flatMap intC)) (hl : L.length ≤ 900000) :
  Calls Tryz.prog 16 #[v, .int .i64 y] w fun e w' => ∃ v', e = .returned v' ∧ w'.ownsRow b 2 1 v' (withP L y).length ((withP L y).flatMap intC) ∧ Fw v v' w w' ∧ Kt 2 w w' := by
 obtain ⟨i0, hi0, hz0, hz1, hz2⟩ := info_parts infoI
 have hrd : Rd intC 1 w v L := Rd.own intC_len ho
 obtain ⟨a, c, rfl⟩ := own_slice ho
 have HR : Hid (Rd intC 1 w (.slice a L.length c) L) := hrd
 have HOW : Hid (w.ownsRow b 2 1 (.slice a L.length c) L.length (L.flatMap intC)) := ho
 have HN0 : Hid ((L.take 0).any (fun x => x == y) = false) := rfl
 obtain ⟨WP, hWP⟩ : ∃ WP, WP = withP L y := ⟨_, rfl⟩
 rw [← hWP]
 have HWP : Hid (WP = if L.any (fun x => x == y) then L else L ++ [y]) := hWP
 clear hrd ho hWP
 go_enter Tryz.func16, Tryz.ntmps16
 go_wp2
 go_loopg [5] L.length (fun gg s5 wr => ∃ n : Nat, n ≤ L.length ∧ gg = L.length - n ∧ s5 = .int .i64 n ∧ Hid ((L.take n).any (fun x => x == y) = false) ∧ wr = w)
 case atStart => exact ⟨0, Nat.zero_le _, rfl, rfl, HN0, rfl⟩
 case round =>
  clear HN0
  obtain ⟨n, hn, hg, rfl, HN, rfl⟩ := hrel
  rcases Nat.lt_or_ge n L.length with hlt | hge
  ·
   obtain ⟨x, hx⟩ : ∃ x, L[n]? = some x := ⟨_, List.getElem?_eq_getElem hlt⟩
   obtain ⟨g, off, rfl, hgw, hcell⟩ := HR.out.at hx
   have q0 : wr.cell? ⟨g, off + n, none⟩ = some (.int .i64 x) := by have := hcell 0 _ rfl; simpa using this
   have hov : IntKind.i64.wrap ((n : Int) + 1) = ((n + 1 : Nat) : Int) := by rw [wrap_small]; omega; omega; omega
   have hnb : (n : Int) < (L.length : Int) := by omega
   clear hcell
   cases hxy : (x == y) with
   | true =>
    have HAN : Hid (WP = L) := by
     have h := HWP.out
     rw [if_pos] at h
     ·
      exact h
     ·
      rw [List.any_eq_true]
      exact ⟨x, List.mem_of_getElem? hx, hxy⟩
    clear hx
    have HPP : Hid (∃ v', Value.slice (some ⟨g, off, none⟩) L.length c = v' ∧ wr.ownsRow b 2 1 v' WP.length (WP.flatMap intC) ∧ Fw (.slice (some ⟨g, off, none⟩) L.length c) v' wr wr ∧ Kt 2 wr wr) := ⟨_, rfl, (by rw [HAN.out]; exact HOW.out), Fw.on _ (On.refl _), Kt.refl _ _⟩
    go_wp2
    go_ret
    obtain ⟨v'', e, h⟩ := HPP.out
    exact ⟨v'', by rw [← e]; rfl, h⟩
   | false =>
    have HN2 : Hid ((L.take (n + 1)).any (fun x => x == y) = false) := any_take_not HN.out hx hxy
    clear hx
    go_wp2
    go_roundg (L.length - (n + 1))
    case measure => omega
    case rel => exact ⟨n + 1, hlt, rfl, rfl, HN2, rfl⟩
  ·
   obtain rfl : n = L.length := by omega
   have HAN : Hid (WP = L ++ [y]) := by
    have h := HWP.out
    have h2 := HN.out
    rw [List.take_of_length_le (Nat.le_refl _)] at h2
    rw [h2, if_neg (by decide)] at h
    exact h
   have hown := HOW.out
   obtain ⟨M, hM⟩ : ∃ M, M = L.length := ⟨_, rfl⟩
   have HM : Hid (M = L.length) := hM
   rw [← hM] at hown hl ⊢
   clear hM HWP HN
   go_wp2_with (at_builtin; refine wpList_append_own_at _ rfl _ _ 24 rfl b 2 i0 (.int .i64 0) 1 8 Tryz.underlying24 hi0 hz0 hz1 hz2 rfl (by decide) _ _ _ rfl (hown.alloc _) ⟨wr.heap.size, 0, none⟩ 1 1 [.int .i64 y] rfl rfl ?c1 ?c2 ?c3 ?c4 ?c5 ?_)
   case c1 => exact cell_one_new _ _ _
   case c2 =>
    intro u hu
    simp only [List.mem_cons, List.not_mem_nil, or_false] at hu
    subst hu
    rfl
   case c3 => unfold maxLen; omega
   case c4 => omega
   case c5 => simp only [World.size_alloc]; omega
   intro v' w5 hown5 hg5 _ hl5
   have kA := (On.refl wr).alloc (.cells #[.int .i64 y] 2)
   have HPP : Hid (∃ v'', v' = v'' ∧ w5.ownsRow b 2 1 v'' WP.length (WP.flatMap intC) ∧ Fw (.slice a L.length c) v'' wr w5 ∧ Kt 2 wr w5) := by
    rw [← HM.out]
    refine ⟨v', rfl, ?_, (Fw.on _ kA).trans (Fw.append hg5 (by simp only [World.size_alloc]; exact hl5)), (Kt.on kA).trans (Kt.grown (hown.alloc _) hg5)⟩
    rw [HAN.out, List.length_append, List.flatMap_append, ← HM.out]
    exact hown5
   clear hown5 hg5 hl5 kA hown
   go_wp2
   go_ret
   obtain ⟨v'', e, h⟩ := HPP.out
   exact ⟨v'', by rw [← e]; rfl, h⟩
/-- How many instructions read. -/
def rdL (L : List InsT) : Nat := (L.filter (fun x => x.k == 2 || x.k == 4)).length
def rdN (LL : List (List InsT)) : Nat := (LL.map rdL).sum
theorem rdL_succ {L : List InsT} {n : Nat} {x : InsT} (h : L[n]? = some x) : rdL (L.take (n + 1)) = rdL (L.take n) + (if (x.k == 2 || x.k == 4) then 1 else 0) := by
 unfold rdL
 rw [List.take_add_one, h, List.filter_append, List.length_append]
 congr 1
 by_cases h : (x.k == 2 || x.k == 4) = true
 ·
  simp [h]
 ·
  simp [h]
theorem rdN_succ {LL : List (List InsT)} {n : Nat} {L : List InsT} (h : LL[n]? = some L) : rdN (LL.take (n + 1)) = rdN (LL.take n) + rdL L := by
 unfold rdN
 rw [List.take_add_one, h]
 simp
theorem rdL_le (L : List InsT) : rdL L ≤ L.length := List.length_filter_le _ _
theorem rdN_le (B : Nat) : ∀ LL : List (List InsT), (∀ L ∈ LL, L.length ≤ B) → rdN LL ≤ LL.length * B
 | [], _ => by unfold rdN; simp
 | L :: LL, h => by
  have h1 := rdN_le B LL (fun L hL => h L (List.mem_cons_of_mem _ hL))
  have h2 := rdL_le L
  have h3 := h L (List.mem_cons_self ..)
  have e : rdN (L :: LL) = rdL L + rdN LL := by unfold rdN; simp
  rw [e, List.length_cons, Nat.succ_mul]
  omega
set_option maxHeartbeats 2000000 in
set_option maxRecDepth 8000 in
theorem reads_is (LL : List (List InsT)) (v : Value) (w : World) (h : ProgRd w v LL) (h4 : LL.length ≤ 4) (h10 : ∀ L ∈ LL, L.length ≤ 10) :
  Calls Tryz.prog 13 #[v] w fun e w' => e = .returned (.int .i64 (rdN LL)) ∧ On w w' := by
 obtain ⟨a1, m1, c1, a2, m2, c2, a3, c3, rfl, r3⟩ := h
 have HR : Hid (Rd2 insC 9 w (.slice a3 LL.length c3) LL) := r3
 have H10 : Hid (∀ L ∈ LL, L.length ≤ 10) := h10
 obtain ⟨W1, hW1⟩ : ∃ W1, W1 = w.alloc (.cells #[.slice a1 m1 c1, .slice a2 m2 c2, .slice a3 LL.length c3] 27) := ⟨_, rfl⟩
 have P1 : Bk W1 w.heap.size #[.slice a1 m1 c1, .slice a2 m2 c2, .slice a3 LL.length c3] := by rw [hW1]; exact Bk.new w _ _
 have K1 : On w W1 := by rw [hW1]; exact (On.refl w).alloc _
 obtain ⟨RN, hRN⟩ : ∃ RN, RN = rdN LL := ⟨_, rfl⟩
 have HRN : Hid (RN = rdN LL) := hRN
 rw [← hRN]
 have hb0 : (rdN (LL.take 0)) = 0 := rfl
 have HB0 : Hid (rdN (LL.take 0) = 0) := hb0
 clear r3 h10 hRN hb0
 go_enter Tryz.func13, Tryz.ntmps13
 go_upto_region 1 with fail
 rw [← hW1]
 clear hW1
 go_wp2
 go_loopg [3, 4] LL.length (fun gg s3 s4 wr => ∃ n S : Nat, n ≤ LL.length ∧ gg = LL.length - n ∧ s3 = .int .i64 S ∧ s4 = .int .i64 n ∧ Hid (S = rdN (LL.take n)) ∧ S ≤ n * 10 ∧ wr = W1)
 case atStart => exact ⟨0, 0, Nat.zero_le _, rfl, rfl, rfl, HB0.out.symm, Nat.zero_le _, rfl⟩
 case round =>
  clear HB0
  obtain ⟨n, S, hn, hg, rfl, rfl, HS, hS10, rfl⟩ := hrel
  have p0 := P1.at (i := 0) rfl
  have p1 := P1.at (i := 1) rfl
  have p2 := P1.at (i := 2) rfl
  have pl := P1.lt
  rcases Nat.lt_or_ge n LL.length with hlt | hge
  ·
   obtain ⟨L, hL⟩ : ∃ L, LL[n]? = some L := ⟨_, List.getElem?_eq_getElem hlt⟩
   obtain ⟨g, off, rfl, hgw, ax, cx, q0, hmx, hrd⟩ := (HR.out.on K1).row hL
   have hl10 := H10.out L (List.mem_of_getElem? hL)
   have HRD : Hid (Rd insC 9 wr (.slice ax L.length cx) L) := hrd
   have HSN : Hid (rdN (LL.take (n + 1)) = S + rdL L) := by
    have h := rdN_succ hL
    rw [← HS.out] at h
    exact h
   have hov : IntKind.i64.wrap ((n : Int) + 1) = ((n + 1 : Nat) : Int) := by rw [wrap_small]; omega; omega; omega
   have hnb : (n : Int) < (LL.length : Int) := by omega
   have HL0 : Hid (rdL (L.take 0) = 0) := rfl
   clear hrd hL HS
   go_wp2
   go_loopg [3, 5] L.length (fun gg s3 s5 wq => ∃ i Q : Nat, i ≤ L.length ∧ gg = L.length - i ∧ s3 = .int .i64 (S + Q : Nat) ∧ s5 = .int .i64 i ∧ Hid (Q = rdL (L.take i)) ∧ Q ≤ i ∧ wq = wr)
   case atStart => exact ⟨0, 0, Nat.zero_le _, rfl, rfl, rfl, HL0.out.symm, Nat.zero_le _, rfl⟩
   case round =>
    clear HL0
    obtain ⟨i, Q, hi, hg2, rfl, rfl, HQ, hQi, rfl⟩ := hrel
    rcases Nat.lt_or_ge i L.length with hlt2 | hge2
    ·
     obtain ⟨x, hx⟩ : ∃ x, L[i]? = some x := ⟨_, List.getElem?_eq_getElem hlt2⟩
     obtain ⟨gi, oi, rfl, hgi, hcell⟩ := HRD.out.at hx
     have z0 := hcell 0 _ rfl
     rw [Nat.add_zero] at z0
     have hov2 : IntKind.i64.wrap ((i : Int) + 1) = ((i + 1 : Nat) : Int) := by rw [wrap_small]; omega; omega; omega
     have hib : (i : Int) < (L.length : Int) := by omega
     have hoq : IntKind.i64.wrap (((S + Q : Nat) : Int) + 1) = ((S + (Q + 1) : Nat) : Int) := by rw [wrap_small]; omega; omega; omega
     have hsucc := rdL_succ hx
     rw [← HQ.out] at hsucc
     clear hcell hx HQ
     cases h2 : (x.k == 2) with
     | true =>
      rw [h2, Bool.true_or, if_pos rfl] at hsucc
      have HQ2 : Hid (Q + 1 = rdL (L.take (i + 1))) := hsucc.symm
      clear hsucc
      go_wp2
      go_roundg (L.length - (i + 1))
      case measure => omega
      case rel => exact ⟨i + 1, Q + 1, hlt2, rfl, rfl, rfl, HQ2, by omega, rfl⟩
     | false =>
      cases h4 : (x.k == 4) with
      | true =>
       rw [h2, h4, Bool.false_or, if_pos rfl] at hsucc
       have HQ2 : Hid (Q + 1 = rdL (L.take (i + 1))) := hsucc.symm
       clear hsucc
       go_wp2
       go_roundg (L.length - (i + 1))
       case measure => omega
       case rel => exact ⟨i + 1, Q + 1, hlt2, rfl, rfl, rfl, HQ2, by omega, rfl⟩
      | false =>
       rw [h2, h4, Bool.false_or, if_neg (by decide), Nat.add_zero] at hsucc
       have HQ2 : Hid (Q = rdL (L.take (i + 1))) := hsucc.symm
       clear hsucc
       go_wp2
       go_roundg (L.length - (i + 1))
       case measure => omega
       case rel => exact ⟨i + 1, Q, hlt2, rfl, rfl, rfl, HQ2, by omega, rfl⟩
    ·
     obtain rfl : i = L.length := by omega
     have hq := HQ.out
     rw [List.take_of_length_le (Nat.le_refl _)] at hq
     have HQ3 : Hid (S + Q = rdN (LL.take (n + 1))) := by show _ = _; rw [HSN.out, ← hq]
     clear hq HQ HSN
     go_wp2
     go_roundg (LL.length - (n + 1))
     case measure => omega
     case rel => exact ⟨n + 1, S + Q, hlt, rfl, rfl, rfl, HQ3, by omega, rfl⟩
  ·
   obtain rfl : n = LL.length := by omega
   have hs := HS.out
   rw [List.take_of_length_le (Nat.le_refl _), ← HRN.out] at hs
   have HSS : Hid (S = RN) := hs
   clear hs
   go_wp2
   go_ret
   exact ⟨by rw [← HSS.out]; rfl, K1⟩
end Go.Proofs.YtioiabfheeglgaaGreatDoor

namespace Go.Proofs.YtioiabfheeglgaaGreatDoor
open Go.RowKit

def iniE (IN : List Int) (i : Nat) : EvT := ⟨-1, i, 2, i, 0, IN.getD i 0⟩
def initsP (m : Nat) (IN : List Int) : List EvT := (List.range m).map (iniE IN)
/-- The row as far as it is filled. -/
def iTo (IN : List Int) (m n : Nat) : List EvT := initsP n IN ++ List.replicate (m - n) evZ
theorem inits_len (m : Nat) (IN : List Int) : (initsP m IN).length = m := by unfold initsP; simp
theorem inits_succ (m : Nat) (IN : List Int) : initsP (m + 1) IN = initsP m IN ++ [iniE IN m] := by unfold initsP; rw [List.range_succ, List.map_append]; rfl
theorem iTo_len (IN : List Int) {m n : Nat} (h : n ≤ m) : (iTo IN m n).length = m := by unfold iTo; rw [List.length_append, inits_len, List.length_replicate]; omega
theorem iTo_step (IN : List Int) {m n : Nat} (h : n < m) : (iTo IN m n).set n (iniE IN n) = iTo IN m (n + 1) := by
 unfold iTo
 rw [show m - n = (m - (n + 1)) + 1 by omega, rep_succ, inits_succ]
 have := set_split (initsP n IN) (List.replicate (m - (n + 1)) evZ) evZ (iniE IN n)
 rw [inits_len] at this
 rw [this, List.append_assoc]
 rfl
theorem iTo_all (IN : List Int) (m : Nat) : iTo IN m m = initsP m IN := by unfold iTo; simp
theorem iTo_zero (IN : List Int) (m : Nat) : iTo IN m 0 = List.replicate m evZ := by unfold iTo initsP; simp
theorem iTo_at (IN : List Int) {m n : Nat} (h : n < m) : (iTo IN m n)[n]? = some evZ := by
 unfold iTo
 rw [List.getElem?_append_right (by rw [inits_len]; omega), inits_len, Nat.sub_self, List.getElem?_replicate, if_pos (by omega)]
theorem infoEvE : (Tryz.prog.info? 58).map (fun i => (i.zero, i.size, i.bytes)) = some (some (evV evZ), 6, 48) := by kernel_rfl
theorem made_ev (n : Nat) : (madeCells (evV evZ).cells (n * 6)).toList = (List.replicate n evZ).flatMap evC := by
 apply List.ext_getElem?
 intro j
 have hl : ((List.replicate n evZ).flatMap evC).length = n * 6 := by simp [List.length_flatMap, evC]
 by_cases hj : j < n * 6
 ·
  have h1 : (List.replicate n evZ)[j / 6]? = some evZ := by rw [List.getElem?_replicate]; simp; omega
  have h2 := flat_at evC 6 (fun _ => rfl) (List.replicate n evZ) (j / 6) (j % 6) evZ h1 (Nat.mod_lt _ (by decide))
  rw [show j / 6 * 6 + j % 6 = j by omega] at h2
  rw [h2]
  have h3 : (madeCells (evV evZ).cells (n * 6)).toList[j]? = some ((evV evZ).cells[j % (evV evZ).cells.size]!) := by simp [madeCells, hj]
  rw [h3]
  have h4 : ∀ k, k < 6 → some ((evV evZ).cells[k]!) = (evC evZ)[k]? := fun k hk => by
   match k, hk with
   | 0, _ => rfl
   | 1, _ => rfl
   | 2, _ => rfl
   | 3, _ => rfl
   | 4, _ => rfl
   | 5, _ => rfl
  exact h4 (j % 6) (Nat.mod_lt _ (by decide))
 ·
  have h5 : (madeCells (evV evZ).cells (n * 6)).toList[j]? = none := List.getElem?_eq_none (by simp [madeCells]; omega)
  rw [h5, List.getElem?_eq_none (by rw [hl]; omega)]
/-- An event written anew, its last cell twice. -/
theorem put_twice (IN : List Int) {m n : Nat} (h : n < m) (v0 : Value) :
  (((((((((iTo IN m n).flatMap evC).set (n * 6) (.int .i64 (-1))).set (n * 6 + 1) (.int .i64 n)).set (n * 6 + 2) (.int .i64 2)).set (n * 6 + 3) (.int .i64 n)).set (n * 6 + 4) (.int .i64 0)).set (n * 6 + 5) v0).set (n * 6 + 5) (.int .i64 (IN.getD n 0))) = (iTo IN m (n + 1)).flatMap evC := by
 rw [List.set_set, ← iTo_step IN h]
 exact putAt_flat evC 6 (fun _ => rfl) (iTo IN m n) n (iniE IN n) (by rw [iTo_len IN (by omega)]; exact h)
set_option maxHeartbeats 4000000 in
set_option maxRecDepth 8000 in
theorem rinits_is (LT : List UInt8) (IN : List Int) (LL : List (List InsT)) (v : Value) (w : World) (h : ProgFl w v LT IN LL) (hn : LT.length ≤ 1000) (he : IN.length = LT.length) :
  Calls Tryz.prog 18 #[v] w fun e w' => ∃ a c, e = .returned (.slice a LT.length c) ∧ w'.ownsRow w.heap.size 58 6 (.slice a LT.length c) LT.length ((initsP LT.length IN).flatMap evC) ∧ On w w' := by
 obtain ⟨i0, hi0, hz0, hz1, hz2⟩ := info_parts infoEv
 obtain ⟨a1, c1, a2, c2, a3, c3, rfl, _, r2, _⟩ := h.ex
 have HR : Hid (Rd intC 1 w (.slice a2 IN.length c2) IN) := r2
 clear h r2
 obtain ⟨m, hm⟩ : ∃ m, m = LT.length := ⟨_, rfl⟩
 rw [← hm] at hn he ⊢
 rw [he] at HR ⊢
 have HE : Hid (IN.length = m) := he
 clear hm he
 have bt : ∀ cs T, Bk (w.alloc (.cells cs T)) w.heap.size cs := fun cs T => Bk.new w cs T
 go_enter Tryz.func18, Tryz.ntmps18
 go_wp2
 go_loopg [3, 4] m (fun gg s3 s4 wq => ∃ (n : Nat) (b : Option Addr) (d : Nat), n ≤ m ∧ gg = m - n ∧ s3 = .slice b n d ∧ s4 = .int .i64 n ∧ Hid (On w wq) ∧ Bk wq w.heap.size #[.slice a1 m c1, .slice a2 m c2, .slice a3 LL.length c3] ∧ wq.ownsRow (w.heap.size + 1) 58 6 (.slice b n d) n ((initsP n IN).flatMap evC))
 case atStart => exact ⟨0, none, 0, Nat.zero_le _, rfl, rfl, rfl, (On.refl w).alloc _, bt _ _, World.ownsRow_nil _ _ _ _⟩
 case round =>
  clear bt
  obtain ⟨n, b, d, hnm, hk, rfl, rfl, HO, PB, hown⟩ := hrel
  have p0 := PB.at (i := 0) rfl
  have p1 := PB.at (i := 1) rfl
  have pl := PB.lt
  rcases Nat.lt_or_ge n m with hlt | hge
  ·
   obtain ⟨x, hx⟩ : ∃ x, IN[n]? = some x := ⟨_, List.getElem?_eq_getElem (by rw [HE.out]; exact hlt)⟩
   have hRx : Rd intC 1 wr (.slice a2 IN.length c2) IN := by rw [HE.out]; exact HR.out.on HO.out
   obtain ⟨g, off, rfl, hg, hcell⟩ := hRx.at hx
   have q0 : wr.cell? ⟨g, off + n, none⟩ = some (.int .i64 x) := by have := hcell 0 _ rfl; simpa using this
   have hxd : iniE IN n = ⟨-1, n, 2, n, 0, x⟩ := by unfold iniE; rw [List.getD_eq_getElem?_getD, hx]; rfl
   have HX : Hid (initsP (n + 1) IN = initsP n IN ++ [⟨-1, n, 2, n, 0, x⟩]) := by
    show _ = _
    rw [inits_succ, hxd]
   have hblk : ∀ g, (Value.slice b n d).ownBlock = some g → w.heap.size + 1 ≤ g := fun g hg => (hown.lt g hg).1
   clear hcell hx hRx hxd
   go_wp2_with (at_builtin; refine wpList_append_own _ rfl _ _ 38 rfl (w.heap.size + 1) 58 i0 (.agg #[.int .i64 0, .int .i64 0, .int .i64 0, .int .i64 0, .int .i64 0, .int .i64 0]) 6 48 Tryz.underlying38 hi0 hz0 hz1 hz2 rfl (by decide) _ _ _ rfl (hown.alloc _) ⟨wr.heap.size, 0, none⟩ 1 1 (evC ⟨-1, n, 2, n, 0, x⟩) rfl rfl ?c1 ?c2 ?c3 ?c4 ?c5 ?_)
   case c1 => exact news_eq rfl _ _
   case c2 => exact one_ev _
   case c3 => unfold maxLen; omega
   case c4 => omega
   case c5 => simp only [World.size_alloc]; omega
   intro v6 w5 own5 hg5 _
   obtain ⟨b7, d7, rfl⟩ := own_slice own5
   have P5 := Bk.grown (PB.alloc _) hg5 (by omega : w.heap.size < w.heap.size + 1) hblk
   have K5 : On w w5 := On.grown (HO.out.alloc _) hg5 (fun g hg => by have := hblk g hg; omega)
   have O5 : Hid (w5.ownsRow (w.heap.size + 1) 58 6 (.slice b7 (n + 1) d7) (n + 1) ((initsP (n + 1) IN).flatMap evC)) := by
    show World.ownsRow _ _ _ _ _ _ _
    rw [HX.out, List.flatMap_append]
    exact own5
   clear own5 hg5 hown
   go_wp2
   go_roundg (m - (n + 1))
   case measure => omega
   case rel => exact ⟨n + 1, b7, d7, by omega, rfl, rfl, by go_num, K5, P5, O5.out⟩
  ·
   obtain rfl : n = m := by omega
   have HW : Hid _ := hown
   clear hown
   go_wp2
   go_ret
   exact ⟨_, _, rfl, own_mono HW.out (by omega), HO.out⟩
end Go.Proofs.YtioiabfheeglgaaGreatDoor
