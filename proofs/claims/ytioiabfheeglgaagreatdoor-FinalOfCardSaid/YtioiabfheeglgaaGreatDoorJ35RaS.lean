/- event.ahead, event.PO and the document's PO. -/
import Derived.Test.YtioiabfheeglgaaGreatDoorJ21ExC
import Derived.Test.YtioiabfheeglgaaGreatDoorJ28REvU
import Derived.Test.YtioiabfheeglgaaGreatDoorJ34RelL
import Derived.Test.YtioiabfheeglgaaGreatDoorJ33RelP
import Derived.Test.YtioiabfheeglgaaGreatDoorJ27RaO
namespace Go.Proofs.YtioiabfheeglgaaGreatDoor
open Go.RowKit

def aheadB (a b : EvT) : Bool := if decide (a.t < 0) then decide (0 ≤ b.t) else (a.t == b.t && decide (a.i < b.i))
def poIn (x : EvT) (a : Nat) : Nat → RelT → List EvT → RelT
 | _, r, [] => r
 | b, r, y :: L => poIn x a (b + 1) (if aheadB x y then addR r a b else r) L
def poOut (E : List EvT) : Nat → RelT → List EvT → RelT
 | _, r, [] => r
 | a, r, x :: L => poOut E (a + 1) (poIn x a 0 r E) L
def poR (E : List EvT) : RelT := poOut E 0 (newR E.length) E
theorem poIn_wf (x : EvT) (a : Nat) : ∀ (L : List EvT) (b : Nat) (r : RelT), Wf r → Wf (poIn x a b r L)
 | [], _, _, h => h
 | y :: L, b, r, h => by
  unfold poIn
  split
  ·
   exact poIn_wf x a L _ _ (add_wf h a b)
  ·
   exact poIn_wf x a L _ _ h
theorem poOut_wf (E : List EvT) : ∀ (L : List EvT) (a : Nat) (r : RelT), Wf r → Wf (poOut E a r L)
 | [], _, _, h => h
 | x :: L, a, r, h => poOut_wf E L _ _ (poIn_wf x a E 0 r h)
theorem po_wf (E : List EvT) : Wf (poR E) := poOut_wf E E 0 _ (new_wf _)
def rposB (x y : EvT) : Bool := (decide (x.t < 0) && decide (0 ≤ y.t)) || ((decide (0 ≤ x.t) && (x.t == y.t)) && decide (x.i < y.i))
theorem rpos_ahead (x y : EvT) : rposB x y = aheadB x y := by
 unfold rposB aheadB
 by_cases h : x.t < 0
 ·
  have h2 : ¬ 0 ≤ x.t := by omega
  simp [h, h2]
 ·
  have h2 : 0 ≤ x.t := by omega
  simp [h, h2]
set_option maxHeartbeats 8000000 in
set_option maxRecDepth 8000 in
theorem rpo_is (E : List EvT) (a : Option Addr) (c : Nat) (w : World) (h : Rd evC 6 w (.slice a E.length c) E) (hb : E.length ≤ 64) : Calls Tryz.prog 47 #[.slice a E.length c] w fun e w' => e = .returned (.agg (relA (poR E))) ∧ On w w' := by
 obtain ⟨hz, _⟩ := zero_of_info rel_infow
 have hs65 : (relA zeroR).size = 65 := relA_size _
 have hne := rel_ne zeroR
 have HR : Hid (Rd evC 6 w (.slice a E.length c) E) := h
 clear h
 have hng : decide ((64 : Int) < (E.length : Int)) = false := by simp; omega
 obtain ⟨U, hU⟩ : ∃ U, U = poR E := ⟨_, rfl⟩
 rw [← hU]
 have HU : Hid (U = poOut E 0 (newR E.length) (E.drop 0)) := hU
 have HW0 : Hid (Wf (newR E.length)) := new_wf _
 have hn0 : (newR E.length).n = E.length := by rw [new_n]; omega
 have hZ : newR E.length = ⟨E.length, zeroR.f⟩ := by unfold newR zeroR; simp only [Int.toNat_natCast, RelT.mk.injEq, and_true]; omega
 clear hU
 have g2 : Bk ((w.alloc (.cells (relA zeroR) 103)).alloc (.cells (relA zeroR) 103)) w.heap.size (relA zeroR) := (Bk.new w _ _).alloc _
 have g3 : Bk ((w.alloc (.cells (relA zeroR) 103)).alloc (.cells (relA zeroR) 103)) (w.heap.size + 1) (relA zeroR) := by
  have := Bk.new (w.alloc (.cells (relA zeroR) 103)) (relA zeroR) 103
  rwa [World.size_alloc] at this
 have k0 := ((On.refl w).alloc (.cells (relA zeroR) 103)).alloc (.cells (relA zeroR) 103)
 go_enter Tryz.func47, Tryz.ntmps47
 obtain ⟨W6, hW6⟩ : ∃ W6, W6 = ((w.alloc (.cells (relA zeroR) 103)).alloc (.cells (relA zeroR) 103)).setRow (w.heap.size + 1) (relA zeroR) := ⟨_, rfl⟩
 have C2 : Bk W6 w.heap.size (relA zeroR) := by rw [hW6]; exact g2.rowFar (by omega) _
 have C3 : Bk W6 (w.heap.size + 1) (relA zeroR) := by rw [hW6]; exact g3.row _
 have K6 : On w W6 := by rw [hW6]; exact k0.row (by omega) _
 clear g2 k0
 have c0 := C3.at (relA_zero zeroR)
 have cf := C3.fr 0
 have cl := C3.lt
 have D2 : Bk (W6.setCell ⟨w.heap.size + 1, 0, none⟩ (.int .i64 E.length)) w.heap.size (relA zeroR) := C2.far (by omega) _ _
 have D3 : Bk (W6.setCell ⟨w.heap.size + 1, 0, none⟩ (.int .i64 E.length)) (w.heap.size + 1) (relA (newR E.length)) := by rw [hZ]; exact C3.setN0 E.length
 have K7 : On w (W6.setCell ⟨w.heap.size + 1, 0, none⟩ (.int .i64 E.length)) := K6.setNew (by omega) _
 clear C2 C3 K6 hZ
 generalize newR (E.length : Int) = Z at *
 go_wp2_with (refine wpList_stw rfl rfl rfl rfl g3 ?_; rw [← hW6]; clear g3 hW6)
 clear c0 cf cl hz hne hs65
 go_loopg [4] E.length (fun gg s4 wq => ∃ (i : Nat) (r : RelT), i ≤ E.length ∧ gg = E.length - i ∧ s4 = .int .i64 i ∧ Hid (On w wq) ∧ Bk wq w.heap.size (relA zeroR) ∧ Bk wq (w.heap.size + 1) (relA r) ∧ Hid (Wf r) ∧ r.n = E.length ∧ Hid (U = poOut E i r (E.drop i)))
 case atStart => exact ⟨0, Z, Nat.zero_le _, rfl, rfl, K7, D2, D3, HW0, hn0, HU⟩
 case round =>
  clear D2 D3 K7 HU HW0 hn0
  obtain ⟨i, r, hi, hk, rfl, HO, C2, C3, HW0, hrn, HU⟩ := hrel
  rcases Nat.lt_or_ge i E.length with hlt | hge
  ·
   obtain ⟨x, hx, hdr⟩ := drop_cons hlt
   obtain ⟨I, hI⟩ : ∃ I, I = poIn x i 0 r E := ⟨_, rfl⟩
   have HI : Hid (I = poIn x i 0 r (E.drop 0)) := hI
   have HIW : Hid (Wf I) := by rw [hI]; exact poIn_wf x i E 0 r HW0.out
   have HU2 : Hid (U = poOut E (i + 1) I (E.drop (i + 1))) := by
    show U = _
    rw [HU.out, hdr, hI]
    rfl
   have HXX : Hid (E[i]? = some x) := hx
   clear hI hdr hx HU
   go_wp2
   go_loopg [5] E.length (fun gg s5 wq => ∃ (j : Nat) (r : RelT), j ≤ E.length ∧ gg = E.length - j ∧ s5 = .int .i64 j ∧ Hid (On w wq) ∧ Bk wq w.heap.size (relA zeroR) ∧ Bk wq (w.heap.size + 1) (relA r) ∧ Hid (Wf r) ∧ r.n = E.length ∧ Hid (I = poIn x i j r (E.drop j)))
   case atStart => exact ⟨0, r, Nat.zero_le _, rfl, rfl, HO, C2, C3, HW0, hrn, HI⟩
   case round =>
    clear C2 C3 HI HO HW0 hrn
    obtain ⟨j, r, hj, hkj, rfl, HO, C2, C3, HW0, hrn, HI⟩ := hrel
    rcases Nat.lt_or_ge j E.length with hlj | hgj
    ·
     obtain ⟨y, hy, hdr⟩ := drop_cons hlj
     obtain ⟨g, off, rfl, hg, p0, p1, _, _, _, _⟩ := rd_ev (HR.out.on HO.out) HXX.out
     obtain ⟨g', off', hge', _, q0, q1, _, _, _, _⟩ := rd_ev (HR.out.on HO.out) hy
     simp only [Option.some.injEq, Addr.mk.injEq, and_true] at hge'
     obtain ⟨rfl, rfl⟩ := hge'
     have bi0 : (0 : Int) ≤ (i : Int) := by omega
     have bi1 : (i : Int) < (E.length : Int) := by omega
     have bj0 : (0 : Int) ≤ (j : Int) := by omega
     have bj1 : (j : Int) < (E.length : Int) := by omega
     have hab0 := rpos_ahead x y
     unfold rposB at hab0
     obtain ⟨xt, xi, xk, xl, xr, xw⟩ := x
     obtain ⟨yt, yi, yk, yl, yr, yw⟩ := y
     simp only at p0 p1 q0 q1 hab0
     by_cases e1 : xt < 0
     ·
      have d1 : decide (xt < 0) = true := by simp [e1]
      have d3 : decide (0 ≤ xt) = false := by simp; omega
      clear e1
      by_cases e2 : 0 ≤ yt
      ·
       have d2 : decide (0 ≤ yt) = true := by simp [e2]
       clear e2
       rw [d1, d2] at hab0
       have hab : aheadB ⟨xt, xi, xk, xl, xr, xw⟩ ⟨yt, yi, yk, yl, yr, yw⟩ = true := by rw [← hab0]; rfl
       have HI2 : Hid (I = poIn ⟨xt, xi, xk, xl, xr, xw⟩ i (j + 1) (addR r i j) (E.drop (j + 1))) := by
        show I = _
        rw [HI.out, hdr, poIn, hab]
        rfl
       have hadd := fun W (hB : Bk W (w.heap.size + 1) (relA r)) => wadd_is r HW0.out.wr (w.heap.size + 1) i j (by omega) (by omega) W hB
       have HW2 : Hid (Wf (addR r i j)) := add_wf HW0.out i j
       have hn2 : (addR r i j).n = E.length := by rw [add_n]; exact hrn
       clear hy hdr HI hab hab0
       generalize addR r (i : Int) (j : Int) = A at *
       generalize withI (r.f i) (j : Int) = y0 at *
       go_wp2
       go_quiet (fail)
       go_wp2_with fail
       refine (hadd _ (C3.on ((On.refl wr).drewN _))).mono ?_
       rintro _ w5 ⟨rfl, F3, hw5⟩
       have F2 : Bk w5 w.heap.size (relA zeroR) := by
        rw [hw5]
        exact Bk.far (C2.on (On.drew ((On.refl wr).drewN _))) (by omega) _ _
       have KF : On w w5 := by
        rw [hw5]
        exact On.setNew (On.drew (On.drewN HO.out _)) (by omega) _
       clear hw5
       go_wp2
       go_roundg (E.length - (j + 1))
       case measure => omega
       case rel => exact ⟨j + 1, A, by omega, rfl, by go_num, KF, F2, F3, HW2, hn2, HI2⟩
      ·
       have d2 : decide (0 ≤ yt) = false := by simp; omega
       clear e2
       rw [d1, d2, d3] at hab0
       have hab : aheadB ⟨xt, xi, xk, xl, xr, xw⟩ ⟨yt, yi, yk, yl, yr, yw⟩ = false := by rw [← hab0]; rfl
       have HI2 : Hid (I = poIn ⟨xt, xi, xk, xl, xr, xw⟩ i (j + 1) r (E.drop (j + 1))) := by
        show I = _
        rw [HI.out, hdr, poIn, hab]
        rfl
       clear hy hdr HI hab hab0
       go_wp2
       go_quiet (fail)
       go_wp2
       go_roundg (E.length - (j + 1))
       case measure => omega
       case rel => exact ⟨j + 1, r, by omega, rfl, by go_num, On.drewN HO.out _, C2.on ((On.refl wr).drewN _), C3.on ((On.refl wr).drewN _), HW0, hrn, HI2⟩
     ·
      have d1 : decide (xt < 0) = false := by simp; omega
      have d3 : decide (0 ≤ xt) = true := by simp; omega
      clear e1
      cases d4 : (xt == yt) with
      | false =>
       rw [d1, d3, d4] at hab0
       have hab : aheadB ⟨xt, xi, xk, xl, xr, xw⟩ ⟨yt, yi, yk, yl, yr, yw⟩ = false := by rw [← hab0]; rfl
       have HI2 : Hid (I = poIn ⟨xt, xi, xk, xl, xr, xw⟩ i (j + 1) r (E.drop (j + 1))) := by
        show I = _
        rw [HI.out, hdr, poIn, hab]
        rfl
       clear hy hdr HI hab hab0
       go_wp2
       go_quiet (fail)
       go_wp2
       go_roundg (E.length - (j + 1))
       case measure => omega
       case rel => exact ⟨j + 1, r, by omega, rfl, by go_num, On.drewN HO.out _, C2.on ((On.refl wr).drewN _), C3.on ((On.refl wr).drewN _), HW0, hrn, HI2⟩
      | true =>
       by_cases e5 : xi < yi
       ·
        have d5 : decide (xi < yi) = true := by simp [e5]
        clear e5
        rw [d1, d3, d4, d5] at hab0
        have hab : aheadB ⟨xt, xi, xk, xl, xr, xw⟩ ⟨yt, yi, yk, yl, yr, yw⟩ = true := by rw [← hab0]; rfl
        have HI2 : Hid (I = poIn ⟨xt, xi, xk, xl, xr, xw⟩ i (j + 1) (addR r i j) (E.drop (j + 1))) := by
         show I = _
         rw [HI.out, hdr, poIn, hab]
         rfl
        have hadd := fun W (hB : Bk W (w.heap.size + 1) (relA r)) => wadd_is r HW0.out.wr (w.heap.size + 1) i j (by omega) (by omega) W hB
        have HW2 : Hid (Wf (addR r i j)) := add_wf HW0.out i j
        have hn2 : (addR r i j).n = E.length := by rw [add_n]; exact hrn
        clear hy hdr HI hab hab0
        generalize addR r (i : Int) (j : Int) = A at *
        generalize withI (r.f i) (j : Int) = y0 at *
        go_wp2
        go_quiet (fail)
        go_wp2_with fail
        refine (hadd _ (C3.on ((On.refl wr).drewN _))).mono ?_
        rintro _ w5 ⟨rfl, F3, hw5⟩
        have F2 : Bk w5 w.heap.size (relA zeroR) := by
         rw [hw5]
         exact Bk.far (C2.on (On.drew ((On.refl wr).drewN _))) (by omega) _ _
        have KF : On w w5 := by
         rw [hw5]
         exact On.setNew (On.drew (On.drewN HO.out _)) (by omega) _
        clear hw5
        go_wp2
        go_roundg (E.length - (j + 1))
        case measure => omega
        case rel => exact ⟨j + 1, A, by omega, rfl, by go_num, KF, F2, F3, HW2, hn2, HI2⟩
       ·
        have d5 : decide (xi < yi) = false := by simp; omega
        clear e5
        rw [d1, d3, d4, d5] at hab0
        have hab : aheadB ⟨xt, xi, xk, xl, xr, xw⟩ ⟨yt, yi, yk, yl, yr, yw⟩ = false := by rw [← hab0]; rfl
        have HI2 : Hid (I = poIn ⟨xt, xi, xk, xl, xr, xw⟩ i (j + 1) r (E.drop (j + 1))) := by
         show I = _
         rw [HI.out, hdr, poIn, hab]
         rfl
        clear hy hdr HI hab hab0
        go_wp2
        go_quiet (fail)
        go_wp2
        go_roundg (E.length - (j + 1))
        case measure => omega
        case rel => exact ⟨j + 1, r, by omega, rfl, by go_num, On.drewN HO.out _, C2.on ((On.refl wr).drewN _), C3.on ((On.refl wr).drewN _), HW0, hrn, HI2⟩
    ·
     obtain rfl : j = E.length := by omega
     obtain rfl : r = I := by rw [HI.out, List.drop_length]; rfl
     go_wp2
     go_roundg (E.length - (i + 1))
     case measure => omega
     case rel => exact ⟨i + 1, r, by omega, rfl, by go_num, HO, C2, C3, HW0, hrn, HU2⟩
  ·
   obtain rfl : i = E.length := by omega
   obtain rfl : r = U := by rw [HU.out, List.drop_length]; rfl
   go_wp2_with (first | refine wpList_ldw rfl rfl rfl C3 ?_ | refine wpList_stw rfl rfl rfl rfl C2 ?_)
   refine bodyPost_ret (v := .agg (relA r)) ?_ rfl ⟨rfl, HO.out.row (Nat.le_refl _) _⟩
   exact ret65w rfl rfl (C2.row _)
end Go.Proofs.YtioiabfheeglgaaGreatDoor

namespace Go.Proofs.YtioiabfheeglgaaGreatDoor
open Go.RowKit

/-- Sources laid over a relation, one by one. -/
def rfR : Nat → RelT → List Int → RelT
 | _, r, [] => r
 | k, r, f :: F => rfR (k + 1) (if 0 ≤ f then addR r f k else r) F
def relP (x : ExT) : RelT := rfR 0 (poR x.evs) x.rf
def srcB (x : ExT) (k : Nat) : Bool := (((k : Int) != (x.rf.length : Int)) && wrsB (x.evs.getD k evZ).k && ((x.evs.getD k evZ).l == (x.evs.getD x.rf.length evZ).l)) && ((x.evs.getD k evZ).w == (x.evs.getD x.rf.length evZ).r)
/-- An execution with a source of each that reads, of n more events, and then every order. -/
def srcP (locs : Nat) : Nat → ExT → List ExT
 | 0, x => if acycR (relP x) then ordP locs x else []
 | n + 1, x => if rdsB (x.evs.getD x.rf.length evZ).k then preL (fun k => if srcB x k then srcP locs n ⟨x.evs, x.rf ++ [(k : Int)], []⟩ else []) x.evs.length else srcP locs n ⟨x.evs, x.rf ++ [-1], []⟩
theorem po_n (E : List EvT) (h : E.length ≤ 64) : (poR E).n = E.length := by
 have hi : ∀ (x : EvT) (a : Nat) (L : List EvT) (b : Nat) (r : RelT), (poIn x a b r L).n = r.n := by
  intro x a L
  induction L with
  | nil => intro b r; rfl
  | cons y L ih => intro b r; unfold poIn; split <;> rw [ih] ; exact add_n _ _ _
 have ho : ∀ (L : List EvT) (a : Nat) (r : RelT), (poOut E a r L).n = r.n := by
  intro L
  induction L with
  | nil => intro a r; rfl
  | cons y L ih => intro a r; unfold poOut; rw [ih, hi]
 unfold poR
 rw [ho, new_n]
 omega
def SrcIs (locs most N b n : Nat) : Prop := ∀ (x : ExT) (tx : Tri) (vp : Value) (L : List ExT) (v : Value) (w : World), progV locs vp → x.evs.length = x.rf.length + n → x.co = [] → x.evs.length ≤ 64 → (∀ f ∈ x.rf, f < (x.evs.length : Int)) → ExTd w tx x → Out N b w v L → L.length ≤ most → b ≤ w.heap.size →
  Calls Tryz.prog 33 #[vp, triV tx, .pointer (some ⟨N, 0, none⟩), .int .i64 most] w (Post N b most L (srcP locs n x) v w)
set_option maxHeartbeats 600000 in
set_option maxRecDepth 8000 in
theorem src_zero (locs most N b : Nat) (hOrd : OrdIs locs most N b locs) : SrcIs locs most N b 0 := by
 intro x tx vp L v w hp hev hco h64 hrf hx hO hl hb
 have hp0 := hp
 obtain ⟨a1, c1, a2, n2, c2, a3, n3, c3, rfl⟩ := hp
 obtain ⟨t1, t2, t3⟩ := tx
 obtain ⟨E, F, CO⟩ := x
 simp only at hev hco h64 hrf
 subst hco
 obtain ⟨q1, d1, q2, d2, q3, d3, e⟩ := hx.ex
 simp only [Prod.mk.injEq, List.length_nil] at e
 obtain ⟨rfl, rfl, rfl⟩ := e
 obtain ⟨W1, hW1⟩ : ∃ W1, W1 = w.alloc (.cells #[.slice a1 locs c1, .slice a2 n2 c2, .slice a3 n3 c3] 27) := ⟨_, rfl⟩
 have P1 : Bk W1 w.heap.size #[.slice a1 locs c1, .slice a2 n2 c2, .slice a3 n3 c3] := by rw [hW1]; exact Bk.new w _ _
 have K1 : On w W1 := by rw [hW1]; exact (On.refl w).alloc _
 have hs1 : W1.heap.size = w.heap.size + 1 := by rw [hW1, World.size_alloc]
 obtain ⟨W2, hW2⟩ : ∃ W2, W2 = W1.alloc (.cells #[.slice q1 E.length d1, .slice q2 F.length d2, .slice q3 0 d3] TX) := ⟨_, rfl⟩
 have BX : Bk W2 (w.heap.size + 1) #[.slice q1 E.length d1, .slice q2 F.length d2, .slice q3 0 d3] := by rw [hW2, ← hs1]; exact Bk.new W1 _ _
 have BP : Bk W2 w.heap.size #[.slice a1 locs c1, .slice a2 n2 c2, .slice a3 n3 c3] := by rw [hW2]; exact P1.alloc _
 have K2 : On w W2 := by rw [hW2]; exact K1.alloc _
 have hs2 : W2.heap.size = w.heap.size + 2 := by rw [hW2, World.size_alloc, hs1]
 obtain ⟨hz, _⟩ := zero_of_info rel_infow
 have hs65 : (relA zeroR).size = 65 := relA_size _
 have hne := rel_ne zeroR
 have hFE : F.length = E.length := by omega
 clear hev
 have HEV : Hid (Rd evC 6 W2 (.slice q1 E.length d1) E) := hx.evs.1.on K2
 have HRF : Hid (Rd intC 1 W2 (.slice q2 F.length d2) F) := hx.rf.1.on K2
 have hPO := fun W (k : On W2 W) => rpo_is E q1 d1 W (HEV.out.on k) h64
 have HCALL : Hid (∀ W, On W2 W → Calls Tryz.prog 50 #[.agg #[.slice a1 locs c1, .slice a2 n2 c2, .slice a3 n3 c3], .agg #[.slice q1 E.length d1, .slice q2 F.length d2, .slice q3 0 d3], .pointer (some ⟨N, 0, none⟩), .int .i64 most] W (Post N b most L (ordP locs ⟨E, F, []⟩) v w)) := fun W k => by
  have kk := K2.trans k
  exact (hOrd ⟨E, F, []⟩ (.slice q1 E.length d1, .slice q2 F.length d2, .slice q3 0 d3) (.agg #[.slice a1 locs c1, .slice a2 n2 c2, .slice a3 n3 c3]) L v W hp0 (by simp) (by show E.length ≤ 900; omega) (hx.on kk) (hO.on kk) hl (Nat.le_trans hb kk.size)).mono fun e w' hP => hP.on kk
 have HP0 : Hid (∀ w', On W2 w' → Post N b most L [] v w (.returned (.bool true)) w') := fun w' k => ⟨rfl, v, L, hO.on (K2.trans k), fun L2 h => by rw [runP] at h; exact Option.some.inj h, Fx.on N v (K2.trans k), Ky.on (K2.trans k)⟩
 obtain ⟨RR, hRR⟩ : ∃ RR, RR = relP ⟨E, F, []⟩ := ⟨_, rfl⟩
 have HRR : Hid (RR = rfR 0 (poR E) (F.drop 0)) := hRR
 have hS : srcP locs 0 ⟨E, F, []⟩ = if acycR RR then ordP locs ⟨E, F, []⟩ else [] := by rw [srcP, hRR]
 obtain ⟨CC, hCC⟩ : ∃ CC, CC = srcP locs 0 ⟨E, F, []⟩ := ⟨_, rfl⟩
 rw [← hCC]
 rw [← hCC] at hS
 have HCC : Hid (CC = if acycR RR then ordP locs ⟨E, F, []⟩ else []) := hS
 clear hCC
 have HPW : Hid (Wf (poR E)) := po_wf E
 have hpn := po_n E h64
 have HFB : Hid (∀ f ∈ F, f < (E.length : Int)) := hrf
 generalize poR E = Z at *
 clear hx hO hOrd hp0 K1 P1 hRR hS hrf
 unfold triV
 rw [hFE] at BX hW2 HRF HCALL ⊢
 go_enter Tryz.func33, Tryz.ntmps33
 go_upto_region 1 with fail
 rw [← hW1, ← hW2]
 clear hW1 hW2
 have x0 := BX.at (i := 0) rfl
 have x1 := BX.at (i := 1) rfl
 have xl := BX.lt
 have HFE : Hid (F.length = E.length) := hFE
 clear hFE
 go_wp2_with fail
 refine (hPO _ (On.refl W2)).mono ?_
 rintro _ w1 ⟨rfl, k1⟩
 have B0 := Bk.new w1 (relA zeroR) 103
 obtain ⟨W3, hW3⟩ : ∃ W3, W3 = (w1.alloc (.cells (relA zeroR) 103)).setRow w1.heap.size (relA Z) := ⟨_, rfl⟩
 have BR : Bk W3 w1.heap.size (relA Z) := by rw [hW3]; exact B0.row _
 have K3 : On W2 W3 := by rw [hW3]; exact (k1.alloc _).row k1.size _
 have hNr := k1.size
 obtain ⟨Nr, hNR⟩ : ∃ Nr, Nr = w1.heap.size := ⟨_, rfl⟩
 rw [← hNR] at BR hNr hW3 B0
 clear x0 x1 xl hPO
 go_wp2_with (refine wpList_stw rfl rfl rfl rfl (hNR ▸ B0) ?_; rw [← hNR, ← hW3]; clear B0 hW3)
 clear hz hs65 hne
 subst hNR
 go_loopg [11] E.length (fun gg s11 wr => ∃ (k : Nat) (r : RelT), k ≤ E.length ∧ gg = E.length - k ∧ s11 = .int .i64 k ∧ Hid (On W2 wr) ∧ Bk wr w1.heap.size (relA r) ∧ Hid (Wf r) ∧ r.n = E.length ∧ Hid (RR = rfR k r (F.drop k)))
 case atStart => exact ⟨0, Z, Nat.zero_le _, rfl, rfl, K3, BR, HPW, hpn, HRR⟩
 case round =>
  clear BR HPW hpn HRR K3
  obtain ⟨k, r, hk, hg, rfl, HO, BR, HWF, hrn, HRR⟩ := hrel
  have BXr := BX.on HO.out
  have BPr := BP.on HO.out
  have x1 := BXr.at (i := 1) rfl
  have xl := BXr.lt
  rcases Nat.lt_or_ge k E.length with hlt | hge
  ·
   obtain ⟨f, hf⟩ : ∃ f, F[k]? = some f := ⟨_, List.getElem?_eq_getElem (by rw [HFE.out]; exact hlt)⟩
   have hRr := HRF.out.on HO.out
   rw [← HFE.out] at hRr
   obtain ⟨g, off, rfl, hgw, hcell⟩ := hRr.at hf
   have q0 : wr.cell? ⟨g, off + k, none⟩ = some (.int .i64 f) := by have := hcell 0 _ rfl; simpa using this
   have hfb := HFB.out f (List.mem_of_getElem? hf)
   have hrr := HRR.out
   rw [drop_at hf, rfR] at hrr
   have bk1 : (k : Int) < (E.length : Int) := by omega
   have HRN : Hid (r.n = E.length) := hrn
   clear hRr hcell hf HRR hrn
   by_cases h0 : 0 ≤ f
   ·
    rw [if_pos h0] at hrr
    obtain ⟨a, rfl⟩ : ∃ a : Nat, f = (a : Int) := ⟨f.toNat, by omega⟩
    have HR2 : Hid (RR = rfR (k + 1) (addR r a k) (F.drop (k + 1))) := hrr
    have HW2 : Hid (Wf (addR r a k)) := add_wf HWF.out a k
    have hadd := wadd_is r HWF.out.wr w1.heap.size a k (by rw [HRN.out]; omega) (by rw [HRN.out]; exact hlt) wr BR
    clear hrr
    go_wp2_with fail
    refine hadd.mono ?_
    rintro _ w4 ⟨rfl, hB4, hw4⟩
    have HO4 : Hid (On W2 w4) := by
     show On W2 w4
     rw [hw4]
     exact (HO.out.drew).setNew hNr _
    clear hw4 hadd
    go_wp2
    go_roundg (E.length - (k + 1))
    case measure => omega
    case rel => exact ⟨k + 1, _, hlt, rfl, rfl, HO4, hB4, HW2, (add_n _ _ _).trans HRN.out, HR2⟩
   ·
    rw [if_neg h0] at hrr
    have HR2 : Hid (RR = rfR (k + 1) r (F.drop (k + 1))) := hrr
    have d0 : decide (0 ≤ f) = false := decide_eq_false h0
    clear hrr h0
    go_wp2
    go_roundg (E.length - (k + 1))
    case measure => omega
    case rel => exact ⟨k + 1, r, hlt, rfl, rfl, HO, BR, HWF, HRN.out, HR2⟩
  ·
   obtain rfl : k = E.length := by omega
   have hrr := HRR.out
   rw [List.drop_eq_nil_of_le (by rw [HFE.out]; exact Nat.le_refl _), rfR] at hrr
   subst hrr
   have hAc := fun W => wacyc_is RR HWF.out.wr W
   clear HRR hrn x1 xl
   cases hac : acycR RR with
   | false =>
    have HC0 : Hid (CC = []) := by show CC = []; rw [HCC.out, hac]; rfl
    rw [hac] at hAc
    clear HCC hac
    go_wp2_with (refine wpList_ldw rfl rfl rfl BR ?_)
    refine (hAc _).mono ?_
    rintro _ w5 ⟨rfl, k5⟩
    have HPP := HP0.out w5 (HO.out.trans k5)
    have HQ : Hid (Post N b most L CC v w (.returned (.bool true)) w5) := by show Post _ _ _ _ _ _ _ _ _; rw [HC0.out]; exact HPP
    clear HPP
    go_wp2
    go_ret
    exact HQ.out
   | true =>
    have HC1 : Hid (CC = ordP locs ⟨E, F, []⟩) := by show CC = _; rw [HCC.out, hac]; rfl
    rw [hac] at hAc
    clear HCC hac
    go_wp2_with (refine wpList_ldw rfl rfl rfl BR ?_)
    refine (hAc _).mono ?_
    rintro _ w5 ⟨rfl, k5⟩
    have hcall := HCALL.out w5 (HO.out.trans k5)
    have BX5 := BXr.on k5
    have BP5 := BPr.on k5
    have z0 := BX5.at (i := 0) rfl
    have z1 := BX5.at (i := 1) rfl
    have z2 := BX5.at (i := 2) rfl
    have zl := BX5.lt
    have y0 := BP5.at (i := 0) rfl
    have y1 := BP5.at (i := 1) rfl
    have y2 := BP5.at (i := 2) rfl
    have yl := BP5.lt
    rw [← HC1.out] at hcall
    go_wp2_with fail
    refine hcall.mono ?_
    intro e w6 hP
    have eP := hP.1
    have HP : Hid (Post N b most L CC v w e w6) := hP
    clear hP hcall
    obtain ⟨bb, hbb⟩ : ∃ bb, bb = (runP most L CC).isSome := ⟨_, rfl⟩
    rw [← hbb] at eP
    subst eP
    clear hbb
    go_wp2
    go_ret
    exact HP.out
end Go.Proofs.YtioiabfheeglgaaGreatDoor
